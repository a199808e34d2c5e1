/- What the program's Seal answers, for every key, nonce and texts. -/
import Derived.Test.YtnpebabffnjmmaaAeTag
import Derived.Test.YtnpebabffnjmmaaChCrypt
namespace Go.Proofs.Ytnpebabffnjmmaa
open Go.RowKit Go.PlainAid
set_option linter.unusedVariables false

set_option maxRecDepth 20000 in
theorem shaped_ok (key nonce : ByteArray) (hk : key.size = 32) (hn : nonce.size = 12) (w : World) :
    Calls Try.prog 17 #[.string key, .string nonce] w fun e w' => e = .returned (.bool true) ∧ w' = w := by
  have h1 : (((key.size : Nat) : Int) == 32) = true := by simp; omega
  have h2 : (((nonce.size : Nat) : Int) == 12) = true := by simp; omega
  clear hk hn
  go_enter Try.func17, Try.ntmps17
  go_wp2_with fail
  go_ret
  exact ⟨rfl, rfl⟩
set_option maxRecDepth 20000 in
theorem shaped_bad (key nonce : ByteArray) (hk' : key.size ≤ maxLen) (hn' : nonce.size ≤ maxLen) (h : key.size ≠ 32 ∨ nonce.size ≠ 12) (w : World) :
    Calls Try.prog 17 #[.string key, .string nonce] w fun e w' => e = .returned (.bool false) ∧ w' = w := by
  by_cases hk : key.size = 32
  · have h1 : (((key.size : Nat) : Int) == 32) = true := by simp; omega
    have h2 : (((nonce.size : Nat) : Int) == 12) = false := by simp; omega
    clear hk h hk' hn'
    go_enter Try.func17, Try.ntmps17
    go_wp2_with fail
    go_ret
    exact ⟨rfl, rfl⟩
  · have h1 : (((key.size : Nat) : Int) == 32) = false := by simp; omega
    clear hk h hk' hn'
    go_enter Try.func17, Try.ntmps17
    go_wp2_with fail
    go_ret
    exact ⟨rfl, rfl⟩
set_option maxRecDepth 20000 in
theorem long_ok (a b : ByteArray) (ha : a.size ≤ 16384) (hb : b.size ≤ 16384) (w : World) :
    Calls Try.prog 18 #[.string a, .string b] w fun e w' => e = .returned (.bool false) ∧ w' = w := by
  have h1 : ¬ ((16384 : Int) < ((a.size : Nat) : Int)) := by omega
  have h2 : ¬ ((16384 : Int) < ((b.size : Nat) : Int)) := by omega
  go_enter Try.func18, Try.ntmps18
  go_wp2_with fail
  go_ret
  exact ⟨rfl, rfl⟩
set_option maxRecDepth 20000 in
theorem long_bad (a b : ByteArray) (ha' : a.size ≤ maxLen) (hb' : b.size ≤ maxLen) (h : 16384 < a.size ∨ 16384 < b.size) (w : World) :
    Calls Try.prog 18 #[.string a, .string b] w fun e w' => e = .returned (.bool true) ∧ w' = w := by
  by_cases ha : 16384 < a.size
  · have h1 : ((16384 : Int) < ((a.size : Nat) : Int)) := by omega
    go_enter Try.func18, Try.ntmps18
    go_wp2_with fail
    go_ret
    exact ⟨rfl, rfl⟩
  · have h1 : ¬ ((16384 : Int) < ((a.size : Nat) : Int)) := by omega
    have h2 : ((16384 : Int) < ((b.size : Nat) : Int)) := by omega
    go_enter Try.func18, Try.ntmps18
    go_wp2_with fail
    go_ret
    exact ⟨rfl, rfl⟩

set_option maxHeartbeats 1000000 in
set_option maxRecDepth 20000 in
theorem seal_shape (key nonce a p : ByteArray) (hk' : key.size ≤ maxLen) (hn' : nonce.size ≤ maxLen) (h : key.size ≠ 32 ∨ nonce.size ≠ 12) (w : World) :
    Calls Try.prog 10 #[.string key, .string nonce, .string a, .string p] w fun e w' => e = .returned (.tuple #[.string ⟨#[]⟩, .int .i64 7]) ∧ Below w.heap.size w w' := by
  have c1 := shaped_bad key nonce hk' hn' h w
  clear hk' hn' h
  go_enter Try.func10, Try.ntmps10
  go_wp2_with fail
  refine c1.mono ?_
  rintro e w1 ⟨rfl, hw1⟩
  rw [hw1]
  go_wp2_with fail
  go_ret2
  exact ⟨rfl, Below.refl _ _⟩
set_option maxHeartbeats 1000000 in
set_option maxRecDepth 20000 in
theorem seal_long (key nonce a p : ByteArray) (hk : key.size = 32) (hn : nonce.size = 12) (ha' : a.size ≤ maxLen) (hp' : p.size ≤ maxLen) (h : 16384 < a.size ∨ 16384 < p.size) (w : World) :
    Calls Try.prog 10 #[.string key, .string nonce, .string a, .string p] w fun e w' => e = .returned (.tuple #[.string ⟨#[]⟩, .int .i64 5]) ∧ Below w.heap.size w w' := by
  have c1 := shaped_ok key nonce hk hn w
  have c2 := long_bad a p ha' hp' h w
  clear ha' hp' h hk hn
  go_enter Try.func10, Try.ntmps10
  go_wp2_with fail
  refine c1.mono ?_
  rintro e w1 ⟨rfl, hw1⟩
  rw [hw1]
  go_wp2_with fail
  refine c2.mono ?_
  rintro e w2 ⟨rfl, hw2⟩
  rw [hw2]
  go_wp2_with fail
  go_ret2
  exact ⟨rfl, Below.refl _ _⟩
set_option maxHeartbeats 1000000 in
set_option maxRecDepth 20000 in
theorem seal_ok (key nonce a p : ByteArray) (hk : key.size = 32) (hn : nonce.size = 12) (ha : a.size ≤ 16384) (hp : p.size ≤ 16384) (w : World) :
    Calls Try.prog 10 #[.string key, .string nonce, .string a, .string p] w fun e w' => e = .returned (.tuple #[.string (slB key nonce a p), .int .i64 0]) ∧ Below w.heap.size w w' := by
  have c1 := shaped_ok key nonce hk hn w
  have c2 := long_ok a p ha hp w
  have c3 := fun w => crypt_ok key nonce p 1 hk hn ⟨by decide, by decide⟩ (by omega) w
  rw [show cryB (ks key nonce 1) p = crB key nonce p from rfl] at c3
  have hCs := crB_size key nonce p
  have c4 := fun w => tag_any key nonce a (crB key nonce p) hk hn ha (by omega) w
  have hTs := atg_size key nonce a (crB key nonce p)
  have HS : Hid (crB key nonce p ++ atg key nonce a (crB key nonce p) = slB key nonce a p) := rfl
  generalize slB key nonce a p = S at HS ⊢
  generalize crB key nonce p = C at c3 c4 hCs hTs HS
  generalize atg key nonce a C = T at c4 hTs HS
  have hw : (9223372036854775807 < C.size + T.size) = False := by simp; omega
  clear hk hn ha hp hCs hTs
  go_enter Try.func10, Try.ntmps10
  go_wp2_with fail
  refine c1.mono ?_
  rintro e w1 ⟨rfl, hw1⟩
  rw [hw1]
  go_wp2_with fail
  refine c2.mono ?_
  rintro e w2 ⟨rfl, hw2⟩
  rw [hw2]
  clear c1 c2
  go_wp2_with fail
  refine (c3 w).mono ?_
  rintro e w3 ⟨rfl, hb3⟩
  go_wp2_with fail
  refine (c4 w3).mono ?_
  rintro e w4 ⟨rfl, hb4⟩
  have hb5 := hb3.trans (hb4.mono hb3.size)
  clear c3 c4 hb3 hb4
  go_wp2_with fail
  go_ret2
  exact ⟨by rw [← HS.out]; rfl, hb5⟩
end Go.Proofs.Ytnpebabffnjmmaa
