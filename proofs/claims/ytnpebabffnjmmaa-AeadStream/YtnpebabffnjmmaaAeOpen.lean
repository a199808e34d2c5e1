/- What the program's Open answers, for every key, nonce and texts. -/
import Derived.Test.YtnpebabffnjmmaaAeSeal
import Derived.Test.YtnpebabffnjmmaaPoEqual
namespace Go.Proofs.Ytnpebabffnjmmaa
open Go.RowKit Go.PlainAid
set_option linter.unusedVariables false

set_option maxHeartbeats 1000000 in
set_option maxRecDepth 20000 in
theorem open_shape (key nonce a s : ByteArray) (hk' : key.size ≤ maxLen) (hn' : nonce.size ≤ maxLen) (h : key.size ≠ 32 ∨ nonce.size ≠ 12) (w : World) :
    Calls Try.prog 13 #[.string key, .string nonce, .string a, .string s] w fun e w' => e = .returned (.tuple #[.string ⟨#[]⟩, .int .i64 7]) ∧ Below w.heap.size w w' := by
  have c1 := shaped_bad key nonce hk' hn' h w
  clear hk' hn' h
  go_enter Try.func13, Try.ntmps13
  go_wp2_with fail
  refine c1.mono ?_
  rintro e w1 ⟨rfl, hw1⟩
  rw [hw1]
  go_wp2_with fail
  go_ret2
  exact ⟨rfl, Below.refl _ _⟩
set_option maxHeartbeats 1000000 in
set_option maxRecDepth 20000 in
theorem open_short (key nonce a s : ByteArray) (hk : key.size = 32) (hn : nonce.size = 12) (h : s.size < 16) (w : World) :
    Calls Try.prog 13 #[.string key, .string nonce, .string a, .string s] w fun e w' => e = .returned (.tuple #[.string ⟨#[]⟩, .int .i64 3]) ∧ Below w.heap.size w w' := by
  have c1 := shaped_ok key nonce hk hn w
  have h1 : ((s.size : Nat) : Int) < 16 := by omega
  clear hk hn
  go_enter Try.func13, Try.ntmps13
  go_wp2_with fail
  refine c1.mono ?_
  rintro e w1 ⟨rfl, hw1⟩
  rw [hw1]
  go_wp2_with fail
  go_ret2
  exact ⟨rfl, Below.refl _ _⟩
set_option maxHeartbeats 1000000 in
set_option maxRecDepth 20000 in
theorem open_long (key nonce a s : ByteArray) (n : Nat) (hk : key.size = 32) (hn : nonce.size = 12) (hs : s.size = n + 16) (ha' : a.size ≤ maxLen) (hs' : s.size ≤ 140737488355328) (h : 16384 < a.size ∨ 16384 < n) (w : World) :
    Calls Try.prog 13 #[.string key, .string nonce, .string a, .string s] w fun e w' => e = .returned (.tuple #[.string ⟨#[]⟩, .int .i64 5]) ∧ Below w.heap.size w w' := by
  have c1 := shaped_ok key nonce hk hn w
  obtain ⟨B, hB⟩ : ∃ B, s.extract 0 n = B := ⟨_, rfl⟩
  have hBs : B.size = n := by rw [← hB, ByteArray.size_extract]; omega
  have c2 := fun w => long_bad a B ha' (by unfold maxLen at *; omega) (by rw [hBs]; exact h) w
  have hsI : ((s.size : Nat) : Int) = (n : Int) + 16 := by omega
  have h1 : ¬ ((n : Int) + 16 < 16) := by omega
  have h2 : ((n : Int) ≤ (n : Int) + 16) := by omega
  have h0 : (0 : Int) ≤ (n : Int) := by omega
  have hn2 : n ≤ s.size := by omega
  have hn3 : (n : Int) ≤ 140737488355328 := by omega
  clear hk hn ha' hBs hs
  go_enter Try.func13, Try.ntmps13
  go_wp2_with fail
  refine c1.mono ?_
  rintro e w1 ⟨rfl, hw1⟩
  rw [hw1]
  go_wp2_with fail
  go_quiet (fail)
  have hl : Below w.heap.size w (w.drewN nq) := ⟨rfl, rfl, rfl, Nat.le_refl _, fun _ _ => rfl⟩
  generalize w.drewN nq = w2 at hl ⊢
  go_wp2_with fail
  refine (c2 w2).mono ?_
  rintro e w3 ⟨rfl, hw3⟩
  rw [hw3]
  go_wp2_with fail
  go_ret2
  exact ⟨rfl, hl⟩
set_option maxHeartbeats 1000000 in
set_option maxRecDepth 20000 in
theorem open_any (key nonce a s : ByteArray) (n : Nat) (hk : key.size = 32) (hn : nonce.size = 12) (hs : s.size = n + 16) (ha : a.size ≤ 16384) (h : n ≤ 16384) (w : World) :
    Calls Try.prog 13 #[.string key, .string nonce, .string a, .string s] w fun e w' => e = .returned (if s.extract n s.size = atg key nonce a (s.extract 0 n) then .tuple #[.string (crB key nonce (s.extract 0 n)), .int .i64 0] else .tuple #[.string ⟨#[]⟩, .int .i64 23]) ∧ Below w.heap.size w w' := by
  have c1 := shaped_ok key nonce hk hn w
  obtain ⟨B, hB⟩ : ∃ B, s.extract 0 n = B := ⟨_, rfl⟩
  obtain ⟨D, hD⟩ : ∃ D, s.extract n s.size = D := ⟨_, rfl⟩
  have hBs : B.size = n := by rw [← hB, ByteArray.size_extract]; omega
  have hDs : D.size = 16 := by rw [← hD, ByteArray.size_extract]; omega
  have c2 := fun w => long_ok a B ha (by omega) w
  have c3 := fun w => tag_any key nonce a B hk hn ha (by omega) w
  have c4 := fun w => equal_any D (atg key nonce a B) (by omega) (by rw [atg_size]; omega) w
  have c5 := fun w => crypt_ok key nonce B 1 hk hn ⟨by decide, by decide⟩ (by omega) w
  rw [show cryB (ks key nonce 1) B = crB key nonce B from rfl] at c5
  rw [hB, hD]
  generalize crB key nonce B = C at c5 ⊢
  generalize atg key nonce a B = T at c3 c4 ⊢
  obtain ⟨R, hR⟩ : ∃ R, (if D = T then (.tuple #[.string C, .int .i64 0] : Value) else .tuple #[.string ⟨#[]⟩, .int .i64 23]) = R := ⟨_, rfl⟩
  rw [hR]
  have HR : Hid ((if D = T then (.tuple #[.string C, .int .i64 0] : Value) else .tuple #[.string ⟨#[]⟩, .int .i64 23]) = R) := hR
  clear hR
  have hsI : ((s.size : Nat) : Int) = (n : Int) + 16 := by omega
  have h1 : ¬ ((n : Int) + 16 < 16) := by omega
  have h2 : ((n : Int) ≤ (n : Int) + 16) := by omega
  have h0 : (0 : Int) ≤ (n : Int) := by omega
  have hn2 : n ≤ s.size := by omega
  have hn3 : (n : Int) ≤ 16384 := by omega
  clear hk hn ha hBs hDs hs
  go_enter Try.func13, Try.ntmps13
  go_wp2_with fail
  refine c1.mono ?_
  rintro e w1 ⟨rfl, hw1⟩
  rw [hw1]
  clear c1
  go_wp2_with fail
  go_quiet (fail)
  have hl : Below w.heap.size w (w.drewN nq) := ⟨rfl, rfl, rfl, Nat.le_refl _, fun _ _ => rfl⟩
  generalize w.drewN nq = w2 at hl ⊢
  go_wp2_with fail
  refine (c2 w2).mono ?_
  rintro e w3 ⟨rfl, hw3⟩
  rw [hw3]
  go_wp2_with fail
  refine (c3 w2).mono ?_
  rintro e w4 ⟨rfl, hb4⟩
  have hl4 := hl.trans (hb4.mono hl.size)
  clear c3 hb4 hl hB hD c2
  go_wp2_with fail
  refine (c4 w4).mono ?_
  rintro e w5 ⟨rfl, hb5⟩
  have hl5 := hl4.trans (hb5.mono hl4.size)
  clear c4 hb5 hl4
  by_cases hDT : D = T
  · rw [decide_eq_true hDT]
    have HR2 : Hid (R = .tuple #[.string C, .int .i64 0]) := HR.out.symm.trans (if_pos hDT)
    clear hDT HR
    go_wp2_with fail
    refine (c5 w5).mono ?_
    rintro e w6 ⟨rfl, hb6⟩
    have hl6 := hl5.trans (hb6.mono hl5.size)
    go_wp2_with fail
    go_ret2
    exact ⟨by rw [HR2.out]; rfl, hl6⟩
  · rw [decide_eq_false hDT]
    have HR2 : Hid (R = .tuple #[.string ⟨#[]⟩, .int .i64 23]) := HR.out.symm.trans (if_neg hDT)
    clear hDT HR
    go_wp2_with fail
    go_ret2
    exact ⟨by rw [HR2.out]; rfl, hl5⟩
end Go.Proofs.Ytnpebabffnjmmaa
