/- The unit matrix, the matrix of powers and the product of two matrices: the program's own answers. -/
import Derived.Test.YthcbnffhkbbkpaaMatAcc
import Derived.Test.YthcbnffhkbbkpaaDet
import Derived.Test.YthcbnffhkbbkpaaGfPow
namespace Go.Proofs.Ythcbnffhkbbkpaa
open Go.RowKit
set_option linter.unusedVariables false

theorem gfAdd_E (a b : E) (w : World) : Calls Try.prog 24 #[.int .u8 (a.v : Int), .int .u8 (b.v : Int)] w fun e w' => e = .returned (.int .u8 ((a + b).v : Int)) ∧ w' = w := gfAdd_any a.v b.v a.h b.h w
theorem gfMul_E (a b : E) (w : World) : Calls Try.prog 23 #[.int .u8 (a.v : Int), .int .u8 (b.v : Int)] w fun e w' => e = .returned (.int .u8 ((a * b).v : Int)) ∧ w' = w := gfMul_any a.v b.v a.h b.h w

theorem identity1_any (r c : Nat) (w : World) (hr : r < 16) (hc : c < 16) : Calls Try.prog 41 #[.int .i64 (r : Int), .int .i64 (c : Int)] w fun e w' => e = .returned (byteV (idM r c)) ∧ w' = w := by
  by_cases h : r = c
  · subst h
    have : idM r r = 1 := by simp [idM]
    rw [this]
    go_enter Try.func41, Try.ntmps41
    go_wp2
    go_ret
    exact ⟨rfl, rfl⟩
  · have : idM r c = 0 := by simp [idM, h]
    rw [this]
    have h' : ((r : Int) == (c : Int)) = false := by simp; omega
    go_enter Try.func41, Try.ntmps41
    go_wp2
    go_ret
    exact ⟨rfl, rfl⟩
def two : E := ⟨2, by decide⟩
def powM : Mx := fun r c => pw two (r * c)
theorem vander1_any (r c : Nat) (w : World) (hr : r < 16) (hc : c < 16) : Calls Try.prog 43 #[.int .i64 (r : Int), .int .i64 (c : Int)] w fun e w' => e = .returned (byteV (powM r c)) ∧ w' = w := by
  have hrc : r * c ≤ 15 * 15 := Nat.mul_le_mul (by omega) (by omega)
  obtain ⟨p, hp⟩ : ∃ p : Nat, r * c = p := ⟨_, rfl⟩
  have hp' : (r : Int) * (c : Int) = (p : Int) := by rw [← hp]; simp
  have hpow := gfPow_any 2 (by decide) (p : Int) (by omega) (by omega) w
  rw [gpow_nat 2 p (by decide)] at hpow
  have e : byteV (powM r c) = .int .u8 (gp 2 p : Int) := by unfold powM byteV pw two; rw [hp]
  rw [e]
  rw [hp] at hrc
  clear hp e
  go_enter Try.func43, Try.ntmps43
  go_wp2_with fail
  go_at_call 25
  refine hpow.mono ?_
  rintro e w' ⟨rfl, rfl⟩
  go_wp2_with fail
  go_ret
  exact ⟨rfl, rfl⟩

set_option maxHeartbeats 400000 in
theorem identity_any (n : Int) (w : World) (h0 : -9223372036854775808 ≤ n) (h1 : n ≤ 9223372036854775807) :
    Calls Try.prog 20 #[.int .i64 n] w fun e w' => Below w.heap.size w w' ∧ ((¬ (1 ≤ n ∧ n ≤ 16) ∧ e = .returned (.tuple #[.slice none 0 0, .int .i64 2])) ∨
      ∃ (k : Nat) (g : Nat) (G : Nat → Nat), n = k ∧ 1 ≤ k ∧ k ≤ 16 ∧ e = .returned (.tuple #[.slice (some ⟨g, 0, none⟩) k k, .int .i64 0]) ∧ OwnM w' w.heap.size g k k k G idM) := by
  by_cases h : 1 ≤ n ∧ n ≤ 16
  · obtain ⟨k, rfl⟩ : ∃ k : Nat, n = (k : Int) := ⟨n.toNat, by omega⟩
    have hin : ∀ w, Calls Try.prog 39 #[.int .i64 (k : Int)] w fun e w' => e = .returned (.bool true) ∧ w' = w := fun w => inRange_any k true (by simp; omega) w
    have hf := fill_any 41 (by decide) #[] k k (by omega) (by omega) (by omega) (by omega) idM w fun r hr c hc w1 _ => by
      have := identity1_any r c w1 (by omega) (by omega)
      simpa using this
    clear h0 h1
    go_enter Try.func20, Try.ntmps20
    go_wp2_with fail
    go_at_call 39
    refine (hin _).mono ?_
    rintro e w' ⟨rfl, rfl⟩
    go_wp2_with fail
    go_at_call 40
    refine hf.mono ?_
    rintro e w2 ⟨g, G, rfl, hO, hb⟩
    go_wp2_with fail
    go_ret2
    exact ⟨hb, .inr ⟨k, g, G, rfl, by omega, by omega, rfl, hO⟩⟩
  · have hin : ∀ w, Calls Try.prog 39 #[.int .i64 n] w fun e w' => e = .returned (.bool false) ∧ w' = w := fun w => inRange_any n false (by simp; omega) w
    go_enter Try.func20, Try.ntmps20
    go_wp2_with fail
    go_at_call 39
    refine (hin _).mono ?_
    rintro e w' ⟨rfl, rfl⟩
    go_wp2_with fail
    go_ret2
    exact ⟨Below.refl _ _, .inl ⟨h, rfl⟩⟩

set_option maxHeartbeats 400000 in
theorem vander_any (n m : Int) (w : World) (h0 : -9223372036854775808 ≤ n) (h1 : n ≤ 9223372036854775807) (h2 : -9223372036854775808 ≤ m) (h3 : m ≤ 9223372036854775807) :
    Calls Try.prog 22 #[.int .i64 n, .int .i64 m] w fun e w' => Below w.heap.size w w' ∧ ((¬ (1 ≤ n ∧ n ≤ 16 ∧ 1 ≤ m ∧ m ≤ 16) ∧ e = .returned (.tuple #[.slice none 0 0, .int .i64 2])) ∨
      ∃ (k l : Nat) (g : Nat) (G : Nat → Nat), n = k ∧ m = l ∧ 1 ≤ k ∧ k ≤ 16 ∧ 1 ≤ l ∧ l ≤ 16 ∧ e = .returned (.tuple #[.slice (some ⟨g, 0, none⟩) k k, .int .i64 0]) ∧ OwnM w' w.heap.size g k l k G powM) := by
  by_cases h : 1 ≤ n ∧ n ≤ 16
  · have hin : ∀ w, Calls Try.prog 39 #[.int .i64 n] w fun e w' => e = .returned (.bool true) ∧ w' = w := fun w => inRange_any n true (by simp; omega) w
    by_cases h' : 1 ≤ m ∧ m ≤ 16
    · obtain ⟨k, rfl⟩ : ∃ k : Nat, n = (k : Int) := ⟨n.toNat, by omega⟩
      obtain ⟨l, rfl⟩ : ∃ l : Nat, m = (l : Int) := ⟨m.toNat, by omega⟩
      have hin' : ∀ w, Calls Try.prog 39 #[.int .i64 (l : Int)] w fun e w' => e = .returned (.bool true) ∧ w' = w := fun w => inRange_any l true (by simp; omega) w
      have hf := fill_any 43 (by decide) #[] k l (by omega) (by omega) (by omega) (by omega) powM w fun r hr c hc w1 _ => by
        have := vander1_any r c w1 (by omega) (by omega)
        simpa using this
      clear h0 h1 h2 h3
      go_enter Try.func22, Try.ntmps22
      go_wp2_with fail
      go_at_call 39
      refine (hin _).mono ?_
      rintro e w' ⟨rfl, rfl⟩
      go_wp2_with fail
      go_at_call 39
      refine (hin' _).mono ?_
      rintro e w' ⟨rfl, rfl⟩
      go_wp2_with fail
      go_at_call 40
      refine hf.mono ?_
      rintro e w2 ⟨g, G, rfl, hO, hb⟩
      go_wp2_with fail
      go_ret2
      exact ⟨hb, .inr ⟨k, l, g, G, rfl, rfl, by omega, by omega, by omega, by omega, rfl, hO⟩⟩
    · have hin' : ∀ w, Calls Try.prog 39 #[.int .i64 m] w fun e w' => e = .returned (.bool false) ∧ w' = w := fun w => inRange_any m false (by simp; omega) w
      go_enter Try.func22, Try.ntmps22
      go_wp2_with fail
      go_at_call 39
      refine (hin _).mono ?_
      rintro e w' ⟨rfl, rfl⟩
      go_wp2_with fail
      go_at_call 39
      refine (hin' _).mono ?_
      rintro e w' ⟨rfl, rfl⟩
      go_wp2_with fail
      go_ret2
      exact ⟨Below.refl _ _, .inl ⟨fun hh => h' ⟨hh.2.2.1, hh.2.2.2⟩, rfl⟩⟩
  · have hin : ∀ w, Calls Try.prog 39 #[.int .i64 n] w fun e w' => e = .returned (.bool false) ∧ w' = w := fun w => inRange_any n false (by simp; omega) w
    go_enter Try.func22, Try.ntmps22
    go_wp2_with fail
    go_at_call 39
    refine (hin _).mono ?_
    rintro e w' ⟨rfl, rfl⟩
    go_wp2_with fail
    go_ret2
    exact ⟨Below.refl _ _, .inl ⟨fun hh => h ⟨hh.1, hh.2.1⟩, rfl⟩⟩
end Go.Proofs.Ythcbnffhkbbkpaa
