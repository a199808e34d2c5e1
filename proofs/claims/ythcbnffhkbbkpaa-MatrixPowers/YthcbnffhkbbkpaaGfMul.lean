/- What the program's own sums, products, powers and inverses of elements answer, for every two elements and every exponent. -/
import Derived.Test.YthcbnffhkbbkpaaRows
import Derived.Test.YthcbnffhkbbkpaaGf
import Derived.WalkKit
import Derived.ProofKit
import Derived.OpenShut
import Derived.WalkLawsBesides
namespace Go.Proofs.Ythcbnffhkbbkpaa
open Go.RowKit
set_option linter.unusedVariables false

theorem ret_of {k : IntKind} {a b : Int} (h : a = b) : Ending.returned (.int k a) = .returned (.int k b) := by rw [h]

theorem gfAdd_any (A B : Nat) (ha : A < 256) (hb : B < 256) (w : World) :
    Calls Try.prog 24 #[.int .u8 (A : Int), .int .u8 (B : Int)] w fun e w' => e = .returned (.int .u8 ((A ^^^ B : Nat) : Int)) ∧ w' = w := by
  have h := u8_xor_nat A B ha hb
  go_enter Try.func24, Try.ntmps24
  go_wp2
  go_ret
  exact ⟨rfl, rfl⟩

theorem and128 : ∀ a, a < 256 → a &&& 128 = a / 128 * 128 := by decide +kernel
theorem xt_hi (A : Nat) (h : 128 ≤ A) (h2 : A < 256) : xt A = (A * 2 % 256) ^^^ 29 := by
  unfold xt; rw [show A / 128 % 2 = 1 by omega]
theorem xt_lo (A : Nat) (h : A < 128) : xt A = A * 2 % 256 := by
  unfold xt; rw [show A / 128 % 2 = 0 by omega]; simp

theorem gfDouble_any (A : Nat) (ha : A < 256) (w : World) :
    Calls Try.prog 44 #[.int .u8 (A : Int)] w fun e w' => e = .returned (.int .u8 (xt A : Int)) ∧ w' = w := by
  have h : bits .and .u8 (A : Int) 128 = ((A / 128 * 128 : Nat) : Int) := by
    rw [← and128 A ha]; exact u8_and_nat A 128 ha (by omega)
  by_cases hc : A < 128
  · have hx := xt_lo A hc
    rw [show A / 128 * 128 = 0 by omega] at h
    go_enter Try.func44, Try.ntmps44
    go_wp2_with fail
    go_ret
    exact ⟨ret_of (by rw [hx]; omega), rfl⟩
  · have hx := xt_hi A (by omega) ha
    rw [show A / 128 * 128 = 128 by omega] at h
    go_enter Try.func44, Try.ntmps44
    go_wp2_with fail
    go_at_call 24
    refine (gfAdd_any (A * 2 % 256) 29 (by omega) (by omega) _).mono ?_
    rintro e w' ⟨rfl, rfl⟩
    go_wp2_with fail
    go_ret
    exact ⟨ret_of (by rw [hx]), rfl⟩
theorem gmK_step (k A B P : Nat) (hB : B ≠ 0) (hk : B < 2 ^ k) :
    ∃ j, k = j + 1 ∧ B / 2 < 2 ^ j ∧ P ^^^ gmK k A B = (P ^^^ (B % 2 * A)) ^^^ gmK j (xt A) (B / 2) := by
  cases k with
  | zero => omega
  | succ j => exact ⟨j, rfl, by rw [Nat.pow_succ] at hk; omega, by rw [Nat.xor_assoc]; rfl⟩

theorem gfMul_any (a b : Nat) (ha : a < 256) (hb : b < 256) (w : World) :
    Calls Try.prog 23 #[.int .u8 (a : Int), .int .u8 (b : Int)] w fun e w' => e = .returned (.int .u8 (gm a b : Int)) ∧ w' = w := by
  go_enter Try.func23, Try.ntmps23
  go_wp2_with fail
  go_loop [0, 1, 5] (fun x y p => ∃ k A B P : Nat, A < 256 ∧ B < 256 ∧ P < 256 ∧ B < 2 ^ k ∧ x = .int .u8 (A : Int) ∧ y = .int .u8 (B : Int) ∧ p = .int .u8 (P : Int) ∧ P ^^^ gmK k A B = gm a b) (fun _ y _ => (intOf y).toNat)
  case atStart => exact ⟨8, a, b, 0, ha, hb, by omega, hb, rfl, rfl, rfl, by rw [Nat.zero_xor]; rfl⟩
  case round =>
    obtain ⟨k, A, B, P, hA, hB, hP, hk, rfl, rfl, rfl, hi⟩ := hrel
    by_cases hz : B = 0
    · subst hz
      go_wp2_with fail
      go_ret
      rw [gmK_zero, Nat.xor_zero] at hi
      exact ⟨ret_of (by rw [hi]), rfl⟩
    · obtain ⟨j, rfl, hj, hst⟩ := gmK_step k A B P hz hk
      rw [hst] at hi
      have HI : Hid ((P ^^^ (B % 2 * A)) ^^^ gmK j (xt A) (B / 2) = gm a b) := hi
      have hx := xt_lt A
      clear hi hst hk
      have h : bits .and .u8 (B : Int) 1 = ((B % 2 : Nat) : Int) := by
        rw [← nat_mask1 B]; exact u8_and_nat B 1 hB (by omega)
      by_cases hodd : B % 2 = 0
      · rw [hodd] at h HI
        go_wp2_with fail
        go_at_call 44
        refine (gfDouble_any A hA _).mono ?_
        rintro e w' ⟨rfl, rfl⟩
        go_wp2_with fail
        go_round
        case rel => exact ⟨j, xt A, B / 2, P, hx, by omega, hP, hj, rfl, rfl, rfl, by have := HI.out; rw [Nat.zero_mul, Nat.xor_zero] at this; exact this⟩
        case measure => simp [intOf]; omega
      · have hodd1 : B % 2 = 1 := by omega
        rw [hodd1] at h HI
        go_wp2_with fail
        go_at_call 24
        refine (gfAdd_any P A hP hA _).mono ?_
        rintro e w' ⟨rfl, rfl⟩
        go_wp2_with fail
        go_at_call 44
        refine (gfDouble_any A hA _).mono ?_
        rintro e w' ⟨rfl, rfl⟩
        go_wp2_with fail
        go_round
        case rel => exact ⟨j, xt A, B / 2, P ^^^ A, hx, by omega, Nat.xor_lt_two_pow (n := 8) hP hA, hj, rfl, rfl, rfl, by have := HI.out; rw [Nat.one_mul] at this; exact this⟩
        case measure => simp [intOf]; omega
end Go.Proofs.Ythcbnffhkbbkpaa
