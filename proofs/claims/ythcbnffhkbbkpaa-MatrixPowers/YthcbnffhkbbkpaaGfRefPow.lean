/- What the document's own powers, inverses and logarithms of elements answer. -/
import Derived.Test.YthcbnffhkbbkpaaGfRef
import Derived.Test.YthcbnffhkbbkpaaGfPow
namespace Go.Proofs.Ythcbnffhkbbkpaa
open Go.RowKit
set_option linter.unusedVariables false

theorem tmod255 (n : Int) : ∃ K : Nat, n % 255 = (K : Int) ∧ K < 255 ∧ (n.tmod 255 = (K : Int) ∨ n.tmod 255 = (K : Int) - 255 ∧ 0 < K) := by
  refine ⟨(n % 255).toNat, by omega, by omega, ?_⟩
  have e := Int.tmod_eq_emod (a := n) (b := 255)
  have : (255 : Int).natAbs = 255 := rfl
  split at e <;> omega

/-- The document's inverse: 0 of 0. -/
def gi0 (a : Nat) : Nat := if a = 0 then 0 else gi a
set_option maxRecDepth 20000 in
theorem refInv_any (a : Nat) (ha : a < 256) (w : World) :
    Calls Try.prog 34 #[.int .u8 (a : Int)] w fun e w' => e = .returned (.int .u8 (gi0 a : Int)) ∧ Below w.heap.size w w' := by
  obtain ⟨R, hR⟩ : ∃ R, gi0 a = R := ⟨_, rfl⟩
  rw [hR]
  have HR : Hid (gi0 a = R) := hR
  clear hR
  go_enter Try.func34, Try.ntmps34
  go_wp2_with fail
  go_loopw [3] (fun i wr => ∃ k : Nat, 1 ≤ k ∧ k ≤ 256 ∧ i = .int .i64 (k : Int) ∧ (∀ j, 1 ≤ j → j < k → gm a j ≠ 1) ∧ Below w.heap.size w wr) (fun i _ => (256 - intOf i).toNat)
  case atStart => exact ⟨1, by omega, by omega, rfl, fun j h1 h2 => by omega, Below.refl _ _⟩
  case round =>
    obtain ⟨k, hk1, hk, rfl, hno, hbel⟩ := hrel
    have HN : Hid (∀ j, 1 ≤ j → j < k → gm a j ≠ 1) := hno
    clear hno
    by_cases hlt : k < 256
    · go_wp2_with fail
      go_at_call 26
      refine (refMul_any a k ha hlt _).mono ?_
      rintro e w' ⟨rfl, hb⟩
      have hb' := hbel.trans (hb.mono hbel.size)
      by_cases h1 : gm a k = 1
      · have hr : gi0 a = k := by
          unfold gi0
          rw [if_neg (by rintro rfl; rw [zero_gm k hlt] at h1; omega)]
          exact (gi_unique a k ha hlt h1).symm
        rw [h1]
        go_wp2_with fail
        go_ret
        exact ⟨ret_of (by rw [← HR.out, hr]), hb'⟩
      · have h1b : (((gm a k : Nat) : Int) == 1) = false := by simp; omega
        go_wp2_with fail
        go_roundw
        case rel =>
          refine ⟨k + 1, by omega, by omega, by go_num, fun j hj hj2 => ?_, hb'⟩
          by_cases e : j = k
          · rw [e]; exact h1
          · exact HN.out j hj (by omega)
        case measure => simp [intOf]; omega
    · have hk256 : k = 256 := by omega
      subst hk256
      have hr : gi0 a = 0 := by
        unfold gi0
        by_cases hz : a = 0
        · rw [if_pos hz]
        · exact absurd (gm_gi a ha hz) (HN.out (gi a) (by have := gi_pos a ha hz; omega) (gi_lt a ha))
      go_wp2_with fail
      go_ret
      exact ⟨ret_of (by rw [← HR.out, hr]; rfl), hbel⟩

end Go.Proofs.Ythcbnffhkbbkpaa
