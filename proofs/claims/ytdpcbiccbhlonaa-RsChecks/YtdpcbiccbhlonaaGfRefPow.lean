/- What the document's own powers, inverses and logarithms of elements answer. -/
import Derived.Test.YtdpcbiccbhlonaaGfRef
import Derived.Test.YtdpcbiccbhlonaaGfPow
namespace Go.Proofs.Ytdpcbiccbhlonaa
open Go.RowKit
set_option linter.unusedVariables false

theorem tmod255 (n : Int) : ∃ K : Nat, n % 255 = (K : Int) ∧ K < 255 ∧ (n.tmod 255 = (K : Int) ∨ n.tmod 255 = (K : Int) - 255 ∧ 0 < K) := by
  refine ⟨(n % 255).toNat, by omega, by omega, ?_⟩
  have e := Int.tmod_eq_emod (a := n) (b := 255)
  have : (255 : Int).natAbs = 255 := rfl
  split at e <;> omega

theorem refPow_any (a : Nat) (ha : a < 256) (n : Int) (h0 : -9223372036854775808 ≤ n) (h1 : n ≤ 9223372036854775807) (w : World) :
    Calls Try.prog 29 #[.int .u8 (a : Int), .int .i64 n] w fun e w' => e = .returned (.int .u8 (gpow a n : Int)) ∧ Below w.heap.size w w' := by
  by_cases hn : n = 0
  · subst hn
    have hr : gpow a 0 = 1 := by unfold gpow; rw [if_neg (by omega)]; rfl
    rw [hr]
    go_enter Try.func29, Try.ntmps29
    go_wp2_with fail
    go_ret
    exact ⟨rfl, Below.refl _ _⟩
  · have hnb : (n == 0) = false := by simpa using hn
    by_cases hz : a = 0
    · subst hz
      have hr : gpow 0 n = 0 := by unfold gpow; rw [if_pos ⟨rfl, hn⟩]
      rw [hr]
      go_enter Try.func29, Try.ntmps29
      go_wp2_with fail
      go_ret
      exact ⟨rfl, Below.refl _ _⟩
    · have hzb : ((a : Int) == 0) = false := by simp; omega
      rw [gpow_ne a n hz]
      obtain ⟨K, hK, hK255, hT⟩ := tmod255 n
      rw [hK, Int.toNat_natCast]
      clear hK
      rcases hT with hT | ⟨hT, hK0⟩
      · go_enter Try.func29, Try.ntmps29
        go_wp2_with fail
        go_loopw [6, 7] (fun p i wr => ∃ k : Nat, k ≤ K ∧ p = .int .u8 (gp a k : Int) ∧ i = .int .i64 (k : Int) ∧ Below w.heap.size w wr) (fun _ i _ => K - (intOf i).toNat)
        case atStart => exact ⟨0, by omega, rfl, rfl, Below.refl _ _⟩
        case round =>
          obtain ⟨k, hk, rfl, rfl, hbel⟩ := hrel
          by_cases hlt : k < K
          · go_wp2_with fail
            go_at_call 31
            refine (refMul_any (gp a k) a (gp_lt a k ha) ha _).mono ?_
            rintro e w' ⟨rfl, hb⟩
            go_wp2_with fail
            go_roundw
            case rel => exact ⟨k + 1, by omega, rfl, by go_num, hbel.trans (hb.mono hbel.size)⟩
            case measure => simp [intOf]; omega
          · have hkK : k = K := by omega
            subst hkK
            go_wp2_with fail
            go_ret
            exact ⟨rfl, hbel⟩
      · have hneg : (K : Int) - 255 < 0 := by omega
        go_enter Try.func29, Try.ntmps29
        go_wp2_with fail
        go_loopw [6, 7] (fun p i wr => ∃ k : Nat, k ≤ K ∧ p = .int .u8 (gp a k : Int) ∧ i = .int .i64 (k : Int) ∧ Below w.heap.size w wr) (fun _ i _ => K - (intOf i).toNat)
        case atStart => exact ⟨0, by omega, rfl, rfl, Below.refl _ _⟩
        case round =>
          obtain ⟨k, hk, rfl, rfl, hbel⟩ := hrel
          by_cases hlt : k < K
          · go_wp2_with fail
            go_at_call 31
            refine (refMul_any (gp a k) a (gp_lt a k ha) ha _).mono ?_
            rintro e w' ⟨rfl, hb⟩
            go_wp2_with fail
            go_roundw
            case rel => exact ⟨k + 1, by omega, rfl, by go_num, hbel.trans (hb.mono hbel.size)⟩
            case measure => simp [intOf]; omega
          · have hkK : k = K := by omega
            subst hkK
            go_wp2_with fail
            go_ret
            exact ⟨rfl, hbel⟩

/-- The document's inverse: 0 of 0. -/
def gi0 (a : Nat) : Nat := if a = 0 then 0 else gi a
set_option maxRecDepth 20000 in
theorem refInv_any (a : Nat) (ha : a < 256) (w : World) :
    Calls Try.prog 49 #[.int .u8 (a : Int)] w fun e w' => e = .returned (.int .u8 (gi0 a : Int)) ∧ Below w.heap.size w w' := by
  obtain ⟨R, hR⟩ : ∃ R, gi0 a = R := ⟨_, rfl⟩
  rw [hR]
  have HR : Hid (gi0 a = R) := hR
  clear hR
  go_enter Try.func49, Try.ntmps49
  go_wp2_with fail
  go_loopw [3] (fun i wr => ∃ k : Nat, 1 ≤ k ∧ k ≤ 256 ∧ i = .int .i64 (k : Int) ∧ (∀ j, 1 ≤ j → j < k → gm a j ≠ 1) ∧ Below w.heap.size w wr) (fun i _ => (256 - intOf i).toNat)
  case atStart => exact ⟨1, by omega, by omega, rfl, fun j h1 h2 => by omega, Below.refl _ _⟩
  case round =>
    obtain ⟨k, hk1, hk, rfl, hno, hbel⟩ := hrel
    have HN : Hid (∀ j, 1 ≤ j → j < k → gm a j ≠ 1) := hno
    clear hno
    by_cases hlt : k < 256
    · go_wp2_with fail
      go_at_call 31
      refine (refMul_any a k ha hlt _).mono ?_
      rintro e w' ⟨rfl, hb⟩
      have hb' := hbel.trans (hb.mono hbel.size)
      by_cases h1 : gm a k = 1
      · have hr : gi0 a = k := by
          unfold gi0
          rw [if_neg (by rintro rfl; rw [zero_gm k hlt] at h1; omega)]
          exact (gi_unique a k ha hlt h1).symm
        rw [h1]
        go_wp2_with fail
        go_ret
        exact ⟨ret_of (by rw [← HR.out, hr]), hb'⟩
      · have h1b : (((gm a k : Nat) : Int) == 1) = false := by simp; omega
        go_wp2_with fail
        go_roundw
        case rel =>
          refine ⟨k + 1, by omega, by omega, by go_num, fun j hj hj2 => ?_, hb'⟩
          by_cases e : j = k
          · rw [e]; exact h1
          · exact HN.out j hj (by omega)
        case measure => simp [intOf]; omega
    · have hk256 : k = 256 := by omega
      subst hk256
      have hr : gi0 a = 0 := by
        unfold gi0
        by_cases hz : a = 0
        · rw [if_pos hz]
        · exact absurd (gm_gi a ha hz) (HN.out (gi a) (by have := gi_pos a ha hz; omega) (gi_lt a ha))
      go_wp2_with fail
      go_ret
      exact ⟨ret_of (by rw [← HR.out, hr]; rfl), hbel⟩

end Go.Proofs.Ytdpcbiccbhlonaa
