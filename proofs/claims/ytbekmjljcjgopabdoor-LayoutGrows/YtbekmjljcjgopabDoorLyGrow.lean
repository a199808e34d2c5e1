/- A growth's step: where blocks lie ahead of it, and behind it. -/

import Derived.Test.YtbekmjljcjgopabDoorLyStep
import Derived.Test.YtbekmjljcjgopabDoorLyRFind
namespace Go.Proofs.YtbekmjljcjgopabDoor
open Go.RowKit Go.PlainAid
set_option linter.unusedVariables false
set_option maxRecDepth 20000

/-- The layout behind m steps. -/
def gwL (D S : Int) (m : Nat) : List Value := if (m : Int) < S then lyL D S (m : Int) true else lyL (D + 1) S 0 false
/-- The one behind the next step. -/
def nxD (D S M : Int) : Int := if M + 1 = S then D + 1 else D
def nxM (S M : Int) : Int := if M + 1 = S then 0 else M + 1
def nxG (S M : Int) : Bool := if M + 1 = S then false else true
section
variable {D S M : Int}
theorem gr_ok {G : Bool} {b : Int} (hg : Gd D S M G) (h0 : 0 ≤ b) (h1 : b < S * D) : fdE D S M G b = 0 := by
  unfold fdE; rw [if_pos hg, if_neg (by omega)]
theorem gr_good (hg : Gd D S M true) : Gd (nxD D S M) S (nxM S M) (nxG S M) := by
  have hd2 := hg.d2
  have hd8 := hg.1.2
  have hm := hg.m
  have hs := hg.2.1
  unfold nxD nxM nxG
  by_cases h : M + 1 = S
  · rw [if_pos h, if_pos h, if_pos h]
    refine ⟨⟨by omega, by simp at hd8 ⊢; omega⟩, hs, by decide, by omega, .inr rfl⟩
  · rw [if_neg h, if_neg h, if_neg h]
    exact ⟨hg.1, hs, by omega, by omega, .inl rfl⟩
theorem gr_step (hg : Gd D S M true) : spL D S M true = lyL (nxD D S M) S (nxM S M) (nxG S M) := by
  have hE : stE D S M true = 0 := by unfold stE; rw [if_pos hg, if_pos rfl]
  unfold spL nxD nxM nxG
  rw [if_pos hE]
  by_cases h : M + 1 = S
  · rw [if_pos h, if_pos h, if_pos h, if_pos h]
  · rw [if_neg h, if_neg h, if_neg h, if_neg h]
theorem gr_cur (hg : Gd D S M true) {b : Int} (hb : M * (D + 1) ≤ b) (h1 : b < S * D) : fdE D S M true b = 0 ∧ M ≤ fdT D S M true b := by
  have h0 : 0 ≤ b := Int.le_trans (md_le hg).1 hb
  have hE := gr_ok hg h0 h1
  obtain ⟨hK, _, hM⟩ := fd_old hg h1 (by omega)
  refine ⟨hE, ?_⟩
  unfold fdT
  rw [hE, if_pos rfl, hK]
  exact hM
theorem gr_nx (hg : Gd D S M true) {i : Int} (hi0 : 0 ≤ i) (hi1 : i ≤ D) (h1 : M * (D + 1) + i < S * nxD D S M) :
    fdE (nxD D S M) S (nxM S M) (nxG S M) (M * (D + 1) + i) = 0 ∧ fdT (nxD D S M) S (nxM S M) (nxG S M) (M * (D + 1) + i) = M ∧ fdC (nxD D S M) S (nxM S M) (nxG S M) (M * (D + 1) + i) = i := by
  have hp := (md_le hg).1
  have hd2 := hg.d2
  have hE := gr_ok (gr_good hg) (b := M * (D + 1) + i) (by omega) h1
  obtain ⟨e1, e2⟩ := fd_one (t := M) (i := i) (b := M * (D + 1) + i) (K := D + 1) (by omega) hi0 (by omega) rfl
  have hK : fdK (nxD D S M) (nxM S M) (M * (D + 1) + i) = D + 1 := by
    unfold fdK nxD nxM
    by_cases h : M + 1 = S
    · rw [if_pos h, if_pos h, if_neg (by rw [Int.zero_mul]; omega)]
    · have hx : (M + 1) * (D + 1) = M * (D + 1) + (D + 1) := by rw [Int.add_mul, Int.one_mul]
      rw [if_neg h, if_neg h, if_pos (by rw [hx]; omega)]
  refine ⟨hE, ?_, ?_⟩
  · unfold fdT; rw [hE, if_pos rfl, hK]; exact e1.symm
  · unfold fdC; rw [hE, if_pos rfl, hK]; exact e2.symm
theorem gr_rest (hg : Gd D S M true) {b : Int} (h0 : 0 ≤ b) (h1 : b < S * D) (hm : b < M * (D + 1) ∨ M * (D + 1) + D < b) :
    fdT D S M true b = fdT (nxD D S M) S (nxM S M) (nxG S M) b ∧ fdC D S M true b = fdC (nxD D S M) S (nxM S M) (nxG S M) b ∧ fdT (nxD D S M) S (nxM S M) (nxG S M) b ≠ M := by
  have hp := (md_le hg).1
  have hd2 := hg.d2
  have hmm := hg.m
  have hx : (M + 1) * (D + 1) = M * (D + 1) + (D + 1) := by rw [Int.add_mul, Int.one_mul]
  have hsd : S * (D + 1) = S * D + S := by rw [Int.mul_add, Int.mul_one]
  have h1n : b < S * nxD D S M := by
    unfold nxD
    by_cases h : M + 1 = S
    · rw [if_pos h, hsd]; omega
    · rw [if_neg h]; exact h1
  have hE := gr_ok hg h0 h1
  have hE2 := gr_ok (gr_good hg) h0 h1n
  have hK : fdK D M b = fdK (nxD D S M) (nxM S M) b ∧ b / fdK D M b ≠ M := by
    rcases hm with hb | hb
    · obtain ⟨_, k1, k2⟩ := fd_new hg h0 hb
      have e : fdK (nxD D S M) (nxM S M) b = D + 1 := by
        unfold fdK nxD nxM
        by_cases h : M + 1 = S
        · rw [if_pos h, if_pos h, if_neg (by rw [Int.zero_mul]; omega)]
        · rw [if_neg h, if_neg h, if_pos (by rw [hx]; omega)]
      exact ⟨by rw [k1, e], by rw [k1]; omega⟩
    · obtain ⟨k1, k2, k3⟩ := fd_old hg h1 (by omega)
      have hn : M + 1 ≠ S := fun h => by
        have : S * (D + 1) = M * (D + 1) + (D + 1) := by rw [← h, hx]
        omega
      have e : fdK (nxD D S M) (nxM S M) b = D := by
        unfold fdK nxD nxM
        rw [if_neg hn, if_neg hn, if_neg (by rw [hx]; omega)]
      refine ⟨by rw [k1, e], ?_⟩
      rw [k1]
      have h3 : M + 1 ≤ b / D := Int.le_ediv_of_mul_le (by omega) (by
        have : (M + 1) * (D + 1) = (M + 1) * D + (M + 1) := by rw [Int.mul_add, Int.mul_one]
        omega)
      omega
  unfold fdT fdC
  rw [hE, hE2, if_pos rfl, if_pos rfl, if_pos rfl, if_pos rfl, ← hK.1]
  exact ⟨rfl, rfl, hK.2⟩
end
end Go.Proofs.YtbekmjljcjgopabDoor
