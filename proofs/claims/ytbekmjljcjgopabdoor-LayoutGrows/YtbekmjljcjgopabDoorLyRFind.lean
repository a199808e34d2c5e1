/- Layouts, by the document: Find. -/
import Derived.Test.YtbekmjljcjgopabDoorLyRef
namespace Go.Proofs.YtbekmjljcjgopabDoor
open Go.RowKit Go.PlainAid
set_option linter.unusedVariables false
set_option maxRecDepth 20000

section
variable {D S M : Int} {G : Bool}
theorem fd_one {t i b K : Int} (hK : 0 < K) (h0 : 0 ≤ i) (h1 : i < K) (h : t * K + i = b) : t = b / K ∧ i = b % K := by
  have e : b = i + K * t := by rw [← h, Int.mul_comm, Int.add_comm]
  rw [e, Int.add_mul_ediv_left _ _ (by omega), Int.add_mul_emod_self_left, Int.ediv_eq_zero_of_lt h0 h1, Int.emod_eq_of_lt h0 h1]
  omega
theorem fd_two (b K : Int) : b / K * K + b % K = b := by
  have := Int.emod_add_mul_ediv b K
  rw [Int.mul_comm] at this
  omega
theorem fd_new {b : Int} (hg : Gd D S M G) (hb0 : 0 ≤ b) (hX : b < M * (D + 1)) : G = true ∧ fdK D M b = D + 1 ∧ b / (D + 1) < M := by
  have h1 := hg.d2
  refine ⟨?_, if_pos hX, Int.ediv_lt_of_lt_mul (by omega) hX⟩
  rcases hg.2.2.2.2 with h | h
  · exact h
  · subst h; omega
theorem fd_old {b : Int} (hg : Gd D S M G) (hb : b < S * D) (hX : ¬ b < M * (D + 1)) : fdK D M b = D ∧ b / D < S ∧ M ≤ b / D := by
  have h1 := hg.d2
  have h2 := hg.m.1
  refine ⟨if_neg hX, Int.ediv_lt_of_lt_mul (by omega) hb, Int.le_ediv_of_mul_le (by omega) ?_⟩
  have : M * (D + 1) = M * D + M := by rw [Int.mul_add, Int.mul_one]
  omega
end
end Go.Proofs.YtbekmjljcjgopabDoor
