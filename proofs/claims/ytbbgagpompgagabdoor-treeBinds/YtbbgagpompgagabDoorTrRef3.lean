/- Trees: the document's own Follow and Put. -/
import Derived.Test.YtbbgagpompgagabDoorTrRef2
namespace Go.Proofs.YtbbgagpompgagabDoor
open Go.RowKit Go.PlainAid Go.Shelf
set_option linter.unusedVariables false

theorem not_okS (n : Nat) (s : Int) (h : ¬ okS n s) : s < 0 ∨ (sizI n : Int) ≤ s := by
  unfold okS at h
  unfold sizI
  by_cases h1 : 1 ≤ n ∧ n ≤ 4
  · rw [if_pos h1]
    by_cases h2 : s < 0
    · exact .inl h2
    · exact .inr (Int.not_lt.1 fun h3 => h ⟨h1.1, h1.2, by omega, h3⟩)
  · rw [if_neg h1]; omega
theorem siz_okS {n : Nat} {s : Int} (h : okS n s) : sizI n = 2 ^ n := by unfold sizI; rw [if_pos ⟨h.1, h.2.1⟩]
end Go.Proofs.YtbbgagpompgagabDoor
