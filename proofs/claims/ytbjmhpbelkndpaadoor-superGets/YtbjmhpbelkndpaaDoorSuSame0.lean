/- Is a record the document's? -/
import Derived.Test.YtbjmhpbelkndpaaDoorSuRef
namespace Go.Proofs.YtbjmhpbelkndpaaDoor
open Go.RowKit Go.PlainAid
set_option linter.unusedVariables false

open Classical in
noncomputable def sameQ (R S : Rec) : Bool := decide (R.Same S)
open Classical in
theorem sameQ_yes {R S : Rec} (h : R.Same S) : sameQ R S = true := by unfold sameQ; exact decide_eq_true h
open Classical in
theorem sameQ_no {R S : Rec} (h : ¬ R.Same S) : sameQ R S = false := by unfold sameQ; exact decide_eq_false h
theorem teqS (a b : ByteArray) : (a.toList == b.toList) = decide (a = b) := by
  by_cases h : a = b
  · subst h; simp
  · rw [decide_eq_false h]
    apply beq_eq_false_iff_ne.2
    intro e
    apply h
    rw [ByteArray.toList_eq, ByteArray.toList_eq] at e
    exact ByteArray.ext (Array.toList_inj.1 e)
end Go.Proofs.YtbjmhpbelkndpaaDoor
