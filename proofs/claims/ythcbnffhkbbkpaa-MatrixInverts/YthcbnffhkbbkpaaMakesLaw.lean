/- Which rows are a matrix, the unit matrix and the matrix of powers: the law's walk. -/
import Derived.Test.YthcbnffhkbbkpaaMatRef
import Derived.Test.YthcbnffhkbbkpaaMatOpen
namespace Go.Proofs.Ythcbnffhkbbkpaa
open Go.RowKit Go.PlainAid
set_option linter.unusedVariables false

theorem MatAt.nilM (w : World) (L : Nat → Nat) (X : Mx) : MatAt w none 0 L X := ⟨fun _ => none, fun _ => 0, .inl rfl, fun r hr => by omega⟩
/-- What both answers are, where they are the same: a matrix of the call's own, or none. -/
def Pair (w : World) (v v' : Value) (n : Nat) : Prop := n ≤ maxLen ∧ ∃ a a' c c' L X, v = .slice a n c ∧ v' = .slice a' n c' ∧ MatAt w a n L X ∧ MatAt w a' n L X
theorem Pair.below {w w' : World} {v v' : Value} {n : Nat} (h : Pair w v v' n) (hb : Below w.heap.size w w') : Pair w' v v' n := by
  obtain ⟨hn, a, a', c, c', L, X, h1, h2, h3, h4⟩ := h
  exact ⟨hn, a, a', c, c', L, X, h1, h2, h3.below hb, h4.below hb⟩
theorem Pair.same {w : World} {v v' : Value} {n : Nat} (h : Pair w v v' n) : Calls Try.prog 17 #[v, v'] w fun e w' => e = .returned (.bool true) ∧ ∃ q, w' = w.drewN q := by
  obtain ⟨hn, a, a', c, c', L, X, rfl, rfl, h3, h4⟩ := h
  exact same_any a a' n c c' L L X X w hn h3 h4 (fun _ _ => rfl) (fun _ _ _ _ => rfl)

end Go.Proofs.Ythcbnffhkbbkpaa
