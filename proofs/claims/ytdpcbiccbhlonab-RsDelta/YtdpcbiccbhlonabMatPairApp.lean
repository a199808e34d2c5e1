/- A matrix times texts: the program's answer and the document's are alike. -/
import Derived.Test.YtdpcbiccbhlonabMatRefApp
namespace Go.Proofs.Ytdpcbiccbhlonab
open Go.RowKit Go.PlainAid
set_option linter.unusedVariables false

/-- Two slices of texts that are alike. -/
def TPair (w : World) (v v' : Value) (n : Nat) : Prop := n ≤ 16 ∧ ∃ a a' c c' M Y, v = .slice a n c ∧ v' = .slice a' n c' ∧ TxtAt w a n M Y ∧ TxtAt w a' n M Y
theorem TPair.below {w w' : World} {v v' : Value} {n : Nat} (h : TPair w v v' n) (hb : Below w.heap.size w w') : TPair w' v v' n := by
  obtain ⟨hn, a, a', c, c', M, Y, h1, h2, h3, h4⟩ := h
  exact ⟨hn, a, a', c, c', M, Y, h1, h2, h3.below hb, h4.below hb⟩
theorem TPair.nil (w : World) : TPair w (.slice none 0 0) (.slice none 0 0) 0 :=
  ⟨by decide, none, none, 0, 0, fun _ => 0, fun _ _ => 0, rfl, rfl, ⟨.inl rfl, fun c hc => by omega⟩, ⟨.inl rfl, fun c hc => by omega⟩⟩

end Go.Proofs.Ytdpcbiccbhlonab
