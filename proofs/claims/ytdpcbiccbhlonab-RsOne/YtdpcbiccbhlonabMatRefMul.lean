/- The document's product of two matrices. -/
import Derived.Test.YtdpcbiccbhlonabMatRef
namespace Go.Proofs.Ytdpcbiccbhlonab
open Go.RowKit Go.PlainAid
set_option linter.unusedVariables false

/-- The rows of a matrix that lies in older memory, whatever has been laid since. -/
def RowsIn (w : World) (b o n l : Nat) (X : Mx) : Prop := ∀ x, Below w.heap.size w x → ∀ r, r < n → ∃ b' o' cr, x.cell? ⟨b, o + r, none⟩ = some (.slice (some ⟨b', o', none⟩) l cr) ∧ ∀ k, k < l → x.cell? ⟨b', o' + k, none⟩ = some (.int .u8 ((X r k).v : Int))
theorem rows_in {w : World} {a : Option Addr} {n : Nat} {L : Nat → Nat} {X : Mx} (h : MatAt w a n L X) (g : Gd n L) : ∃ b o, a = some ⟨b, o, none⟩ ∧ RowsIn w b o n (L 0) X := by
  obtain ⟨AR, CR, hi⟩ := h
  obtain ⟨b, o, _, _, rfl, _, _, _⟩ := hi.cell 0 0 (by have := g.1; omega) (by have := g.2.2.1; omega)
  refine ⟨b, o, rfl, fun x hx r hr => ?_⟩
  have hl := g.2.2.2.2 r hr
  obtain ⟨b1, o1, b', o', e1, e2, e3, _⟩ := (hi.below hx).cell r 0 hr (by rw [hl]; have := g.2.2.1; omega)
  cases e1
  rw [hl] at e3
  refine ⟨b', o', _, e3, fun k hk => ?_⟩
  obtain ⟨_, _, b2, o2, _, f2, _, f4⟩ := (hi.below hx).cell r k hr (by rw [hl]; exact hk)
  rw [e2] at f2
  cases f2
  exact f4

end Go.Proofs.Ytdpcbiccbhlonab
