/- The document's product of two matrices. -/
import Derived.Test.YthcbnffhkbbkpaaMatRef
namespace Go.Proofs.Ythcbnffhkbbkpaa
open Go.RowKit Go.PlainAid
set_option linter.unusedVariables false

theorem refMul_E (a b : E) (w : World) : Calls Try.prog 26 #[.int .u8 (a.v : Int), .int .u8 (b.v : Int)] w fun e w' => e = .returned (.int .u8 ((a * b).v : Int)) ∧ Below w.heap.size w w' := refMul_any a.v b.v a.h b.h w
theorem refAdd_E (a b : E) (w : World) : Calls Try.prog 38 #[.int .u8 (a.v : Int), .int .u8 (b.v : Int)] w fun e w' => e = .returned (.int .u8 ((a + b).v : Int)) ∧ Below w.heap.size w w' := refAdd_any a.v b.v a.h b.h w

/-- The rows of a matrix that lies in older memory, whatever has been laid since. -/
def RowsIn (w : World) (b o n l : Nat) (X : Mx) : Prop := ∀ x, Below w.heap.size w x → ∀ r, r < n → ∃ b' o' cr, x.cell? ⟨b, o + r, none⟩ = some (.slice (some ⟨b', o', none⟩) l cr) ∧ ∀ k, k < l → x.cell? ⟨b', o' + k, none⟩ = some (.int .u8 ((X r k).v : Int))
theorem rows_in {w : World} {a : Option Addr} {n : Nat} {L : Nat → Nat} {X : Mx} (h : MatAt w a n L X) (g : Gd n L) : ∃ b o, a = some ⟨b, o, none⟩ ∧ RowsIn w b o n (L 0) X := by
  obtain ⟨AR, CR, hi⟩ := h
  obtain ⟨b, o, _, _, rfl, _, _, _⟩ := hi.cell 0 0 (by have := g.1; omega) (by have := g.2.2.1; omega)
  refine ⟨b, o, rfl, fun x hx r hr => ?_⟩
  have hl := g.2.2.2.2 r hr
  obtain ⟨b1, o1, b', o', e1, e2, e3, _⟩ := (hi.below hx).cell r 0 hr (by rw [hl]; have := g.2.2.1; omega)
  cases e1
  rw [hl] at e3
  refine ⟨b', o', _, e3, fun k hk => ?_⟩
  obtain ⟨_, _, b2, o2, _, f2, _, f4⟩ := (hi.below hx).cell r k hr (by rw [hl]; exact hk)
  rw [e2] at f2
  cases f2
  exact f4

end Go.Proofs.Ythcbnffhkbbkpaa
