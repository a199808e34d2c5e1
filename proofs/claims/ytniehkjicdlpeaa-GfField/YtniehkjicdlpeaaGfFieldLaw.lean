/- What the Go function GfField answers: true, for every three elements. -/
import Derived.Test.YtniehkjicdlpeaaGfFieldA
import Derived.Test.YtniehkjicdlpeaaGfFieldC
import Derived.Below
namespace Go.Proofs.Ytniehkjicdlpeaa
open Go.RowKit
set_option linter.unusedVariables false

theorem field_walk (a0 : Int) (a1 : Int) (a2 : Int) (w0 : (Lit.int .u8 a0).wf = true) (w1 : (Lit.int .u8 a1).wf = true) (w2 : (Lit.int .u8 a2).wf = true) (w : World) :
    Calls Try.prog 8 #[.int .u8 a0, .int .u8 a1, .int .u8 a2] w fun e w' => e = .returned (.bool true) ∧ Below w.heap.size w w' := by
  obtain ⟨A, rfl, hA⟩ := byte_of w0
  obtain ⟨B, rfl, hB⟩ := byte_of w1
  obtain ⟨C, rfl, hC⟩ := byte_of w2
  by_cases hz : A = 0
  · subst hz; exact field_left B C hB hC w
  · exact field_some A B C hA hB hC hz w
end Go.Proofs.Ytniehkjicdlpeaa
