/- What the Go function GfAdds answers: true, for every two elements. -/
import Derived.Test.YtniehkjicdlpeaaGfRefAdd
import Derived.Test.YtniehkjicdlpeaaGfWakes
import Derived.Test.YtniehkjicdlpeaaGfTo
namespace Go.Proofs.Ytniehkjicdlpeaa
open Go.RowKit
set_option linter.unusedVariables false

theorem adds_walk (a0 : Int) (a1 : Int) (w0 : (Lit.int .u8 a0).wf = true) (w1 : (Lit.int .u8 a1).wf = true) (w : World) :
    Calls Try.prog 3 #[.int .u8 a0, .int .u8 a1] w fun e w' => e = .returned (.bool true) ∧ Below w.heap.size w w' := by
  obtain ⟨A, rfl, hA⟩ := byte_of w0
  obtain ⟨B, rfl, hB⟩ := byte_of w1
  go_enter Try.func3, Try.ntmps3
  go_wp2_with fail
  go_at_call 9
  refine (gfWakes_any _).mono ?_
  rintro e w' ⟨rfl, rfl⟩
  go_wp2_with fail
  go_at_call 10
  refine (gfAdd_any A B hA hB _).mono ?_
  rintro e w' ⟨rfl, rfl⟩
  go_wp2_with fail
  go_at_call 11
  refine (refAdd_any A B hA hB _).mono ?_
  rintro e x1 ⟨rfl, hb1⟩
  go_wp2_with fail
  go_at_call 12
  refine (gfMul_any A B hA hB _).mono ?_
  rintro e w'' ⟨rfl, rfl⟩
  go_wp2_with fail
  go_at_call 13
  refine (refMul_any A B hA hB _).mono ?_
  rintro e x2 ⟨rfl, hb2⟩
  go_wp2_with fail
  go_ret
  exact ⟨rfl, hb1.trans (hb2.mono hb1.size)⟩
end Go.Proofs.Ytniehkjicdlpeaa
