/- What the Go functions GfPowers and GfInverts answer: true, for every element and every exponent. -/
import Derived.Test.YtniehkjicdlpeaaGfRefPow
import Derived.Test.YtniehkjicdlpeaaGfWakes
import Derived.Test.YtniehkjicdlpeaaGfTo
namespace Go.Proofs.Ytniehkjicdlpeaa
open Go.RowKit
set_option linter.unusedVariables false

theorem powers_walk (a0 : Int) (a1 : Int) (w0 : (Lit.int .u8 a0).wf = true) (w1 : (Lit.int .i64 a1).wf = true) (w : World) :
    Calls Try.prog 4 #[.int .u8 a0, .int .i64 a1] w fun e w' => e = .returned (.bool true) ∧ Below w.heap.size w w' := by
  obtain ⟨A, rfl, hA⟩ := byte_of w0
  have hn := bounds_i64 w1
  have h : bits .and .i64 a1 255 = a1 % 256 := andMask_i64 a1 8 (by omega)
  have hm0 : -9223372036854775808 ≤ a1 % 256 := by omega
  have hm1 : a1 % 256 ≤ 9223372036854775807 := by omega
  go_enter Try.func4, Try.ntmps4
  go_wp2_with fail
  go_at_call 9
  refine (gfWakes_any _).mono ?_
  rintro e w' ⟨rfl, rfl⟩
  go_wp2_with fail
  go_at_call 14
  refine (gfPow_any A hA a1 hn.1 hn.2 _).mono ?_
  rintro e w' ⟨rfl, rfl⟩
  go_wp2_with fail
  go_at_call 15
  refine (refPow_any A hA a1 hn.1 hn.2 _).mono ?_
  rintro e x1 ⟨rfl, hb1⟩
  go_wp2_with fail
  go_at_call 14
  refine (gfPow_any A hA (a1 % 256) hm0 hm1 _).mono ?_
  rintro e w'' ⟨rfl, rfl⟩
  go_wp2_with fail
  go_at_call 15
  refine (refPow_any A hA (a1 % 256) hm0 hm1 _).mono ?_
  rintro e x2 ⟨rfl, hb2⟩
  go_wp2_with fail
  go_ret
  exact ⟨rfl, hb1.trans (hb2.mono hb1.size)⟩

theorem inverts_walk (a0 : Int) (w0 : (Lit.int .u8 a0).wf = true) (w : World) :
    Calls Try.prog 5 #[.int .u8 a0] w fun e w' => e = .returned (.bool true) ∧ Below w.heap.size w w' := by
  obtain ⟨A, rfl, hA⟩ := byte_of w0
  by_cases hz : A = 0
  · subst hz
    have hr : gi0 0 = 0 := rfl
    go_enter Try.func5, Try.ntmps5
    go_wp2_with fail
    go_at_call 16
    refine (gfInv_zero _).mono ?_
    rintro e w' ⟨rfl, rfl⟩
    go_wp2_with fail
    go_at_call 16
    refine (gfInv_zero _).mono ?_
    rintro e w' ⟨rfl, rfl⟩
    go_wp2_with fail
    go_at_call 9
    refine (gfWakes_any _).mono ?_
    rintro e w' ⟨rfl, rfl⟩
    go_wp2_with fail
    go_at_call 17
    refine (refInv_any 0 (by omega) _).mono ?_
    rw [hr]
    rintro e x1 ⟨rfl, hb1⟩
    go_wp2_with fail
    go_ret
    exact ⟨rfl, hb1⟩
  · have hzb : ((A : Int) == 0) = false := by simp; omega
    have hr : gi0 A = gi A := if_neg hz
    go_enter Try.func5, Try.ntmps5
    go_wp2_with fail
    go_at_call 16
    refine (gfInv_any A hA hz _).mono ?_
    rintro e w' ⟨rfl, rfl⟩
    go_wp2_with fail
    go_at_call 16
    refine (gfInv_zero _).mono ?_
    rintro e w' ⟨rfl, rfl⟩
    go_wp2_with fail
    go_at_call 9
    refine (gfWakes_any _).mono ?_
    rintro e w' ⟨rfl, rfl⟩
    go_wp2_with fail
    go_at_call 17
    refine (refInv_any A hA _).mono ?_
    rw [hr]
    rintro e x1 ⟨rfl, hb1⟩
    go_wp2_with fail
    go_ret
    exact ⟨rfl, hb1⟩
end Go.Proofs.Ytniehkjicdlpeaa
