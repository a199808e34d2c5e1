/- What the laws' own opening test answers: true; and the law GfField's walk. -/
import Derived.Test.YthcbnffhkbbkpaaGfPow
namespace Go.Proofs.Ythcbnffhkbbkpaa
open Go.RowKit
set_option linter.unusedVariables false

theorem wake_mul : gm 128 2 = 29 := by decide
theorem wake_add : 5 ^^^ 3 = 6 := by decide
theorem wake_pow : gpow 2 8 = 29 := by decide +kernel
theorem gfMul_wake (w : World) : Calls Try.prog 23 #[.int .u8 128, .int .u8 2] w fun e w' => e = .returned (.int .u8 29) ∧ w' = w := by
  have := gfMul_any 128 2 (by omega) (by omega) w
  rw [wake_mul] at this
  exact this
theorem gfAdd_wake (w : World) : Calls Try.prog 24 #[.int .u8 5, .int .u8 3] w fun e w' => e = .returned (.int .u8 6) ∧ w' = w := by
  have := gfAdd_any 5 3 (by omega) (by omega) w
  rw [wake_add] at this
  exact this
theorem gfPow_wake (w : World) : Calls Try.prog 25 #[.int .u8 2, .int .i64 8] w fun e w' => e = .returned (.int .u8 29) ∧ w' = w := by
  have := gfPow_any 2 (by omega) 8 (by decide) (by decide) w
  rw [wake_pow] at this
  exact this
theorem gfWakes_any (w : World) : Calls Try.prog 9 #[] w fun e w' => e = .returned (.bool true) ∧ w' = w := by
  go_enter Try.func9, Try.ntmps9
  go_wp2_with fail
  go_at_call 23
  refine (gfMul_wake _).mono ?_
  rintro e w' ⟨rfl, rfl⟩
  go_wp2_with fail
  go_at_call 24
  refine (gfAdd_wake _).mono ?_
  rintro e w' ⟨rfl, rfl⟩
  go_wp2_with fail
  go_at_call 25
  refine (gfPow_wake _).mono ?_
  rintro e w' ⟨rfl, rfl⟩
  go_wp2_with fail
  go_ret
  exact ⟨rfl, rfl⟩
end Go.Proofs.Ythcbnffhkbbkpaa
