/- What the laws' own test of the tables answers. -/
import Derived.Test.YtniehkjicdlpeabGfLook
import Derived.Test.YtniehkjicdlpeabGfWakes
import Derived.WalkSmall
namespace Go.Proofs.Ytniehkjicdlpeab
open Go.RowKit
set_option linter.unusedVariables false

theorem wake_lg : lg 29 = 8 := by decide +kernel
theorem tabLog_wake (g : Nat) (w : World) (ht : IsTab w g) :
    Calls Try.prog 8 #[.pointer (some ⟨g, 0, none⟩), .int .u8 29] w fun e w' => e = .returned (.tuple #[.int .i64 8, .int .i64 0]) ∧ w' = w := by
  have := tabLog_any g 29 (by omega) (by omega) w ht
  rw [wake_lg] at this
  exact this
theorem tabExp_wake (g : Nat) (w : World) (ht : IsTab w g) :
    Calls Try.prog 7 #[.pointer (some ⟨g, 0, none⟩), .int .i64 8] w fun e w' => e = .returned (.int .u8 29) ∧ ∃ m, w' = w.drewN m := by
  have := tabExp_any g 8 (by decide) (by decide) w ht
  rw [wake_pow] at this
  exact this
theorem gfTables_any (w : World) :
    Calls Try.prog 6 #[] w fun e w' => e = .returned (.tuple #[.pointer (some ⟨w.heap.size, 0, none⟩), .bool true]) ∧ IsTab w' w.heap.size ∧ Below w.heap.size w w' := by
  go_enter Try.func6, Try.ntmps6
  go_wp2_with fail
  go_at_call 14
  refine (gfNew_any _).mono ?_
  rintro e w1 ⟨rfl, ht, hb⟩
  go_wp2_with fail
  go_at_call 8
  refine (tabLog_wake _ _ ht).mono ?_
  rintro e w' ⟨rfl, rfl⟩
  go_wp2_with fail
  go_at_call 7
  refine (tabExp_wake _ _ ht).mono ?_
  rintro e w' ⟨rfl, m, rfl⟩
  go_wp2_with fail
  go_at_call 12
  refine (gfWakes_any _).mono ?_
  rintro e w' ⟨rfl, rfl⟩
  go_wp2_with fail
  go_ret2
  exact ⟨rfl, ht.drewN m, below_drewN hb m⟩
end Go.Proofs.Ytniehkjicdlpeab
