/- What the Go function GfField answers: true, for every three elements. -/
import Derived.Test.YtniehkjicdlpeaaGfTo
import Derived.Below
namespace Go.Proofs.Ytniehkjicdlpeaa
open Go.RowKit
set_option linter.unusedVariables false

set_option maxHeartbeats 4000000 in
theorem field_left (B C : Nat) (hB : B < 256) (hC : C < 256) (w : World) :
    Calls Try.prog 8 #[.int .u8 0, .int .u8 (B : Int), .int .u8 (C : Int)] w fun e w' => e = .returned (.bool true) ∧ Below w.heap.size w w' := by
  have hA : 0 < 256 := by omega
  go_enter Try.func8, Try.ntmps8
  go_wp2_with fail
  go_at_call 16
  refine (gfInv_zero  _).mono ?_
  rintro e w' ⟨rfl, rfl⟩
  go_wp2_with fail
  go_at_call 9
  refine (gfWakes_any  _).mono ?_
  rintro e w' ⟨rfl, rfl⟩
  go_wp2_with fail
  go_at_call 12
  refine (gfMul_to B C (gm B C) hB hC rfl _).mono ?_
  rintro e w' ⟨rfl, rfl⟩
  go_wp2_with fail
  go_at_call 12
  refine (gfMul_to 0 (gm B C) (gm 0 (gm B C)) hA (gm_lt _ _ hB) rfl _).mono ?_
  rintro e w' ⟨rfl, rfl⟩
  go_wp2_with fail
  go_at_call 12
  refine (gfMul_to 0 B (gm 0 B) hA hB rfl _).mono ?_
  rintro e w' ⟨rfl, rfl⟩
  go_wp2_with fail
  go_at_call 12
  refine (gfMul_to (gm 0 B) C (gm 0 (gm B C)) (gm_lt _ _ hA) hC (gm_assoc 0 B C hA hB hC).symm _).mono ?_
  rintro e w' ⟨rfl, rfl⟩
  go_wp2_with fail
  go_at_call 12
  refine (gfMul_to 0 B (gm 0 B) hA hB rfl _).mono ?_
  rintro e w' ⟨rfl, rfl⟩
  go_wp2_with fail
  go_at_call 12
  refine (gfMul_to B 0 (gm 0 B) hB hA (gm_comm B 0 hB hA) _).mono ?_
  rintro e w' ⟨rfl, rfl⟩
  go_wp2_with fail
  go_at_call 10
  refine (gfAdd_to B C (B ^^^ C) hB hC rfl _).mono ?_
  rintro e w' ⟨rfl, rfl⟩
  go_wp2_with fail
  go_at_call 12
  refine (gfMul_to 0 (B ^^^ C) (gm 0 (B ^^^ C)) hA (Nat.xor_lt_two_pow (n := 8) hB hC) rfl _).mono ?_
  rintro e w' ⟨rfl, rfl⟩
  go_wp2_with fail
  go_at_call 12
  refine (gfMul_to 0 B (gm 0 B) hA hB rfl _).mono ?_
  rintro e w' ⟨rfl, rfl⟩
  go_wp2_with fail
  go_at_call 12
  refine (gfMul_to 0 C (gm 0 C) hA hC rfl _).mono ?_
  rintro e w' ⟨rfl, rfl⟩
  go_wp2_with fail
  go_at_call 10
  refine (gfAdd_to (gm 0 B) (gm 0 C) (gm 0 (B ^^^ C)) (gm_lt _ _ hA) (gm_lt _ _ hA) (gm_xorR 0 B C).symm _).mono ?_
  rintro e w' ⟨rfl, rfl⟩
  go_wp2_with fail
  go_at_call 12
  refine (gfMul_to 0 1 0 hA (by omega) (gm_one 0) _).mono ?_
  rintro e w' ⟨rfl, rfl⟩
  go_wp2_with fail
  go_at_call 10
  refine (gfAdd_to 0 0 0 hA hA (Nat.xor_self 0) _).mono ?_
  rintro e w' ⟨rfl, rfl⟩
  go_wp2_with fail
  go_at_call 12
  refine (gfMul_to 0 B 0 hA hB (zero_gm B hB) _).mono ?_
  rintro e w' ⟨rfl, rfl⟩
  go_wp2_with fail
  go_ret
  exact ⟨rfl, Below.refl _ _⟩
  all_goals (have hh := Option.some.inj ‹some undef = some (Value.bool _)›; cases hh)
end Go.Proofs.Ytniehkjicdlpeaa
