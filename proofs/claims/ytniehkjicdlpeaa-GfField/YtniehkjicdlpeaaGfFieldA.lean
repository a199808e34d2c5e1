/- What the Go function GfField answers: true, for every three elements. -/
import Derived.Test.YtniehkjicdlpeaaGfTo
import Derived.Below
namespace Go.Proofs.Ytniehkjicdlpeaa
open Go.RowKit
set_option linter.unusedVariables false

set_option maxHeartbeats 4000000 in
theorem field_some (A B C : Nat) (hA : A < 256) (hB : B < 256) (hC : C < 256) (hz : A ≠ 0) (w : World) :
    Calls Try.prog 8 #[.int .u8 (A : Int), .int .u8 (B : Int), .int .u8 (C : Int)] w fun e w' => e = .returned (.bool true) ∧ Below w.heap.size w w' := by
  have f1 : ((A : Int) == 0) = false := by simp; omega
  obtain ⟨zb, f2⟩ : ∃ zb, ((B : Int) == 0) = zb := ⟨_, rfl⟩
  have f3 : (((gm A B : Nat) : Int) == 0) = zb := by
    rw [← f2, Bool.eq_iff_iff]
    have := gm_eq_zero A B hA hB
    simp only [beq_iff_eq]; omega
  go_enter Try.func8, Try.ntmps8
  go_wp2_with fail
  go_at_call 16
  refine (gfInv_any A hA hz _).mono ?_
  rintro e w' ⟨rfl, rfl⟩
  go_wp2_with fail
  go_at_call 9
  refine (gfWakes_any  _).mono ?_
  rintro e w' ⟨rfl, rfl⟩
  go_wp2_with fail
  go_at_call 12
  refine (gfMul_to B C (gm B C) hB hC rfl _).mono ?_
  rintro e w' ⟨rfl, rfl⟩
  go_wp2_with fail
  go_at_call 12
  refine (gfMul_to A (gm B C) (gm A (gm B C)) hA (gm_lt _ _ hB) rfl _).mono ?_
  rintro e w' ⟨rfl, rfl⟩
  go_wp2_with fail
  go_at_call 12
  refine (gfMul_to A B (gm A B) hA hB rfl _).mono ?_
  rintro e w' ⟨rfl, rfl⟩
  go_wp2_with fail
  go_at_call 12
  refine (gfMul_to (gm A B) C (gm A (gm B C)) (gm_lt _ _ hA) hC (gm_assoc A B C hA hB hC).symm _).mono ?_
  rintro e w' ⟨rfl, rfl⟩
  go_wp2_with fail
  go_at_call 12
  refine (gfMul_to A B (gm A B) hA hB rfl _).mono ?_
  rintro e w' ⟨rfl, rfl⟩
  go_wp2_with fail
  go_at_call 12
  refine (gfMul_to B A (gm A B) hB hA (gm_comm B A hB hA) _).mono ?_
  rintro e w' ⟨rfl, rfl⟩
  go_wp2_with fail
  go_at_call 10
  refine (gfAdd_to B C (B ^^^ C) hB hC rfl _).mono ?_
  rintro e w' ⟨rfl, rfl⟩
  go_wp2_with fail
  go_at_call 12
  refine (gfMul_to A (B ^^^ C) (gm A (B ^^^ C)) hA (Nat.xor_lt_two_pow (n := 8) hB hC) rfl _).mono ?_
  rintro e w' ⟨rfl, rfl⟩
  go_wp2_with fail
  go_at_call 12
  refine (gfMul_to A B (gm A B) hA hB rfl _).mono ?_
  rintro e w' ⟨rfl, rfl⟩
  go_wp2_with fail
  go_at_call 12
  refine (gfMul_to A C (gm A C) hA hC rfl _).mono ?_
  rintro e w' ⟨rfl, rfl⟩
  go_wp2_with fail
  go_at_call 10
  refine (gfAdd_to (gm A B) (gm A C) (gm A (B ^^^ C)) (gm_lt _ _ hA) (gm_lt _ _ hA) (gm_xorR A B C).symm _).mono ?_
  rintro e w' ⟨rfl, rfl⟩
  go_wp2_with fail
  go_at_call 12
  refine (gfMul_to A 1 A hA (by omega) (gm_one A) _).mono ?_
  rintro e w' ⟨rfl, rfl⟩
  go_wp2_with fail
  go_at_call 10
  refine (gfAdd_to A A 0 hA hA (Nat.xor_self A) _).mono ?_
  rintro e w' ⟨rfl, rfl⟩
  go_wp2_with fail
  go_at_call 12
  refine (gfMul_to A B (gm A B) hA hB rfl _).mono ?_
  rintro e w' ⟨rfl, rfl⟩
  go_wp2_with fail
  go_at_call 12
  refine (gfMul_to A (gi A) 1 hA (gi_lt A hA) (gm_gi A hA hz) _).mono ?_
  rintro e w' ⟨rfl, rfl⟩
  go_wp2_with fail
  all_goals first
    | (have hh := Option.some.inj ‹some undef = some (Value.bool _)›; cases hh; done)
    | (go_ret; exact ⟨rfl, Below.refl _ _⟩)
end Go.Proofs.Ytniehkjicdlpeaa
