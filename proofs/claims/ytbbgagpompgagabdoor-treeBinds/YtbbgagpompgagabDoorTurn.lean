/- What the Go functions that turn the bits of a word answer, for every word and every number of places. -/
import Derived.Test.YtbbgagpompgagabDoorRows
import Derived.Test.YtbbgagpompgagabDoorPlain
import Derived.WalkKit
import Derived.ProofKit
import Derived.OpenShut
import Derived.WalkLawsBesides
namespace Go.Proofs.YtbbgagpompgagabDoor
open Go.RowKit
set_option linter.unusedVariables false



theorem places_any (n : Int) (w : World) :
    Calls Tryd.prog 42 #[.int .i64 n] w fun e w' => e = .returned (.int .i64 (n % 32)) ∧ w' = w := by
  have h := and31_i64 n
  go_enter Tryd.func42, Tryd.ntmps42
  go_wp2
  go_ret
  exact ⟨rfl, rfl⟩

theorem rotate_any (x n : Int) (h0 : 0 ≤ x) (h1 : x < 4294967296) (w : World) :
    Calls Tryd.prog 41 #[.int .u32 x, .int .i64 n] w fun e w' => e = .returned (.int .u32 (turn (n % 32).toNat x)) ∧ w' = w := by
  have h := and31_u64 n
  obtain ⟨s, hs⟩ : ∃ s : Nat, n % 32 = (s : Int) := ⟨(n % 32).toNat, by omega⟩
  have hs31 : s ≤ 31 := by omega
  have fin := rot_or x s hs31 h0 h1
  rw [← turn_rotl x h0 h1 s hs31] at fin
  have e32 : ((32 : Int) - (s : Int)).toNat = 32 - s := by omega
  rw [hs] at h
  have HF : Hid (bits .or .u32 (IntKind.u32.wrap (x * 2 ^ s)) (x / 2 ^ (32 - s)) = turn s x) := fin
  have HS : Hid (n % 32 = (s : Int)) := hs
  clear fin hs
  go_enter Tryd.func41, Tryd.ntmps41
  go_wp2
  go_ret
  refine ⟨ret_int ?_, rfl⟩
  rw [HS.out, Int.toNat_natCast, ← HF.out, IntKind.wrap_u32']
theorem right_any (x n : Int) (h0 : 0 ≤ x) (h1 : x < 4294967296) (w : World) :
    Calls Tryd.prog 32 #[.int .u32 x, .int .i64 n] w fun e w' => e = .returned (.int .u32 (turn (32 - (n % 32).toNat) x)) ∧ w' = w := by
  go_enter Tryd.func32, Tryd.ntmps32
  go_wp2_with (first | (go_at_call 42; refine (places_any _ _).mono ?_; rintro e w' ⟨rfl, rfl⟩) | (go_at_call 41; refine (rotate_any _ _ h0 h1 _).mono ?_; rintro e w' ⟨rfl, rfl⟩))
  go_ret
  refine ⟨ret_int ?_, rfl⟩
  rw [← turn_mod (32 - (n % 32).toNat) x h0 h1]
  congr 1
  omega
end Go.Proofs.YtbbgagpompgagabDoor
