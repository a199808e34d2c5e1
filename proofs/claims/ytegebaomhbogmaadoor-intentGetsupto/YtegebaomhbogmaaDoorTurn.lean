/- What the Go functions that turn the bits of a word answer, for every word and every number of places. -/
import Derived.Test.YtegebaomhbogmaaDoorRows
import Derived.Test.YtegebaomhbogmaaDoorPlain
import Derived.WalkKit
import Derived.ProofKit
import Derived.OpenShut
import Derived.WalkLawsBesides
namespace Go.Proofs.YtegebaomhbogmaaDoor
open Go.RowKit
set_option linter.unusedVariables false



theorem places_any (n : Int) (w : World) :
    Calls Tryd.prog 77 #[.int .i64 n] w fun e w' => e = .returned (.int .i64 (n % 32)) ∧ w' = w := by
  have h := and31_i64 n
  go_enter Tryd.func77, Tryd.ntmps77
  go_wp2
  go_ret
  exact ⟨rfl, rfl⟩

theorem rotate_any (x n : Int) (h0 : 0 ≤ x) (h1 : x < 4294967296) (w : World) :
    Calls Tryd.prog 76 #[.int .u32 x, .int .i64 n] w fun e w' => e = .returned (.int .u32 (turn (n % 32).toNat x)) ∧ w' = w := by
  have h := and31_u64 n
  obtain ⟨s, hs⟩ : ∃ s : Nat, n % 32 = (s : Int) := ⟨(n % 32).toNat, by omega⟩
  have hs31 : s ≤ 31 := by omega
  have fin := rot_or x s hs31 h0 h1
  rw [← turn_rotl x h0 h1 s hs31] at fin
  have e32 : ((32 : Int) - (s : Int)).toNat = 32 - s := by omega
  rw [hs] at h
  have HF : Hid (bits .or .u32 (IntKind.u32.wrap (x * 2 ^ s)) (x / 2 ^ (32 - s)) = turn s x) := fin
  have HS : Hid (n % 32 = (s : Int)) := hs
  clear fin hs
  go_enter Tryd.func76, Tryd.ntmps76
  go_wp2
  go_ret
  refine ⟨ret_int ?_, rfl⟩
  rw [HS.out, Int.toNat_natCast, ← HF.out, IntKind.wrap_u32']
theorem right_any (x n : Int) (h0 : 0 ≤ x) (h1 : x < 4294967296) (w : World) :
    Calls Tryd.prog 71 #[.int .u32 x, .int .i64 n] w fun e w' => e = .returned (.int .u32 (turn (32 - (n % 32).toNat) x)) ∧ w' = w := by
  go_enter Tryd.func71, Tryd.ntmps71
  go_wp2_with (first | (go_at_call 77; refine (places_any _ _).mono ?_; rintro e w' ⟨rfl, rfl⟩) | (go_at_call 76; refine (rotate_any _ _ h0 h1 _).mono ?_; rintro e w' ⟨rfl, rfl⟩))
  go_ret
  refine ⟨ret_int ?_, rfl⟩
  rw [← turn_mod (32 - (n % 32).toNat) x h0 h1]
  congr 1
  omega
theorem refRight_any (x n : Int) (h0 : 0 ≤ x) (h1 : x < 4294967296) (hn0 : -9223372036854775808 ≤ n) (hn1 : n ≤ 9223372036854775807) (w : World) :
    Calls Tryd.prog 67 #[.int .u32 x, .int .i64 n] w fun e w' => e = .returned (.int .u32 (turnR (n % 32).toNat x)) ∧ w' = w := by
  obtain ⟨K, hK⟩ : ∃ K : Nat, n % 32 = (K : Int) := ⟨(n % 32).toNat, by omega⟩
  have hK31 : K ≤ 31 := by omega
  have HK : Hid (n % 32 = (K : Int)) := hK
  by_cases hc : 0 ≤ n
  · have hd : ¬ ((K : Int) < 0) := by omega
    go_enter Tryd.func67, Tryd.ntmps67
    go_wp2
    go_loop [0, 6] (fun y i => ∃ k : Nat, k ≤ K ∧ i = .int .i64 k ∧ y = .int .u32 (turnR k x)) (fun _ i => K - (intOf i).toNat)
    case atStart => exact ⟨0, Nat.zero_le _, rfl, rfl⟩
    case round =>
      obtain ⟨k, hk, rfl, rfl⟩ := hrel
      have hb := turnR_lo k x h0 h1
      by_cases hlt : k < K
      · go_wp2
        go_round
        case rel => exact ⟨k + 1, by omega, by go_num, rfl⟩
        case measure => simp [intOf]; omega
      · go_wp2
        go_ret
        have hkK : k = K := by omega
        subst hkK
        exact ⟨ret_int (by first | rfl | rw [HK.out, Int.toNat_natCast]), rfl⟩
  · have ht := tmod32_neg n (by omega)
    have hT : n.tmod 32 = 0 ∧ K = 0 ∨ n.tmod 32 = (K : Int) - 32 ∧ 0 < K := by omega
    clear hK ht
    rcases hT with ⟨hT, hK0⟩ | ⟨hT, hK0⟩
    · subst hK0
      go_enter Tryd.func67, Tryd.ntmps67
      go_wp2
      go_loop [0, 6] (fun y i => ∃ k : Nat, k ≤ 0 ∧ i = .int .i64 k ∧ y = .int .u32 (turnR k x)) (fun _ i => 0 - (intOf i).toNat)
      case atStart => exact ⟨0, Nat.zero_le _, rfl, rfl⟩
      case round =>
        obtain ⟨k, hk, rfl, rfl⟩ := hrel
        have hb := turnR_lo k x h0 h1
        by_cases hlt : k < 0
        · exact absurd hlt (by omega)
        · go_wp2
          go_ret
          have hkK : k = 0 := by omega
          subst hkK
          exact ⟨ret_int (by first | rfl | rw [HK.out, Int.toNat_natCast]), rfl⟩
    · have hlt0 : (K : Int) - 32 < 0 := by omega
      go_enter Tryd.func67, Tryd.ntmps67
      go_wp2
      go_loop [0, 6] (fun y i => ∃ k : Nat, k ≤ K ∧ i = .int .i64 k ∧ y = .int .u32 (turnR k x)) (fun _ i => K - (intOf i).toNat)
      case atStart => exact ⟨0, Nat.zero_le _, rfl, rfl⟩
      case round =>
        obtain ⟨k, hk, rfl, rfl⟩ := hrel
        have hb := turnR_lo k x h0 h1
        by_cases hlt : k < K
        · go_wp2
          go_round
          case rel => exact ⟨k + 1, by omega, by go_num, rfl⟩
          case measure => simp [intOf]; omega
        · go_wp2
          go_ret
          have hkK : k = K := by omega
          subst hkK
          exact ⟨ret_int (by first | rfl | rw [HK.out, Int.toNat_natCast]), rfl⟩
end Go.Proofs.YtegebaomhbogmaaDoor
