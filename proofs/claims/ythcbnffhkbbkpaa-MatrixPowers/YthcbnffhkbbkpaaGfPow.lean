/- What the program's own powers and inverses of elements answer, for every element and every exponent. -/
import Derived.Test.YthcbnffhkbbkpaaGfMul
namespace Go.Proofs.Ythcbnffhkbbkpaa
open Go.RowKit
set_option linter.unusedVariables false

/-- A power with an exponent of any sign. -/
def gpow (a : Nat) (n : Int) : Nat := if a = 0 ∧ n ≠ 0 then 0 else gp a (n % 255).toNat
theorem gpow_lt (a : Nat) (n : Int) (ha : a < 256) : gpow a n < 256 := by
  unfold gpow; split
  · omega
  · exact gp_lt a _ ha
theorem gpow_ne (a : Nat) (n : Int) (h : a ≠ 0) : gpow a n = gp a (n % 255).toNat := by
  unfold gpow; rw [if_neg (fun h' => h h'.1)]
theorem gpow_nat (a n : Nat) (ha : a < 256) : gpow a (n : Int) = gp a n := by
  unfold gpow
  split
  · rename_i h
    rw [h.1, gp_zero n (by omega)]
  · rename_i h
    by_cases hz : a = 0
    · have : n = 0 := by omega
      subst this; rfl
    · rw [show ((n : Int) % 255).toNat = n % 255 by omega, gp_mod a n ha hz]

theorem exponent_any (n : Int) (h0 : -9223372036854775808 ≤ n) (h1 : n ≤ 9223372036854775807) (w : World) :
    Calls Try.prog 45 #[.int .i64 n] w fun e w' => e = .returned (.int .i64 (n % 255)) ∧ w' = w := by
  obtain ⟨r, hr⟩ : ∃ r, n.tmod 255 = r := ⟨_, rfl⟩
  have hb : -255 < r ∧ r < 255 ∧ (r + 255) % 255 = n % 255 := by
    have e := Int.tmod_eq_emod (a := n) (b := 255)
    have : (255 : Int).natAbs = 255 := rfl
    split at e <;> omega
  have ht : (r + 255).tmod 255 = n % 255 := by
    rw [Int.tmod_eq_emod_of_nonneg (by omega)]; exact hb.2.2
  obtain ⟨hb1, hb2, _⟩ := hb
  go_enter Try.func45, Try.ntmps45
  go_wp2_with fail
  go_ret
  exact ⟨rfl, rfl⟩
theorem andMask_i64 (n : Int) (k : Nat) (hk : k < 63) : bits .and .i64 n (2 ^ k - 1 : Nat) = n % (2 ^ k : Nat) := by
  have hp : 0 < 2 ^ k := Nat.pow_pos (by omega)
  have hp2 : 2 ^ k < 2 ^ 63 := Nat.pow_lt_pow_right (by omega) hk
  have hd : 2 ^ k ∣ 2 ^ 64 := Nat.pow_dvd_pow 2 (by omega)
  have h : (BitVec.ofInt 64 n &&& BitVec.ofInt 64 (2 ^ k - 1 : Nat)).toNat = (n % (2 ^ k : Nat)).toNat := by
    rw [BitVec.toNat_and, BitVec.toNat_ofInt, BitVec.ofInt_natCast, BitVec.toNat_ofNat, Nat.mod_eq_of_lt (a := 2 ^ k - 1) (by omega), Nat.and_two_pow_sub_one_eq_mod]
    have e : n % (2 ^ k : Nat) = (n % (2 ^ 64 : Nat)) % (2 ^ k : Nat) := (Int.emod_emod_of_dvd n (Int.ofNat_dvd.2 hd)).symm
    rw [e]
    obtain ⟨m, hm⟩ : ∃ m : Nat, n % (2 ^ 64 : Nat) = (m : Int) := ⟨(n % (2 ^ 64 : Nat)).toNat, by omega⟩
    rw [hm, Int.toNat_natCast, ← Int.natCast_emod, Int.toNat_natCast]
  show IntKind.i64.wrap ((BitVec.ofInt 64 n &&& BitVec.ofInt 64 (2 ^ k - 1 : Nat)).toNat : Int) = _
  have h0 : 0 ≤ n % (2 ^ k : Nat) := Int.emod_nonneg _ (by omega)
  have h1 : n % (2 ^ k : Nat) < (2 ^ k : Nat) := Int.emod_lt_of_pos _ (by omega)
  rw [h, IntWalk.i64_in _ ⟨by omega, by omega⟩]
  omega

theorem gp_even (a n : Nat) (ha : a < 256) (h : n % 2 = 0) : gp (gm a a) (n / 2) = gp a n := by
  rw [gp_sq a _ ha, show 2 * (n / 2) = n by omega]
theorem gp_odd (p a n : Nat) (hp : p < 256) (ha : a < 256) (h : n % 2 = 1) : gm (gm p a) (gp (gm a a) (n / 2)) = gm p (gp a n) := by
  rw [gp_sq a _ ha, ← gm_assoc p a _ hp ha (gp_lt a _ ha)]
  congr 1
  conv => rhs; rw [show n = 1 + 2 * (n / 2) by omega, gp_add a _ _ ha, gp_one a ha]

theorem gfPow_any (a : Nat) (ha : a < 256) (n : Int) (h0 : -9223372036854775808 ≤ n) (h1 : n ≤ 9223372036854775807) (w : World) :
    Calls Try.prog 25 #[.int .u8 (a : Int), .int .i64 n] w fun e w' => e = .returned (.int .u8 (gpow a n : Int)) ∧ w' = w := by
  obtain ⟨R, hR⟩ : ∃ R, gpow a n = R := ⟨_, rfl⟩
  rw [hR]
  unfold gpow at hR
  by_cases hz : a = 0 ∧ n ≠ 0
  · rw [if_pos hz] at hR
    subst hR
    obtain ⟨rfl, hn⟩ := hz
    have hn' : (n != 0) = true := by simpa using hn
    go_enter Try.func25, Try.ntmps25
    go_wp2_with fail
    go_ret
    exact ⟨rfl, rfl⟩
  · rw [if_neg hz] at hR
    have hz' : ¬ ((a : Int) = 0 ∧ ¬ n = 0) := by omega
    obtain ⟨K, hK⟩ : ∃ K : Nat, n % 255 = (K : Int) := ⟨(n % 255).toNat, by omega⟩
    have hK255 : K < 255 := by omega
    rw [hK, Int.toNat_natCast] at hR
    have HR : Hid (gp a K = R) := hR
    have HK : Hid (n % 255 = (K : Int)) := hK
    clear hR hK
    have start : Calls Try.prog 45 #[.int .i64 n] w fun e w' => e = .returned (.int .i64 (K : Int)) ∧ w' = w := by
      rw [← HK.out]; exact exponent_any n h0 h1 w
    go_enter Try.func25, Try.ntmps25
    by_cases ha0 : a = 0
    · have hn0 : n = 0 := by omega
      subst ha0 hn0
      go_wp2_with fail
      go_at_call 45
      refine start.mono ?_
      rintro e w' ⟨rfl, rfl⟩
      go_wp2_with fail
      go_loop [0, 5, 6] (fun x p k => ∃ A P k' : Nat, A < 256 ∧ P < 256 ∧ k' ≤ K ∧ x = .int .u8 (A : Int) ∧ p = .int .u8 (P : Int) ∧ k = .int .i64 (k' : Int) ∧ gm P (gp A k') = R) (fun _ _ k => (intOf k).toNat)
      case atStart => exact ⟨0, 1, K, by omega, by omega, by omega, rfl, rfl, rfl, by rw [one_gm _ (gp_lt _ _ (by omega))]; exact HR.out⟩
      case round =>
        obtain ⟨A, P, k, hA, hP, hk, rfl, rfl, rfl, hi⟩ := hrel
        have HI : Hid (gm P (gp A k) = R) := hi
        clear hi
        have h : bits .and .i64 (k : Int) 1 = ((k % 2 : Nat) : Int) := andMask_i64 (k : Int) 1 (by omega)
        by_cases hz : k = 0
        · subst hz
          go_wp2_with fail
          go_ret
          exact ⟨ret_of (by rw [← HI.out]; simp only [gp]; rw [gm_one]), rfl⟩
        · have hkpos : 0 < k := by omega
          by_cases hodd : k % 2 = 0
          · rw [hodd] at h
            go_wp2_with fail
            go_at_call 23
            refine (gfMul_any A A hA hA _).mono ?_
            rintro e w' ⟨rfl, rfl⟩
            go_wp2_with fail
            go_round
            case rel => exact ⟨gm A A, P, k / 2, gm_lt _ _ hA, hP, by omega, rfl, rfl, by go_num, by rw [gp_even A k hA hodd]; exact HI.out⟩
            case measure => simp [intOf]; omega
          · have hodd1 : k % 2 = 1 := by omega
            rw [hodd1] at h
            go_wp2_with fail
            go_at_call 23
            refine (gfMul_any P A hP hA _).mono ?_
            rintro e w' ⟨rfl, rfl⟩
            go_wp2_with fail
            go_at_call 23
            refine (gfMul_any A A hA hA _).mono ?_
            rintro e w' ⟨rfl, rfl⟩
            go_wp2_with fail
            go_round
            case rel => exact ⟨gm A A, gm P A, k / 2, gm_lt _ _ hA, gm_lt _ _ hP, by omega, rfl, rfl, by go_num, by rw [gp_odd P A k hP hA hodd1]; exact HI.out⟩
            case measure => simp [intOf]; omega
    · have haz : ((a : Int) == 0) = false := by simp; omega
      go_wp2_with fail
      go_at_call 45
      refine start.mono ?_
      rintro e w' ⟨rfl, rfl⟩
      go_wp2_with fail
      go_loop [0, 5, 6] (fun x p k => ∃ A P k' : Nat, A < 256 ∧ P < 256 ∧ k' ≤ K ∧ x = .int .u8 (A : Int) ∧ p = .int .u8 (P : Int) ∧ k = .int .i64 (k' : Int) ∧ gm P (gp A k') = R) (fun _ _ k => (intOf k).toNat)
      case atStart => exact ⟨a, 1, K, by omega, by omega, by omega, rfl, rfl, rfl, by rw [one_gm _ (gp_lt _ _ (by omega))]; exact HR.out⟩
      case round =>
        obtain ⟨A, P, k, hA, hP, hk, rfl, rfl, rfl, hi⟩ := hrel
        have HI : Hid (gm P (gp A k) = R) := hi
        clear hi
        have h : bits .and .i64 (k : Int) 1 = ((k % 2 : Nat) : Int) := andMask_i64 (k : Int) 1 (by omega)
        by_cases hz : k = 0
        · subst hz
          go_wp2_with fail
          go_ret
          exact ⟨ret_of (by rw [← HI.out]; simp only [gp]; rw [gm_one]), rfl⟩
        · have hkpos : 0 < k := by omega
          by_cases hodd : k % 2 = 0
          · rw [hodd] at h
            go_wp2_with fail
            go_at_call 23
            refine (gfMul_any A A hA hA _).mono ?_
            rintro e w' ⟨rfl, rfl⟩
            go_wp2_with fail
            go_round
            case rel => exact ⟨gm A A, P, k / 2, gm_lt _ _ hA, hP, by omega, rfl, rfl, by go_num, by rw [gp_even A k hA hodd]; exact HI.out⟩
            case measure => simp [intOf]; omega
          · have hodd1 : k % 2 = 1 := by omega
            rw [hodd1] at h
            go_wp2_with fail
            go_at_call 23
            refine (gfMul_any P A hP hA _).mono ?_
            rintro e w' ⟨rfl, rfl⟩
            go_wp2_with fail
            go_at_call 23
            refine (gfMul_any A A hA hA _).mono ?_
            rintro e w' ⟨rfl, rfl⟩
            go_wp2_with fail
            go_round
            case rel => exact ⟨gm A A, gm P A, k / 2, gm_lt _ _ hA, gm_lt _ _ hP, by omega, rfl, rfl, by go_num, by rw [gp_odd P A k hP hA hodd1]; exact HI.out⟩
            case measure => simp [intOf]; omega

theorem gi_gpow (a : Nat) (h : a ≠ 0) : gpow a (-1) = gi a := by rw [gpow_ne a _ h]; rfl
theorem gfInv_zero (w : World) :
    Calls Try.prog 50 #[.int .u8 0] w fun e w' => e = .returned (.tuple #[.int .u8 0, .int .i64 6]) ∧ w' = w := by
  go_enter Try.func50, Try.ntmps50
  go_wp2_with fail
  go_ret2
  exact ⟨rfl, rfl⟩
theorem gfInv_any (a : Nat) (ha : a < 256) (hz : a ≠ 0) (w : World) :
    Calls Try.prog 50 #[.int .u8 (a : Int)] w fun e w' => e = .returned (.tuple #[.int .u8 (gi a : Int), .int .i64 0]) ∧ w' = w := by
  have haz : ¬ (a : Int) = 0 := by omega
  go_enter Try.func50, Try.ntmps50
  go_wp2_with fail
  go_at_call 25
  refine (gfPow_any a ha (-1) (by decide) (by decide) _).mono ?_
  rw [gi_gpow a hz]
  rintro e w' ⟨rfl, rfl⟩
  go_wp2_with fail
  go_ret2
  exact ⟨rfl, rfl⟩
end Go.Proofs.Ythcbnffhkbbkpaa
