/- The law NonceOnce, walked. -/
import Derived.Test.YtikhhijbabllfaaNoOnce0
import Derived.Test.YtikhhijbabllfaaNoArg
namespace Go.Proofs.Ytikhhijbabllfaa
open Go.RowKit Go.PlainAid
set_option linter.unusedVariables false
set_option maxRecDepth 20000

theorem rem_max (n k : Int) (hk : 0 < k) : ∃ X M : Nat, (if (0 : Int) < n then n else 0) = (X : Int) ∧ Int.tmod (X : Int) k = (M : Int) ∧ (X : Int) % k = (M : Int) ∧ (M : Int) < k := by
  have h0 : (0 : Int) ≤ (if (0 : Int) < n then n else 0) := by split <;> omega
  generalize (if (0 : Int) < n then n else 0) = m at *
  obtain ⟨X, rfl⟩ : ∃ X : Nat, m = (X : Int) := ⟨m.toNat, by omega⟩
  have h1 := Int.emod_nonneg (X : Int) (show k ≠ 0 by omega)
  have h2 := Int.emod_lt_of_pos (X : Int) hk
  refine ⟨X, ((X : Int) % k).toNat, rfl, ?_, ?_, ?_⟩
  · rw [Int.tmod_eq_emod_of_nonneg h0, Int.toNat_of_nonneg h1]
  · rw [Int.toNat_of_nonneg h1]
  · rw [Int.toNat_of_nonneg h1]; exact h2
set_option maxHeartbeats 4000000 in
theorem nonceOnce_law (a : Option Addr) (len cap : Nat) (s n : Int) (W : World) (hc : Came u32Ok (fun n => [.int .u32 n]) 1 W a len cap) (hs : 0 ≤ s ∧ s ≤ 4294967295) (hn : -9223372036854775808 ≤ n ∧ n ≤ 9223372036854775807) : Calls Try.prog 5 #[.slice a len cap, .int .u32 s, .int .i64 n] W fun x w' => x = .returned (.bool true) ∧ Below W.heap.size W w' := by
  have hl1 := hc.1
  have hl2 := hc.2.1
  have HC : Hid (Came u32Ok (fun n => [.int .u32 n]) 1 W a len cap) := hc
  obtain ⟨s0, s1⟩ := hs
  clear hc hn
  obtain ⟨C, hC1, hC2, hC3⟩ : ∃ C : Nat, (if (10 : Int) < (len : Int) then (10 : Int) else (len : Int)) = (C : Int) ∧ C ≤ 10 ∧ C ≤ len := ⟨min len 10, by split <;> omega, by omega, by omega⟩
  have hC4 : C ≤ cap := by omega
  obtain ⟨X, M, hX, hM1, hM2, hM3⟩ := rem_max n 30 (by decide)
  have hO : Hid (Oc W ((W.alloc (.map #[] 0)).alloc (.map #[] 0)) W.heap.size (W.heap.size + 1) 0) := oc_made W
  have zs : IntKind.u64.wrap s = s := IntWalk.u64_in _ ⟨by omega, by omega⟩
  have hmm := @run_makeMap Try.prog
  go_enter Try.func5, Try.ntmps5
  go_wp2_with fail
  clear hC1 hmm
  have HX : Hid ((if (0 : Int) < n then n else 0) = (X : Int)) := hX
  have HM1 : Hid (Int.tmod (X : Int) 30 = (M : Int)) := hM1
  have HM2 : Hid ((X : Int) % 30 = (M : Int)) := hM2
  clear hX hM1 hM2
  generalize ((W.alloc (.map #[] 0)).alloc (.map #[] 0)) = w1 at *
  generalize W.heap.size + 1 = m2 at *
  obtain ⟨m1, hm1⟩ : ∃ m, W.heap.size = m := ⟨_, rfl⟩
  rw [hm1] at hO ⊢
  have HB : Hid (W.heap.size = m1) := hm1
  clear hm1
  go_loopw [27] (fun i wr => ∃ j : Nat, j ≤ C ∧ i = .int .i64 (j : Int) ∧ Hid (Oc W wr m1 m2 j)) (fun i _ => C - (intOf i).toNat)
  case atStart => exact ⟨0, Nat.zero_le _, rfl, hO.out⟩
  case round =>
    clear hO
    obtain ⟨j, hj, rfl, hr⟩ := hrel
    by_cases hlt : j < C
    · have hj' : (j : Int) < (C : Int) := by omega
      obtain ⟨sb, so, x, hsa, hx, hra⟩ := came_at HC.out hr.out.low.1 j (by omega)
      subst hsa
      have hcell : wr.cell? ⟨sb, so + j, none⟩ = some (.int .u32 x) := by have := hra 0 _ rfl; simpa using this
      obtain ⟨x0, x1⟩ := hx
      clear hra
      by_cases hz : x = 0
      · subst hz
        have hr2 : Hid (Oc W wr m1 m2 (j + 1)) := oc_skip hr.out
        clear hr
        go_wp2_with fail
        go_roundw
        case rel => exact ⟨j + 1, by omega, by go_num, hr2.out⟩
        case measure => simp [intOf]; omega
      · have hz' : (x == 0) = false := by simpa using hz
        rcases oc_look hr.out (by omega) (by omega : 1 ≤ x) x1 with hlk | ⟨hlk, w2, hrun, hon⟩
        · have hr2 : Hid (Oc W wr m1 m2 (j + 1)) := oc_skip hr.out
          clear hr
          go_wp2_with fail
          go_roundw
          case rel => exact ⟨j + 1, by omega, by go_num, hr2.out⟩
          case measure => simp [intOf]; omega
        · have zx : IntKind.u64.wrap x = x := IntWalk.u64_in _ ⟨by omega, by omega⟩
          have hnew := on_new hon s0 (by omega)
          have hX := HX.out
          have hM1 := HM1.out
          have hM2 := HM2.out
          clear hr hon
          go_wp2_with (go_at_call 7; refine hnew.mono ?_; rintro e w3 ⟨g, rfl, h1⟩; clear hnew; have H1 : Hid (Oi _ _ _ _ _ _ _ _ _ _) := h1; clear h1)
          clear hX hM1 hM2 hlk hrun hcell
          go_loopw [53] (fun q wr => ∃ i : Nat, i ≤ M ∧ q = .int .i64 (i : Int) ∧ s + (i : Int) ≤ 4294967296 ∧ Hid (Oi W wr m1 m2 j g x (s + (i : Int)) (s + (i : Int)) i)) (fun q _ => M - (intOf q).toNat)
          case atStart => exact ⟨0, Nat.zero_le _, rfl, by omega, by rw [show s + ((0 : Nat) : Int) = s by omega]; exact H1.out⟩
          case round =>
            clear H1
            obtain ⟨i, hi, rfl, hsi, hr⟩ := hrel
            by_cases hilt : i < M
            · have hi' : (i : Int) < (M : Int) := by omega
              by_cases hend : s + (i : Int) = 4294967296
              · rw [hend] at hr
                have hnx := oi_used hr.out
                rw [show noB = (⟨#[]⟩ : ByteArray) from rfl] at hnx
                have hlf := oi_left hr.out (by decide) (by decide)
                have hr2 : Hid (Oc W wr m1 m2 (j + 1)) := oi_oc hr.out (by omega)
                clear hr
                go_wp2_with (first
                  | (go_at_call 10; refine hnx.mono ?_; rintro e w4 ⟨rfl, hw⟩; rw [hw]; clear hw w4 hnx)
                  | (go_at_call 11; refine hlf.mono ?_; rintro e w5 ⟨rfl, hw⟩; rw [hw]; clear hw w5 hlf))
                go_roundw
                case rel => exact ⟨j + 1, by omega, by go_num, hr2.out⟩
                case measure => simp [intOf]; omega
              · have zi : IntKind.u64.wrap (i : Int) = (i : Int) := IntWalk.u64_in _ ⟨by omega, by omega⟩
                have zp : IntKind.u64.wrap (s + (i : Int)) = s + (i : Int) := IntWalk.u64_in _ ⟨by omega, by omega⟩
                obtain ⟨p, hp⟩ : ∃ p, s + (i : Int) = p := ⟨_, rfl⟩
                have hp' : s + ((i + 1 : Nat) : Int) = p + 1 := by omega
                rw [hp] at hr zp hsi hend
                have p1 : p < 4294967296 := by omega
                have p0 : 0 ≤ p := by omega
                have hnx := oi_next hr.out p0 p1
                have hrd := nread_any (nonB x p) (by rw [nonB_size]; decide)
                obtain ⟨q1, q2, q3⟩ := nr_non (e := x) (n := p) (by omega) x1 p0 p1
                rw [q1, q2, q3] at hrd
                have hmet : Hid (∀ z, Oi W z m1 m2 j g x (p + 1) p i → _) := fun z hz => oi_met hz p0 p1 (by omega) (by omega)
                have HP : Hid (s + ((i + 1 : Nat) : Int) = p + 1 ∧ p + 1 ≤ 4294967296) := ⟨hp', by omega⟩
                generalize nonB x p = T at *
                clear hr q1 q2 q3 hp' hend
                go_wp2_with (first
                  | (go_at_call 10; refine hnx.mono ?_; rintro e w4 ⟨rfl, h4⟩; clear hnx; have H4 : Hid (Oi _ _ _ _ _ _ _ _ _ _) := h4; clear h4)
                  | (go_at_call 13; refine (hrd _).mono ?_; rintro e w5 ⟨rfl, hb5⟩; clear hrd; obtain ⟨hlk, w6, hrun, h6⟩ := hmet.out _ (H4.out.below hb5); have H6 : Hid (Oi _ _ _ _ _ _ _ _ _ _) := h6; clear h6 hb5 H4 hmet))
                go_roundw
                case rel => exact ⟨i + 1, by omega, by go_num, by rw [HP.out.1]; exact HP.out.2, by rw [HP.out.1]; exact H6.out⟩
                case measure => simp [intOf]; omega
            · have hi' : ¬ (i : Int) < (M : Int) := by omega
              have hr2 : Hid (Oc W wr m1 m2 (j + 1)) := oi_oc hr.out (by omega)
              clear hr
              go_wp2_with fail
              go_roundw
              case rel => exact ⟨j + 1, by omega, by go_num, hr2.out⟩
              case measure => simp [intOf]; omega
    · have hj' : ¬ (j : Int) < (C : Int) := by omega
      go_wp2_with (go_at_call 8; refine (wakes16_any _).mono ?_; rintro e w4 ⟨rfl, hb⟩; have H4 : Hid (Below W.heap.size W w4) := hr.out.low.1.trans (hb.mono hr.out.low.2); clear hb)
      go_ret
      exact ⟨rfl, H4.out⟩
end Go.Proofs.Ytikhhijbabllfaa
