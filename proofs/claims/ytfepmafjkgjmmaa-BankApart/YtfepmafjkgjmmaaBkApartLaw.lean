/- The law BankApart, walked. -/
import Derived.Test.YtfepmafjkgjmmaaBkApart
namespace Go.Proofs.Ytfepmafjkgjmmaa
open Go.RowKit Go.PlainAid
set_option linter.unusedVariables false

set_option maxRecDepth 20000 in
set_option maxHeartbeats 8000000 in
theorem bankApart_law (dd : Int) (s : Option Addr) (len cap : Nat) (ii : Int) (W : World) (hs : BActsArg W s len cap) : Calls Try.prog 5 #[.int .i64 dd, .slice s len cap, .int .i64 ii] W fun e w' => e = .returned (.bool true) ∧ Below W.heap.size W w' := by
  have hl1 := hs.1
  have hl2 := hs.2.1
  have HS : Hid (BActsArg W s len cap) := hs
  have hnew := an_new W dd
  have hN := newB_low dd
  obtain ⟨N, hNN⟩ : ∃ N, newB dd = N := ⟨_, rfl⟩
  rw [hNN] at hnew hN
  clear hs hNN
  obtain ⟨y, k, hy, hy0, hk1, hk⟩ := cut_max ii N (by omega)
  have hk2 : y.tmod (N : Int) = (k : Int) := by rw [Int.tmod_eq_emod_of_nonneg hy0]; exact hk1
  have hN0 : ¬ (N : Int) = 0 := by omega
  have hN1 : ¬ (N : Int) < 1 := by omega
  obtain ⟨C, hC1, hC2, hC3⟩ : ∃ C : Nat, (if (40 : Int) < (len : Int) then (40 : Int) else (len : Int)) = (C : Int) ∧ C ≤ 40 ∧ C ≤ len := ⟨min len 40, by split <;> omega, by omega, by omega⟩
  have hC4 : C ≤ cap := by omega
  go_enter Try.func5, Try.ntmps5
  go_wp2_with (first
    | (go_at_call 8; refine hnew.mono ?_; rintro e w1 ⟨g, rfl, h1⟩; clear hnew; have h1 : Hid (An _ _ _ _) := h1)
    | (go_at_call 10; refine (bwakes_any _).mono ?_; rintro e w2 ⟨rfl, hb2⟩; have h2 : Hid (An _ _ _ _) := An.below h1.out hb2; clear h1 hb2; have hsz := an_size h2.out; have hwr := an_write h2.out k hk)
    | (go_at_call 11; refine hsz.mono ?_; rintro e w3 ⟨rfl, hw'⟩; rw [hw']; clear hw' w3)
    | (go_at_call 21; refine hwr.mono ?_; rintro e w4 ⟨rfl, h4⟩; clear h2 hsz hwr; have hx : Hid (Ap _ _ _ _ _ _ _) := h4; clear h4))
  clear hC1 hy hk1 hk2
  go_loopw [36] (fun i wr => ∃ j : Nat, j ≤ C ∧ i = .int .i64 (j : Int) ∧ Hid (Ap nought W wr g N k (j + 1))) (fun i _ => C - (intOf i).toNat)
  case atStart => exact ⟨0, Nat.zero_le _, rfl, hx.out⟩
  case round =>
    clear hx
    obtain ⟨j, hj, rfl, hrr⟩ := hrel
    by_cases hlt : j < C
    · have hj' : (j : Int) < (C : Int) := by omega
      obtain ⟨sb, so, A, hsa, hA, c0, c1, c2, c3, c4, c5⟩ := bacts_at HS.out hrr.out.low j (by omega)
      subst hsa
      obtain ⟨d, i, a, s, x, kb, km, kc, L⟩ := A
      have hp1 : Hid (Ap _ _ _ _ _ _ _) := Ap.below firm_nought hrr.out ((Below.refl _ _).alloc (Nat.le_refl _) (.cells #[.int .i64 d, .int .i64 i, .int .i64 a, .string s, .slice kb km kc, .bool x] 34))
      have hbx : Hid (Ap _ _ _ _ _ _ _) := Ap.box hrr.out 34 #[.int .i64 d, .int .i64 i, .int .i64 a, .string s, .slice kb km kc, .bool x]
      have hsz : s.size ≤ maxLen := hA.2.2.2.2
      clear hrr hA
      by_cases hik : i = (k : Int)
      · subst hik
        have hp2 : Hid (Ap _ _ _ _ _ _ _) := hp1.out.more
        clear hp1 hbx
        go_wp2_with fail
        go_roundw
        case rel => exact ⟨j + 1, by omega, by go_num, hp2.out⟩
        case measure => simp [intOf]; omega
      · have hik' : (i == (k : Int)) = false := by simpa using hik
        have HIK : Hid _ := hik
        clear hik
        obtain ⟨v, hv⟩ : ∃ v, bits .and .i64 d 1 = v := ⟨_, rfl⟩
        by_cases hv0 : v = 0
        · subst hv0
          have hS : Hid (∀ z, Blk z wr.heap.size 34 ((#[.int .i64 d, .int .i64 i, .int .i64 a, .string s, .slice kb km kc, .bool x] : Array Value).toList) → (fun z : World => z.cell? ⟨wr.heap.size, 1, none⟩ = some (.int .i64 i) ∧ z.cell? ⟨wr.heap.size, 2, none⟩ = some (.int .i64 a) ∧ z.cell? ⟨wr.heap.size, 3, none⟩ = some (.string s)) z) := fun z hz => ⟨hz.cell rfl, hz.cell rfl, hz.cell rfl⟩
          obtain ⟨M, hM1, hM2, hM3⟩ : ∃ M : Nat, (if (50 : Int) < (s.size : Int) then (50 : Int) else (s.size : Int)) = (M : Int) ∧ M ≤ s.size ∧ min (s.size : Int) 50 = (M : Int) := ⟨min s.size 50, by split <;> omega, by omega, by omega⟩
          have hp2 : Hid (Ap _ _ _ _ _ _ _) := hbx.out.below ((firm_blk _ _ _).star firm_nought) (Below.refl _ _).drew
          obtain ⟨bx, hbxe⟩ : ∃ bx, wr.heap.size = bx := ⟨_, rfl⟩
          clear hp1 hbx
          go_wp2_with fail
          rw [hbxe] at hS hp2
          clear c0 c1 c2 c3 c4 c5
          refine wp_region_noPanic ?_
          refine wp_region_held_drew (S := fun z : World => z.cell? ⟨bx, 1, none⟩ = some (.int .i64 i) ∧ z.cell? ⟨bx, 2, none⟩ = some (.int .i64 a) ∧ z.cell? ⟨bx, 3, none⟩ = some (.string s)) (by kernel_rfl) (hS.out _ hp2.out.blk) (fun hHeld => ?_)
          refine wpAnyH_take (i := 0) (v := ?_) rfl (by kernel_rfl) (by kernel_rfl) (by kernel_rfl) (fun _ _ _ h => h) (Or.inl ⟨by rfl, ?_⟩) (by assumption) ?_
          rotate_left
          · intro w hSw; go_simp; try with_reducible rfl
          go_simp
          refine wpAnyH_take (i := 1) (v := ?_) rfl (by kernel_rfl) (by kernel_rfl) (by kernel_rfl) (fun _ _ _ h => h) (Or.inl ⟨by rfl, ?_⟩) (by assumption) ?_
          rotate_left
          · intro w hSw; go_simp; try with_reducible rfl
          go_simp
          refine wpAnyH_take (i := 2) (v := ?_) rfl (by kernel_rfl) (by kernel_rfl) (by kernel_rfl) (fun _ _ _ h => h) (Or.inl ⟨by rfl, ?_⟩) (by assumption) ?_
          rotate_left
          · intro w hSw; go_simp; try with_reducible rfl
          go_simp
          refine wpAnyH_take (i := 3) (v := ?_) rfl (by kernel_rfl) (by kernel_rfl) (by kernel_rfl) (fun _ _ _ h => h) (Or.inl ⟨by rfl, ?_⟩) (by assumption) ?_
          rotate_left
          · intro w hSw; go_simp; try with_reducible rfl
          go_simp
          refine wpAnyH_take (i := 4) (v := ?_) rfl (by kernel_rfl) (by kernel_rfl) (by kernel_rfl) (fun _ _ _ h => h) (Or.inl ⟨by rfl, ?_⟩) (by assumption) ?_
          rotate_left
          · intro w hSw; go_simp; try with_reducible rfl
          go_simp
          refine wpAnyH_take (i := 5) (v := ?_) rfl (by kernel_rfl) (by kernel_rfl) (by kernel_rfl) (fun _ _ _ h => h) (Or.inl ⟨by rfl, ?_⟩) (by assumption) ?_
          rotate_left
          · intro w hSw; go_simp; try with_reducible rfl
          go_simp
          refine wpAnyH_take (i := 6) (v := ?_) rfl (by kernel_rfl) (by kernel_rfl) (by kernel_rfl) (fun _ _ _ h => h) (Or.inl ⟨by rfl, ?_⟩) (by assumption) ?_
          rotate_left
          · intro w hSw; go_simp; try with_reducible rfl
          go_simp
          refine wpAnyH_take (i := 7) (v := ?_) rfl (by kernel_rfl) (by kernel_rfl) (by kernel_rfl) (fun _ _ _ h => h) (Or.inl ⟨by rfl, ?_⟩) (by assumption) ?_
          rotate_left
          · intro w hSw; go_simp; try with_reducible rfl
          go_simp
          refine wpAnyH_take (i := 8) (v := ?_) rfl (by kernel_rfl) (by kernel_rfl) (by kernel_rfl) (fun _ _ _ h => h) (Or.inl ⟨by rfl, ?_⟩) (by assumption) ?_
          rotate_left
          · intro w hSw; go_simp; try with_reducible rfl
          go_simp
          refine wpAnyH_take (i := 9) (v := ?_) rfl (by kernel_rfl) (by kernel_rfl) (by kernel_rfl) (fun _ _ _ h => h) (Or.inl ⟨by rfl, ?_⟩) (by assumption) ?_
          rotate_left
          · intro w hSw; go_simp; try with_reducible rfl
          go_simp
          refine wpAnyH_take (i := 10) (v := ?_) rfl (by kernel_rfl) (by kernel_rfl) (by kernel_rfl) (fun _ _ _ h => h) (Or.inl ⟨by rfl, ?_⟩) (by assumption) ?_
          rotate_left
          · intro w hSw; go_simp; try with_reducible rfl
          go_simp
          refine wpAnyH_take (i := 11) (v := ?_) rfl (by kernel_rfl) (by kernel_rfl) (by kernel_rfl) (fun _ _ _ h => h) (Or.inl ⟨by rfl, ?_⟩) (by assumption) ?_
          rotate_left
          · intro w hSw; go_simp; try with_reducible rfl
          go_simp
          refine wpAnyH_ready (rs := [12]) (by kernel_rfl) (by simp) (AllReadyH.cons rfl (fun K hK => ?_) AllReadyH.nil)
          go_simp
          go_at_call 21
          refine (ap_write ((firm_blk _ _ _).star firm_nought) hp2.out (by omega) _ _ _ HIK.out).mono ?_
          rintro e wz ⟨E, rfl, hz⟩
          clear hp2
          have hz : Hid (Ap _ _ _ _ _ _ _) := hz
          refine hK.out _ _ (hS.out _ hz.out.blk) (fun hHeld => ?_)
          clear hK K
          refine wpAnyH_done (by kernel_rfl) ?_ _
          refine NoPanic.normal ?_
          go_wp2_with fail
          go_roundw
          case rel => exact ⟨j + 1, by omega, by go_num, hz.out.unbox⟩
          case measure => simp [intOf]; omega
        · have hv0' : (v == 0) = false := by simpa using hv0
          have hfl := ap_flush firm_nought hp1.out (by omega) i HIK.out
          clear hp1 hbx hv0
          go_wp2_with (go_at_call 20; refine hfl.mono ?_; rintro e wz ⟨E, rfl, hz⟩; clear hfl; have hz : Hid (Ap _ _ _ _ _ _ _) := hz)
          go_roundw
          case rel => exact ⟨j + 1, by omega, by go_num, hz.out⟩
          case measure => simp [intOf]; omega
    · have hj' : ¬ (j : Int) < (C : Int) := by omega
      obtain rfl : j = C := by omega
      have hrd := ap_read hrr.out
      have hdk := ap_disk hrr.out
      go_wp2_with (first
        | (go_at_call 22; refine hrd.mono ?_; rintro e w2 ⟨rfl, hw'⟩; rw [hw']; clear hw' w2 hrd)
        | (go_at_call 14; refine hdk.mono ?_; rintro e w2 ⟨gx, rfl, hw', hwa⟩; rw [hw']; clear hw' w2 hdk)
        | (go_at_call 17; refine hwa.out.mono ?_; rintro e w2 ⟨rfl, hw'⟩; rw [hw']; clear hw' w2 hwa))
      go_ret
      exact ⟨rfl, hrr.out.low⟩
end Go.Proofs.Ytfepmafjkgjmmaa
