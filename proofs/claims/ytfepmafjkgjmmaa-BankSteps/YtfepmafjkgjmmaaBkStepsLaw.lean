/- The law BankSteps, walked. -/
import Derived.Test.YtfepmafjkgjmmaaBkSteps
namespace Go.Proofs.Ytfepmafjkgjmmaa
open Go.RowKit Go.PlainAid
set_option linter.unusedVariables false

set_option maxRecDepth 20000 in
set_option maxHeartbeats 40000000 in
theorem bankSteps_law (s : Option Addr) (len cap : Nat) (W : World) (hs : BActsArg W s len cap) : Calls Try.prog 7 #[.slice s len cap] W fun e w' => e = .returned (.bool true) ∧ Below W.heap.size W w' := by
  have hl1 := hs.1
  have hl2 := hs.2.1
  have HS : Hid (BActsArg W s len cap) := hs
  have hnew := sp_new W
  clear hs
  obtain ⟨C, hC1, hC2, hC3⟩ : ∃ C : Nat, (if (60 : Int) < (len : Int) then (60 : Int) else (len : Int)) = (C : Int) ∧ C ≤ 60 ∧ C ≤ len := ⟨min len 60, by split <;> omega, by omega, by omega⟩
  have hC4 : C ≤ cap := by omega
  go_enter Try.func7, Try.ntmps7
  go_wp2_with (go_at_call 8; refine hnew.mono ?_; rintro e w1 ⟨g, rfl, h1⟩; clear hnew; have hx : Hid (Sp _ _ _ _ _ _) := h1; clear h1)
  clear hC1
  go_loopw [16] (fun i wr => ∃ j sc : Nat, j ≤ C ∧ sc ≤ j ∧ i = .int .i64 (j : Int) ∧ Hid (Sp nought W wr g sc j)) (fun i _ => C - (intOf i).toNat)
  case atStart => exact ⟨0, 0, Nat.zero_le _, Nat.le_refl _, rfl, hx.out⟩
  case round =>
    clear hx
    obtain ⟨j, sc, hj, hsc, rfl, hrr⟩ := hrel
    by_cases hlt : j < C
    · have hj' : (j : Int) < (C : Int) := by omega
      have hne1 : ((sc : Int) == (sc : Int) + 1) = false := by simp only [beq_eq_false_iff_ne, ne_eq]; omega
      have hne2 : ((sc : Int) = (sc : Int) + 1) = False := by simp only [eq_iff_iff, iff_false]; omega
      obtain ⟨sb, so, A, hsa, hA, c0, c1, c2, c3, c4, c5⟩ := bacts_at HS.out hrr.out.low j (by omega)
      subst hsa
      obtain ⟨d, i, a, s, x, kb, km, kc, L⟩ := A
      have HL : Hid (ListsIn W.heap.size W kb km kc L) := hA.1
      have hsz : s.size ≤ maxLen := hA.2.2.2.2
      clear hA
      obtain ⟨v, hv⟩ : ∃ v, bits .and .i64 d 7 = v := ⟨_, rfl⟩
      obtain ⟨M, hM1, hM2, hM3⟩ : ∃ M : Nat, (if (100 : Int) < (s.size : Int) then (100 : Int) else (s.size : Int)) = (M : Int) ∧ M ≤ s.size ∧ min (s.size : Int) 100 = (M : Int) := ⟨min s.size 100, by split <;> omega, by omega, by omega⟩
      obtain ⟨t, ht⟩ : ∃ t, s.extract 0 M = t := ⟨_, rfl⟩
      by_cases hi0 : i < 0
      · have HO : Hid (Out 3 i) := .inl hi0
        have hi0' : decide (0 ≤ i) = false := decide_eq_false (by omega)
        clear hi0
        have hb1 : Hid (Sp _ _ _ _ _ _) := Sp.box hrr.out 34 #[.int .i64 d, .int .i64 i, .int .i64 a, .string s, .slice kb km kc, .bool x]
        obtain ⟨bx, hbxe⟩ : ∃ bx, wr.heap.size = bx := ⟨_, rfl⟩
        clear hrr
        go_wp2_with fail
        try rw [hbxe] at hb1
        try rw [hbxe]
        clear c0 c1 c2 c3 c4 c5
        generalize wr.alloc (.cells #[.int .i64 d, .int .i64 i, .int .i64 a, .string s, .slice kb km kc, .bool x] 34) = wb at hb1 ⊢
        have c1 := hb1.out.blk.cell (i := 1) rfl
        have hst : ∀ n, Calls Try.prog 13 #[.pointer (some ⟨g, 0, none⟩)] (wb.drewN n) fun e w' => e = .returned (.int .i64 (sc : Int)) ∧ w' = wb.drewN n := fun n => sp_steps (hb1.out.drewN ((firm_blk _ _ _).star firm_nought) n)
        go_quiet ((go_at_call 13; exact Calls.quiet_of_same (hst _)))
        have hb2 : Hid (Sp _ _ _ _ _ _) := hb1.out.drewN ((firm_blk _ _ _).star firm_nought) nq
        clear c1 hst hb1
        generalize wb.drewN nq = wc at hb2 ⊢
        have c0 := hb2.out.blk.cell (i := 0) rfl
        have c1 := hb2.out.blk.cell (i := 1) rfl
        have c2 := hb2.out.blk.cell (i := 2) rfl
        have c3 := hb2.out.blk.cell (i := 3) rfl
        have f3 := hb2.out.blk.frozen 3
        have h3 : Hid (Sp _ _ _ _ _ _) := hb2.out.set 3 (.string t)
        clear hb2
        have e0 := h3.out.blk.cell (i := 0) rfl
        have e1 := h3.out.blk.cell (i := 1) rfl
        have e2 := h3.out.blk.cell (i := 2) rfl
        have e3 := h3.out.blk.cell (i := 3) rfl
        have e4 := h3.out.blk.cell (i := 4) rfl
        have e5 := h3.out.blk.cell (i := 5) rfl
        by_cases hv0 : v = 0
        · subst hv0
          have hc := sp_write ((firm_blk _ _ _).star firm_nought) h3.out (by omega) (by omega) i a t
          rw [show stS 3 none i sc = sc from if_pos HO.out] at hc
          go_wp2_with (first | (go_at_call 21; refine (hc).mono ?_; rintro e w5 ⟨E, rfl, h5⟩; clear h3; clear hc; have h5 : Hid (Sp _ _ _ _ _ _) := h5) | (go_at_call 13; refine (sp_steps h5.out).mono ?_; rintro e w6 ⟨rfl, hw'⟩; rw [hw']; clear hw' w6))
          go_roundw
          case rel => exact ⟨j + 1, sc, by omega, by omega, by go_num, h5.out.unbox⟩
          case measure => simp [intOf]; omega
        have hv0' : (v == 0) = false := by simpa using hv0
        clear hv0
        by_cases hv1 : v = 1
        · subst hv1
          have hc := sp_write ((firm_blk _ _ _).star firm_nought) h3.out (by omega) (by omega) i a t
          rw [show stS 3 none i sc = sc from if_pos HO.out] at hc
          go_wp2_with (first | (go_at_call 21; refine (hc).mono ?_; rintro e w5 ⟨E, rfl, h5⟩; clear h3; clear hc; have h5 : Hid (Sp _ _ _ _ _ _) := h5) | (go_at_call 13; refine (sp_steps h5.out).mono ?_; rintro e w6 ⟨rfl, hw'⟩; rw [hw']; clear hw' w6))
          go_roundw
          case rel => exact ⟨j + 1, sc, by omega, by omega, by go_num, h5.out.unbox⟩
          case measure => simp [intOf]; omega
        have hv1' : (v == 1) = false := by simpa using hv1
        clear hv1
        by_cases hv2 : v = 2
        · subst hv2
          have hc := sp_flush ((firm_blk _ _ _).star firm_nought) h3.out (by omega) i
          rw [show stS 3 none i sc = sc from if_pos HO.out] at hc
          go_wp2_with (first | (go_at_call 20; refine (hc).mono ?_; rintro e w5 ⟨E, rfl, h5⟩; clear h3; clear hc; have h5 : Hid (Sp _ _ _ _ _ _) := h5) | (go_at_call 13; refine (sp_steps h5.out).mono ?_; rintro e w6 ⟨rfl, hw'⟩; rw [hw']; clear hw' w6))
          go_roundw
          case rel => exact ⟨j + 1, sc, by omega, by omega, by go_num, h5.out.unbox⟩
          case measure => simp [intOf]; omega
        have hv2' : (v == 2) = false := by simpa using hv2
        clear hv2
        by_cases hv3 : v = 3
        · subst hv3
          have hc := sp_spend ((firm_blk _ _ _).star firm_nought) h3.out (by omega)
          go_wp2_with (first | (go_at_call 19; refine (hc).mono ?_; rintro e w5 ⟨E, rfl, h5⟩; clear h3; clear hc; have h5 : Hid (Sp _ _ _ _ _ _) := h5) | (go_at_call 13; refine (sp_steps h5.out).mono ?_; rintro e w6 ⟨rfl, hw'⟩; rw [hw']; clear hw' w6))
          go_roundw
          case rel => exact ⟨j + 1, sc + 1, by omega, by omega, by go_num, h5.out.unbox⟩
          case measure => simp [intOf]; omega
        have hv3' : (v == 3) = false := by simpa using hv3
        clear hv3
        by_cases hv4 : v = 4
        · subst hv4
          have hc := sp_read h3.out i a
          have h5 : Hid (Sp _ _ _ _ _ _) := h3.out.more
          go_wp2_with (first | (go_at_call 22; refine hc.mono ?_; rintro e w5 ⟨t', E, rfl, hw'⟩; rw [hw']; clear hw' w5 hc) | (go_at_call 13; refine (sp_steps h5.out).mono ?_; rintro e w6 ⟨rfl, hw'⟩; rw [hw']; clear hw' w6))
          go_roundw
          case rel => exact ⟨j + 1, sc, by omega, by omega, by go_num, h5.out.unbox⟩
          case measure => simp [intOf]; omega
        have hv4' : (v == 4) = false := by simpa using hv4
        clear hv4
        by_cases hv5 : v = 5
        · subst hv5
          have hc := sp_lists ((firm_blk _ _ _).star firm_nought) h3.out d i a t kb km kc x L HL.out
          go_wp2_with (first | (go_at_call 24; refine hc.mono ?_; rintro e w4 ⟨vl, rfl, h4⟩; clear h3 hc; have h4 : Hid (Sp _ _ _ _ _ _) := h4; have hcr := sp_crash ((firm_blk _ _ _).star firm_nought) h4.out (lists_ok HL.out) (by omega) (by omega)) | (go_at_call 23; refine hcr.mono ?_; rintro e w5 ⟨rfl, h5⟩; clear h4 hcr; have h5 : Hid (Sp _ _ _ _ _ _) := h5) | (go_at_call 13; refine (sp_steps h5.out).mono ?_; rintro e w6 ⟨rfl, hw'⟩; rw [hw']; clear hw' w6))
          go_roundw
          case rel => exact ⟨j + 1, sc, by omega, by omega, by go_num, h5.out.unbox⟩
          case measure => simp [intOf]; omega
        have hv5' : (v == 5) = false := by simpa using hv5
        clear hv5
        by_cases hv6 : v = 6
        · subst hv6
          have hc := sp_diskOut h3.out i HO.out
          have h5 : Hid (Sp _ _ _ _ _ _) := h3.out.more
          go_wp2_with (first | (go_at_call 14; refine hc.mono ?_; rintro e w4 ⟨rfl, hw'⟩; rw [hw']; clear hw' w4 hc) | (go_at_call 25; refine (flush_nil _).mono ?_; rintro e w5 ⟨rfl, hw'⟩; rw [hw']; clear hw' w5) | (go_at_call 13; refine (sp_steps h5.out).mono ?_; rintro e w6 ⟨rfl, hw'⟩; rw [hw']; clear hw' w6))
          go_roundw
          case rel => exact ⟨j + 1, sc, by omega, by omega, by go_num, h5.out.unbox⟩
          case measure => simp [intOf]; omega
        have hv6' : (v == 6) = false := by simpa using hv6
        clear hv6
        have h4 : Hid (Sp _ _ _ _ _ _) := Sp.below ((firm_blk _ _ _).star firm_nought) h3.out (Below.refl _ _).drew
        have hS : Hid (∀ z, Blk z bx 34 [.int .i64 d, .int .i64 i, .int .i64 a, .string t, .slice kb km kc, .bool x] → (fun z : World => z.cell? ⟨bx, 1, none⟩ = some (.int .i64 i) ∧ z.cell? ⟨bx, 2, none⟩ = some (.int .i64 a) ∧ z.cell? ⟨bx, 3, none⟩ = some (.string t)) z) := fun z hz => ⟨hz.cell rfl, hz.cell rfl, hz.cell rfl⟩
        go_wp2_with fail
        refine wp_region_noPanic ?_
        refine wp_region_held_drew (S := fun z : World => z.cell? ⟨bx, 1, none⟩ = some (.int .i64 i) ∧ z.cell? ⟨bx, 2, none⟩ = some (.int .i64 a) ∧ z.cell? ⟨bx, 3, none⟩ = some (.string t)) (by kernel_rfl) (hS.out _ h4.out.blk) (fun hHeld => ?_)
        refine wpAnyH_take (i := 0) (v := ?_) rfl (by kernel_rfl) (by kernel_rfl) (by kernel_rfl) (fun _ _ _ h => h) (Or.inl ⟨by rfl, ?_⟩) (by assumption) ?_
        rotate_left
        · intro w hSw; go_simp; try with_reducible rfl
        go_simp
        refine wpAnyH_take (i := 1) (v := ?_) rfl (by kernel_rfl) (by kernel_rfl) (by kernel_rfl) (fun _ _ _ h => h) (Or.inl ⟨by rfl, ?_⟩) (by assumption) ?_
        rotate_left
        · intro w hSw; go_simp; try with_reducible rfl
        go_simp
        refine wpAnyH_take (i := 2) (v := ?_) rfl (by kernel_rfl) (by kernel_rfl) (by kernel_rfl) (fun _ _ _ h => h) (Or.inl ⟨by rfl, ?_⟩) (by assumption) ?_
        rotate_left
        · intro w hSw; go_simp; try with_reducible rfl
        go_simp
        refine wpAnyH_take (i := 4) (v := ?_) rfl (by kernel_rfl) (by kernel_rfl) (by kernel_rfl) (fun _ _ _ h => h) (Or.inl ⟨by rfl, ?_⟩) (by assumption) ?_
        rotate_left
        · intro w hSw; go_simp; try with_reducible rfl
        go_simp
        refine wpAnyH_take (i := 5) (v := ?_) rfl (by kernel_rfl) (by kernel_rfl) (by kernel_rfl) (fun _ _ _ h => h) (Or.inl ⟨by rfl, ?_⟩) (by assumption) ?_
        rotate_left
        · intro w hSw; go_simp; try with_reducible rfl
        go_simp
        refine wpAnyH_take (i := 6) (v := ?_) rfl (by kernel_rfl) (by kernel_rfl) (by kernel_rfl) (fun _ _ _ h => h) (Or.inl ⟨by rfl, ?_⟩) (by assumption) ?_
        rotate_left
        · intro w hSw; go_simp; try with_reducible rfl
        go_simp
        refine wpAnyH_take (i := 7) (v := ?_) rfl (by kernel_rfl) (by kernel_rfl) (by kernel_rfl) (fun _ _ _ h => h) (Or.inl ⟨by rfl, ?_⟩) (by assumption) ?_
        rotate_left
        · intro w hSw; go_simp; try with_reducible rfl
        go_simp
        refine wpAnyH_ready (rs := [3]) (by kernel_rfl) (by simp) (AllReadyH.cons rfl (fun K hK => ?_) AllReadyH.nil)
        go_simp
        go_at_call 14
        refine (sp_diskOut h4.out i HO.out).mono ?_
        rintro e w4 ⟨rfl, hw'⟩
        rw [hw']
        clear hw' w4
        refine hK.out _ _ (hS.out _ h4.out.blk) (fun hHeld => ?_)
        clear hK K
        refine wpAnyH_ready (rs := [8]) (by kernel_rfl) (by simp) (AllReadyH.cons rfl (fun K hK => ?_) AllReadyH.nil)
        go_simp
        go_at_call 26
        refine (tamper_nil _ _ _).mono ?_
        rintro e w5 ⟨rfl, hb5⟩
        have h5 : Hid (Sp _ _ _ _ _ _) := (Sp.below ((firm_blk _ _ _).star firm_nought) h4.out hb5).more
        clear h3 h4 hb5
        refine hK.out _ _ (hS.out _ h5.out.blk) (fun hHeld => ?_)
        clear hK K
        refine wpAnyH_done (by kernel_rfl) ?_ _
        refine NoPanic.normal ?_
        go_wp2_with (go_at_call 13; refine (sp_steps h5.out).mono ?_; rintro e w6 ⟨rfl, hw'⟩; rw [hw']; clear hw' w6)
        go_roundw
        case rel => exact ⟨j + 1, sc, by omega, by omega, by go_num, h5.out.unbox⟩
        case measure => simp [intOf]; omega
      · by_cases hi3 : i < 3
        · obtain ⟨k, rfl⟩ : ∃ k : Nat, i = (k : Int) := ⟨i.toNat, by omega⟩
          have hk : k < 3 := by omega
          have hi0' : decide (0 ≤ (k : Int)) = true := decide_eq_true (by omega)
          have hi3' : decide ((k : Int) < 3) = true := decide_eq_true (by omega)
          clear hi0 hi3
          have hb1 : Hid (Sp _ _ _ _ _ _) := Sp.box hrr.out 34 #[.int .i64 d, .int .i64 (k : Int), .int .i64 a, .string s, .slice kb km kc, .bool x]
          obtain ⟨bx, hbxe⟩ : ∃ bx, wr.heap.size = bx := ⟨_, rfl⟩
          clear hrr
          go_wp2_with fail
          try rw [hbxe] at hb1
          try rw [hbxe]
          clear c0 c1 c2 c3 c4 c5
          generalize wr.alloc (.cells #[.int .i64 d, .int .i64 (k : Int), .int .i64 a, .string s, .slice kb km kc, .bool x] 34) = wb at hb1 ⊢
          have c1 := hb1.out.blk.cell (i := 1) rfl
          have hst : ∀ n, Calls Try.prog 13 #[.pointer (some ⟨g, 0, none⟩)] (wb.drewN n) fun e w' => e = .returned (.int .i64 (sc : Int)) ∧ w' = wb.drewN n := fun n => sp_steps (hb1.out.drewN ((firm_blk _ _ _).star firm_nought) n)
          go_quiet ((go_at_call 13; exact Calls.quiet_of_same (hst _)))
          have hb2 : Hid (Sp _ _ _ _ _ _) := hb1.out.drewN ((firm_blk _ _ _).star firm_nought) nq
          clear c1 hst hb1
          generalize wb.drewN nq = wc at hb2 ⊢
          have c0 := hb2.out.blk.cell (i := 0) rfl
          have c1 := hb2.out.blk.cell (i := 1) rfl
          have c2 := hb2.out.blk.cell (i := 2) rfl
          have c3 := hb2.out.blk.cell (i := 3) rfl
          have f3 := hb2.out.blk.frozen 3
          have h3 : Hid (Sp _ _ _ _ _ _) := hb2.out.set 3 (.string t)
          clear hb2
          have e0 := h3.out.blk.cell (i := 0) rfl
          have e1 := h3.out.blk.cell (i := 1) rfl
          have e2 := h3.out.blk.cell (i := 2) rfl
          have e3 := h3.out.blk.cell (i := 3) rfl
          have e4 := h3.out.blk.cell (i := 4) rfl
          have e5 := h3.out.blk.cell (i := 5) rfl
          by_cases hv0 : v = 0
          · subst hv0
            have hc := sp_write ((firm_blk _ _ _).star firm_nought) h3.out (by omega) (by omega) (k : Int) a t
            rw [stS_in k hk, spendS_none] at hc
            go_wp2_with (first | (go_at_call 21; refine (hc).mono ?_; rintro e w5 ⟨E, rfl, h5⟩; clear h3; clear hc; have h5 : Hid (Sp _ _ _ _ _ _) := h5) | (go_at_call 13; refine (sp_steps h5.out).mono ?_; rintro e w6 ⟨rfl, hw'⟩; rw [hw']; clear hw' w6))
            go_roundw
            case rel => exact ⟨j + 1, sc + 1, by omega, by omega, by go_num, h5.out.unbox⟩
            case measure => simp [intOf]; omega
          have hv0' : (v == 0) = false := by simpa using hv0
          clear hv0
          by_cases hv1 : v = 1
          · subst hv1
            have hc := sp_write ((firm_blk _ _ _).star firm_nought) h3.out (by omega) (by omega) (k : Int) a t
            rw [stS_in k hk, spendS_none] at hc
            go_wp2_with (first | (go_at_call 21; refine (hc).mono ?_; rintro e w5 ⟨E, rfl, h5⟩; clear h3; clear hc; have h5 : Hid (Sp _ _ _ _ _ _) := h5) | (go_at_call 13; refine (sp_steps h5.out).mono ?_; rintro e w6 ⟨rfl, hw'⟩; rw [hw']; clear hw' w6))
            go_roundw
            case rel => exact ⟨j + 1, sc + 1, by omega, by omega, by go_num, h5.out.unbox⟩
            case measure => simp [intOf]; omega
          have hv1' : (v == 1) = false := by simpa using hv1
          clear hv1
          by_cases hv2 : v = 2
          · subst hv2
            have hc := sp_flush ((firm_blk _ _ _).star firm_nought) h3.out (by omega) (k : Int)
            rw [stS_in k hk, spendS_none] at hc
            go_wp2_with (first | (go_at_call 20; refine (hc).mono ?_; rintro e w5 ⟨E, rfl, h5⟩; clear h3; clear hc; have h5 : Hid (Sp _ _ _ _ _ _) := h5) | (go_at_call 13; refine (sp_steps h5.out).mono ?_; rintro e w6 ⟨rfl, hw'⟩; rw [hw']; clear hw' w6))
            go_roundw
            case rel => exact ⟨j + 1, sc + 1, by omega, by omega, by go_num, h5.out.unbox⟩
            case measure => simp [intOf]; omega
          have hv2' : (v == 2) = false := by simpa using hv2
          clear hv2
          by_cases hv3 : v = 3
          · subst hv3
            have hc := sp_spend ((firm_blk _ _ _).star firm_nought) h3.out (by omega)
            go_wp2_with (first | (go_at_call 19; refine (hc).mono ?_; rintro e w5 ⟨E, rfl, h5⟩; clear h3; clear hc; have h5 : Hid (Sp _ _ _ _ _ _) := h5) | (go_at_call 13; refine (sp_steps h5.out).mono ?_; rintro e w6 ⟨rfl, hw'⟩; rw [hw']; clear hw' w6))
            go_roundw
            case rel => exact ⟨j + 1, sc + 1, by omega, by omega, by go_num, h5.out.unbox⟩
            case measure => simp [intOf]; omega
          have hv3' : (v == 3) = false := by simpa using hv3
          clear hv3
          by_cases hv4 : v = 4
          · subst hv4
            have hc := sp_read h3.out (k : Int) a
            have h5 : Hid (Sp _ _ _ _ _ _) := h3.out.more
            go_wp2_with (first | (go_at_call 22; refine hc.mono ?_; rintro e w5 ⟨t', E, rfl, hw'⟩; rw [hw']; clear hw' w5 hc) | (go_at_call 13; refine (sp_steps h5.out).mono ?_; rintro e w6 ⟨rfl, hw'⟩; rw [hw']; clear hw' w6))
            go_roundw
            case rel => exact ⟨j + 1, sc, by omega, by omega, by go_num, h5.out.unbox⟩
            case measure => simp [intOf]; omega
          have hv4' : (v == 4) = false := by simpa using hv4
          clear hv4
          by_cases hv5 : v = 5
          · subst hv5
            have hc := sp_lists ((firm_blk _ _ _).star firm_nought) h3.out d (k : Int) a t kb km kc x L HL.out
            go_wp2_with (first | (go_at_call 24; refine hc.mono ?_; rintro e w4 ⟨vl, rfl, h4⟩; clear h3 hc; have h4 : Hid (Sp _ _ _ _ _ _) := h4; have hcr := sp_crash ((firm_blk _ _ _).star firm_nought) h4.out (lists_ok HL.out) (by omega) (by omega)) | (go_at_call 23; refine hcr.mono ?_; rintro e w5 ⟨rfl, h5⟩; clear h4 hcr; have h5 : Hid (Sp _ _ _ _ _ _) := h5) | (go_at_call 13; refine (sp_steps h5.out).mono ?_; rintro e w6 ⟨rfl, hw'⟩; rw [hw']; clear hw' w6))
            go_roundw
            case rel => exact ⟨j + 1, sc, by omega, by omega, by go_num, h5.out.unbox⟩
            case measure => simp [intOf]; omega
          have hv5' : (v == 5) = false := by simpa using hv5
          clear hv5
          by_cases hv6 : v = 6
          · subst hv6
            have hc := sp_diskIn ((firm_blk _ _ _).star firm_nought) h3.out (by omega) k hk
            go_wp2_with (first | (go_at_call 14; refine hc.mono ?_; rintro e w4 ⟨gx, rfl, hw', hfl, -⟩; rw [hw']; clear hw' w4 hc) | (go_at_call 25; refine hfl.out.mono ?_; rintro e w5 ⟨E, rfl, h5⟩; clear h3 hfl; have h5 : Hid (Sp _ _ _ _ _ _) := h5) | (go_at_call 13; refine (sp_steps h5.out).mono ?_; rintro e w6 ⟨rfl, hw'⟩; rw [hw']; clear hw' w6))
            go_roundw
            case rel => exact ⟨j + 1, sc, by omega, by omega, by go_num, h5.out.unbox⟩
            case measure => simp [intOf]; omega
          have hv6' : (v == 6) = false := by simpa using hv6
          clear hv6
          have h4 : Hid (Sp _ _ _ _ _ _) := Sp.below ((firm_blk _ _ _).star firm_nought) h3.out (Below.refl _ _).drew
          have hS : Hid (∀ z, Blk z bx 34 [.int .i64 d, .int .i64 (k : Int), .int .i64 a, .string t, .slice kb km kc, .bool x] → (fun z : World => z.cell? ⟨bx, 1, none⟩ = some (.int .i64 (k : Int)) ∧ z.cell? ⟨bx, 2, none⟩ = some (.int .i64 a) ∧ z.cell? ⟨bx, 3, none⟩ = some (.string t)) z) := fun z hz => ⟨hz.cell rfl, hz.cell rfl, hz.cell rfl⟩
          go_wp2_with fail
          refine wp_region_noPanic ?_
          refine wp_region_held_drew (S := fun z : World => z.cell? ⟨bx, 1, none⟩ = some (.int .i64 (k : Int)) ∧ z.cell? ⟨bx, 2, none⟩ = some (.int .i64 a) ∧ z.cell? ⟨bx, 3, none⟩ = some (.string t)) (by kernel_rfl) (hS.out _ h4.out.blk) (fun hHeld => ?_)
          refine wpAnyH_take (i := 0) (v := ?_) rfl (by kernel_rfl) (by kernel_rfl) (by kernel_rfl) (fun _ _ _ h => h) (Or.inl ⟨by rfl, ?_⟩) (by assumption) ?_
          rotate_left
          · intro w hSw; go_simp; try with_reducible rfl
          go_simp
          refine wpAnyH_take (i := 1) (v := ?_) rfl (by kernel_rfl) (by kernel_rfl) (by kernel_rfl) (fun _ _ _ h => h) (Or.inl ⟨by rfl, ?_⟩) (by assumption) ?_
          rotate_left
          · intro w hSw; go_simp; try with_reducible rfl
          go_simp
          refine wpAnyH_take (i := 2) (v := ?_) rfl (by kernel_rfl) (by kernel_rfl) (by kernel_rfl) (fun _ _ _ h => h) (Or.inl ⟨by rfl, ?_⟩) (by assumption) ?_
          rotate_left
          · intro w hSw; go_simp; try with_reducible rfl
          go_simp
          refine wpAnyH_take (i := 4) (v := ?_) rfl (by kernel_rfl) (by kernel_rfl) (by kernel_rfl) (fun _ _ _ h => h) (Or.inl ⟨by rfl, ?_⟩) (by assumption) ?_
          rotate_left
          · intro w hSw; go_simp; try with_reducible rfl
          go_simp
          refine wpAnyH_take (i := 5) (v := ?_) rfl (by kernel_rfl) (by kernel_rfl) (by kernel_rfl) (fun _ _ _ h => h) (Or.inl ⟨by rfl, ?_⟩) (by assumption) ?_
          rotate_left
          · intro w hSw; go_simp; try with_reducible rfl
          go_simp
          refine wpAnyH_take (i := 6) (v := ?_) rfl (by kernel_rfl) (by kernel_rfl) (by kernel_rfl) (fun _ _ _ h => h) (Or.inl ⟨by rfl, ?_⟩) (by assumption) ?_
          rotate_left
          · intro w hSw; go_simp; try with_reducible rfl
          go_simp
          refine wpAnyH_take (i := 7) (v := ?_) rfl (by kernel_rfl) (by kernel_rfl) (by kernel_rfl) (fun _ _ _ h => h) (Or.inl ⟨by rfl, ?_⟩) (by assumption) ?_
          rotate_left
          · intro w hSw; go_simp; try with_reducible rfl
          go_simp
          refine wpAnyH_ready (rs := [3]) (by kernel_rfl) (by simp) (AllReadyH.cons rfl (fun K hK => ?_) AllReadyH.nil)
          go_simp
          go_at_call 14
          refine (sp_diskIn ((firm_blk _ _ _).star firm_nought) h4.out (by omega) k hk).mono ?_
          rintro e w4 ⟨gx, rfl, hw', -, hta⟩
          rw [hw']
          clear hw' w4
          refine hK.out _ _ (hS.out _ h4.out.blk) (fun hHeld => ?_)
          clear hK K
          refine wpAnyH_ready (rs := [8]) (by kernel_rfl) (by simp) (AllReadyH.cons rfl (fun K hK => ?_) AllReadyH.nil)
          go_simp
          go_at_call 26
          refine (hta.out _ _).mono ?_
          rintro e w5 ⟨E, rfl, h5⟩
          clear h3 h4 hta
          have h5 : Hid (Sp _ _ _ _ _ _) := h5
          refine hK.out _ _ (hS.out _ h5.out.blk) (fun hHeld => ?_)
          clear hK K
          refine wpAnyH_done (by kernel_rfl) ?_ _
          refine NoPanic.normal ?_
          go_wp2_with (go_at_call 13; refine (sp_steps h5.out).mono ?_; rintro e w6 ⟨rfl, hw'⟩; rw [hw']; clear hw' w6)
          go_roundw
          case rel => exact ⟨j + 1, sc, by omega, by omega, by go_num, h5.out.unbox⟩
          case measure => simp [intOf]; omega
        · have HO : Hid (Out 3 i) := .inr (by omega)
          have hi0' : decide (0 ≤ i) = true := decide_eq_true (by omega)
          have hi3' : decide (i < 3) = false := decide_eq_false hi3
          clear hi0 hi3
          have hb1 : Hid (Sp _ _ _ _ _ _) := Sp.box hrr.out 34 #[.int .i64 d, .int .i64 i, .int .i64 a, .string s, .slice kb km kc, .bool x]
          obtain ⟨bx, hbxe⟩ : ∃ bx, wr.heap.size = bx := ⟨_, rfl⟩
          clear hrr
          go_wp2_with fail
          try rw [hbxe] at hb1
          try rw [hbxe]
          clear c0 c1 c2 c3 c4 c5
          generalize wr.alloc (.cells #[.int .i64 d, .int .i64 i, .int .i64 a, .string s, .slice kb km kc, .bool x] 34) = wb at hb1 ⊢
          have c1 := hb1.out.blk.cell (i := 1) rfl
          have hst : ∀ n, Calls Try.prog 13 #[.pointer (some ⟨g, 0, none⟩)] (wb.drewN n) fun e w' => e = .returned (.int .i64 (sc : Int)) ∧ w' = wb.drewN n := fun n => sp_steps (hb1.out.drewN ((firm_blk _ _ _).star firm_nought) n)
          go_quiet ((go_at_call 13; exact Calls.quiet_of_same (hst _)))
          have hb2 : Hid (Sp _ _ _ _ _ _) := hb1.out.drewN ((firm_blk _ _ _).star firm_nought) nq
          clear c1 hst hb1
          generalize wb.drewN nq = wc at hb2 ⊢
          have c0 := hb2.out.blk.cell (i := 0) rfl
          have c1 := hb2.out.blk.cell (i := 1) rfl
          have c2 := hb2.out.blk.cell (i := 2) rfl
          have c3 := hb2.out.blk.cell (i := 3) rfl
          have f3 := hb2.out.blk.frozen 3
          have h3 : Hid (Sp _ _ _ _ _ _) := hb2.out.set 3 (.string t)
          clear hb2
          have e0 := h3.out.blk.cell (i := 0) rfl
          have e1 := h3.out.blk.cell (i := 1) rfl
          have e2 := h3.out.blk.cell (i := 2) rfl
          have e3 := h3.out.blk.cell (i := 3) rfl
          have e4 := h3.out.blk.cell (i := 4) rfl
          have e5 := h3.out.blk.cell (i := 5) rfl
          by_cases hv0 : v = 0
          · subst hv0
            have hc := sp_write ((firm_blk _ _ _).star firm_nought) h3.out (by omega) (by omega) i a t
            rw [show stS 3 none i sc = sc from if_pos HO.out] at hc
            go_wp2_with (first | (go_at_call 21; refine (hc).mono ?_; rintro e w5 ⟨E, rfl, h5⟩; clear h3; clear hc; have h5 : Hid (Sp _ _ _ _ _ _) := h5) | (go_at_call 13; refine (sp_steps h5.out).mono ?_; rintro e w6 ⟨rfl, hw'⟩; rw [hw']; clear hw' w6))
            go_roundw
            case rel => exact ⟨j + 1, sc, by omega, by omega, by go_num, h5.out.unbox⟩
            case measure => simp [intOf]; omega
          have hv0' : (v == 0) = false := by simpa using hv0
          clear hv0
          by_cases hv1 : v = 1
          · subst hv1
            have hc := sp_write ((firm_blk _ _ _).star firm_nought) h3.out (by omega) (by omega) i a t
            rw [show stS 3 none i sc = sc from if_pos HO.out] at hc
            go_wp2_with (first | (go_at_call 21; refine (hc).mono ?_; rintro e w5 ⟨E, rfl, h5⟩; clear h3; clear hc; have h5 : Hid (Sp _ _ _ _ _ _) := h5) | (go_at_call 13; refine (sp_steps h5.out).mono ?_; rintro e w6 ⟨rfl, hw'⟩; rw [hw']; clear hw' w6))
            go_roundw
            case rel => exact ⟨j + 1, sc, by omega, by omega, by go_num, h5.out.unbox⟩
            case measure => simp [intOf]; omega
          have hv1' : (v == 1) = false := by simpa using hv1
          clear hv1
          by_cases hv2 : v = 2
          · subst hv2
            have hc := sp_flush ((firm_blk _ _ _).star firm_nought) h3.out (by omega) i
            rw [show stS 3 none i sc = sc from if_pos HO.out] at hc
            go_wp2_with (first | (go_at_call 20; refine (hc).mono ?_; rintro e w5 ⟨E, rfl, h5⟩; clear h3; clear hc; have h5 : Hid (Sp _ _ _ _ _ _) := h5) | (go_at_call 13; refine (sp_steps h5.out).mono ?_; rintro e w6 ⟨rfl, hw'⟩; rw [hw']; clear hw' w6))
            go_roundw
            case rel => exact ⟨j + 1, sc, by omega, by omega, by go_num, h5.out.unbox⟩
            case measure => simp [intOf]; omega
          have hv2' : (v == 2) = false := by simpa using hv2
          clear hv2
          by_cases hv3 : v = 3
          · subst hv3
            have hc := sp_spend ((firm_blk _ _ _).star firm_nought) h3.out (by omega)
            go_wp2_with (first | (go_at_call 19; refine (hc).mono ?_; rintro e w5 ⟨E, rfl, h5⟩; clear h3; clear hc; have h5 : Hid (Sp _ _ _ _ _ _) := h5) | (go_at_call 13; refine (sp_steps h5.out).mono ?_; rintro e w6 ⟨rfl, hw'⟩; rw [hw']; clear hw' w6))
            go_roundw
            case rel => exact ⟨j + 1, sc + 1, by omega, by omega, by go_num, h5.out.unbox⟩
            case measure => simp [intOf]; omega
          have hv3' : (v == 3) = false := by simpa using hv3
          clear hv3
          by_cases hv4 : v = 4
          · subst hv4
            have hc := sp_read h3.out i a
            have h5 : Hid (Sp _ _ _ _ _ _) := h3.out.more
            go_wp2_with (first | (go_at_call 22; refine hc.mono ?_; rintro e w5 ⟨t', E, rfl, hw'⟩; rw [hw']; clear hw' w5 hc) | (go_at_call 13; refine (sp_steps h5.out).mono ?_; rintro e w6 ⟨rfl, hw'⟩; rw [hw']; clear hw' w6))
            go_roundw
            case rel => exact ⟨j + 1, sc, by omega, by omega, by go_num, h5.out.unbox⟩
            case measure => simp [intOf]; omega
          have hv4' : (v == 4) = false := by simpa using hv4
          clear hv4
          by_cases hv5 : v = 5
          · subst hv5
            have hc := sp_lists ((firm_blk _ _ _).star firm_nought) h3.out d i a t kb km kc x L HL.out
            go_wp2_with (first | (go_at_call 24; refine hc.mono ?_; rintro e w4 ⟨vl, rfl, h4⟩; clear h3 hc; have h4 : Hid (Sp _ _ _ _ _ _) := h4; have hcr := sp_crash ((firm_blk _ _ _).star firm_nought) h4.out (lists_ok HL.out) (by omega) (by omega)) | (go_at_call 23; refine hcr.mono ?_; rintro e w5 ⟨rfl, h5⟩; clear h4 hcr; have h5 : Hid (Sp _ _ _ _ _ _) := h5) | (go_at_call 13; refine (sp_steps h5.out).mono ?_; rintro e w6 ⟨rfl, hw'⟩; rw [hw']; clear hw' w6))
            go_roundw
            case rel => exact ⟨j + 1, sc, by omega, by omega, by go_num, h5.out.unbox⟩
            case measure => simp [intOf]; omega
          have hv5' : (v == 5) = false := by simpa using hv5
          clear hv5
          by_cases hv6 : v = 6
          · subst hv6
            have hc := sp_diskOut h3.out i HO.out
            have h5 : Hid (Sp _ _ _ _ _ _) := h3.out.more
            go_wp2_with (first | (go_at_call 14; refine hc.mono ?_; rintro e w4 ⟨rfl, hw'⟩; rw [hw']; clear hw' w4 hc) | (go_at_call 25; refine (flush_nil _).mono ?_; rintro e w5 ⟨rfl, hw'⟩; rw [hw']; clear hw' w5) | (go_at_call 13; refine (sp_steps h5.out).mono ?_; rintro e w6 ⟨rfl, hw'⟩; rw [hw']; clear hw' w6))
            go_roundw
            case rel => exact ⟨j + 1, sc, by omega, by omega, by go_num, h5.out.unbox⟩
            case measure => simp [intOf]; omega
          have hv6' : (v == 6) = false := by simpa using hv6
          clear hv6
          have h4 : Hid (Sp _ _ _ _ _ _) := Sp.below ((firm_blk _ _ _).star firm_nought) h3.out (Below.refl _ _).drew
          have hS : Hid (∀ z, Blk z bx 34 [.int .i64 d, .int .i64 i, .int .i64 a, .string t, .slice kb km kc, .bool x] → (fun z : World => z.cell? ⟨bx, 1, none⟩ = some (.int .i64 i) ∧ z.cell? ⟨bx, 2, none⟩ = some (.int .i64 a) ∧ z.cell? ⟨bx, 3, none⟩ = some (.string t)) z) := fun z hz => ⟨hz.cell rfl, hz.cell rfl, hz.cell rfl⟩
          go_wp2_with fail
          refine wp_region_noPanic ?_
          refine wp_region_held_drew (S := fun z : World => z.cell? ⟨bx, 1, none⟩ = some (.int .i64 i) ∧ z.cell? ⟨bx, 2, none⟩ = some (.int .i64 a) ∧ z.cell? ⟨bx, 3, none⟩ = some (.string t)) (by kernel_rfl) (hS.out _ h4.out.blk) (fun hHeld => ?_)
          refine wpAnyH_take (i := 0) (v := ?_) rfl (by kernel_rfl) (by kernel_rfl) (by kernel_rfl) (fun _ _ _ h => h) (Or.inl ⟨by rfl, ?_⟩) (by assumption) ?_
          rotate_left
          · intro w hSw; go_simp; try with_reducible rfl
          go_simp
          refine wpAnyH_take (i := 1) (v := ?_) rfl (by kernel_rfl) (by kernel_rfl) (by kernel_rfl) (fun _ _ _ h => h) (Or.inl ⟨by rfl, ?_⟩) (by assumption) ?_
          rotate_left
          · intro w hSw; go_simp; try with_reducible rfl
          go_simp
          refine wpAnyH_take (i := 2) (v := ?_) rfl (by kernel_rfl) (by kernel_rfl) (by kernel_rfl) (fun _ _ _ h => h) (Or.inl ⟨by rfl, ?_⟩) (by assumption) ?_
          rotate_left
          · intro w hSw; go_simp; try with_reducible rfl
          go_simp
          refine wpAnyH_take (i := 4) (v := ?_) rfl (by kernel_rfl) (by kernel_rfl) (by kernel_rfl) (fun _ _ _ h => h) (Or.inl ⟨by rfl, ?_⟩) (by assumption) ?_
          rotate_left
          · intro w hSw; go_simp; try with_reducible rfl
          go_simp
          refine wpAnyH_take (i := 5) (v := ?_) rfl (by kernel_rfl) (by kernel_rfl) (by kernel_rfl) (fun _ _ _ h => h) (Or.inl ⟨by rfl, ?_⟩) (by assumption) ?_
          rotate_left
          · intro w hSw; go_simp; try with_reducible rfl
          go_simp
          refine wpAnyH_take (i := 6) (v := ?_) rfl (by kernel_rfl) (by kernel_rfl) (by kernel_rfl) (fun _ _ _ h => h) (Or.inl ⟨by rfl, ?_⟩) (by assumption) ?_
          rotate_left
          · intro w hSw; go_simp; try with_reducible rfl
          go_simp
          refine wpAnyH_take (i := 7) (v := ?_) rfl (by kernel_rfl) (by kernel_rfl) (by kernel_rfl) (fun _ _ _ h => h) (Or.inl ⟨by rfl, ?_⟩) (by assumption) ?_
          rotate_left
          · intro w hSw; go_simp; try with_reducible rfl
          go_simp
          refine wpAnyH_ready (rs := [3]) (by kernel_rfl) (by simp) (AllReadyH.cons rfl (fun K hK => ?_) AllReadyH.nil)
          go_simp
          go_at_call 14
          refine (sp_diskOut h4.out i HO.out).mono ?_
          rintro e w4 ⟨rfl, hw'⟩
          rw [hw']
          clear hw' w4
          refine hK.out _ _ (hS.out _ h4.out.blk) (fun hHeld => ?_)
          clear hK K
          refine wpAnyH_ready (rs := [8]) (by kernel_rfl) (by simp) (AllReadyH.cons rfl (fun K hK => ?_) AllReadyH.nil)
          go_simp
          go_at_call 26
          refine (tamper_nil _ _ _).mono ?_
          rintro e w5 ⟨rfl, hb5⟩
          have h5 : Hid (Sp _ _ _ _ _ _) := (Sp.below ((firm_blk _ _ _).star firm_nought) h4.out hb5).more
          clear h3 h4 hb5
          refine hK.out _ _ (hS.out _ h5.out.blk) (fun hHeld => ?_)
          clear hK K
          refine wpAnyH_done (by kernel_rfl) ?_ _
          refine NoPanic.normal ?_
          go_wp2_with (go_at_call 13; refine (sp_steps h5.out).mono ?_; rintro e w6 ⟨rfl, hw'⟩; rw [hw']; clear hw' w6)
          go_roundw
          case rel => exact ⟨j + 1, sc, by omega, by omega, by go_num, h5.out.unbox⟩
          case measure => simp [intOf]; omega
    · have hj' : ¬ (j : Int) < (C : Int) := by omega
      obtain rfl : j = C := by omega
      go_wp2_with (go_at_call 10; refine (bwakes_any _).mono ?_; rintro e w2 ⟨rfl, hb2⟩; have h2 : Hid (Sp _ _ _ _ _ _) := Sp.below firm_nought hrr.out hb2; clear hrr hb2)
      go_ret
      exact ⟨rfl, h2.out.low⟩
end Go.Proofs.Ytfepmafjkgjmmaa
