/- The digest of a text, as the document makes it. -/
import Derived.Test.YtegebaomhbogmaaDoorPad
import Derived.Test.YtegebaomhbogmaaDoorWrite
namespace Go.Proofs.YtegebaomhbogmaaDoor
open Go.RowKit Go.PlainAid
set_option linter.unusedVariables false

set_option maxRecDepth 20000 in
theorem RTabs.range {w : World} (h : RTabs w) : w.rangeAt 0 0 (ws 8 ini) := fun j v hv => by
  have hj : j < 8 := by
    rcases Nat.lt_or_ge j 8 with h | h
    · exact h
    · rw [List.getElem?_eq_none (by rw [ws_length]; exact h)] at hv; cases hv
  rw [ws_at 8 ini j hj] at hv
  cases hv
  rw [Nat.zero_add]
  exact h.2 j hj

set_option maxHeartbeats 2000000 in
set_option maxRecDepth 20000 in
theorem refSum_any (s : ByteArray) (hs : s.size ≤ 140737488354000) (w : World) (ht : RTabs w) :
    Calls Tryd.prog 37 #[.string s] w fun e w' => e = .returned (.string (digest s)) ∧ Below w.heap.size w w' := by
  have h1g := ht.lt
  have hzr := zero95_run
  obtain ⟨Z, hZ⟩ : ∃ Z, ws 8 (fun _ => 0) = Z := ⟨_, rfl⟩
  rw [hZ] at hzr
  have hZs : Z.length = 8 := by rw [← hZ, ws_length]
  clear hZ
  go_enter Tryd.func37, Tryd.ntmps37
  go_wp2_with fail
  refine (padded_any s hs w).mono ?_
  rintro e w1 ⟨rfl, hb1⟩
  have ht1 := ht.below hb1 h1g
  obtain ⟨P, hP⟩ : ∃ P, padB s = P := ⟨_, rfl⟩
  have hPw := padB_whole s
  have hPs : P.size ≤ 140737488354100 := by
    rw [← hP, padB_size, endB_size]; unfold zs; omega
  rw [hP] at hPw ⊢
  have HD : Hid (digest s = textB (hst P (P.size / 64))) := by rw [← hP]; exact rfl
  clear hP ht
  obtain ⟨M, hM⟩ : ∃ M, P.size = 64 * M := ⟨P.size / 64, by omega⟩
  have HM : Hid (P.size = 64 * M) := hM
  have hM1 : 64 * M ≤ P.size := by omega
  have hM2 : P.size ≤ 64 * M := by omega
  have hrg := ht1.range
  have hN : Blk (w1.alloc (.cells Z.toArray 95)) w1.heap.size 95 Z := by
    have := Blk.new w1 95 Z.toArray
    simpa using this
  have hI : Blk ((w1.alloc (.cells Z.toArray 95)).setRow w1.heap.size (ws 8 ini).toArray) w1.heap.size 95 (ws 8 ini) := hN.setRow
  have hb2 : Below w.heap.size w ((w1.alloc (.cells Z.toArray 95)).setRow w1.heap.size (ws 8 ini).toArray) := below_setRow (hb1.alloc hb1.size _) hb1.size _
  have hbt : Below w1.heap.size w1 ((w1.alloc (.cells Z.toArray 95)).setRow w1.heap.size (ws 8 ini).toArray) := below_setRow ((Below.refl _ _).alloc (Nat.le_refl _) _) (Nat.le_refl _) _
  have ht2 := ht1.below hbt ht1.lt
  have hgw := hb1.size
  clear hPw hM hbt ht1
  go_wp2_with (first | (refine wpList_load_mid rfl 95 _ rfl 0 0 rfl (ws 8 ini) _ hrg Tryd.underlying95 rfl (by rw [Tryd.size95, ws_length]) ?_) | (refine wpList_store_blk rfl 95 _ _ rfl w1.heap.size Z (ws 8 ini) rfl rfl 95 hN (by rw [Tryd.size95, ws_length]) (by rw [hZs, ws_length]) (ws_one _ _) ?_))
  generalize (w1.alloc (.cells Z.toArray 95)).setRow w1.heap.size (ws 8 ini).toArray = w2 at hI hb2 ht2 ⊢
  obtain ⟨g, hgd⟩ : ∃ g, w1.heap.size = g := ⟨_, rfl⟩
  rw [hgd] at hI hgw ⊢
  clear hgd hN hrg hzr hZs hb1
  have hgl := hI.lt
  go_loopw [5] (fun i wr => ∃ k : Nat, k ≤ M ∧ i = .int .i64 (64 * (k : Int)) ∧ Blk wr g 95 (ws 8 (hst P k)) ∧ RTabs wr ∧ Below w.heap.size w wr) (fun i _ => (64 * (M : Int) - intOf i).toNat)
  case atStart => exact ⟨0, by omega, rfl, hI, ht2, hb2⟩
  case round =>
    clear hI ht2 hb2 hgl
    obtain ⟨k, hk, rfl, hB, ht, hb⟩ := hrel
    by_cases hlt : k < M
    · have hltI : 64 * (k : Int) < (P.size : Int) := by omega
      have hkI : (0 : Int) ≤ 64 * (k : Int) := by omega
      have hkI2 : 64 * (k : Int) + 64 ≤ (P.size : Int) := by omega
      have hkI3 : 64 * (k : Int) ≤ 64 * (k : Int) + 64 := by omega
      have t0 : (64 * (k : Int)).toNat = 64 * k := by omega
      have t1 : (64 * (k : Int) + 64).toNat = 64 * k + 64 := by omega
      have z1 : IntKind.i64.wrap (64 * (k : Int) + 64) = 64 * (k : Int) + 64 := IntWalk.i64_in _ ⟨by omega, by omega⟩
      obtain ⟨q, hq⟩ : ∃ q, P.extract (64 * k) (64 * k + 64) = q := ⟨_, rfl⟩
      have hqs : q.size = 64 := by rw [← hq, ByteArray.size_extract]; omega
      have hcp : cpr (hst P k) (wordsL be4 q) = hst P (k + 1) := by
        rw [hst]
        apply cpr_congr
        intro i hi
        unfold blk wordsL
        rw [← hq, show (16 * k + i) * 4 = 64 * k + i * 4 by omega]
        simp only [Nat.add_assoc]
        rw [bt_cut P _ _ _ (by omega) (by omega), bt_cut P _ _ _ (by omega) (by omega), bt_cut P _ _ _ (by omega) (by omega), bt_cut P _ _ _ (by omega) (by omega)]
      have hcall := block_any (hst P k) (hst_ok P k) q hqs wr.drew ht
      rw [hcp] at hcall
      have hrng : wr.drew.rangeAt g 0 (ws 8 (hst P k)) := hB.drew.range fun j v hv => by rw [Nat.zero_add]; exact hv
      have hfin : ∀ w4, Below wr.drew.heap.size wr.drew w4 → Blk w4 g 95 (ws 8 (hst P k)) ∧ Blk (w4.setRow g (ws 8 (hst P (k + 1))).toArray) g 95 (ws 8 (hst P (k + 1))) ∧ RTabs (w4.setRow g (ws 8 (hst P (k + 1))).toArray) ∧ Below w.heap.size w (w4.setRow g (ws 8 (hst P (k + 1))).toArray) := by
        intro w4 hb4
        have hB4 := hB.drew.below hb4 hB.drew.lt
        have ht4 : RTabs w4 := RTabs.below (w := wr.drew) ht hb4 (RTabs.lt (w := wr.drew) ht)
        have hb5 : Below w.heap.size w w4 := hb.drew.trans (hb4.mono hb.drew.size)
        have h2 : Below 2 w4 (w4.setRow g (ws 8 (hst P (k + 1))).toArray) := below_setRow (Below.refl _ _) (by omega) _
        exact ⟨hB4, hB4.setRow, ht4.below h2 (by omega), below_setRow hb5 hgw _⟩
      clear hcp hB ht hb
      obtain ⟨H0, hH0⟩ : ∃ H0, ws 8 (hst P k) = H0 := ⟨_, rfl⟩
      obtain ⟨H1, hH1⟩ : ∃ H1, ws 8 (hst P (k + 1)) = H1 := ⟨_, rfl⟩
      have l0 : H0.length = 8 := by rw [← hH0, ws_length]
      have l1 : H1.length = 8 := by rw [← hH1, ws_length]
      have o1 : ∀ v ∈ H1, v.oneCell' = true := by rw [← hH1]; exact ws_one _ _
      rw [hH0] at hcall hrng hfin
      rw [hH1] at hcall hfin
      have HH1 : Hid (ws 8 (hst P (k + 1)) = H1) := hH1
      clear hH0 hH1
      go_wp2_with fail
      refine wp_region_noPanic ?_
      refine wp_region_held_drew (S := fun _ => True) (by kernel_rfl) trivial (fun hHeld => ?_)
      refine wpAnyH_take (i := 1) (v := ?_) rfl (by kernel_rfl) (by kernel_rfl) (by kernel_rfl) (fun _ _ _ h => h) (Or.inl ⟨by rfl, ?_⟩) (by assumption) ?_
      rotate_left
      · intro w hSw; go_simp; try with_reducible rfl
      go_simp
      refine wpAnyH_take (i := 2) (v := ?_) rfl (by kernel_rfl) (by kernel_rfl) (by kernel_rfl) (fun _ _ _ h => h) (Or.inl ⟨by rfl, ?_⟩) (by assumption) ?_
      rotate_left
      · intro w hSw; go_simp; try with_reducible rfl
      go_simp
      refine wpAnyH_take (i := 3) (v := ?_) rfl (by kernel_rfl) (by kernel_rfl) (by kernel_rfl) (fun _ _ _ h => h) (Or.inl ⟨by rfl, ?_⟩) (by assumption) ?_
      rotate_left
      · intro w hSw; go_simp; try with_reducible rfl
      go_simp
      refine wpAnyH_take (i := 4) (v := ?_) rfl (by kernel_rfl) (by kernel_rfl) (by kernel_rfl) (fun _ _ _ h => h) (Or.inl ⟨by rfl, ?_⟩) (by assumption) ?_
      rotate_left
      · intro w hSw; go_simp; try with_reducible rfl
      go_simp
      refine wpAnyH_take (i := 5) (v := ?_) rfl (by kernel_rfl) (by kernel_rfl) (by kernel_rfl) (fun _ _ _ h => h) (Or.inl ⟨by rfl, ?_⟩) (by assumption) ?_
      rotate_left
      · intro w hSw; go_simp; try with_reducible rfl
      go_simp
      refine wpAnyH_ready (rs := [0]) (by kernel_rfl) (by simp) (AllReadyH.cons rfl (fun K hK => ?_) AllReadyH.nil)
      refine step_load_mid rfl 95 _ rfl g 0 rfl H0 _ hrng Tryd.underlying95 rfl (by rw [Tryd.size95, l0]) ?_
      refine hK.out _ _ trivial (fun hHeld => ?_)
      clear hK K
      go_simp
      refine wpAnyH_ready (rs := [6]) (by kernel_rfl) (by simp) (AllReadyH.cons rfl (fun K hK => ?_) AllReadyH.nil)
      go_simp
      go_at_call 46
      refine hcall.mono ?_
      rintro e w4 ⟨rfl, hb4⟩
      obtain ⟨hB4, hB5, ht5, hb5⟩ := hfin w4 hb4
      refine hK.out _ _ trivial (fun hHeld => ?_)
      clear hK K
      refine wpAnyH_ready (rs := [7]) (by kernel_rfl) (by simp) (AllReadyH.cons rfl (fun K hK => ?_) AllReadyH.nil)
      refine step_store_blk rfl 95 _ _ rfl g H0 H1 rfl rfl 95 hB4 (by rw [Tryd.size95, l1]) (by rw [l0, l1]) o1 ?_
      refine hK.out _ _ trivial (fun hHeld => ?_)
      clear hK K
      go_simp
      refine wpAnyH_done (by kernel_rfl) ?_ _
      refine NoPanic.normal ?_
      clear hcall hrng hfin hB4 hb4
      generalize w4.setRow g H1.toArray = w5 at hB5 ht5 hb5 ⊢
      go_wp2_with fail
      go_roundw
      case rel => exact ⟨k + 1, by omega, by go_num, by rw [HH1.out]; exact hB5, ht5, hb5⟩
      case measure => simp [intOf]; omega
    · have hkM : k = M := by omega
      have hgeI : ¬ (64 * (k : Int) < (P.size : Int)) := by omega
      obtain ⟨i0, hi, hz0, hz1, hz2⟩ := info_parts Tryd.info73
      obtain ⟨H, hH⟩ : ∃ H, hst P k = H := ⟨_, rfl⟩
      have hHo : Ok H := by rw [← hH]; exact hst_ok P k
      rw [hH] at hB
      have HH : Hid (digest s = textB H) := by
        rw [HD.out, ← hH, hkM, HM.out, Nat.mul_div_cancel_left M (by omega)]; exact rfl
      have HKM : Hid (k = M) := hkM
      clear hH hkM ht
      go_wp2_with fail
      go_loopw [6, 7] (fun v i wz => ∃ q : Nat, q ≤ 8 ∧ i = .int .i64 q ∧ wz.ownsRow wr.heap.size 73 1 v q (ws q H) ∧ Blk wz g 95 (ws 8 H) ∧ Below wr.heap.size wr wz) (fun _ i _ => (8 - intOf i).toNat)
      case atStart => exact ⟨0, by omega, rfl, World.ownsRow_nil _ _ _ _, hB, Below.refl _ _⟩
      case round =>
        have hgr := hB.lt
        clear hB
        rename World => wz
        obtain ⟨q, hq, rfl, hown, hB, hbz⟩ := hrel
        by_cases hlt2 : q < 8
        · have hq' : (q : Int) < 8 := by omega
          have cq := hB.cell (ws_at 8 H q hlt2)
          go_wp2_with (at_builtin; refine wpList_append_own _ rfl _ _ 75 rfl wr.heap.size 73 i0 (.int .u32 0) 1 4 Tryd.underlying75 hi hz0 hz1 hz2 rfl (by decide) _ _ _ rfl (hown.alloc _) ⟨wz.heap.size, 0, none⟩ 1 1 [.int .u32 (H q)] rfl rfl ?c1 ?c2 ?c3 ?c4 ?c5 ?_)
          case c1 =>
            intro j u hj
            match j, hj with
            | 0, hj => simp at hj; subst hj; simp only [Addr.add]; exact (Blk.new wz 73 #[.int .u32 (H q)]).cell rfl
          case c2 => intro u hu; simp at hu; subst hu; rfl
          case c3 => unfold maxLen; omega
          case c4 => omega
          case c5 => have := hbz.size; simp; omega
          · intro v' w6 hown' hgrow _
            have hb6 : Below wr.heap.size wr w6 := by
              refine Below.grown (hbz.alloc hbz.size _) hgrow ?_ ?_
              · have := hbz.size; simp; omega
              · intro x hx; exact (hown.lt x hx).1
            have hB6 : Blk w6 g 95 (ws 8 H) := by
              have h1 := hB.alloc (.cells #[.int .u32 (H q)] 73)
              have hl1 := h1.lt
              unfold Blk at h1 ⊢
              rw [hgrow.block g hl1 (fun e => by have := (hown.lt g e.symm).1; omega)]; exact h1
            have R : w6.ownsRow wr.heap.size 73 1 v' (q + 1) (ws (q + 1) H) := by
              rw [show ws (q + 1) H = ws q H ++ [.int .u32 (H q)] by unfold ws; rw [List.range_succ, List.map_append]; rfl]
              exact hown'
            clear hown' hgrow hown hbz hB cq
            go_wp2_with fail
            go_roundw
            case rel => exact ⟨q + 1, by omega, by go_num, R, hB6, hb6⟩
            case measure => simp [intOf]; omega
        · have hq8 : q = 8 := by omega
          subst hq8
          obtain ⟨a, cap, rfl, hat⟩ := At_owns hown
          go_wp2_with (go_at_call 47; refine (refText_big _ cap 8 H _ (by omega) hat hHo).mono ?_; rintro e w7 ⟨rfl, hb7⟩)
          go_ret
          refine ⟨by rw [HH.out]; rfl, ?_⟩
          exact hb.trans ((hbz.trans (hb7.mono hbz.size)).mono hb.size)

set_option maxRecDepth 20000 in
theorem refKind_any (k : Nat) (hk : k < 256) (s : ByteArray) (hs : s.size ≤ 140737488353000) (w : World) (ht : RTabs w) :
    Calls Tryd.prog 25 #[.int .u8 (k : Int), .string s] w fun e w' => e = .returned (.string (digest (strOfNums [(k : Int)] ++ s))) ∧ Below w.heap.size w w' := by
  have hcv : (convert 51 9 (.slice (some ⟨w.heap.size, 0, none⟩) 1 1)).run Tryd.prog (w.alloc (.cells #[.int .u8 (k : Int)] 5)) = .ok (.string (strOfNums [(k : Int)])) (w.alloc (.cells #[.int .u8 (k : Int)] 5)) :=
    run_convert_bytes_arg (P := Tryd.prog) _ 51 5 Tryd.underlying51 Tryd.underlying5 w.heap.size 0 1 1 [(k : Int)] rfl (fun i hi => by
      obtain rfl : i = 0 := by omega
      exact (Blk.new w 5 #[.int .u8 (k : Int)]).cell rfl) 9 Tryd.underlying9
  have hb0 : Below w.heap.size w (w.alloc (.cells #[.int .u8 (k : Int)] 5)) := (Below.refl _ _).alloc (Nat.le_refl _) _
  have ht0 := ht.below hb0 ht.lt
  obtain ⟨B, hB⟩ : ∃ B, strOfNums [(k : Int)] = B := ⟨_, rfl⟩
  have hBs : B.size = 1 := by rw [← hB, strOfNums_size]; rfl
  rw [hB] at hcv ⊢
  have hBs1 : B.size ≤ 1 := by omega
  clear hB
  have hsum := refSum_any (B ++ s) (by rw [ByteArray.size_append]; omega) _ ht0
  clear hBs
  go_enter Tryd.func25, Tryd.ntmps25
  go_wp2_with (go_at_call 37; refine hsum.mono ?_; rintro e w1 ⟨rfl, hb1⟩)
  go_ret
  exact ⟨rfl, hb0.trans (hb1.mono hb0.size)⟩
end Go.Proofs.YtegebaomhbogmaaDoor
