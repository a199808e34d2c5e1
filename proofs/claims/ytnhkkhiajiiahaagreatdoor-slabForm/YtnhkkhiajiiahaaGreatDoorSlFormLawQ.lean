/- A slab that isn't good answers ErrForm. -/
import Derived.Test.YtnhkkhiajiiahaaGreatDoorSlSixQ
import Derived.Deep.DeepCutAuto
import Derived.BigQuiet
namespace Go.Proofs.YtnhkkhiajiiahaaGreatDoor
open Go.RowKit Go.PlainAid
set_option linter.unusedVariables false
set_option maxRecDepth 20000

theorem zeroSlab (w : World) : (zeroValue 41).run Tryz.prog w = .ok (.agg #[.pointer none, .int .i64 0, .int .i64 0, .string noB]) w := by
  obtain ⟨i0, hi, hz⟩ := Option.map_eq_some_iff.1 (show (Tryz.prog.info? 41).map (fun i => i.zero) = some (some (.agg #[.pointer none, .int .i64 0, .int .i64 0, .string noB])) by kernel_rfl)
  simp [zeroValue, typeInfo, hi, hz]
theorem range_of {w : World} {g : Nat} {T : TypeId} {L : List Value} (h : Blk w g T L) (o : Nat) (xs : List Value) (hx : ∀ j v, xs[j]? = some v → L[o + j]? = some v) : w.rangeAt g o xs := fun j v hv => h.cell (hx j v hv)
theorem live_new {D : Nat → Dk} (h : ∀ i, i < 2 → Fresh (D i) 140) {i : Nat} (hi : i < 2) : Liv 2 i ⟨D, 0, none⟩ (fun _ => noB) ∧ Few17 2 ⟨D, 0, none⟩ 100 :=
  ⟨⟨rfl, (h i hi).2.2.2, by show (D i).n = 140; rw [(h i hi).1]; exact newN140, (h i hi).2.2.1, (h i hi).2.1, fun _ => by show noB.size ≤ _; decide⟩, Nat.zero_le _, fun j hj => by show (D j).q.length ≤ 100; rw [(h j hj).2.2.1]; exact Nat.zero_le _⟩
set_option maxHeartbeats 4000000 in
theorem slabForm_law (n d : Int) (key : ByteArray) (W : World) (ht : Tabs W) (hr : RTabs W) : Calls Tryz.prog 7 #[.int .i64 n, .int .i64 d, .string key] W fun e w' => e = .returned (.bool true) ∧ Below W.heap.size W w' := by
  have hz := zeroSlab
  have HT : Hid (∀ z, Below W.heap.size W z → Tabs z) := fun z hz => ht.below hz ht.lt
  have HW : Hid (∀ z, Below W.heap.size W z → Calls Tryz.prog 10 #[] z fun e w' => e = .returned (.bool true) ∧ Below z.heap.size z w') := fun z hz => wakes17_any (ht.below hz ht.lt) (hr.below hz hr.lt)
  have hn1 : Hid (Calls _ _ _ _ _) := bnew_any firm_nought (hold_nought W.heap.size W W (Nat.le_refl _) (Below.refl _ _)) 2 140
  rw [newB2] at hn1
  have hzS : Hid ((Tryz.prog.info? 41).map (·.size) = some 4) := Tryz.size41
  obtain ⟨Z, hz1, hz2⟩ := zeros_at 32 (by omega)
  rw [show strOfNums (List.replicate 32 0) = zB 32 from rfl] at hz2
  have HZ : Hid ((∀ x : World, (Instr.makeSlice 35 (.int .i64 32) (.int .i64 32)).run Tryz.prog x = .ok (.slice (some ⟨x.heap.size, 0, none⟩) 32 32) (x.alloc (.cells Z 5 (0, 0)))) ∧ ∀ x : World, (convert 35 9 (.slice (some ⟨x.heap.size, 0, none⟩) 32 32)).run Tryz.prog (x.alloc (.cells Z 5 (0, 0))) = .ok (.string (zB 32)) (x.alloc (.cells Z 5 (0, 0)))) := ⟨hz1, hz2⟩
  clear ht hr hz1 hz2
  go_enter Tryz.func7, Tryz.ntmps7
  go_upto_region 2 with (go_at_call 24; refine hn1.out.mono ?_; rintro e w1 ⟨g, rfl, D, hD, h1⟩; have H1 : Hid (Hold W.heap.size W w1 (star (bnk g 2 D 0 none) nought)) := h1; have HD : Hid (∀ i, i < 2 → Fresh (D i) 140) := hD; clear h1 hD hn1)
  go_cut [8] (fun c wx => ∃ q : Bool, c = .bool q ∧ (q = true ↔ shpS n key ∧ ¬ Out 2 d) ∧ wx = w1)
  case first =>
    as_aux_lemma =>
      clear hz HT HW hzS HZ H1 HD
      rcases (by omega : n = 2 ∨ n = 4 ∨ n = 8 ∨ n = 16 ∨ (¬ n = 2 ∧ ¬ n = 4 ∧ ¬ n = 8 ∧ ¬ n = 16)) with rfl | rfl | rfl | rfl | ⟨n2, n4, n8, n16⟩
      case inr.inr.inr.inr =>
        go_wp2
        go_meet
        case rel => exact ⟨false, rfl, ⟨fun h => absurd h (by decide), fun h => by exfalso; have := h.1.1; omega⟩, rfl⟩
      all_goals
        rcases (by omega : d = 0 ∨ d = 1 ∨ (¬ d = 0 ∧ ¬ d = 1)) with rfl | rfl | ⟨d0, d1⟩
        case inr.inr =>
          go_wp2
          go_meet
          case rel => exact ⟨false, rfl, ⟨fun h => absurd h (by decide), fun h => by exfalso; have := h.2; unfold Out at this; omega⟩, rfl⟩
        all_goals
          by_cases hk : key.size = 32
          · go_wp2
            go_meet
            case rel => exact ⟨true, rfl, ⟨fun _ => ⟨⟨by decide, hk⟩, by unfold Out; omega⟩, fun _ => rfl⟩, rfl⟩
          · have hk' : ((key.size : Int) == 32) = false := by rw [beq_eq_false_iff_ne]; omega
            go_wp2
            go_meet
            case rel => exact ⟨false, rfl, ⟨fun h => absurd h (by decide), fun h => absurd h.1.2 hk⟩, rfl⟩
  case rest =>
    obtain ⟨q, rfl, hq, hw⟩ := hcut
    rw [hw]
    clear hw
    have HQ : Hid (q = true ↔ shpS n key ∧ ¬ Out 2 d) := hq
    clear hq
    have h3 := Hold.newBlk ((firm_bnk _ _ _ _ _).star firm_nought) H1.out 41 #[.pointer (some ⟨g, 0, none⟩), .int .i64 d, .int .i64 n, .string key, .pointer none, .int .i64 d, .int .i64 n, .string key]
    have H3 : Hid (Hold W.heap.size W (w1.alloc (.cells #[.pointer (some ⟨g, 0, none⟩), .int .i64 d, .int .i64 n, .string key, .pointer none, .int .i64 d, .int .i64 n, .string key] 41)) (star (bkA g 2 ⟨D, 0, none⟩) (star (blkA w1.heap.size 41 [.pointer (some ⟨g, 0, none⟩), .int .i64 d, .int .i64 n, .string key, .pointer none, .int .i64 d, .int .i64 n, .string key]) nought))) := Hold.swap h3
    clear h3 H1
    go_wp2
    generalize hw2 : w1.alloc (.cells #[.pointer (some ⟨g, 0, none⟩), .int .i64 d, .int .i64 n, .string key, .pointer none, .int .i64 d, .int .i64 n, .string key] 41) = w2 at *
    generalize hgs : w1.heap.size = gs at *
    clear hw2 hgs
    go_loopw [62] (fun i wr => ∃ k : Nat, k ≤ 2 ∧ i = .int .i64 (k : Int) ∧ Hid (Hold W.heap.size W wr (star (blkA gs 41 [.pointer (some ⟨g, 0, none⟩), .int .i64 d, .int .i64 n, .string key, .pointer none, .int .i64 d, .int .i64 n, .string key]) nought)) ∧ Hid (k = 0 → Hold W.heap.size W wr (star (bkA g 2 ⟨D, 0, none⟩) (star (blkA gs 41 [.pointer (some ⟨g, 0, none⟩), .int .i64 d, .int .i64 n, .string key, .pointer none, .int .i64 d, .int .i64 n, .string key]) nought)))) (fun i _ => 2 - (intOf i).toNat)
    case atStart => exact ⟨0, Nat.zero_le _, rfl, Hold.right H3.out, fun _ => H3.out⟩
    case round =>
      obtain ⟨k, hk, rfl, hh, hh0⟩ := hrel
      clear H3
      rcases (by omega : k = 0 ∨ k = 1 ∨ k = 2) with rfl | rfl | rfl
      · have HRG : Hid (wr.rangeAt gs 0 [.pointer (some ⟨g, 0, none⟩), .int .i64 d, .int .i64 n, .string key]) := range_of (Hold.blk hh.out) 0 _ (fun j v hv => by
          match j, hv with
          | 0, hv => exact hv
          | 1, hv => exact hv
          | 2, hv => exact hv
          | 3, hv => exact hv
          | j + 4, hv => simp at hv)
        have hb0 := hh0.out rfl
        cases q
        · obtain ⟨I, J, hI, SX⟩ : ∃ I J : World → Prop, Hid (I (wr.alloc (.cells #[.pointer (some ⟨g, 0, none⟩), .int .i64 d, .int .i64 n, .string key] 41))) ∧ Hid (Six W.heap.size W wr.heap.size (.pointer (some ⟨g, 0, none⟩)) d n key (star (blkA gs 41 [.pointer (some ⟨g, 0, none⟩), .int .i64 d, .int .i64 n, .string key, .pointer none, .int .i64 d, .int .i64 n, .string key]) nought) I J True) := by
            have hnb := Hold.newBlk ((firm_bnk _ _ _ _ _).star ((firm_blk _ _ _).star firm_nought)) hb0 41 #[.pointer (some ⟨g, 0, none⟩), .int .i64 d, .int .i64 n, .string key]
            have hF : ¬ (shpS n key ∧ ¬ Out 2 d) := fun h => absurd (HQ.out.2 h) (by decide)
            have hS := six_bad (B := W.heap.size) (w0 := W) (gb := wr.heap.size) (R := star (bkA g 2 ⟨D, 0, none⟩) (star (blkA gs 41 [.pointer (some ⟨g, 0, none⟩), .int .i64 d, .int .i64 n, .string key, .pointer none, .int .i64 d, .int .i64 n, .string key]) nought)) (key := key) ((firm_bnk _ _ _ _ _).star ((firm_blk _ _ _).star firm_nought)) (pv := .pointer (some ⟨g, 0, none⟩)) (i := d) (n := n) (bd := True) (fun z hz => by
              have := good_bank (Hold.bk (Hold.right hz)) d n key
              rwa [decide_eq_false hF] at this) trivial
            exact ⟨_, _, by exact hnb, Six.mk hS.blk hS.blk' (fun z hz => Hold.right (Hold.right hz)) hS.below hS.sea hS.get hS.prep hS.blank hS.app hS.bad⟩
          have HC : Hid (I (wr.alloc (.cells #[.pointer (some ⟨g, 0, none⟩), .int .i64 d, .int .i64 n, .string key] 41))) := hI
          clear hI hh hh0 hb0 HQ HD HT
          go_wp2_with (first
            | (refine wpList_load_mid rfl 41 _ rfl gs 0 rfl [.pointer (some ⟨g, 0, none⟩), .int .i64 d, .int .i64 n, .string key] _ HRG.out Tryz.underlying41 rfl hzS.out ?_))
          generalize hwb : wr.alloc (.cells #[.pointer (some ⟨g, 0, none⟩), .int .i64 d, .int .i64 n, .string key] 41) = wb at *
          generalize hgb : wr.heap.size = gb at *
          clear hwb hgb
          have HD : Hid (I wb.drew) := SX.out.below _ _ HC.out (Below.refl _ _).drew
          have HE : Hid (I (wb.drew.alloc (.cells Z 5 (0, 0)))) := SX.out.below _ _ HD.out ((Below.refl _ _).alloc (Nat.le_refl _) _)
          have hm := HZ.out.1 wb.drew
          have hc : (convert 35 9 (.slice (some ⟨wb.heap.size, 0, none⟩) 32 32)).run Tryz.prog (wb.alloc (.cells Z 5 (0, 0))).drew = .ok (.string (zB 32)) (wb.alloc (.cells Z 5 (0, 0))).drew := HZ.out.2 wb.drew
          clear HC
          refine wp_region_noPanic ?_
          refine wp_region_held_drew (S := fun z : World => z.cell? ⟨gb, 0, none⟩ = some (.pointer (some ⟨g, 0, none⟩)) ∧ z.cell? ⟨gb, 1, none⟩ = some (.int .i64 d) ∧ z.cell? ⟨gb, 2, none⟩ = some (.int .i64 n) ∧ z.cell? ⟨gb, 3, none⟩ = some (.string key)) (by kernel_rfl) ⟨(SX.out.blk _ HD.out).cell (i := 0) rfl, (SX.out.blk _ HD.out).cell (i := 1) rfl, (SX.out.blk _ HD.out).cell (i := 2) rfl, (SX.out.blk _ HD.out).cell (i := 3) rfl⟩ (fun hHeld => ?_)
          refine wpAnyH_take (i := 0) (v := ?_) rfl (by kernel_rfl) (by kernel_rfl) (by kernel_rfl) (fun _ _ _ h => h) (Or.inl ⟨by rfl, ?_⟩) (by assumption) ?_
          rotate_left
          · intro w hSw; go_simp; try with_reducible rfl
          go_simp
          refine wpAnyH_ready (rs := [1]) (by kernel_rfl) (by simp) (AllReadyH.cons rfl (fun K hK => ?_) AllReadyH.nil)
          go_simp
          refine hK.out _ _ ⟨(SX.out.blk _ HE.out).cell (i := 0) rfl, (SX.out.blk _ HE.out).cell (i := 1) rfl, (SX.out.blk _ HE.out).cell (i := 2) rfl, (SX.out.blk _ HE.out).cell (i := 3) rfl⟩ (fun hHeld => ?_)
          clear hK K
          refine wpAnyH_ready (rs := [2]) (by kernel_rfl) (by simp) (AllReadyH.cons rfl (fun K hK => ?_) AllReadyH.nil)
          go_simp
          refine hK.out _ _ ⟨(SX.out.blk _ HE.out).cell (i := 0) rfl, (SX.out.blk _ HE.out).cell (i := 1) rfl, (SX.out.blk _ HE.out).cell (i := 2) rfl, (SX.out.blk _ HE.out).cell (i := 3) rfl⟩ (fun hHeld => ?_)
          clear hK K
          refine wpAnyH_ready (rs := [3]) (by kernel_rfl) (by simp) (AllReadyH.cons rfl (fun K hK => ?_) AllReadyH.nil)
          go_simp
          go_at_call 12
          refine (SX.out.sea _ HE.out).mono ?_
          rintro x w4 ⟨c4, e4, rfl, h4, hi4⟩
          obtain rfl := h4.2 trivial
          have HC : Hid (I w4) := hi4
          clear hi4 HD HE
          refine hK.out _ _ ⟨(SX.out.blk _ HC.out).cell (i := 0) rfl, (SX.out.blk _ HC.out).cell (i := 1) rfl, (SX.out.blk _ HC.out).cell (i := 2) rfl, (SX.out.blk _ HC.out).cell (i := 3) rfl⟩ (fun hHeld => ?_)
          clear hK K
          refine wpAnyH_take (i := 4) (v := ?_) rfl (by kernel_rfl) (by kernel_rfl) (by kernel_rfl) (fun _ _ _ h => h) (Or.inl ⟨by rfl, ?_⟩) (by assumption) ?_
          rotate_left
          · intro w hSw; go_simp; try with_reducible rfl
          go_simp
          refine wpAnyH_take (i := 5) (v := ?_) rfl (by kernel_rfl) (by kernel_rfl) (by kernel_rfl) (fun _ _ _ h => h) (Or.inl ⟨by rfl, ?_⟩) (by assumption) ?_
          rotate_left
          · intro w hSw; go_simp; try with_reducible rfl
          go_simp
          refine wpAnyH_take (i := 6) (v := ?_) rfl (by kernel_rfl) (by kernel_rfl) (by kernel_rfl) (fun _ _ _ h => h) (Or.inl ⟨by rfl, ?_⟩) (by assumption) ?_
          rotate_left
          · intro w hSw; go_simp; try with_reducible rfl
          go_simp
          refine wpAnyH_take (i := 7) (v := ?_) rfl (by kernel_rfl) (by kernel_rfl) (by kernel_rfl) (fun _ _ _ h => h) (Or.inl ⟨by rfl, ?_⟩) (by assumption) ?_
          rotate_left
          · intro w hSw; go_simp; try with_reducible rfl
          go_simp
          refine wpAnyH_take (i := 8) (v := ?_) rfl (by kernel_rfl) (by kernel_rfl) (by kernel_rfl) (fun _ _ _ h => h) (Or.inl ⟨by rfl, ?_⟩) (by assumption) ?_
          rotate_left
          · intro w hSw; go_simp; try with_reducible rfl
          go_simp
          refine wpAnyH_done (by kernel_rfl) ?_ _
          refine NoPanic.normal ?_
          clear hm hc
          go_wp2_with (first
            | (refine wpList_load_blk rfl 41 _ rfl gb rfl 41 [.pointer (some ⟨g, 0, none⟩), .int .i64 d, .int .i64 n, .string key] _ (SX.out.blk _ HC.out) Tryz.underlying41 rfl hzS.out ?_)
            | (refine wpList_load_blk rfl 41 _ rfl gb rfl 41 [.pointer (some ⟨g, 0, none⟩), .int .i64 d, .int .i64 n, .string key] _ (SX.out.blk' _ HJ.out) Tryz.underlying41 rfl hzS.out ?_)
            | (go_at_call 15; refine (SX.out.get _ HC.out).mono ?_; rintro x w5 ⟨c5, e5, rfl, h5, hi5⟩; obtain rfl := h5.2 trivial; clear HC; have HC : Hid (I w5) := hi5; clear hi5)
            | (go_at_call 13; refine (SX.out.prep _ HC.out).mono ?_; rintro x w6 ⟨v6, c6, e6, rfl, h6, hi6⟩; obtain rfl := h6.2 trivial; clear HC; have HC : Hid (I w6) := hi6; clear hi6)
            | (go_at_call 22; refine (SX.out.blank _ HC.out).mono ?_; rintro x w7 ⟨v7, c7, e7, rfl, h7, hi7⟩; obtain rfl := h7.2 trivial; clear HC; have HC : Hid (I w7) := hi7; clear hi7)
            | (go_at_call 14; refine (SX.out.app _ HC.out).mono ?_; rintro x w8 ⟨e8, rfl, h8, hj8⟩; obtain rfl := h8.2 trivial; clear HC; have HJ : Hid (J w8) := hj8; have d0 := (SX.out.blk' _ hj8).cell (i := 0) rfl; have d1 := (SX.out.blk' _ hj8).cell (i := 1) rfl; have d2 := (SX.out.blk' _ hj8).cell (i := 2) rfl; have d3 := (SX.out.blk' _ hj8).cell (i := 3) rfl; clear hj8)
            | (go_at_call 16; refine (SX.out.bad trivial _ HJ.out).mono ?_; rintro x w9 ⟨rfl, hj9⟩; clear HJ; have HJ : Hid (J w9) := hj9; clear hj9 d0 d1 d2 d3))
          go_roundw
          case rel => exact ⟨1, by omega, by go_num, SX.out.rest _ HJ.out, fun h => absurd h (by omega)⟩
          case measure => simp [intOf]
        · obtain ⟨I, J, hI, SX⟩ : ∃ I J : World → Prop, Hid (I (wr.alloc (.cells #[.pointer (some ⟨g, 0, none⟩), .int .i64 d, .int .i64 n, .string key] 41))) ∧ Hid (Six W.heap.size W wr.heap.size (.pointer (some ⟨g, 0, none⟩)) d n key (star (blkA gs 41 [.pointer (some ⟨g, 0, none⟩), .int .i64 d, .int .i64 n, .string key, .pointer none, .int .i64 d, .int .i64 n, .string key]) nought) I J False) := by
            have hnb := Hold.newBlk ((firm_bnk _ _ _ _ _).star ((firm_blk _ _ _).star firm_nought)) hb0 41 #[.pointer (some ⟨g, 0, none⟩), .int .i64 d, .int .i64 n, .string key]
            obtain ⟨⟨hn4, hky⟩, ho⟩ := HQ.out.1 rfl
            obtain ⟨dd, d1, d2, rfl⟩ := depI_yes n hn4
            rcases out_cases 2 d with ho' | ⟨i, rfl, hi, _⟩
            · exact absurd ho' ho
            obtain ⟨hlv, hfw⟩ := live_new HD.out hi
            exact ⟨_, _, by exact Hold.swap hnb, six_good ((firm_blk _ _ _).star firm_nought) hi rfl ⟨d1, d2⟩ hky HT.out hlv hfw (fun h => h)⟩
          have HC : Hid (I (wr.alloc (.cells #[.pointer (some ⟨g, 0, none⟩), .int .i64 d, .int .i64 n, .string key] 41))) := hI
          clear hI hh hh0 hb0 HQ HD HT
          go_wp2_with (first
            | (refine wpList_load_mid rfl 41 _ rfl gs 0 rfl [.pointer (some ⟨g, 0, none⟩), .int .i64 d, .int .i64 n, .string key] _ HRG.out Tryz.underlying41 rfl hzS.out ?_))
          generalize hwb : wr.alloc (.cells #[.pointer (some ⟨g, 0, none⟩), .int .i64 d, .int .i64 n, .string key] 41) = wb at *
          generalize hgb : wr.heap.size = gb at *
          clear hwb hgb
          have HD : Hid (I wb.drew) := SX.out.below _ _ HC.out (Below.refl _ _).drew
          have HE : Hid (I (wb.drew.alloc (.cells Z 5 (0, 0)))) := SX.out.below _ _ HD.out ((Below.refl _ _).alloc (Nat.le_refl _) _)
          have hm := HZ.out.1 wb.drew
          have hc : (convert 35 9 (.slice (some ⟨wb.heap.size, 0, none⟩) 32 32)).run Tryz.prog (wb.alloc (.cells Z 5 (0, 0))).drew = .ok (.string (zB 32)) (wb.alloc (.cells Z 5 (0, 0))).drew := HZ.out.2 wb.drew
          clear HC
          refine wp_region_noPanic ?_
          refine wp_region_held_drew (S := fun z : World => z.cell? ⟨gb, 0, none⟩ = some (.pointer (some ⟨g, 0, none⟩)) ∧ z.cell? ⟨gb, 1, none⟩ = some (.int .i64 d) ∧ z.cell? ⟨gb, 2, none⟩ = some (.int .i64 n) ∧ z.cell? ⟨gb, 3, none⟩ = some (.string key)) (by kernel_rfl) ⟨(SX.out.blk _ HD.out).cell (i := 0) rfl, (SX.out.blk _ HD.out).cell (i := 1) rfl, (SX.out.blk _ HD.out).cell (i := 2) rfl, (SX.out.blk _ HD.out).cell (i := 3) rfl⟩ (fun hHeld => ?_)
          refine wpAnyH_take (i := 0) (v := ?_) rfl (by kernel_rfl) (by kernel_rfl) (by kernel_rfl) (fun _ _ _ h => h) (Or.inl ⟨by rfl, ?_⟩) (by assumption) ?_
          rotate_left
          · intro w hSw; go_simp; try with_reducible rfl
          go_simp
          refine wpAnyH_ready (rs := [1]) (by kernel_rfl) (by simp) (AllReadyH.cons rfl (fun K hK => ?_) AllReadyH.nil)
          go_simp
          refine hK.out _ _ ⟨(SX.out.blk _ HE.out).cell (i := 0) rfl, (SX.out.blk _ HE.out).cell (i := 1) rfl, (SX.out.blk _ HE.out).cell (i := 2) rfl, (SX.out.blk _ HE.out).cell (i := 3) rfl⟩ (fun hHeld => ?_)
          clear hK K
          refine wpAnyH_ready (rs := [2]) (by kernel_rfl) (by simp) (AllReadyH.cons rfl (fun K hK => ?_) AllReadyH.nil)
          go_simp
          refine hK.out _ _ ⟨(SX.out.blk _ HE.out).cell (i := 0) rfl, (SX.out.blk _ HE.out).cell (i := 1) rfl, (SX.out.blk _ HE.out).cell (i := 2) rfl, (SX.out.blk _ HE.out).cell (i := 3) rfl⟩ (fun hHeld => ?_)
          clear hK K
          refine wpAnyH_ready (rs := [3]) (by kernel_rfl) (by simp) (AllReadyH.cons rfl (fun K hK => ?_) AllReadyH.nil)
          go_simp
          go_at_call 12
          refine (SX.out.sea _ HE.out).mono ?_
          rintro x w4 ⟨c4, e4, rfl, h4, hi4⟩
          have nh4 : (e4 == 4) = false := beq_eq_false_iff_ne.2 (fun hh => h4.1 hh); clear h4
          have HC : Hid (I w4) := hi4
          clear hi4 HD HE
          refine hK.out _ _ ⟨(SX.out.blk _ HC.out).cell (i := 0) rfl, (SX.out.blk _ HC.out).cell (i := 1) rfl, (SX.out.blk _ HC.out).cell (i := 2) rfl, (SX.out.blk _ HC.out).cell (i := 3) rfl⟩ (fun hHeld => ?_)
          clear hK K
          refine wpAnyH_take (i := 4) (v := ?_) rfl (by kernel_rfl) (by kernel_rfl) (by kernel_rfl) (fun _ _ _ h => h) (Or.inl ⟨by rfl, ?_⟩) (by assumption) ?_
          rotate_left
          · intro w hSw; go_simp; try with_reducible rfl
          go_simp
          refine wpAnyH_take (i := 5) (v := ?_) rfl (by kernel_rfl) (by kernel_rfl) (by kernel_rfl) (fun _ _ _ h => h) (Or.inl ⟨by rfl, ?_⟩) (by assumption) ?_
          rotate_left
          · intro w hSw; go_simp; try with_reducible rfl
          go_simp
          refine wpAnyH_take (i := 6) (v := ?_) rfl (by kernel_rfl) (by kernel_rfl) (by kernel_rfl) (fun _ _ _ h => h) (Or.inl ⟨by rfl, ?_⟩) (by assumption) ?_
          rotate_left
          · intro w hSw; go_simp; try with_reducible rfl
          go_simp
          refine wpAnyH_take (i := 7) (v := ?_) rfl (by kernel_rfl) (by kernel_rfl) (by kernel_rfl) (fun _ _ _ h => h) (Or.inl ⟨by rfl, ?_⟩) (by assumption) ?_
          rotate_left
          · intro w hSw; go_simp; try with_reducible rfl
          go_simp
          refine wpAnyH_take (i := 8) (v := ?_) rfl (by kernel_rfl) (by kernel_rfl) (by kernel_rfl) (fun _ _ _ h => h) (Or.inl ⟨by rfl, ?_⟩) (by assumption) ?_
          rotate_left
          · intro w hSw; go_simp; try with_reducible rfl
          go_simp
          refine wpAnyH_done (by kernel_rfl) ?_ _
          refine NoPanic.normal ?_
          clear hm hc
          go_wp2_with (first
            | (refine wpList_load_blk rfl 41 _ rfl gb rfl 41 [.pointer (some ⟨g, 0, none⟩), .int .i64 d, .int .i64 n, .string key] _ (SX.out.blk _ HC.out) Tryz.underlying41 rfl hzS.out ?_)
            | (refine wpList_load_blk rfl 41 _ rfl gb rfl 41 [.pointer (some ⟨g, 0, none⟩), .int .i64 d, .int .i64 n, .string key] _ (SX.out.blk' _ HJ.out) Tryz.underlying41 rfl hzS.out ?_)
            | (go_at_call 15; refine (SX.out.get _ HC.out).mono ?_; rintro x w5 ⟨c5, e5, rfl, h5, hi5⟩; have nh5 : (e5 == 4) = false := beq_eq_false_iff_ne.2 (fun hh => h5.1 hh); clear h5; clear HC; have HC : Hid (I w5) := hi5; clear hi5)
            | (go_at_call 13; refine (SX.out.prep _ HC.out).mono ?_; rintro x w6 ⟨v6, c6, e6, rfl, h6, hi6⟩; have nh6 : (e6 == 4) = false := beq_eq_false_iff_ne.2 (fun hh => h6.1 hh); clear h6; clear HC; have HC : Hid (I w6) := hi6; clear hi6)
            | (go_at_call 22; refine (SX.out.blank _ HC.out).mono ?_; rintro x w7 ⟨v7, c7, e7, rfl, h7, hi7⟩; have nh7 : (e7 == 4) = false := beq_eq_false_iff_ne.2 (fun hh => h7.1 hh); clear h7; clear HC; have HC : Hid (I w7) := hi7; clear hi7)
            | (go_at_call 14; refine (SX.out.app _ HC.out).mono ?_; rintro x w8 ⟨e8, rfl, h8, hj8⟩; have nh8 : (e8 == 4) = false := beq_eq_false_iff_ne.2 (fun hh => h8.1 hh); clear h8; clear HC; have HJ : Hid (J w8) := hj8; clear hj8)
            | (go_at_call 16; refine (SX.out.bad trivial _ HJ.out).mono ?_; rintro x w9 ⟨rfl, hj9⟩; clear HJ; have HJ : Hid (J w9) := hj9; clear hj9 d0 d1 d2 d3))
          go_roundw
          case rel => exact ⟨1, by omega, by go_num, SX.out.rest _ HJ.out, fun h => absurd h (by omega)⟩
          case measure => simp [intOf]
      · have HRG : Hid (wr.rangeAt gs 4 [.pointer none, .int .i64 d, .int .i64 n, .string key]) := range_of (Hold.blk hh.out) 4 _ (fun j v hv => by
          match j, hv with
          | 0, hv => exact hv
          | 1, hv => exact hv
          | 2, hv => exact hv
          | 3, hv => exact hv
          | j + 4, hv => simp at hv)
        obtain ⟨I, J, hI, SX⟩ : ∃ I J : World → Prop, Hid (I (wr.alloc (.cells #[.pointer none, .int .i64 d, .int .i64 n, .string key] 41))) ∧ Hid (Six W.heap.size W wr.heap.size (.pointer none) d n key (star (blkA gs 41 [.pointer (some ⟨g, 0, none⟩), .int .i64 d, .int .i64 n, .string key, .pointer none, .int .i64 d, .int .i64 n, .string key]) nought) I J True) := by
          have hnb := Hold.newBlk ((firm_blk _ _ _).star firm_nought) hh.out 41 #[.pointer none, .int .i64 d, .int .i64 n, .string key]
          exact ⟨_, _, by exact hnb, six_bad ((firm_blk _ _ _).star firm_nought) (fun z hz => good_nil z d n key) trivial⟩
        have HC : Hid (I (wr.alloc (.cells #[.pointer none, .int .i64 d, .int .i64 n, .string key] 41))) := hI
        clear hI hh hh0 HQ HD HT
        cases q
        · go_wp2_with (first
            | (refine wpList_load_mid rfl 41 _ rfl gs 4 rfl [.pointer none, .int .i64 d, .int .i64 n, .string key] _ HRG.out Tryz.underlying41 rfl hzS.out ?_))
          generalize hwb : wr.alloc (.cells #[.pointer none, .int .i64 d, .int .i64 n, .string key] 41) = wb at *
          generalize hgb : wr.heap.size = gb at *
          clear hwb hgb
          have HD : Hid (I wb.drew) := SX.out.below _ _ HC.out (Below.refl _ _).drew
          have HE : Hid (I (wb.drew.alloc (.cells Z 5 (0, 0)))) := SX.out.below _ _ HD.out ((Below.refl _ _).alloc (Nat.le_refl _) _)
          have hm := HZ.out.1 wb.drew
          have hc : (convert 35 9 (.slice (some ⟨wb.heap.size, 0, none⟩) 32 32)).run Tryz.prog (wb.alloc (.cells Z 5 (0, 0))).drew = .ok (.string (zB 32)) (wb.alloc (.cells Z 5 (0, 0))).drew := HZ.out.2 wb.drew
          clear HC
          refine wp_region_noPanic ?_
          refine wp_region_held_drew (S := fun z : World => z.cell? ⟨gb, 0, none⟩ = some (.pointer none) ∧ z.cell? ⟨gb, 1, none⟩ = some (.int .i64 d) ∧ z.cell? ⟨gb, 2, none⟩ = some (.int .i64 n) ∧ z.cell? ⟨gb, 3, none⟩ = some (.string key)) (by kernel_rfl) ⟨(SX.out.blk _ HD.out).cell (i := 0) rfl, (SX.out.blk _ HD.out).cell (i := 1) rfl, (SX.out.blk _ HD.out).cell (i := 2) rfl, (SX.out.blk _ HD.out).cell (i := 3) rfl⟩ (fun hHeld => ?_)
          refine wpAnyH_take (i := 0) (v := ?_) rfl (by kernel_rfl) (by kernel_rfl) (by kernel_rfl) (fun _ _ _ h => h) (Or.inl ⟨by rfl, ?_⟩) (by assumption) ?_
          rotate_left
          · intro w hSw; go_simp; try with_reducible rfl
          go_simp
          refine wpAnyH_ready (rs := [1]) (by kernel_rfl) (by simp) (AllReadyH.cons rfl (fun K hK => ?_) AllReadyH.nil)
          go_simp
          refine hK.out _ _ ⟨(SX.out.blk _ HE.out).cell (i := 0) rfl, (SX.out.blk _ HE.out).cell (i := 1) rfl, (SX.out.blk _ HE.out).cell (i := 2) rfl, (SX.out.blk _ HE.out).cell (i := 3) rfl⟩ (fun hHeld => ?_)
          clear hK K
          refine wpAnyH_ready (rs := [2]) (by kernel_rfl) (by simp) (AllReadyH.cons rfl (fun K hK => ?_) AllReadyH.nil)
          go_simp
          refine hK.out _ _ ⟨(SX.out.blk _ HE.out).cell (i := 0) rfl, (SX.out.blk _ HE.out).cell (i := 1) rfl, (SX.out.blk _ HE.out).cell (i := 2) rfl, (SX.out.blk _ HE.out).cell (i := 3) rfl⟩ (fun hHeld => ?_)
          clear hK K
          refine wpAnyH_ready (rs := [3]) (by kernel_rfl) (by simp) (AllReadyH.cons rfl (fun K hK => ?_) AllReadyH.nil)
          go_simp
          go_at_call 12
          refine (SX.out.sea _ HE.out).mono ?_
          rintro x w4 ⟨c4, e4, rfl, h4, hi4⟩
          obtain rfl := h4.2 trivial
          have HC : Hid (I w4) := hi4
          clear hi4 HD HE
          refine hK.out _ _ ⟨(SX.out.blk _ HC.out).cell (i := 0) rfl, (SX.out.blk _ HC.out).cell (i := 1) rfl, (SX.out.blk _ HC.out).cell (i := 2) rfl, (SX.out.blk _ HC.out).cell (i := 3) rfl⟩ (fun hHeld => ?_)
          clear hK K
          refine wpAnyH_take (i := 4) (v := ?_) rfl (by kernel_rfl) (by kernel_rfl) (by kernel_rfl) (fun _ _ _ h => h) (Or.inl ⟨by rfl, ?_⟩) (by assumption) ?_
          rotate_left
          · intro w hSw; go_simp; try with_reducible rfl
          go_simp
          refine wpAnyH_take (i := 5) (v := ?_) rfl (by kernel_rfl) (by kernel_rfl) (by kernel_rfl) (fun _ _ _ h => h) (Or.inl ⟨by rfl, ?_⟩) (by assumption) ?_
          rotate_left
          · intro w hSw; go_simp; try with_reducible rfl
          go_simp
          refine wpAnyH_take (i := 6) (v := ?_) rfl (by kernel_rfl) (by kernel_rfl) (by kernel_rfl) (fun _ _ _ h => h) (Or.inl ⟨by rfl, ?_⟩) (by assumption) ?_
          rotate_left
          · intro w hSw; go_simp; try with_reducible rfl
          go_simp
          refine wpAnyH_take (i := 7) (v := ?_) rfl (by kernel_rfl) (by kernel_rfl) (by kernel_rfl) (fun _ _ _ h => h) (Or.inl ⟨by rfl, ?_⟩) (by assumption) ?_
          rotate_left
          · intro w hSw; go_simp; try with_reducible rfl
          go_simp
          refine wpAnyH_take (i := 8) (v := ?_) rfl (by kernel_rfl) (by kernel_rfl) (by kernel_rfl) (fun _ _ _ h => h) (Or.inl ⟨by rfl, ?_⟩) (by assumption) ?_
          rotate_left
          · intro w hSw; go_simp; try with_reducible rfl
          go_simp
          refine wpAnyH_done (by kernel_rfl) ?_ _
          refine NoPanic.normal ?_
          clear hm hc
          go_wp2_with (first
            | (refine wpList_load_blk rfl 41 _ rfl gb rfl 41 [.pointer none, .int .i64 d, .int .i64 n, .string key] _ (SX.out.blk _ HC.out) Tryz.underlying41 rfl hzS.out ?_)
            | (refine wpList_load_blk rfl 41 _ rfl gb rfl 41 [.pointer none, .int .i64 d, .int .i64 n, .string key] _ (SX.out.blk' _ HJ.out) Tryz.underlying41 rfl hzS.out ?_)
            | (go_at_call 15; refine (SX.out.get _ HC.out).mono ?_; rintro x w5 ⟨c5, e5, rfl, h5, hi5⟩; obtain rfl := h5.2 trivial; clear HC; have HC : Hid (I w5) := hi5; clear hi5)
            | (go_at_call 13; refine (SX.out.prep _ HC.out).mono ?_; rintro x w6 ⟨v6, c6, e6, rfl, h6, hi6⟩; obtain rfl := h6.2 trivial; clear HC; have HC : Hid (I w6) := hi6; clear hi6)
            | (go_at_call 22; refine (SX.out.blank _ HC.out).mono ?_; rintro x w7 ⟨v7, c7, e7, rfl, h7, hi7⟩; obtain rfl := h7.2 trivial; clear HC; have HC : Hid (I w7) := hi7; clear hi7)
            | (go_at_call 14; refine (SX.out.app _ HC.out).mono ?_; rintro x w8 ⟨e8, rfl, h8, hj8⟩; obtain rfl := h8.2 trivial; clear HC; have HJ : Hid (J w8) := hj8; have d0 := (SX.out.blk' _ hj8).cell (i := 0) rfl; have d1 := (SX.out.blk' _ hj8).cell (i := 1) rfl; have d2 := (SX.out.blk' _ hj8).cell (i := 2) rfl; have d3 := (SX.out.blk' _ hj8).cell (i := 3) rfl; clear hj8)
            | (go_at_call 16; refine (SX.out.bad trivial _ HJ.out).mono ?_; rintro x w9 ⟨rfl, hj9⟩; clear HJ; have HJ : Hid (J w9) := hj9; clear hj9 d0 d1 d2 d3))
          go_roundw
          case rel => exact ⟨2, by omega, by go_num, SX.out.rest _ HJ.out, fun h => absurd h (by omega)⟩
          case measure => simp [intOf]
        · go_wp2_with (first
            | (refine wpList_load_mid rfl 41 _ rfl gs 4 rfl [.pointer none, .int .i64 d, .int .i64 n, .string key] _ HRG.out Tryz.underlying41 rfl hzS.out ?_))
          generalize hwb : wr.alloc (.cells #[.pointer none, .int .i64 d, .int .i64 n, .string key] 41) = wb at *
          generalize hgb : wr.heap.size = gb at *
          clear hwb hgb
          have HD : Hid (I wb.drew) := SX.out.below _ _ HC.out (Below.refl _ _).drew
          have HE : Hid (I (wb.drew.alloc (.cells Z 5 (0, 0)))) := SX.out.below _ _ HD.out ((Below.refl _ _).alloc (Nat.le_refl _) _)
          have hm := HZ.out.1 wb.drew
          have hc : (convert 35 9 (.slice (some ⟨wb.heap.size, 0, none⟩) 32 32)).run Tryz.prog (wb.alloc (.cells Z 5 (0, 0))).drew = .ok (.string (zB 32)) (wb.alloc (.cells Z 5 (0, 0))).drew := HZ.out.2 wb.drew
          clear HC
          refine wp_region_noPanic ?_
          refine wp_region_held_drew (S := fun z : World => z.cell? ⟨gb, 0, none⟩ = some (.pointer none) ∧ z.cell? ⟨gb, 1, none⟩ = some (.int .i64 d) ∧ z.cell? ⟨gb, 2, none⟩ = some (.int .i64 n) ∧ z.cell? ⟨gb, 3, none⟩ = some (.string key)) (by kernel_rfl) ⟨(SX.out.blk _ HD.out).cell (i := 0) rfl, (SX.out.blk _ HD.out).cell (i := 1) rfl, (SX.out.blk _ HD.out).cell (i := 2) rfl, (SX.out.blk _ HD.out).cell (i := 3) rfl⟩ (fun hHeld => ?_)
          refine wpAnyH_take (i := 0) (v := ?_) rfl (by kernel_rfl) (by kernel_rfl) (by kernel_rfl) (fun _ _ _ h => h) (Or.inl ⟨by rfl, ?_⟩) (by assumption) ?_
          rotate_left
          · intro w hSw; go_simp; try with_reducible rfl
          go_simp
          refine wpAnyH_ready (rs := [1]) (by kernel_rfl) (by simp) (AllReadyH.cons rfl (fun K hK => ?_) AllReadyH.nil)
          go_simp
          refine hK.out _ _ ⟨(SX.out.blk _ HE.out).cell (i := 0) rfl, (SX.out.blk _ HE.out).cell (i := 1) rfl, (SX.out.blk _ HE.out).cell (i := 2) rfl, (SX.out.blk _ HE.out).cell (i := 3) rfl⟩ (fun hHeld => ?_)
          clear hK K
          refine wpAnyH_ready (rs := [2]) (by kernel_rfl) (by simp) (AllReadyH.cons rfl (fun K hK => ?_) AllReadyH.nil)
          go_simp
          refine hK.out _ _ ⟨(SX.out.blk _ HE.out).cell (i := 0) rfl, (SX.out.blk _ HE.out).cell (i := 1) rfl, (SX.out.blk _ HE.out).cell (i := 2) rfl, (SX.out.blk _ HE.out).cell (i := 3) rfl⟩ (fun hHeld => ?_)
          clear hK K
          refine wpAnyH_ready (rs := [3]) (by kernel_rfl) (by simp) (AllReadyH.cons rfl (fun K hK => ?_) AllReadyH.nil)
          go_simp
          go_at_call 12
          refine (SX.out.sea _ HE.out).mono ?_
          rintro x w4 ⟨c4, e4, rfl, h4, hi4⟩
          obtain rfl := h4.2 trivial
          have HC : Hid (I w4) := hi4
          clear hi4 HD HE
          refine hK.out _ _ ⟨(SX.out.blk _ HC.out).cell (i := 0) rfl, (SX.out.blk _ HC.out).cell (i := 1) rfl, (SX.out.blk _ HC.out).cell (i := 2) rfl, (SX.out.blk _ HC.out).cell (i := 3) rfl⟩ (fun hHeld => ?_)
          clear hK K
          refine wpAnyH_take (i := 4) (v := ?_) rfl (by kernel_rfl) (by kernel_rfl) (by kernel_rfl) (fun _ _ _ h => h) (Or.inl ⟨by rfl, ?_⟩) (by assumption) ?_
          rotate_left
          · intro w hSw; go_simp; try with_reducible rfl
          go_simp
          refine wpAnyH_take (i := 5) (v := ?_) rfl (by kernel_rfl) (by kernel_rfl) (by kernel_rfl) (fun _ _ _ h => h) (Or.inl ⟨by rfl, ?_⟩) (by assumption) ?_
          rotate_left
          · intro w hSw; go_simp; try with_reducible rfl
          go_simp
          refine wpAnyH_take (i := 6) (v := ?_) rfl (by kernel_rfl) (by kernel_rfl) (by kernel_rfl) (fun _ _ _ h => h) (Or.inl ⟨by rfl, ?_⟩) (by assumption) ?_
          rotate_left
          · intro w hSw; go_simp; try with_reducible rfl
          go_simp
          refine wpAnyH_take (i := 7) (v := ?_) rfl (by kernel_rfl) (by kernel_rfl) (by kernel_rfl) (fun _ _ _ h => h) (Or.inl ⟨by rfl, ?_⟩) (by assumption) ?_
          rotate_left
          · intro w hSw; go_simp; try with_reducible rfl
          go_simp
          refine wpAnyH_take (i := 8) (v := ?_) rfl (by kernel_rfl) (by kernel_rfl) (by kernel_rfl) (fun _ _ _ h => h) (Or.inl ⟨by rfl, ?_⟩) (by assumption) ?_
          rotate_left
          · intro w hSw; go_simp; try with_reducible rfl
          go_simp
          refine wpAnyH_done (by kernel_rfl) ?_ _
          refine NoPanic.normal ?_
          clear hm hc
          go_wp2_with (first
            | (refine wpList_load_blk rfl 41 _ rfl gb rfl 41 [.pointer none, .int .i64 d, .int .i64 n, .string key] _ (SX.out.blk _ HC.out) Tryz.underlying41 rfl hzS.out ?_)
            | (refine wpList_load_blk rfl 41 _ rfl gb rfl 41 [.pointer none, .int .i64 d, .int .i64 n, .string key] _ (SX.out.blk' _ HJ.out) Tryz.underlying41 rfl hzS.out ?_)
            | (go_at_call 15; refine (SX.out.get _ HC.out).mono ?_; rintro x w5 ⟨c5, e5, rfl, h5, hi5⟩; obtain rfl := h5.2 trivial; clear HC; have HC : Hid (I w5) := hi5; clear hi5)
            | (go_at_call 13; refine (SX.out.prep _ HC.out).mono ?_; rintro x w6 ⟨v6, c6, e6, rfl, h6, hi6⟩; obtain rfl := h6.2 trivial; clear HC; have HC : Hid (I w6) := hi6; clear hi6)
            | (go_at_call 22; refine (SX.out.blank _ HC.out).mono ?_; rintro x w7 ⟨v7, c7, e7, rfl, h7, hi7⟩; obtain rfl := h7.2 trivial; clear HC; have HC : Hid (I w7) := hi7; clear hi7)
            | (go_at_call 14; refine (SX.out.app _ HC.out).mono ?_; rintro x w8 ⟨e8, rfl, h8, hj8⟩; obtain rfl := h8.2 trivial; clear HC; have HJ : Hid (J w8) := hj8; have d0 := (SX.out.blk' _ hj8).cell (i := 0) rfl; have d1 := (SX.out.blk' _ hj8).cell (i := 1) rfl; have d2 := (SX.out.blk' _ hj8).cell (i := 2) rfl; have d3 := (SX.out.blk' _ hj8).cell (i := 3) rfl; clear hj8)
            | (go_at_call 16; refine (SX.out.bad trivial _ HJ.out).mono ?_; rintro x w9 ⟨rfl, hj9⟩; clear HJ; have HJ : Hid (J w9) := hj9; clear hj9 d0 d1 d2 d3))
          go_roundw
          case rel => exact ⟨2, by omega, by go_num, SX.out.rest _ HJ.out, fun h => absurd h (by omega)⟩
          case measure => simp [intOf]
      · have L1 : Hid (Below W.heap.size W wr) := Hold.low hh.out
        clear hh hh0 HQ HD HT HZ
        go_wp2_with (go_at_call 10; refine (HW.out _ L1.out).mono ?_; rintro e w6 ⟨rfl, hb6⟩; have L6 : Hid (Below W.heap.size W w6) := L1.out.trans (hb6.mono L1.out.size); clear hb6 L1 HW)
        go_ret
        exact ⟨rfl, L6.out⟩
end Go.Proofs.YtnhkkhiajiiahaaGreatDoor
