/- The bytes of a record, by the document. -/
import Derived.Test.YtbjmhpbelkndpaaDoorSuRef
import Derived.Test.YtbjmhpbelkndpaaDoorCdRNum
namespace Go.Proofs.YtbjmhpbelkndpaaDoor
open Go.RowKit Go.PlainAid
set_option linter.unusedVariables false
set_option maxRecDepth 20000

section
variable {R : Rec} {sa ma : Option Addr} {sc mc : Nat} {w : World}
set_option maxRecDepth 20000 in
set_option maxHeartbeats 400000 in
theorem r14put_bad (hf : R.Fine) (hL : Lies w R sa ma) (hg : gd R = false) : Calls Tryd.prog 17 #[.agg (supV R sa ma sc mc).toArray] w fun e w' => e = .returned (.tuple #[.string noB, .int .i64 4]) ∧ Below w.heap.size w w' := by
  have HG : Hid (∀ wr, Below w.heap.size w wr → Calls Tryd.prog 29 #[.agg (supV R sa ma sc mc).toArray] wr fun e w' => e = .returned (.bool false) ∧ Below wr.heap.size wr w') := fun wr hb => by rw [← hg]; exact r14good_any hf (hL.below hb)
  have hB : Hid (Below w.heap.size w (w.alloc (.cells (supV R sa ma sc mc).toArray 32))) := Below.refl w.heap.size w |>.alloc (Nat.le_refl _) (.cells (supV R sa ma sc mc).toArray 32)
  have hK : Hid (Blk _ w.heap.size 32 (supV R sa ma sc mc)) := Blk.box w 32 (supV R sa ma sc mc)
  obtain ⟨L, hLL⟩ : ∃ L, supV R sa ma sc mc = L := ⟨_, rfl⟩
  have hl9 : L.length = 9 := by rw [← hLL]; rfl
  have HL9 : Hid ((Tryd.prog.info? 32).map (·.size) = some L.length) := by rw [hl9]; exact Tryd.size32
  rw [hLL] at hB hK HG ⊢
  clear hLL hl9 hL hf hg
  obtain ⟨W1, hW1⟩ : ∃ W1, w.alloc (.cells L.toArray 32) = W1 := ⟨_, rfl⟩
  rw [hW1] at hB hK
  go_enter Tryd.func17, Tryd.ntmps17
  go_wp2_with (first
    | (refine wpList_load_blk rfl 32 _ rfl w.heap.size rfl 32 L _ hK.out Tryd.underlying32 rfl HL9.out ?_)
    | (go_at_call 29; refine (HG.out _ hB.out).mono ?_; rintro e wa ⟨rfl, hba⟩; have hB3 : Hid (Below w.heap.size w wa) := hB.out.trans (hba.mono hB.out.size); clear hba hW1))
  go_ret2
  exact ⟨rfl, hB3.out⟩
set_option maxRecDepth 20000 in
set_option maxHeartbeats 4000000 in
theorem r14put_good (hf : R.Fine) (hL : Lies w R sa ma) (hg : gd R = true) : Calls Tryd.prog 17 #[.agg (supV R sa ma sc mc).toArray] w fun e w' => e = .returned (.tuple #[.string (byB R), .int .i64 0]) ∧ Below w.heap.size w w' := by
  have hr := (gd_iff R).1 hg
  obtain ⟨w1, w2, w3, w4, w5, w6, w7, w8, w9, w10⟩ := wid_le hr
  have hT : gdT R := fun i hi => ⟨(hr.2.1 i hi).2.2.1, (hr.2.1 i hi).2.2.2.1⟩
  have HST : Hid (∀ i, i < R.nm → 0 ≤ R.st i ∧ R.st i ≤ 3) := fun i hi => ⟨(hr.2.1 i hi).1, (hr.2.1 i hi).2.1⟩
  have HT : Hid (gdT R) := hT
  have HSE : Hid (∀ j, j < R.ns → 0 ≤ R.seat j ∧ R.seat j < (R.nm : Int)) := hr.2.2.1
  have HS : Hid (∀ j, j < 9 + R.ns → 0 ≤ hdN R j ∧ hdN R j ≤ 18446744073709551615) := hd_range hf hg
  have HL : Hid (Lies w R sa ma) := hL
  have HG : Hid (∀ wr, Below w.heap.size w wr → Calls Tryd.prog 29 #[.agg (supV R sa ma sc mc).toArray] wr fun e w' => e = .returned (.bool true) ∧ Below wr.heap.size wr w') := fun wr hb => by rw [← hg]; exact r14good_any hf (hL.below hb)
  have hB : Hid (Hold w.heap.size w _ _) := (hold_nought w.heap.size w w (Nat.le_refl _) (Below.refl _ _)).newBlk firm_nought 32 (supV R sa ma sc mc).toArray
  obtain ⟨L, hLL⟩ : ∃ L, supV R sa ma sc mc = L := ⟨_, rfl⟩
  have hl9 : L.length = 9 := by rw [← hLL]; rfl
  have HL9 : Hid ((Tryd.prog.info? 32).map (·.size) = some L.length) := by rw [hl9]; exact Tryd.size32
  have HC : Hid (∀ z, Blk z w.heap.size 32 L → z.cell? ⟨w.heap.size, 0, none⟩ = some (.int .u64 R.count) ∧ z.cell? ⟨w.heap.size, 1, none⟩ = some (.int .u64 R.epoch) ∧ z.cell? ⟨w.heap.size, 2, none⟩ = some (.int .i64 R.data) ∧ z.cell? ⟨w.heap.size, 3, none⟩ = some (.int .i64 R.slots) ∧ z.cell? ⟨w.heap.size, 4, none⟩ = some (.int .i64 R.mark) ∧ z.cell? ⟨w.heap.size, 5, none⟩ = some (.int .i64 R.built) ∧ z.cell? ⟨w.heap.size, 6, none⟩ = some (.bool R.grow) ∧ z.cell? ⟨w.heap.size, 7, none⟩ = some (.slice sa R.ns sc) ∧ z.cell? ⟨w.heap.size, 8, none⟩ = some (.slice ma R.nm mc)) := fun z hz => by
    rw [← hLL] at hz
    exact ⟨hz.cell rfl, hz.cell rfl, hz.cell rfl, hz.cell rfl, hz.cell rfl, hz.cell rfl, hz.cell rfl, hz.cell rfl, hz.cell rfl⟩
  obtain ⟨Z, hZl, hZ⟩ := zeroRMem
  have HZ : Hid (Z.length = 3) := hZl
  have HW : Hid (R.ns ≤ 11 ∧ R.nm ≤ 12) := ⟨w1, w2⟩
  rw [hLL] at hB HG ⊢
  have HQ : Hid (byB R = cat (nmB (hdN R)) 0 (9 + R.ns) ++ cat (mbB R.st R.top R.log) 0 R.nm) := rfl
  have e1 : R.data % 18446744073709551616 = R.data := by omega
  have e2 : R.slots % 18446744073709551616 = R.slots := by omega
  have e3 : R.mark % 18446744073709551616 = R.mark := by omega
  have e4 : R.built % 18446744073709551616 = R.built := by omega
  have e5 : (R.ns : Int) % 18446744073709551616 = (R.ns : Int) := by omega
  have e6 : (R.nm : Int) % 18446744073709551616 = (R.nm : Int) := by omega
  have HD : Hid (∀ k, k < R.ns → hdN R (8 + k) = R.seat k) := hdN_seat R
  have HD2 : Hid (hdN R (8 + R.ns) = (R.nm : Int)) := hdN_last R
  have H8 : Hid (∀ wr, Hold w.heap.size w wr (star (blkA w.heap.size 32 L) nought) → Hold w.heap.size w (wr.alloc (.cells (hd8 R) 22)) (star (rowA 22 (.slice (some ⟨wr.heap.size, 0, none⟩) 8 8) 8 (un 8 (hdN R))) (star (blkA w.heap.size 32 L) nought))) := fun wr h => hold8 ((firm_blk _ _ _).star firm_nought) h R
  unfold hd8 at H8
  clear hLL hl9 hL hf hZl hr hT hg w1 w2 w3 w4 w5 w6 w7 w8 w9 w10
  obtain ⟨W1, hW1⟩ : ∃ W1, w.alloc (.cells L.toArray 32) = W1 := ⟨_, rfl⟩
  rw [hW1] at hB
  rw [List.toList_toArray] at hB
  generalize byB R = BR at *
  go_enter Tryd.func17, Tryd.ntmps17
  go_upto_if 21 with (first
    | (refine wpList_load_blk rfl 32 _ rfl w.heap.size rfl 32 L _ hB.out.blk Tryd.underlying32 rfl HL9.out ?_)
    | (go_at_call 29; refine (HG.out _ hB.out.low).mono ?_; rintro e wa ⟨rfl, hba⟩; have hB3 : Hid (Hold w.heap.size w wa (star (blkA w.heap.size 32 L) nought)) := hB.out.below ((firm_blk _ _ _).star firm_nought) hba; obtain ⟨d0, d1, d2, d3, d4, d5, d6, d7, d8⟩ := HC.out _ hB3.out.blk; clear hba hW1 hB))
  go_cut [5] (fun c wx => c = .int .i64 (if R.grow then (1 : Int) else 0) ∧ wx = wa)
  case first =>
    as_aux_lemma =>
      cases hgr : R.grow
      · rw [hgr] at d6
        go_wp2
        go_meet
        case rel => exact ⟨by rw [hgr]; rfl, rfl⟩
      · rw [hgr] at d6
        go_wp2
        go_meet
        case rel => exact ⟨by rw [hgr]; rfl, rfl⟩
  case rest =>
    obtain ⟨rfl, hw⟩ := hcut
    rw [hw]
    clear hw
    have h8 := H8.out _ hB3.out
    obtain ⟨gI, hgI⟩ : ∃ gI : Int, (if R.grow = true then (1 : Int) else 0) = gI := ⟨_, rfl⟩
    have e7 : gI % 18446744073709551616 = gI := by rw [← hgI]; split <;> rfl
    rw [hgI] at h8 ⊢
    have hk8 := (HC.out _ h8.right.blk).2.2.2.2.2.2.2.1
    have H9 : Hid (Hold _ _ _ _) := h8
    clear hgI h8 H8
    go_wp2
    clear d0 d1 d2 d3 d4 d5 d6 d7 d8 hk8 e1 e2 e3 e4 e5 e7
    go_loopw [6, 7] (fun l i wr => ∃ (k g c : Nat), k ≤ R.ns ∧ i = .int .i64 (k : Int) ∧ l = .slice (some ⟨g, 0, none⟩) (8 + k) c ∧ Hid (Hold w.heap.size w wr (star (rowA 22 (.slice (some ⟨g, 0, none⟩) (8 + k) c) (8 + k) (un (8 + k) (hdN R))) (star (blkA w.heap.size 32 L) nought)))) (fun _ i _ => R.ns - (intOf i).toNat)
    case atStart => exact ⟨0, _, _, Nat.zero_le _, rfl, rfl, H9.out⟩
    case round =>
      clear H9 hB3
      obtain ⟨k, g, c, hk, rfl, rfl, hh⟩ := hrel
      obtain ⟨-, -, -, -, -, -, -, d7, d8⟩ := HC.out _ hh.out.right.blk
      by_cases hlt : k < R.ns
      · have hk' : (k : Int) < (R.ns : Int) := by omega
        obtain ⟨b, o, rfl, hr⟩ := HL.out.1.at hh.out.low k hlt
        have hs := HSE.out k hlt
        have hns := HW.out
        have e7 : R.seat k % 18446744073709551616 = R.seat k := by omega
        have hkb : (k : Int) ≤ 1000 := by omega
        obtain ⟨g', c', w3, hrun, h3⟩ := push8 ((firm_blk _ _ _).star firm_nought) hh.out (by omega) 72 (R.seat k) (HD.out k hlt)
        have H3 : Hid (Hold _ _ _ _) := h3
        clear h3 hh hs hns
        go_wp2_with (at_builtin; refine Lib.wpList_append_run _ rfl _ _ 72 72 rfl _ _ rfl rfl _ _ hrun ?_)
        go_roundw
        case rel => exact ⟨k + 1, g', c', by omega, by go_num, by congr 1, H3.out⟩
        case measure => simp [intOf]; omega
      · obtain rfl : k = R.ns := by omega
        have hk' : ¬ (R.ns : Int) < (R.ns : Int) := by omega
        have hns := HW.out
        obtain ⟨g', c', w3, hrun, h3⟩ := push8 ((firm_blk _ _ _).star firm_nought) hh.out (by omega) 72 (R.nm : Int) HD2.out
        have H3 : Hid (Hold _ _ _ _) := h3
        have e8 : 8 + R.ns + 1 = 9 + R.ns := by omega
        have H4 : Hid (Ux w3 g' (9 + R.ns) (hdN R)) := by rw [← e8]; exact ux_row h3.row
        have H5 : Hid (Blk w3 w.heap.size 32 L) := h3.right.blk
        have H6 : Hid (Below w.heap.size w w3) := h3.low
        clear h3 hh hns
        go_wp2_with (at_builtin; refine Lib.wpList_append_run _ rfl _ _ 72 72 rfl _ _ rfl rfl _ _ hrun ?_)
        clear d7 d8 hk' hk hlt hrun H3 e6 e8
        obtain ⟨ws, hws⟩ : ∃ ws, ws = wr := ⟨_, rfl⟩
        subst hws
        go_loopw [8, 9] (fun t i wr => ∃ k : Nat, k ≤ 9 + R.ns ∧ i = .int .i64 (k : Int) ∧ t = .string (cat (nmB (hdN R)) 0 k) ∧ Hid (Ux wr g' (9 + R.ns) (hdN R)) ∧ Hid (Blk wr w.heap.size 32 L) ∧ Hid (Below w.heap.size w wr)) (fun _ i _ => (9 + R.ns) - (intOf i).toNat)
        case atStart => exact ⟨0, Nat.zero_le _, rfl, rfl, H4.out, H5.out, H6.out⟩
        case round =>
          clear H4 H5 H6
          obtain ⟨k, hk, rfl, rfl, hux, hbx, hb⟩ := hrel
          by_cases hlt : k < 9 + R.ns
          · have hk' : (k : Int) < 9 + (R.ns : Int) := by omega
            have hk2 : (k : Int) < ((9 + R.ns : Nat) : Int) := by omega
            have hkb : (k : Int) ≤ 1000 := by have := HW.out; omega
            have hcell := hux.out.cell k hlt
            obtain ⟨q0, q1⟩ := HS.out k hlt
            have hns := HW.out
            obtain ⟨N, hN⟩ := Int.eq_ofNat_of_zero_le q0
            have hnum := rnumF_any N (by omega)
            rw [← hN] at hnum
            have hsz : ((cat (nmB (hdN R)) 0 k).size : Int) ≤ 10000 := by rw [cat_nm_size]; omega
            have hsz2 : ((numB (hdN R k)).size : Int) = 8 := by rw [numB_size]; rfl
            have hsn := cat_snoc (nmB (hdN R)) k 0
            rw [Nat.zero_add] at hsn
            have HSN : Hid (cat (nmB (hdN R)) 0 k ++ numB (hdN R k) = cat (nmB (hdN R)) 0 (k + 1)) := hsn.symm
            have HCN : Hid (∀ wr, Calls Tryd.prog 30 #[.int .u64 (hdN R k)] wr _) := hnum
            clear hsn hns hN hnum q0 q1
            generalize numB (hdN R k) = nk at *
            generalize hdN R k = hk0 at *
            generalize cat (nmB (hdN R)) 0 k = sk at *
            go_wp2_with (go_at_call 30; refine (HCN.out _).mono ?_; rintro e w4 ⟨rfl, hb4⟩; have hux4 : Hid (Ux w4 g' (9 + R.ns) (hdN R)) := hux.out.below hb4; have hbx4 : Hid (Blk w4 w.heap.size 32 L) := hbx.out.below hb4 hbx.out.lt; have hb5 : Hid (Below w.heap.size w w4) := hb.out.trans (hb4.mono hb.out.size); clear hb4 hux hbx hb)
            go_roundw
            case rel => exact ⟨k + 1, by omega, by go_num, by rw [← HSN.out], hux4.out, hbx4.out, hb5.out⟩
            case measure => simp [intOf]; omega
          · obtain rfl : k = 9 + R.ns := by omega
            have hk' : ¬ (((9 + R.ns : Nat) : Int) < 9 + (R.ns : Int)) := by omega
            have hk2 : ¬ (((9 + R.ns : Nat) : Int) < ((9 + R.ns : Nat) : Int)) := by omega
            go_wp2
            clear hk' hk2 hlt hk hux
            obtain ⟨wt, hwt⟩ : ∃ wt, wt = wr := ⟨_, rfl⟩
            subst hwt
            go_loopw [8, 11] (fun t i wr => ∃ k : Nat, k ≤ R.nm ∧ i = .int .i64 (k : Int) ∧ t = .string (cat (nmB (hdN R)) 0 (9 + R.ns) ++ cat (mbB R.st R.top R.log) 0 k) ∧ Hid (Blk wr w.heap.size 32 L) ∧ Hid (Below w.heap.size w wr)) (fun _ i _ => R.nm - (intOf i).toNat)
            case atStart => exact ⟨0, Nat.zero_le _, rfl, by show _ = Value.string (_ ++ noB); rw [app_noB], hbx.out, hb.out⟩
            case round =>
              clear hbx hb
              obtain ⟨k, hk, rfl, rfl, hbx, hb⟩ := hrel
              obtain ⟨-, -, -, -, -, -, -, d7, d8⟩ := HC.out _ hbx.out
              by_cases hlt : k < R.nm
              · have hk' : (k : Int) < (R.nm : Int) := by omega
                obtain ⟨b, o, rfl, hr⟩ := HL.out.2.at hb.out k hlt
                have HR : Hid (wr.rangeAt b (o + k * 3) _) := hr
                obtain ⟨wx, hwx⟩ : ∃ wx, (wr.alloc (.cells Z.toArray 49)).setRow wr.heap.size (mrow (R.st k) (R.top k) (R.log k)).toArray = wx := ⟨_, rfl⟩
                have hxx := Below.boxed wr 49 Z (mrow (R.st k) (R.top k) (R.log k))
                have hxb := Blk.boxed wr 49 Z (mrow (R.st k) (R.top k) (R.log k))
                rw [hwx] at hxx hxb
                have HXB : Hid (Blk wx wr.heap.size 49 (mrow (R.st k) (R.top k) (R.log k))) := hxb
                have hx : Hid (Below w.heap.size w wx) := hb.out.trans (hxx.mono hb.out.size)
                have hxk : Hid (Blk wx w.heap.size 32 L) := hbx.out.below hxx hbx.out.lt
                have c0 := hxb.cell (i := 0) rfl
                obtain ⟨t1, t2⟩ := HT.out k hlt
                obtain ⟨s1, s2⟩ := HST.out k hlt
                have hns := HW.out
                have hz := cat_mb_size (st := R.st) R.nm HT.out 0 k (by omega)
                have hsz1 := cat_nm_size (hdN R) (9 + R.ns) 0
                have hn0 := numB_size (R.st k)
                have hn1 := ctxB_size (R.top k)
                have hn2 := ctxB_size (R.log k)
                obtain ⟨N, hN⟩ := Int.eq_ofNat_of_zero_le s1
                have hnum := rnumF_any N (by omega)
                rw [← hN] at hnum
                have htx1 := rtextF_any (R.top k) (by omega)
                have htx2 := rtextF_any (R.log k) (by omega)
                have hsn := cat_snoc (mbB R.st R.top R.log) k 0
                rw [Nat.zero_add] at hsn
                have HSN : Hid (cat (nmB (hdN R)) 0 (9 + R.ns) ++ cat (mbB R.st R.top R.log) 0 k ++ numB (R.st k) ++ ctxB (R.top k) ++ ctxB (R.log k) = cat (nmB (hdN R)) 0 (9 + R.ns) ++ cat (mbB R.st R.top R.log) 0 (k + 1)) := by
                  show _ = _
                  rw [hsn]; unfold mbB; simp only [join_assoc]
                have e0 : R.st k % 18446744073709551616 = R.st k := by omega
                have z0 : ((cat (nmB (hdN R)) 0 (9 + R.ns) ++ cat (mbB R.st R.top R.log) 0 k).size : Int) ≤ 10000 := by rw [ByteArray.size_append]; omega
                have z1 : ((numB (R.st k)).size : Int) = 8 := by omega
                have z2 : ((ctxB (R.top k)).size : Int) = 40 := by omega
                have z3 : ((ctxB (R.log k)).size : Int) = 40 := by omega
                have hk3 : (k : Int) ≤ 1000 := by omega
                have HCN : Hid (∀ wr, Calls Tryd.prog 30 #[.int .u64 (R.st k)] wr _) := hnum
                have HC1 : Hid (∀ wr, Calls Tryd.prog 31 #[.string (R.top k)] wr _) := htx1
                have HC2 : Hid (∀ wr, Calls Tryd.prog 31 #[.string (R.log k)] wr _) := htx2
                clear hr hb hbx hxx hxb hns hz hsz1 hn0 hn1 hn2 hsn t1 t2 hnum htx1 htx2 hN
                generalize numB (R.st k) = n0 at *
                generalize ctxB (R.top k) = n1 at *
                generalize ctxB (R.log k) = n2 at *
                generalize (cat (nmB (hdN R)) 0 (9 + R.ns) ++ cat (mbB R.st R.top R.log) 0 k) = sk at *
                go_wp2_with (first
                  | (refine wpList_load_mid rfl 49 _ rfl b (o + k * 3) rfl _ _ HR.out Tryd.underlying49 rfl Tryd.size49 ?_)
                  | (refine wpList_store_blk rfl 49 _ _ rfl wr.heap.size Z (mrow (R.st k) (R.top k) (R.log k)) rfl rfl 49 (Blk.box _ _ _) Tryd.size49 (by rw [HZ.out]; rfl) (mrow_one _ _ _) ?_; rw [hwx]; clear hwx)
                  | (go_at_call 30; refine (HCN.out _).mono ?_; rintro e w4 ⟨rfl, hb4⟩; have B4 : Hid (Blk w4 wr.heap.size 49 (mrow (R.st k) (R.top k) (R.log k))) := HXB.out.below hb4 HXB.out.lt; have K4 : Hid (Blk w4 w.heap.size 32 L) := hxk.out.below hb4 hxk.out.lt; have L4 : Hid (Below w.heap.size w w4) := hx.out.trans (hb4.mono hx.out.size); have c1 := B4.out.cell (i := 1) rfl; clear hb4 hx hxk HXB c0)
                  | (go_at_call 31; refine (HC1.out _).mono ?_; rintro e w5 ⟨rfl, hb5⟩; have B5 : Hid (Blk w5 wr.heap.size 49 (mrow (R.st k) (R.top k) (R.log k))) := B4.out.below hb5 B4.out.lt; have K5 : Hid (Blk w5 w.heap.size 32 L) := K4.out.below hb5 K4.out.lt; have L5 : Hid (Below w.heap.size w w5) := L4.out.trans (hb5.mono L4.out.size); have c2 := B5.out.cell (i := 2) rfl; clear hb5 B4 K4 L4 c1 HC1)
                  | (go_at_call 31; refine (HC2.out _).mono ?_; rintro e w6 ⟨rfl, hb6⟩; have K6 : Hid (Blk w6 w.heap.size 32 L) := K5.out.below hb6 K5.out.lt; have L6 : Hid (Below w.heap.size w w6) := L5.out.trans (hb6.mono L5.out.size); clear hb6 B5 K5 L5 c2 HC2))
                go_roundw
                case rel => exact ⟨k + 1, by omega, by go_num, by rw [← HSN.out], K6.out, L6.out⟩
                case measure => simp [intOf]; omega
              · obtain rfl : k = R.nm := by omega
                have hk' : ¬ (R.nm : Int) < (R.nm : Int) := by omega
                go_wp2
                go_ret2
                exact ⟨by rw [HQ.out]; rfl, hb.out⟩
theorem r14put_any (hf : R.Fine) (hL : Lies w R sa ma) : Calls Tryd.prog 17 #[.agg (supV R sa ma sc mc).toArray] w fun e w' => e = .returned (.tuple #[.string (putT R), .int .i64 (putE R)]) ∧ Below w.heap.size w w' := by
  unfold putT putE
  cases hg : gd R
  · exact r14put_bad hf hL hg
  · exact r14put_good hf hL hg
end
end Go.Proofs.YtbjmhpbelkndpaaDoor
