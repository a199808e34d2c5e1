/- The write that a cell is, by the program. -/
import Derived.Test.YtegebaomhbogmaaDoorInLow
namespace Go.Proofs.YtegebaomhbogmaaDoor
open Go.RowKit Go.PlainAid
set_option linter.unusedVariables false
set_option maxRecDepth 20000

/-- What read answers. -/
def rdA (s : ByteArray) : Int := if okC s then atC s else 0
def rdC (s : ByteArray) : ByteArray := if okC s then ceC s else noB
def rdE (s : ByteArray) : Int := if okC s then 0 else 4
section
variable {w : World} {s : ByteArray}
set_option maxHeartbeats 1000000 in
theorem iread_any (s : ByteArray) (hs : s.size ≤ 140737488355328) (w : World) : Calls Tryd.prog 38 #[.string s] w fun e w' => e = .returned (.tuple #[.agg #[.int .i64 (rdA s), .string (rdC s)], .int .i64 (rdE s)]) ∧ Below w.heap.size w w' := by
  have h0 := (hold_nought w.heap.size w w (Nat.le_refl _) (Below.refl _ _)).newBlk firm_nought 49 #[.int .i64 0, .string noB]
  have hF : Hid (Firm (star (blkA w.heap.size 49 [.int .i64 0, .string noB]) nought)) := (firm_blk _ _ _).star firm_nought
  have hn := cnew_any hF.out h0 s
  have hb : Hid (∀ z g, Hold w.heap.size w z (star (rdr g s 0) (star (blkA w.heap.size 49 [.int .i64 0, .string noB]) nought)) → Calls Tryd.prog 31 #[.pointer (some ⟨g, 0, none⟩), .int .i64 140] z fun x w' => x = .returned (.int .i64 (cblV s 0 140)) ∧ Hold w.heap.size w w' (star (rdr g (nmL s 0) (e1C s)) (star (blkA w.heap.size 49 [.int .i64 0, .string noB]) nought))) := fun z g h => cbelow_any hF.out h hs 140 (by decide)
  have htx : Hid (∀ z g, Hold w.heap.size w z (star (rdr g (nmL s 0) (e1C s)) (star (blkA w.heap.size 49 [.int .i64 0, .string noB]) nought)) → Calls Tryd.prog 48 #[.pointer (some ⟨g, 0, none⟩)] z fun x w' => x = .returned (.string (txV (nmL s 0) (e1C s))) ∧ Hold w.heap.size w w' (star (rdr g (txL (nmL s 0) (e1C s)) (txE (nmL s 0) (e1C s))) (star (blkA w.heap.size 49 [.int .i64 0, .string noB]) nought))) := fun z g h => ctext_any hF.out h (Nat.le_trans (nmL_size s 0) hs)
  have hd : Hid (∀ z g X, Hold w.heap.size w z (star (rdr g (txL (nmL s 0) (e1C s)) (txE (nmL s 0) (e1C s))) X) → Calls Tryd.prog 32 #[.pointer (some ⟨g, 0, none⟩)] z fun x w' => x = .returned (.int .i64 (dnE (txL (nmL s 0) (e1C s)) (txE (nmL s 0) (e1C s)))) ∧ w' = z) := fun z g X h => cdone_any h
  have hf : Hid (∀ z, Calls Tryd.prog 20 #[.agg #[.int .i64 (cblV s 0 140), .string (txV (nmL s 0) (e1C s))]] z fun e w' => e = .returned (.int .i64 (wrE (cblV s 0 140) (txV (nmL s 0) (e1C s)))) ∧ Below z.heap.size z w') := fun z => ifault_any _ _ z
  have hz := zeroWr
  have hz2 : Hid ((Tryd.prog.info? 49).map (·.size) = some 2) := Tryd.size49
  unfold rdA rdC rdE
  clear h0
  have HV : Hid (∀ z g (L : ByteArray) (e : Int) (a : Int) (c : ByteArray), Hold w.heap.size w z (star (rdr g L e) (star (blkA w.heap.size 49 [.int .i64 0, .string noB]) nought)) → Hold w.heap.size w ((z.alloc (.cells #[.int .i64 0, .string noB] 49)).setRow z.heap.size #[.int .i64 a, .string c]) (star (blkA z.heap.size 49 [.int .i64 a, .string c]) (star (rdr g L e) (star (blkA w.heap.size 49 [.int .i64 0, .string noB]) nought)))) := fun z g L e a c h =>
    (h.newBlk ((firm_rdr _ _ _).star hF.out) 49 #[.int .i64 0, .string noB]).setRowBlk ((firm_rdr _ _ _).star hF.out) [.int .i64 a, .string c]
  cases hc : okC s
  · rw [if_neg (by decide), if_neg (by decide), if_neg (by decide)]
    have hno := okC_no hc
    generalize dnE (txL (nmL s 0) (e1C s)) (txE (nmL s 0) (e1C s)) = D at *
    generalize wrE (cblV s 0 140) (txV (nmL s 0) (e1C s)) = F at *
    generalize cblV s 0 140 = a at *
    generalize txV (nmL s 0) (e1C s) = c at *
    generalize txL (nmL s 0) (e1C s) = L2 at *
    generalize txE (nmL s 0) (e1C s) = E2 at *
    generalize e1C s = E1 at *
    generalize nmL s 0 = L1 at *
    clear hc
    rcases hno with hD | ⟨hD, hFF⟩
    · have hD' : (D != 0) = true := by simpa using hD
      clear hD hf
      go_enter Tryd.func38, Tryd.ntmps38
      go_wp2_with (first
        | (go_at_call 30; refine hn.mono ?_; rintro x w1 ⟨g, rfl, h1⟩; have H1 : Hid (Hold w.heap.size w w1 (star (rdr g s 0) (star (blkA w.heap.size 49 [.int .i64 0, .string noB]) nought))) := h1; clear h1 hn)
        | (go_at_call 31; refine (hb.out _ _ H1.out).mono ?_; rintro x w2 ⟨rfl, h2⟩; have H2 : Hid (Hold w.heap.size w w2 (star (rdr g L1 E1) (star (blkA w.heap.size 49 [.int .i64 0, .string noB]) nought))) := h2; clear h2 hb H1)
        | (go_at_call 48; refine (htx.out _ _ H2.out).mono ?_; rintro x w3 ⟨rfl, h3⟩; have H3 : Hid (Hold _ _ _ _) := HV.out _ _ _ _ a c h3; clear h3 htx H2; obtain ⟨w4, hw4⟩ : ∃ w4, (w3.alloc (.cells #[.int .i64 0, .string noB] 49)).setRow w3.heap.size #[.int .i64 a, .string c] = w4 := ⟨_, rfl⟩; rw [hw4] at H3)
        | (refine wpList_store_blk rfl 49 _ _ rfl w3.heap.size [.int .i64 0, .string noB] [.int .i64 a, .string c] rfl rfl 49 (Blk.box _ _ _) hz2.out rfl (wrow_one _ _) ?_; rw [hw4]; clear hw4)
        | (go_at_call 32; refine (hd.out _ _ _ H3.out.swap).mono ?_; rintro x w5 ⟨rfl, hw⟩; rw [hw]; clear hw w5 hd; have HA : Hid (Hold w.heap.size w w4 (star (blkA w.heap.size 49 [.int .i64 0, .string noB]) (star (blkA w3.heap.size 49 [.int .i64 a, .string c]) (star (rdr g L2 E2) nought)))) := (H3.out.monoR fun _ => star_swap).swap; have HB : Hid (Blk w4 w3.heap.size 49 [.int .i64 a, .string c]) := H3.out.blk)
        | (refine wpList_store_blk rfl 49 _ _ rfl w.heap.size [.int .i64 0, .string noB] [.int .i64 0, .string noB] rfl rfl 49 HA.out.blk hz2.out rfl (wrow_one _ _) ?_))
      have HE : Hid (Hold w.heap.size w (w4.setRow w.heap.size #[.int .i64 0, .string noB]) (star (blkA w.heap.size 49 [.int .i64 0, .string noB]) (star (blkA w3.heap.size 49 [.int .i64 a, .string c]) (star (rdr g L2 E2) nought)))) := HA.out.setRowBlk ((firm_blk _ _ _).star ((firm_rdr _ _ _).star firm_nought)) [.int .i64 0, .string noB]
      have HR : Hid ((loadVar 49 ⟨w.heap.size, 0, none⟩).run Tryd.prog (w4.setRow w.heap.size #[.int .i64 0, .string noB]) = .ok (.agg #[.int .i64 0, .string noB]) (w4.setRow w.heap.size #[.int .i64 0, .string noB])) := run_loadVar_row _ w.heap.size 49 49 #[.int .i64 0, .string noB] (0, 0) _ HE.out.blk Tryd.underlying49 rfl hz2.out
      exact bodyPost_ret_by (v := .tuple #[.agg #[.int .i64 0, .string noB], .int .i64 4]) (results_cell_tmp 2 3 49 ⟨w.heap.size, 0, none⟩ Tryd.results38 rfl HR.out rfl) rfl ⟨rfl, HE.out.low⟩
    · have hF' : (F != 0) = true := by simpa using hFF
      rw [hD] at hd
      clear hFF hD
      go_enter Tryd.func38, Tryd.ntmps38
      go_wp2_with (first
        | (go_at_call 30; refine hn.mono ?_; rintro x w1 ⟨g, rfl, h1⟩; have H1 : Hid (Hold w.heap.size w w1 (star (rdr g s 0) (star (blkA w.heap.size 49 [.int .i64 0, .string noB]) nought))) := h1; clear h1 hn)
        | (go_at_call 31; refine (hb.out _ _ H1.out).mono ?_; rintro x w2 ⟨rfl, h2⟩; have H2 : Hid (Hold w.heap.size w w2 (star (rdr g L1 E1) (star (blkA w.heap.size 49 [.int .i64 0, .string noB]) nought))) := h2; clear h2 hb H1)
        | (go_at_call 48; refine (htx.out _ _ H2.out).mono ?_; rintro x w3 ⟨rfl, h3⟩; have H3 : Hid (Hold _ _ _ _) := HV.out _ _ _ _ a c h3; clear h3 htx H2; obtain ⟨w4, hw4⟩ : ∃ w4, (w3.alloc (.cells #[.int .i64 0, .string noB] 49)).setRow w3.heap.size #[.int .i64 a, .string c] = w4 := ⟨_, rfl⟩; rw [hw4] at H3)
        | (refine wpList_store_blk rfl 49 _ _ rfl w3.heap.size [.int .i64 0, .string noB] [.int .i64 a, .string c] rfl rfl 49 (Blk.box _ _ _) hz2.out rfl (wrow_one _ _) ?_; rw [hw4]; clear hw4)
        | (go_at_call 32; refine (hd.out _ _ _ H3.out.swap).mono ?_; rintro x w5 ⟨rfl, hw⟩; rw [hw]; clear hw w5 hd; have HA : Hid (Hold w.heap.size w w4 (star (blkA w.heap.size 49 [.int .i64 0, .string noB]) (star (blkA w3.heap.size 49 [.int .i64 a, .string c]) (star (rdr g L2 E2) nought)))) := (H3.out.monoR fun _ => star_swap).swap; have HB : Hid (Blk w4 w3.heap.size 49 [.int .i64 a, .string c]) := H3.out.blk)
        | (refine wpList_load_blkG rfl 49 _ rfl w3.heap.size rfl 49 [.int .i64 a, .string c] _ HB.out Tryd.underlying49 rfl hz2.out ?_)
        | (go_at_call 20; refine (hf.out _).mono ?_; rintro x w6 ⟨rfl, hb6⟩; have HA6 : Hid (Hold w.heap.size w w6 (star (blkA w.heap.size 49 [.int .i64 0, .string noB]) (star (blkA w3.heap.size 49 [.int .i64 a, .string c]) (star (rdr g L2 E2) nought)))) := HA.out.below ((firm_blk _ _ _).star ((firm_blk _ _ _).star ((firm_rdr _ _ _).star firm_nought))) hb6; have HB6 : Hid (Blk w6 w3.heap.size 49 [.int .i64 a, .string c]) := HB.out.below hb6 HB.out.lt; clear hb6 hf)
        | (refine wpList_store_blk rfl 49 _ _ rfl w.heap.size [.int .i64 0, .string noB] [.int .i64 0, .string noB] rfl rfl 49 HA6.out.blk hz2.out rfl (wrow_one _ _) ?_))
      have HE : Hid (Hold w.heap.size w (w6.setRow w.heap.size #[.int .i64 0, .string noB]) (star (blkA w.heap.size 49 [.int .i64 0, .string noB]) (star (blkA w3.heap.size 49 [.int .i64 a, .string c]) (star (rdr g L2 E2) nought)))) := HA6.out.setRowBlk ((firm_blk _ _ _).star ((firm_rdr _ _ _).star firm_nought)) [.int .i64 0, .string noB]
      have HR : Hid ((loadVar 49 ⟨w.heap.size, 0, none⟩).run Tryd.prog (w6.setRow w.heap.size #[.int .i64 0, .string noB]) = .ok (.agg #[.int .i64 0, .string noB]) (w6.setRow w.heap.size #[.int .i64 0, .string noB])) := run_loadVar_row _ w.heap.size 49 49 #[.int .i64 0, .string noB] (0, 0) _ HE.out.blk Tryd.underlying49 rfl hz2.out
      exact bodyPost_ret_by (v := .tuple #[.agg #[.int .i64 0, .string noB], .int .i64 4]) (results_cell_tmp 2 3 49 ⟨w.heap.size, 0, none⟩ Tryd.results38 rfl HR.out rfl) rfl ⟨rfl, HE.out.low⟩
  · rw [if_pos rfl, if_pos rfl, if_pos rfl]
    obtain ⟨e1, e2, e3, e4, e5⟩ := okC_yes hc
    rw [e2] at hb hf
    rw [e3] at htx hf
    rw [e4] at hd
    rw [e5] at hf
    generalize atC s = a at *
    generalize ceC s = c at *
    generalize txL (nmL s 0) (e1C s) = L2 at *
    generalize txE (nmL s 0) (e1C s) = E2 at *
    generalize e1C s = E1 at *
    generalize nmL s 0 = L1 at *
    clear hc e1 e2 e3 e4 e5
    go_enter Tryd.func38, Tryd.ntmps38
    go_wp2_with (first
      | (go_at_call 30; refine hn.mono ?_; rintro x w1 ⟨g, rfl, h1⟩; have H1 : Hid (Hold w.heap.size w w1 (star (rdr g s 0) (star (blkA w.heap.size 49 [.int .i64 0, .string noB]) nought))) := h1; clear h1 hn)
      | (go_at_call 31; refine (hb.out _ _ H1.out).mono ?_; rintro x w2 ⟨rfl, h2⟩; have H2 : Hid (Hold w.heap.size w w2 (star (rdr g L1 E1) (star (blkA w.heap.size 49 [.int .i64 0, .string noB]) nought))) := h2; clear h2 hb H1)
      | (go_at_call 48; refine (htx.out _ _ H2.out).mono ?_; rintro x w3 ⟨rfl, h3⟩; have H3 : Hid (Hold _ _ _ _) := HV.out _ _ _ _ a c h3; clear h3 htx H2; obtain ⟨w4, hw4⟩ : ∃ w4, (w3.alloc (.cells #[.int .i64 0, .string noB] 49)).setRow w3.heap.size #[.int .i64 a, .string c] = w4 := ⟨_, rfl⟩; rw [hw4] at H3)
      | (refine wpList_store_blk rfl 49 _ _ rfl w3.heap.size [.int .i64 0, .string noB] [.int .i64 a, .string c] rfl rfl 49 (Blk.box _ _ _) hz2.out rfl (wrow_one _ _) ?_; rw [hw4]; clear hw4)
      | (go_at_call 32; refine (hd.out _ _ _ H3.out.swap).mono ?_; rintro x w5 ⟨rfl, hw⟩; rw [hw]; clear hw w5 hd; have HA : Hid (Hold w.heap.size w w4 (star (blkA w.heap.size 49 [.int .i64 0, .string noB]) (star (blkA w3.heap.size 49 [.int .i64 a, .string c]) (star (rdr g L2 E2) nought)))) := (H3.out.monoR fun _ => star_swap).swap; have HB : Hid (Blk w4 w3.heap.size 49 [.int .i64 a, .string c]) := H3.out.blk)
      | (refine wpList_load_blkG rfl 49 _ rfl w3.heap.size rfl 49 [.int .i64 a, .string c] _ HB.out Tryd.underlying49 rfl hz2.out ?_)
      | (go_at_call 20; refine (hf.out _).mono ?_; rintro x w6 ⟨rfl, hb6⟩; have HA6 : Hid (Hold w.heap.size w w6 (star (blkA w.heap.size 49 [.int .i64 0, .string noB]) (star (blkA w3.heap.size 49 [.int .i64 a, .string c]) (star (rdr g L2 E2) nought)))) := HA.out.below ((firm_blk _ _ _).star ((firm_blk _ _ _).star ((firm_rdr _ _ _).star firm_nought))) hb6; have HB6 : Hid (Blk w6 w3.heap.size 49 [.int .i64 a, .string c]) := HB.out.below hb6 HB.out.lt; clear hb6 hf)
      | (refine wpList_load_blk rfl 49 _ rfl w3.heap.size rfl 49 [.int .i64 a, .string c] _ HB6.out Tryd.underlying49 rfl hz2.out ?_)
      | (refine wpList_store_blk rfl 49 _ _ rfl w.heap.size [.int .i64 0, .string noB] [.int .i64 a, .string c] rfl rfl 49 HA6.out.blk hz2.out rfl (wrow_one _ _) ?_))
    have HE : Hid (Hold w.heap.size w (w6.setRow w.heap.size #[.int .i64 a, .string c]) (star (blkA w.heap.size 49 [.int .i64 a, .string c]) (star (blkA w3.heap.size 49 [.int .i64 a, .string c]) (star (rdr g L2 E2) nought)))) := HA6.out.setRowBlk ((firm_blk _ _ _).star ((firm_rdr _ _ _).star firm_nought)) [.int .i64 a, .string c]
    have HR : Hid ((loadVar 49 ⟨w.heap.size, 0, none⟩).run Tryd.prog (w6.setRow w.heap.size #[.int .i64 a, .string c]) = .ok (.agg #[.int .i64 a, .string c]) (w6.setRow w.heap.size #[.int .i64 a, .string c])) := run_loadVar_row _ w.heap.size 49 49 #[.int .i64 a, .string c] (0, 0) _ HE.out.blk Tryd.underlying49 rfl hz2.out
    exact bodyPost_ret_by (v := .tuple #[.agg #[.int .i64 a, .string c], .int .i64 0]) (results_cell_tmp 2 3 49 ⟨w.heap.size, 0, none⟩ Tryd.results38 rfl HR.out rfl) rfl ⟨rfl, HE.out.low⟩
end
end Go.Proofs.YtegebaomhbogmaaDoor
