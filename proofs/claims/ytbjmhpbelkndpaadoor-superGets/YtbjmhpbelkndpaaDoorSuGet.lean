/- The record that bytes are, by the program. -/
import Derived.Test.YtbjmhpbelkndpaaDoorSuRead
import Derived.Test.YtbjmhpbelkndpaaDoorSuGood3
namespace Go.Proofs.YtbjmhpbelkndpaaDoor
open Go.RowKit Go.PlainAid
set_option linter.unusedVariables false
set_option maxRecDepth 20000

/-- What Get answers: the record, and the error. -/
def getR (t : ByteArray) : Rec := if okP t then wayP.told t else zRec
def getE (t : ByteArray) : Int := if okP t then 0 else 4
theorem lies_z (w : World) : Lies w zRec none none := ⟨.inl rfl, .inl rfl⟩
theorem supV_one (R : Rec) (sa ma : Option Addr) (sc mc : Nat) : ∀ v ∈ supV R sa ma sc mc, v.oneCell' = true := fun v hv => by
  simp only [supV, List.mem_cons, List.not_mem_nil, or_false] at hv
  rcases hv with rfl | rfl | rfl | rfl | rfl | rfl | rfl | rfl | rfl <;> rfl
section
variable {w : World}
set_option maxRecDepth 20000 in
set_option maxHeartbeats 2000000 in
theorem sget_any (t : ByteArray) (ht : t.size ≤ 140737488355328) (w : World) : Calls Tryd.prog 4 #[.string t] w fun e w' => ∃ sa ma sc mc, e = .returned (.tuple #[.agg (supV (getR t) sa ma sc mc).toArray, .int .i64 (getE t)]) ∧ Lies w' (getR t) sa ma ∧ Below w.heap.size w w' := by
  have hzero := zeroSup
  have hF := wayP_fine t ht
  have h0 := (hold_nought w.heap.size w w (Nat.le_refl _) (Below.refl _ _)).newBlk firm_nought 26 zS.toArray
  rw [List.toList_toArray] at h0
  obtain ⟨HS, hHS⟩ : ∃ HS, w.heap.size = HS := ⟨_, rfl⟩
  rw [hHS] at h0 ⊢
  have H0 : Hid (Hold HS w (w.alloc (.cells zS.toArray 26)) (star (blkA HS 26 zS) nought)) := h0
  have HRD : Hid (∀ z g, Hold HS w z (star (rdr g t 0) (star (blkA HS 26 zS) nought)) → Calls Tryd.prog 11 #[.pointer (some ⟨g, 0, none⟩)] z _) := fun z g h => sread_any ((firm_blk _ _ _).star firm_nought) h ht
  have HGD : Hid (∀ z G1 G2, Lies z (wayP.told t) (some ⟨G1, 0, none⟩) (some ⟨G2, 0, none⟩) → Calls Tryd.prog 13 #[.agg (supV (wayP.told t) (some ⟨G1, 0, none⟩) (some ⟨G2, 0, none⟩) (wayP.ns t) (wayP.nm t)).toArray] z fun e w' => e = .returned (.bool (gd (wayP.told t))) ∧ Below z.heap.size z w') := fun z G1 G2 h => sgood_any hF h
  have HLI : Hid (∀ (z : World) (G1 G2 : Nat) (M : List Value) (Y : Asn), memP M (wayP.nm t) (wayP.told t).st (wayP.told t).top (wayP.told t).log → Hold HS w z (star (blkA G2 64 M) (star (blkA G1 3 (si (wayP.ns t) (wayP.told t).seat)) Y)) → Lies z (wayP.told t) (some ⟨G1, 0, none⟩) (some ⟨G2, 0, none⟩)) := fun z G1 G2 M Y hp h => ⟨Blk.sx h.right.blk, Blk.mx h.blk hp⟩
  have HLL : Hid (∀ G1 G2, (supV (wayP.told t) (some ⟨G1, 0, none⟩) (some ⟨G2, 0, none⟩) (wayP.ns t) (wayP.nm t)).length = 9) := fun _ _ => rfl
  have HONE : Hid (∀ G1 G2, ∀ v ∈ supV (wayP.told t) (some ⟨G1, 0, none⟩) (some ⟨G2, 0, none⟩) (wayP.ns t) (wayP.nm t), v.oneCell' = true) := fun _ _ => supV_one _ _ _ _ _
  have HOK : Hid (okP t = (decide (dnE (wayP.fin t).1 (wayP.fin t).2 = 0) && gd (wayP.told t))) := rfl
  have HR : Hid (getR t = if okP t then wayP.told t else zRec) := rfl
  have HE : Hid (getE t = if okP t then 0 else 4) := rfl
  have hzl : zS.length = 9 := rfl
  have hzo : ∀ v ∈ zS, v.oneCell' = true := supV_one _ _ _ _ _
  have HZL : Hid _ := hzl
  have HZO : Hid _ := hzo
  have HSZ9 : Hid ((Tryd.prog.info? 26).map (·.size) = some 9) := Tryd.size26
  have HZZ : Hid (zS = supV zRec none none 0 0) := rfl
  clear h0 hF ht hzl hzo
  generalize okP t = ok at *
  generalize gd (wayP.told t) = gg at *
  generalize wayP.told t = RR at *
  generalize wayP.fin t = FF at *
  generalize wayP.ns t = NN at *
  generalize wayP.nm t = MM at *
  generalize getR t = GR at *
  generalize getE t = GE at *
  generalize zS = ZS at *
  have HMV : Hid (∀ (z : World) (g : Nat) (s : Rst) (A B : Asn), Hold HS w z (star (rdr g s.1 s.2) (star A (star B (star (blkA HS 26 ZS) nought)))) → Hold HS w z (star (blkA HS 26 ZS) (star (star A B) nought))) := fun z g s A B h => by
    have h1 := h.right.mono (fun F h => star_monoR h (fun F h => star_swap h))
    have h2 := h1.swap
    exact h2.monoR (fun F h => star_unassoc h)
  by_cases hdn : dnE FF.1 FF.2 = 0
  · cases gg
    · have ho : ok = false := by rw [HOK.out]; simp
      rw [ho] at HR HE
      have HR2 : Hid (GR = zRec) := HR.out
      have HE2 : Hid (GE = 4) := HE.out
      clear HR HE ho
      go_enter Tryd.func4, Tryd.ntmps4
      go_wp2_with (first
        | (go_at_call 10; refine (cnew_any ((firm_blk _ _ _).star firm_nought) H0.out t).mono ?_; rintro e w1 ⟨g, rfl, h1'⟩; have h1 : Hid (Hold HS w w1 _) := h1'; clear h1' H0)
        | (go_at_call 11; refine (HRD.out _ _ h1.out).mono ?_; rintro e w2 ⟨G1, G2, M, rfl, hP', h2'⟩; have hP : Hid (memP M MM RR.st RR.top RR.log) := hP'; have HDL := HLL.out G1 G2; have HDO := HONE.out G1 G2; have HG2 : Hid _ := fun z => HGD.out z G1 G2; obtain ⟨DD, hDD⟩ : ∃ DD, supV RR (some ⟨G1, 0, none⟩) (some ⟨G2, 0, none⟩) NN MM = DD := ⟨_, rfl⟩; rw [hDD] at HDL HDO HG2 ⊢; have HDL : Hid _ := HDL; have HDO : Hid _ := HDO; obtain ⟨w3, hw3⟩ : ∃ w3, (w2.alloc (.cells ZS.toArray 26)).setRow w2.heap.size DD.toArray = w3 := ⟨_, rfl⟩; have hxx := Below.boxed w2 26 ZS DD; have hxb := Blk.boxed w2 26 ZS DD; rw [hw3] at hxx hxb; have h3 : Hid (Hold HS w w3 (star (rdr g FF.1 FF.2) (star (blkA G2 64 M) (star (blkA G1 3 (si NN RR.seat)) (star (blkA HS 26 ZS) nought))))) := h2'.below ((firm_rdr _ _ _).star ((firm_blk _ _ _).star ((firm_blk _ _ _).star ((firm_blk _ _ _).star firm_nought)))) hxx; have HXB : Hid (Blk w3 w2.heap.size 26 DD) := hxb; have HDD : Hid _ := hDD; clear h2' h1 HRD hP' hxx hxb HLL HONE HGD hDD)
        | (refine wpList_store_blk rfl 26 _ _ rfl w2.heap.size ZS DD rfl rfl 26 (Blk.box _ _ _) (by rw [HSZ9.out, HDL.out]) (by rw [HZL.out, HDL.out]) HDO.out ?_; rw [hw3]; clear hw3)
        | (go_at_call 12; refine (cdone_any h3.out).mono ?_; rintro e w4 ⟨rfl, hw4⟩; rw [hw4, hdn]; clear hw4 w4)
        | (refine wpList_load_want 26 _ rfl ?_ w2.heap.size rfl 26 DD _ HXB.out Tryd.underlying26 rfl (by rw [HSZ9.out, HDL.out]) ?_)
        | (go_at_call 13; refine (HG2.out _ (HLI.out _ _ _ _ _ hP.out h3.out.right)).mono ?_; rintro e w5 ⟨rfl, hb5⟩; have h5 := HMV.out _ _ _ _ _ (h3.out.below ((firm_rdr _ _ _).star ((firm_blk _ _ _).star ((firm_blk _ _ _).star ((firm_blk _ _ _).star firm_nought)))) hb5); have hb2 : Hid (Hold _ _ _ _) := h5; have hb3 : Hid (Hold _ _ _ _) := h5.setRowBlk (((firm_blk _ _ _).star (firm_blk _ _ _)).star firm_nought) ZS; clear hb5 h3 h5)
        | (refine wpList_store_blk rfl 26 _ _ rfl HS ZS ZS rfl rfl 26 hb2.out.blk (by rw [HSZ9.out, HZL.out]) rfl HZO.out ?_))
      have HR3 : Hid ((loadVar 26 ⟨HS, 0, none⟩).run Tryd.prog (w5.setRow HS ZS.toArray) = .ok (.agg ZS.toArray) (w5.setRow HS ZS.toArray)) := run_loadVar_row _ HS 26 26 ZS.toArray (0, 0) _ hb3.out.blk Tryd.underlying26 rfl (by rw [HSZ9.out]; simp [HZL.out])
      exact bodyPost_ret_by (v := .tuple #[.agg ZS.toArray, .int .i64 4]) (results_cell_tmp 2 3 26 ⟨HS, 0, none⟩ Tryd.results4 rfl HR3.out rfl) rfl ⟨none, none, 0, 0, by rw [HR2.out, HE2.out, HZZ.out], by rw [HR2.out]; exact lies_z _, hb3.out.low⟩
    · have ho : ok = true := by rw [HOK.out, decide_eq_true hdn]; rfl
      rw [ho] at HR HE
      have HR2 : Hid (GR = RR) := HR.out
      have HE2 : Hid (GE = 0) := HE.out
      clear HR HE ho
      go_enter Tryd.func4, Tryd.ntmps4
      go_wp2_with (first
        | (go_at_call 10; refine (cnew_any ((firm_blk _ _ _).star firm_nought) H0.out t).mono ?_; rintro e w1 ⟨g, rfl, h1'⟩; have h1 : Hid (Hold HS w w1 _) := h1'; clear h1' H0)
        | (go_at_call 11; refine (HRD.out _ _ h1.out).mono ?_; rintro e w2 ⟨G1, G2, M, rfl, hP', h2'⟩; have hP : Hid (memP M MM RR.st RR.top RR.log) := hP'; have HDL := HLL.out G1 G2; have HDO := HONE.out G1 G2; have HG2 : Hid _ := fun z => HGD.out z G1 G2; obtain ⟨DD, hDD⟩ : ∃ DD, supV RR (some ⟨G1, 0, none⟩) (some ⟨G2, 0, none⟩) NN MM = DD := ⟨_, rfl⟩; rw [hDD] at HDL HDO HG2 ⊢; have HDL : Hid _ := HDL; have HDO : Hid _ := HDO; obtain ⟨w3, hw3⟩ : ∃ w3, (w2.alloc (.cells ZS.toArray 26)).setRow w2.heap.size DD.toArray = w3 := ⟨_, rfl⟩; have hxx := Below.boxed w2 26 ZS DD; have hxb := Blk.boxed w2 26 ZS DD; rw [hw3] at hxx hxb; have h3 : Hid (Hold HS w w3 (star (rdr g FF.1 FF.2) (star (blkA G2 64 M) (star (blkA G1 3 (si NN RR.seat)) (star (blkA HS 26 ZS) nought))))) := h2'.below ((firm_rdr _ _ _).star ((firm_blk _ _ _).star ((firm_blk _ _ _).star ((firm_blk _ _ _).star firm_nought)))) hxx; have HXB : Hid (Blk w3 w2.heap.size 26 DD) := hxb; have HDD : Hid _ := hDD; clear h2' h1 HRD hP' hxx hxb HLL HONE HGD hDD)
        | (refine wpList_store_blk rfl 26 _ _ rfl w2.heap.size ZS DD rfl rfl 26 (Blk.box _ _ _) (by rw [HSZ9.out, HDL.out]) (by rw [HZL.out, HDL.out]) HDO.out ?_; rw [hw3]; clear hw3)
        | (go_at_call 12; refine (cdone_any h3.out).mono ?_; rintro e w4 ⟨rfl, hw4⟩; rw [hw4, hdn]; clear hw4 w4)
        | (refine wpList_load_want 26 _ rfl ?_ w2.heap.size rfl 26 DD _ HXB.out Tryd.underlying26 rfl (by rw [HSZ9.out, HDL.out]) ?_)
        | (go_at_call 13; refine (HG2.out _ (HLI.out _ _ _ _ _ hP.out h3.out.right)).mono ?_; rintro e w5 ⟨rfl, hb5⟩; have h5 := HMV.out _ _ _ _ _ (h3.out.below ((firm_rdr _ _ _).star ((firm_blk _ _ _).star ((firm_blk _ _ _).star ((firm_blk _ _ _).star firm_nought)))) hb5); have hb2 : Hid (Hold _ _ _ _) := h5; have hb3 : Hid (Hold _ _ _ _) := h5.setRowBlk (((firm_blk _ _ _).star (firm_blk _ _ _)).star firm_nought) DD; have HXB5 : Hid (Blk w5 w2.heap.size 26 DD) := HXB.out.below hb5 HXB.out.lt; clear hb5 h3 h5)
        | (refine wpList_load_blk rfl 26 _ rfl w2.heap.size rfl 26 DD _ HXB5.out Tryd.underlying26 rfl (by rw [HSZ9.out, HDL.out]) ?_)
        | (refine wpList_store_blk rfl 26 _ _ rfl HS ZS DD rfl rfl 26 hb2.out.blk (by rw [HSZ9.out, HDL.out]) (by rw [HZL.out, HDL.out]) HDO.out ?_))
      have HR3 : Hid ((loadVar 26 ⟨HS, 0, none⟩).run Tryd.prog (w5.setRow HS DD.toArray) = .ok (.agg DD.toArray) (w5.setRow HS DD.toArray)) := run_loadVar_row _ HS 26 26 DD.toArray (0, 0) _ hb3.out.blk Tryd.underlying26 rfl (by rw [HSZ9.out]; simp [HDL.out])
      have HL3 : Hid (Lies (w5.setRow HS DD.toArray) RR (some ⟨G1, 0, none⟩) (some ⟨G2, 0, none⟩)) := HLI.out _ _ _ _ _ hP.out (hb3.out.right.assoc)
      exact bodyPost_ret_by (v := .tuple #[.agg DD.toArray, .int .i64 0]) (results_cell_tmp 2 3 26 ⟨HS, 0, none⟩ Tryd.results4 rfl HR3.out rfl) rfl ⟨_, _, _, _, by rw [HR2.out, HE2.out, ← HDD.out], by rw [HR2.out]; exact HL3.out, hb3.out.low⟩
  · have ho : ok = false := by rw [HOK.out, decide_eq_false hdn]; rfl
    rw [ho] at HR HE
    have HR2 : Hid (GR = zRec) := HR.out
    have HE2 : Hid (GE = 4) := HE.out
    have hdb : (dnE FF.1 FF.2 != 0) = true := by simpa using hdn
    clear HR HE ho
    generalize hdn' : dnE FF.1 FF.2 = dd at *
    have hdn := hdn'
    clear hdn'
    go_enter Tryd.func4, Tryd.ntmps4
    go_wp2_with (first
      | (go_at_call 10; refine (cnew_any ((firm_blk _ _ _).star firm_nought) H0.out t).mono ?_; rintro e w1 ⟨g, rfl, h1'⟩; have h1 : Hid (Hold HS w w1 _) := h1'; clear h1' H0)
      | (go_at_call 11; refine (HRD.out _ _ h1.out).mono ?_; rintro e w2 ⟨G1, G2, M, rfl, hP', h2'⟩; have hP : Hid (memP M MM RR.st RR.top RR.log) := hP'; have HDL := HLL.out G1 G2; have HDO := HONE.out G1 G2; have HG2 : Hid _ := fun z => HGD.out z G1 G2; obtain ⟨DD, hDD⟩ : ∃ DD, supV RR (some ⟨G1, 0, none⟩) (some ⟨G2, 0, none⟩) NN MM = DD := ⟨_, rfl⟩; rw [hDD] at HDL HDO HG2 ⊢; have HDL : Hid _ := HDL; have HDO : Hid _ := HDO; obtain ⟨w3, hw3⟩ : ∃ w3, (w2.alloc (.cells ZS.toArray 26)).setRow w2.heap.size DD.toArray = w3 := ⟨_, rfl⟩; have hxx := Below.boxed w2 26 ZS DD; have hxb := Blk.boxed w2 26 ZS DD; rw [hw3] at hxx hxb; have h3 : Hid (Hold HS w w3 (star (rdr g FF.1 FF.2) (star (blkA G2 64 M) (star (blkA G1 3 (si NN RR.seat)) (star (blkA HS 26 ZS) nought))))) := h2'.below ((firm_rdr _ _ _).star ((firm_blk _ _ _).star ((firm_blk _ _ _).star ((firm_blk _ _ _).star firm_nought)))) hxx; have HXB : Hid (Blk w3 w2.heap.size 26 DD) := hxb; have HDD : Hid _ := hDD; clear h2' h1 HRD hP' hxx hxb HLL HONE HGD hDD)
      | (refine wpList_store_blk rfl 26 _ _ rfl w2.heap.size ZS DD rfl rfl 26 (Blk.box _ _ _) (by rw [HSZ9.out, HDL.out]) (by rw [HZL.out, HDL.out]) HDO.out ?_; rw [hw3]; clear hw3)
      | (go_at_call 12; refine (cdone_any h3.out).mono ?_; rintro e w4 ⟨rfl, hw4⟩; rw [hw4, hdn]; have h5 := HMV.out _ _ _ _ _ h3.out; have hb2 : Hid (Hold _ _ _ _) := h5; have hb3 : Hid (Hold _ _ _ _) := h5.setRowBlk (((firm_blk _ _ _).star (firm_blk _ _ _)).star firm_nought) ZS; clear hw4 w4 h5)
      | (refine wpList_store_blk rfl 26 _ _ rfl HS ZS ZS rfl rfl 26 hb2.out.blk (by rw [HSZ9.out, HZL.out]) rfl HZO.out ?_))
    have HR3 : Hid ((loadVar 26 ⟨HS, 0, none⟩).run Tryd.prog (w3.setRow HS ZS.toArray) = .ok (.agg ZS.toArray) (w3.setRow HS ZS.toArray)) := run_loadVar_row _ HS 26 26 ZS.toArray (0, 0) _ hb3.out.blk Tryd.underlying26 rfl (by rw [HSZ9.out]; simp [HZL.out])
    exact bodyPost_ret_by (v := .tuple #[.agg ZS.toArray, .int .i64 4]) (results_cell_tmp 2 3 26 ⟨HS, 0, none⟩ Tryd.results4 rfl HR3.out rfl) rfl ⟨none, none, 0, 0, by rw [HR2.out, HE2.out, HZZ.out], by rw [HR2.out]; exact lies_z _, hb3.out.low⟩
end
end Go.Proofs.YtbjmhpbelkndpaaDoor
