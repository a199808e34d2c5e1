import Derived.Test.YtokknmkleceooaaGreatDoorSlRep
namespace Go.Proofs.YtokknmkleceooaaGreatDoor
open Go.RowKit Go.PlainAid
set_option linter.unusedVariables false
set_option maxRecDepth 20000
def eL (_ : Nat) : ByteArray := lH noB
def blP (n : Nat) : Nat → List Wr
  | 0 => []
  | k + 1 => blP n k ++ [(100 + (k + 1), tpr eL n (k + 1))]
def blC : Nat → List Wr
  | 0 => []
  | k + 1 => blC k ++ [(120 + k, noB)]
def blW (n : Nat) : List Wr := blP n (n - 1) ++ blC n
theorem blP_length (n : Nat) : ∀ k, (blP n k).length = k
  | 0 => rfl
  | k + 1 => by show (blP n k ++ _).length = _; rw [List.length_append, blP_length n k]; rfl
theorem blC_length : ∀ k, (blC k).length = k
  | 0 => rfl
  | k + 1 => by show (blC k ++ _).length = _; rw [List.length_append, blC_length k]; rfl
theorem blW_length (n : Nat) : (blW n).length = n - 1 + n := by unfold blW; rw [List.length_append, blP_length, blC_length]
theorem bT_eL {d n : Nat} (hn : 2 ^ d = n) (hd : 1 ≤ d ∧ d ≤ 4) (D : Nat → ByteArray) (hD : ∀ j, D j = lH noB) : bE n D = 0 ∧ bN n D = n ∧ bT n D = tdg eL n 1 ∧ ∀ j, 1 ≤ j → bP n D j = tpr eL n j := by
  have hde : D = eL := funext fun j => hD j
  subst hde
  have h := bE_zero (n := n) (D := eL) (by rw [← hn]; exact pow_isTree hd.1 hd.2) (fun i _ => lH_size _)
  exact ⟨h, (bN_yes h).1, (bN_yes h).2, fun j hj => if_neg (by omega)⟩
def Bl17 (w z : World) (sb : List Value) (v pv : Value) (n : Nat) (q : List Wr) : Prop := Hold w.heap.size w z (star (rowK 144 2 v q.length (pairs q)) (star (rowK 9 1 pv n (strs n (bP n eL))) (star (blkA w.heap.size 45 sb) nought)))
section
variable {w z z' : World} {sb : List Value} {v pv : Value} {n : Nat} {q : List Wr}
theorem bl_firm : Firm (star (rowK 9 1 pv n (strs n (bP n eL))) (star (blkA w.heap.size 45 sb) nought)) := (firm_rowK _ _ _ _ _).star ((firm_blk _ _ _).star firm_nought)
theorem Bl17.below (h : Bl17 w z sb v pv n q) (hb : Below z.heap.size z z') : Bl17 w z' sb v pv n q := Hold.below h ((firm_rowK _ _ _ _ _).star bl_firm) hb
theorem Bl17.box (h : Bl17 w z sb v pv n q) : Blk z w.heap.size 45 sb := (Hold.right (Hold.right h)).blk
theorem Bl17.row (h : Bl17 w z sb v pv n q) : z.ownsRow 0 9 1 pv n (strs n (bP n eL)) := Hold.rowK (Hold.right h)
theorem Bl17.push (h : Bl17 w z sb v pv n q) (hq : q.length ≤ 1000) (p : Wr) : ∃ a c z', (Builtin.append_ #[85, 85] 85 #[v, .slice (some ⟨z.heap.size, 0, none⟩) 1 1]).run Tryz.prog (z.alloc (.cells #[.int .i64 (p.1 : Int), .string p.2] 144)) = .ok (.slice a (q.length + 1) c) z' ∧ Bl17 w z' sb (.slice a (q.length + 1) c) pv n (q ++ [p]) := by
  obtain ⟨a, c, z', h1, h2⟩ := push_wr bl_firm h hq p
  refine ⟨a, c, z', h1, ?_⟩
  unfold Bl17
  rw [List.length_append]; exact h2
end
set_option maxHeartbeats 2000000 in
theorem sblank_any {w : World} {pv : Value} {i : Int} {d n : Nat} {key : ByteArray} (hg : GoodIs w (slV pv i (n : Int) key) true) (ht : Tabs w) (hn : 2 ^ d = n) (hd : 1 ≤ d ∧ d ≤ 4) : Calls Tryz.prog 34 #[slV pv i (n : Int) key] w fun e w' => ∃ v, e = .returned (.tuple #[v, .string (tdg eL n 1), .int .i64 0]) ∧ w'.ownsRow w.heap.size 144 2 v (blW n).length (pairs (blW n)) ∧ Below w.heap.size w w' := by
  have h16 : n ≤ 16 := by rw [← hn]; exact pow_le16 d hd.2
  have h2n : 2 ≤ n := by rw [← hn]; exact (pow_mono hd.1)
  have hb : Hid (Below w.heap.size w (w.alloc (.cells #[pv, .int .i64 i, .int .i64 (n : Int), .string key] 45))) := (Below.refl _ _).alloc (Nat.le_refl _) _
  have hB : Hid (Blk _ _ _ _) := Blk.box w 45 [pv, .int .i64 i, .int .i64 (n : Int), .string key]
  have hc : Hid (Calls _ _ _ _ _) := hg _ hb.out
  have hz : Hid ((Tryz.prog.info? 45).map (·.size) = some 4) := Tryz.size45
  have hzr := zero17
  have H0 := (hold_nought w.heap.size w w (Nat.le_refl _) (Below.refl _ _)).newBlk firm_nought 45 #[pv, .int .i64 i, .int .i64 (n : Int), .string key]
  have HLF : Hid (∀ z, Below w.heap.size w z → Calls Tryz.prog 57 #[.string noB] z fun e w' => e = .returned (.string (lH noB)) ∧ Below z.heap.size z w') := fun z hz => leaf_any noB (by decide) z (ht.below hz ht.lt)
  have HRP : Hid (∀ z gx, z.cell? ⟨gx, 0, none⟩ = some (.string (lH noB)) → Calls Tryz.prog 72 #[.slice (some ⟨gx, 0, none⟩) 1 1, .int .i64 (n : Int)] z fun e w' => ∃ g, e = .returned (.slice (some ⟨g, 0, none⟩) n n) ∧ Blk w' g 9 (strs n fun _ => lH noB) ∧ Below z.heap.size z w') := fun z gx h => srepeat_any h hn hd
  have HBU : Hid (∀ z g, Below w.heap.size w z → Blk z g 9 (strs n fun _ => lH noB) → Calls Tryz.prog 71 #[.slice (some ⟨g, 0, none⟩) n n] z fun e w' => ∃ v, e = .returned (.tuple #[v, .string (tdg eL n 1), .int .i64 0]) ∧ w'.ownsRow z.heap.size 9 1 v n (strs n (bP n eL)) ∧ Below z.heap.size z w') := fun z g hz hB => by
    obtain ⟨e1, e2, e3, e4⟩ := bT_eL hn hd eL (fun _ => rfl)
    have hSa : Sa z (some ⟨g, 0, none⟩) n eL := by
      obtain ⟨a, c, f1, f2⟩ := Sa.owns (blk_owns (base := 0) hB (strs_length _ _) (by omega) (Nat.zero_le _))
      cases f1; exact f2
    have h := build_any (some ⟨g, 0, none⟩) n n (by omega) eL z hSa (ht.below hz ht.lt)
    rw [e1, e2, e3] at h
    exact h
  have HPA : Hid (∀ z (k : Nat), k < 17 → Calls Tryz.prog 73 #[.int .i64 (k : Int)] z fun e w' => e = .returned (.int .i64 ((100 + k : Nat) : Int)) ∧ w' = z) := fun z k hk => pairAt_any k (by omega) z
  have HCA : Hid (∀ z (k : Nat), k < 17 → Calls Tryz.prog 56 #[.int .i64 (k : Int)] z fun e w' => e = .returned (.int .i64 ((120 + k : Nat) : Int)) ∧ w' = z) := fun z k hk => cellAt_any k (by omega) z
  generalize tdg eL n 1 = top at *
  generalize lH noB = L at *
  clear hg ht hn hd
  go_enter Tryz.func34, Tryz.ntmps34
  go_wp2_with (first
    | (refine wpList_load_blk rfl 45 _ rfl w.heap.size rfl 45 [pv, .int .i64 i, .int .i64 (n : Int), .string key] _ hB.out Tryz.underlying45 rfl hz.out ?_)
    | (go_at_call 70; refine hc.out.mono ?_; rintro e w1 ⟨rfl, hw⟩; have H1 : Hid (Hold w.heap.size w w1 (star (blkA w.heap.size 45 [pv, .int .i64 i, .int .i64 (n : Int), .string key]) nought)) := H0.below ((firm_blk _ _ _).star firm_nought) hw; clear hw))
  have HS : Hid (∀ z, Below w1.heap.size w1 z → z.cell? ⟨w.heap.size, 2, none⟩ = some (.int .i64 (n : Int)) ∧ Hold w.heap.size w z (star (blkA w.heap.size 45 [pv, .int .i64 i, .int .i64 (n : Int), .string key]) nought)) := fun z hz => by
    have h := H1.out.below ((firm_blk _ _ _).star firm_nought) hz
    exact ⟨h.blk.cell (i := 2) rfl, h⟩
  have M0 : Hid (Below w1.heap.size w1 w1.drew) := (Below.refl _ _).drew
  clear H0 hc hB hb
  refine wp_region_noPanic ?_
  refine wp_region_held_drew (S := fun z : World => z.cell? ⟨w.heap.size, 2, none⟩ = some (.int .i64 (n : Int))) (by kernel_rfl) (HS.out _ M0.out).1 (fun hHeld => ?_)
  refine tkH 2 ?_; go_simp
  refine tkH 3 ?_; go_simp
  refine rdH 0 fun K hK => ?_
  go_simp
  go_at_call 57
  refine (HLF.out _ (HS.out _ M0.out).2.low).mono ?_
  rintro x wa ⟨rfl, hba⟩
  have M1 : Hid (Below w1.heap.size w1 wa) := M0.out.trans (hba.mono M0.out.size)
  clear hba
  refine hK.out _ _ (HS.out _ M1.out).1 (fun hHeld => ?_)
  clear hK K
  have M2 : Hid (Below w1.heap.size w1 (wa.alloc (.cells #[.string L] 9))) := M1.out.alloc M1.out.size _
  have hcx : (wa.alloc (.cells #[.string L] 9)).cell? ⟨wa.heap.size, 0, none⟩ = some (.string L) := (Blk.new wa 9 #[.string L]).cell rfl
  refine rdH 1 fun K hK => ?_
  go_simp
  refine hK.out _ _ (HS.out _ M2.out).1 (fun hHeld => ?_)
  clear hK K
  refine rdH 4 fun K hK => ?_
  go_simp
  go_at_call 72
  refine (HRP.out _ _ hcx).mono ?_
  rintro x wb ⟨gr, rfl, hbr, hbb⟩
  have M3 : Hid (Below w1.heap.size w1 wb) := M2.out.trans (hbb.mono M2.out.size)
  have HBR : Hid (Blk wb gr 9 (strs n fun _ => L)) := hbr
  clear hbb hbr hcx
  refine hK.out _ _ (HS.out _ M3.out).1 (fun hHeld => ?_)
  clear hK K
  refine rdH 5 fun K hK => ?_
  go_simp
  go_at_call 71
  refine (HBU.out _ _ (HS.out _ M3.out).2.low HBR.out).mono ?_
  rintro x wc ⟨pvv, rfl, hrow, hbc⟩
  have M4 : Hid (Below w1.heap.size w1 wc) := M3.out.trans (hbc.mono M3.out.size)
  have H4 : Hid (Bl17 w wc [pv, .int .i64 i, .int .i64 (n : Int), .string key] (.slice none 0 0) pvv n (blP n 0)) := ((HS.out _ M3.out).2.newRow ((firm_blk _ _ _).star firm_nought) hbc hrow).mono fun F h => star_nil17 h
  clear hbc hrow
  refine hK.out _ _ (HS.out _ M4.out).1 (fun hHeld => ?_)
  clear hK K
  refine tkH 6 ?_; go_simp
  refine tkH 7 ?_; go_simp
  refine tkH 8 ?_; go_simp
  refine tkH 9 ?_; go_simp
  refine tkH 10 ?_; go_simp
  refine tkH 11 ?_; go_simp
  refine tkH 12 ?_; go_simp
  refine wpAnyH_done (by kernel_rfl) ?_ _
  refine NoPanic.normal ?_
  clear HS M0 M1 M2 M3 M4 HLF HRP HBU HBR
  go_wp2
  obtain ⟨ap, cp, hpv⟩ := owns_form H4.out.row
  subst hpv
  have SB : Hid (∀ z v q, Bl17 w z [pv, .int .i64 i, .int .i64 (n : Int), .string key] v (.slice ap n cp) n q → z.cell? ⟨w.heap.size, 2, none⟩ = some (.int .i64 (n : Int))) := fun z v q h => h.box.cell (i := 2) rfl
  go_loopw [8, 9] (fun v j wr => ∃ (k c : Nat) (a : Option Addr), k + 1 ≤ n ∧ j = .int .i64 ((k : Int) + 1) ∧ v = .slice a k c ∧ Hid (Bl17 w wr [pv, .int .i64 i, .int .i64 (n : Int), .string key] (.slice a k c) (.slice ap n cp) n (blP n k))) (fun _ j _ => n - (intOf j).toNat)
  case atStart => exact ⟨0, 0, none, by omega, rfl, rfl, H4.out⟩
  case round =>
    clear H4
    obtain ⟨k, c, a, hk, rfl, rfl, hh⟩ := hrel
    have c2 := SB.out _ _ _ hh.out
    by_cases hlt : k + 1 < n
    · have hk' : (k : Int) + 1 < (n : Int) := by omega
      have hat := strs_at n (bP n eL) (k + 1) hlt
      rw [show bP n eL (k + 1) = tpr eL n (k + 1) from if_neg (by omega)] at hat
      obtain ⟨gp, hgp, hcell⟩ := owns_cell hh.out.row hat
      subst hgp
      have hh1 : Hid (Bl17 w wr.drew [pv, .int .i64 i, .int .i64 (n : Int), .string key] (.slice a k c) (.slice (some ⟨gp, 0, none⟩) n cp) n (blP n k)) := hh.out.below (Below.refl _ _).drew
      have hq1 := blP_length n k
      obtain ⟨a', c', w6, hrun, h6⟩ := hh1.out.push (by omega) (100 + (k + 1), tpr eL n (k + 1))
      rw [hq1] at hrun h6
      have H6 : Hid (Bl17 w w6 [pv, .int .i64 i, .int .i64 (n : Int), .string key] (.slice a' (k + 1) c') (.slice (some ⟨gp, 0, none⟩) n cp) n (blP n (k + 1))) := h6
      have hs0 : Hid (wr.drew.cell? ⟨gp, k + 1, none⟩ = some (.string (tpr eL n (k + 1)))) := hcell
      have hs1 : Hid ((wr.drew.alloc (.cells #[.int .i64 ((100 + (k + 1) : Nat) : Int), .string (tpr eL n (k + 1))] 144)).cell? ⟨gp, k + 1, none⟩ = some (.string (tpr eL n (k + 1)))) := by
        obtain ⟨g', e1, e2⟩ := owns_cell (hh1.out.below ((Below.refl wr.drew.heap.size wr.drew).alloc (Nat.le_refl _) (.cells #[.int .i64 ((100 + (k + 1) : Nat) : Int), .string (tpr eL n (k + 1))] 144))).row hat
        cases e1; exact e2
      have hs2 : Hid (w6.cell? ⟨gp, k + 1, none⟩ = some (.string (tpr eL n (k + 1)))) := by
        obtain ⟨g', e1, e2⟩ := owns_cell h6.row hat
        cases e1; exact e2
      have ek : (k : Int) + 1 = ((k + 1 : Nat) : Int) := by omega
      have hpa := HPA.out wr.drew (k + 1) (by omega)
      rw [← ek] at hpa
      have ekn : ((k : Int) + 1).toNat = k + 1 := by omega
      have hk0 : (0 : Int) ≤ (k : Int) + 1 := by omega
      generalize tpr eL n (k + 1) = T at *
      generalize ((100 + (k + 1) : Nat) : Int) = A at *
      clear h6 hh hh1 hat ek hq1
      go_wp2
      refine wp_region_noPanic ?_
      refine wp_region_held_drew (S := fun z : World => z.cell? ⟨gp, k + 1, none⟩ = some (.string T)) (by kernel_rfl) hs0.out (fun hHeld => ?_)
      refine tkH 0 ?_; go_simp
      refine tkH 1 ?_; go_simp
      refine tkH 3 ?_; go_simp
      refine tkH 4 ?_; go_simp
      refine tkH 5 ?_; go_simp
      refine tkH 6 ?_; go_simp
      refine rdH 2 fun K hK => ?_
      go_simp
      go_at_call 73
      refine hpa.mono ?_
      rintro y wa ⟨rfl, hw⟩
      rw [hw]
      clear hw wa
      refine hK.out _ _ hs0.out (fun hHeld => ?_)
      clear hK K
      refine tkH 7 ?_; go_simp
      refine rdH 8 fun K hK => ?_
      go_simp
      refine hK.out _ _ hs1.out (fun hHeld => ?_)
      clear hK K
      refine rdH 9 fun K hK => ?_
      refine step_append_ty rfl _ _ 85 85 rfl _ _ rfl rfl _ _ hrun ?_
      refine hK.out _ _ hs2.out (fun hHeld => ?_)
      clear hK K
      refine tkH 10 ?_; go_simp
      refine wpAnyH_done (by kernel_rfl) ?_ _
      refine NoPanic.normal ?_
      go_wp2
      go_roundw
      case rel => exact ⟨k + 1, c', a', by omega, by go_num, rfl, H6.out⟩
      case measure => simp [intOf]; omega
    · obtain rfl : n = k + 1 := by omega
      have hk' : ¬ (k : Int) + 1 < ((k + 1 : Nat) : Int) := by omega
      have H5 : Hid (Bl17 w wr [pv, .int .i64 i, .int .i64 ((k + 1 : Nat) : Int), .string key] (.slice a k c) (.slice ap (k + 1) cp) (k + 1) (blP (k + 1) k ++ blC 0)) := by
        show Bl17 _ _ _ _ _ _ _
        rw [show blC 0 = [] from rfl, List.append_nil]; exact hh.out
      generalize hN : ((k + 1 : Nat) : Int) = N at *
      have HN : Hid (((k + 1 : Nat) : Int) = N) := hN
      have HNk : N = (k : Int) + 1 := by omega
      clear hN hh
      go_wp2
      go_loopw [8, 42] (fun v j wz => ∃ (m c : Nat) (a : Option Addr), m ≤ k + 1 ∧ j = .int .i64 (m : Int) ∧ v = .slice a (k + m) c ∧ Hid (Bl17 w wz [pv, .int .i64 i, .int .i64 N, .string key] (.slice a (k + m) c) (.slice ap (k + 1) cp) (k + 1) (blP (k + 1) k ++ blC m))) (fun _ j _ => k + 1 - (intOf j).toNat)
      case atStart => exact ⟨0, c, a, by omega, rfl, rfl, H5.out⟩
      case round =>
        clear H5 c2
        obtain ⟨m, c, a, hm, rfl, rfl, hq⟩ := hrel
        by_cases hlt2 : m < k + 1
        · have hm' : (m : Int) < N := by omega
          have hql : (blP (k + 1) k ++ blC m).length = k + m := by rw [List.length_append, blP_length, blC_length]
          obtain ⟨a', c', w6, hrun, h6⟩ := hq.out.push (by omega) (120 + m, noB)
          rw [hql] at hrun h6
          have H6 : Hid (Bl17 w w6 [pv, .int .i64 i, .int .i64 N, .string key] (.slice a' (k + (m + 1)) c') (.slice ap (k + 1) cp) (k + 1) (blP (k + 1) k ++ blC (m + 1))) := by
            show Bl17 _ _ _ _ _ _ _
            have e1 : blP (k + 1) k ++ blC (m + 1) = blP (k + 1) k ++ blC m ++ [(120 + m, noB)] := by rw [List.append_assoc]; rfl
            rw [e1]; exact h6
          have hca := HCA.out wr m (by omega)
          generalize ((120 + m : Nat) : Int) = A at *
          clear h6 hq hql
          go_wp2_with (first
            | (go_at_call 56; refine hca.mono ?_; rintro y wa ⟨rfl, hw⟩; rw [hw]; clear hw wa)
            | (at_builtin; refine Lib.wpList_append_run _ rfl _ _ 85 85 rfl _ _ rfl rfl _ _ hrun ?_))
          go_roundw
          case rel => exact ⟨m + 1, c', a', by omega, by go_num, rfl, H6.out⟩
          case measure => simp [intOf]; omega
        · obtain rfl : m = k + 1 := by omega
          have hm' : ¬ ((k + 1 : Nat) : Int) < N := by have := HN.out; omega
          have hm2 : ¬ (k : Int) + 1 < N := by omega
          go_wp2
          go_ret3
          exact ⟨_, rfl, by
            show _
            have h := Hold.rowBack hq.out
            have e1 : blW (k + 1) = blP (k + 1) k ++ blC (k + 1) := rfl
            rw [e1]; exact h, Hold.low hq.out⟩
end Go.Proofs.YtokknmkleceooaaGreatDoor
