/- What the Go function TreeBinds answers: true, for every two rows of texts and every slot. -/
import Derived.Test.YtbbgagpompgagabDoorTrClash
import Derived.Test.YtbbgagpompgagabDoorTrBuildsLaw
namespace Go.Proofs.YtbbgagpompgagabDoor
open Go.RowKit Go.PlainAid Go.Shelf
set_option linter.unusedVariables false

theorem apart_top {n : Nat} {s : Int} {p q : Nat → ByteArray} {top : ByteArray} (hn : 1 ≤ n) (h : apart n s p q top) : nH (q 0) = top := by
  obtain ⟨h1, h2, h3⟩ := h
  have hok : okS n s := by
    by_cases e : okS n s
    · exact e
    · unfold folE at h1; rw [if_neg e] at h1; omega
  unfold folE at h2
  rw [if_pos hok] at h2
  cases e2 : fol n s.toNat q top n with
  | none => rw [e2] at h2; simp [oE] at h2
  | some y =>
  obtain ⟨v, hv⟩ := fol_part e2 (k := 0 + 1) hn
  obtain ⟨-, b2, -⟩ := fol_inv hv
  exact (Option.some.inj b2).symm

set_option maxRecDepth 20000 in
set_option maxHeartbeats 8000000 in
theorem treeBinds_ss (pa : Addr) (len cap : Nat) (pb : Addr) (lenb capb : Nat) (s : Int) (w : World) (hA : TsArg w (some pa) len cap) (hB : TsArg w (some pb) lenb capb) (hT : Tabs w) : Calls Tryd.prog 3 #[.slice (some pa) len cap, .slice (some pb) lenb capb, .int .i64 s] w fun e w' => e = .returned (.bool true) ∧ Below w.heap.size w w' := by
  obtain ⟨p, h1, h2, h3, h4, h5⟩ := hA
  obtain ⟨q, g1, g2, g3, g4, g5⟩ := hB
  obtain ⟨m, hm, hm1, hm2⟩ : ∃ m : Nat, (if (5 : Int) < (len : Int) then (5 : Int) else (len : Int)) = (m : Int) ∧ m ≤ len ∧ m ≤ 5 := ⟨min len 5, by split <;> omega, by omega, by omega⟩
  have hm' : min (len : Int) 5 = (m : Int) := by rw [← hm]; split <;> omega
  have hmc : (m : Int) ≤ (cap : Int) := by omega
  obtain ⟨n, hn, hn1, hn2⟩ : ∃ n : Nat, (if (5 : Int) < (lenb : Int) then (5 : Int) else (lenb : Int)) = (n : Int) ∧ n ≤ lenb ∧ n ≤ 5 := ⟨min lenb 5, by split <;> omega, by omega, by omega⟩
  have hn' : min (lenb : Int) 5 = (n : Int) := by rw [← hn]; split <;> omega
  have hnc : (n : Int) ≤ (capb : Int) := by omega
  have HP : Hid (Sa w (some pa) m p) := h4.cut hm1
  have HQ : Hid (Sa w (some pb) n q) := g4.cut hn1
  have HZ : Hid (∀ i, i < m → (p i).size ≤ 148000000000000) := fun i hi => by have := h5 i (by omega); omega
  have HY : Hid (∀ i, i < n → (q i).size ≤ 148000000000000) := fun i hi => by have := g5 i (by omega); omega
  have hBr : Below w.heap.size w w := Below.refl _ _
  clear h4 h5 g4 g5
  clear h3 g3
  go_enter Tryd.func3, Tryd.ntmps3
  go_wp2_with fail
  go_region
  go_wp2_with fail
  have hc := Clash_any s (some pa) (some pb) m n cap capb (by omega) (by omega) p q w.drew HP.out HQ.out HZ.out hT
  refine hc.mono ?_
  clear hc
  rintro e w1 ⟨x, y, ok, rfl, hcl, hb1⟩
  have hB1 : Below w.heap.size w w1 := hBr.drew.trans hb1
  have hT1 := hT.below hB1 hT.lt
  have HP1 : Hid (Sa w1 (some pa) m p) := HP.out.later hB1
  have HQ1 : Hid (Sa w1 (some pb) n q) := HQ.out.later hB1
  clear hb1 hBr hm hm' hmc hn hn' hnc h1 h2 g1 g2 hm1 hn1
  rcases hcl with hcl | hcl
  · obtain ⟨rfl, rfl, rfl, hno⟩ := hcl
    have HNO : Hid _ := hno
    clear hno
    go_wp2_with fail
    refine (lwakes_any w1 hT1).mono ?_
    rintro e w3 ⟨rfl, hb3⟩
    have hB3 := hB1.trans (hb3.mono hB1.size)
    by_cases hmn : m = n
    · subst hmn
      by_cases hz : m = 0
      · subst hz
        go_wp2_with fail
        go_region
        go_wp2_with fail
        go_ret
        exact ⟨rfl, hB3.drew⟩
      · have hm0 : 1 ≤ m := by omega
        have HP3 : Hid (Sa w3 (some pa) m p) := HP.out.later hB3
        have HQ3 : Hid (Sa w3 (some pb) m q) := HQ.out.later hB3
        clear HP1 HQ1
        obtain ⟨ab, ao, ea, k1⟩ := HP3.out.cells hm0
        obtain ⟨bb, bo, eb, k2⟩ := HQ3.out.cells hm0
        cases ea
        cases eb
        have c1 : w3.drew.cell? ⟨ab, ao, none⟩ = some (.string (p 0)) := k1 0 (by omega)
        have c2 : w3.drew.cell? ⟨bb, bo, none⟩ = some (.string (q 0)) := k2 0 (by omega)
        have hn1 := node_any (p 0) (HZ.out 0 (by omega)) w3.drew (hT.below hB3.drew hT.lt)
        have hn2 := fun z (hz : Tabs z) => node_any (q 0) (HY.out 0 (by omega)) z hz
        have hn3 := fun z (hz : Tabs z) => node_any (p 0) (HZ.out 0 (by omega)) z hz
        rw [show digest (⟨#[1]⟩ ++ p 0) = nH (p 0) from rfl] at hn1
        have HN2 : Hid (∀ z, Tabs z → Calls Tryd.prog 7 #[.string (q 0)] z fun e w' => e = .returned (.string (nH (q 0))) ∧ Below z.heap.size z w') := hn2
        have HN3 : Hid (∀ z, Tabs z → Calls Tryd.prog 7 #[.string (p 0)] z fun e w' => e = .returned (.string (nH (p 0))) ∧ Below z.heap.size z w') := hn3
        have HN1 : Hid _ := hn1
        have hfp := fun top z (hz : Tabs z) (hs : Sa z (some ⟨ab, ao, none⟩) m p) => follow_any top s (some ⟨ab, ao, none⟩) m cap (by omega) p z hs hz
        have hfq := fun top z (hz : Tabs z) (hs : Sa z (some ⟨bb, bo, none⟩) m q) => follow_any top s (some ⟨bb, bo, none⟩) m capb (by omega) q z hs hz
        have HFP : Hid _ := hfp
        have HFQ : Hid _ := hfq
        have h00 : (m : Int) ≠ 0 := by omega
        have h01 : ((m : Int) == 0) = false := beq_eq_false_iff_ne.2 h00
        have h02 : (0 : Int) < (m : Int) := by omega
        have h03 : 0 < m := by omega
        clear hn1 hn2 hn3 hfp hfq k1 k2
        have he : ¬ apart m s p q (nH (p 0)) := fun h => HNO.out ⟨rfl, hm0, h⟩
        unfold apart at he
        have HE : Hid _ := he
        clear he HNO
        generalize hX : p 0 = X at c1 HN1 HN3 HE
        generalize hY : q 0 = Y at c2 HN2
        generalize hTop : nH X = top at HN1 HE
        generalize hTop2 : nH Y = top2 at HN2
        by_cases hq : top = top2
        · have hqe := teq top top2
          rw [decide_eq_true hq] at hqe
          clear hq
          go_wp2_with fail
          refine wp_region_noPanic ?_
          refine wp_region_held_drew (S := fun z : World => z.cell? ⟨ab, ao, none⟩ = some (.string X) ∧ z.cell? ⟨bb, bo, none⟩ = some (.string Y)) (by kernel_rfl) ⟨c1, c2⟩ (fun hHeld => ?_)
          refine wpAnyH_take (i := 0) (v := ?_) rfl (by kernel_rfl) (by kernel_rfl) (by kernel_rfl) (fun _ _ _ h => h) (Or.inl ⟨by rfl, ?_⟩) (by assumption) ?_
          rotate_left
          · intro w hSw; go_simp; try with_reducible rfl
          go_simp
          refine wpAnyH_take (i := 2) (v := ?_) rfl (by kernel_rfl) (by kernel_rfl) (by kernel_rfl) (fun _ _ _ h => h) (Or.inl ⟨by rfl, ?_⟩) (by assumption) ?_
          rotate_left
          · intro w hSw; go_simp; try with_reducible rfl
          go_simp
          refine wpAnyH_take (i := 1) (v := ?_) rfl (by kernel_rfl) (by kernel_rfl) (by kernel_rfl) (fun _ _ _ h => h) (Or.inl ⟨by rfl, ?_⟩) (by assumption) ?_
          rotate_left
          · intro w hSw; go_simp; try with_reducible rfl
          go_simp
          refine wpAnyH_take (i := 3) (v := ?_) rfl (by kernel_rfl) (by kernel_rfl) (by kernel_rfl) (fun _ _ _ h => h) (Or.inl ⟨by rfl, ?_⟩) (by assumption) ?_
          rotate_left
          · intro w hSw; go_simp; try with_reducible rfl
          go_simp
          refine wpAnyH_take (i := 4) (v := ?_) rfl (by kernel_rfl) (by kernel_rfl) (by kernel_rfl) (fun _ _ _ h => h) (Or.inl ⟨by rfl, ?_⟩) (by assumption) ?_
          rotate_left
          · intro w hSw; go_simp; try with_reducible rfl
          go_simp
          refine wpAnyH_take (i := 5) (v := ?_) rfl (by kernel_rfl) (by kernel_rfl) (by kernel_rfl) (fun _ _ _ h => h) (Or.inl ⟨by rfl, ?_⟩) (by assumption) ?_
          rotate_left
          · intro w hSw; go_simp; try with_reducible rfl
          go_simp
          refine wpAnyH_take (i := 6) (v := ?_) rfl (by kernel_rfl) (by kernel_rfl) (by kernel_rfl) (fun _ _ _ h => h) (Or.inl ⟨by rfl, ?_⟩) (by assumption) ?_
          rotate_left
          · intro w hSw; go_simp; try with_reducible rfl
          go_simp
          refine wpAnyH_take (i := 7) (v := ?_) rfl (by kernel_rfl) (by kernel_rfl) (by kernel_rfl) (fun _ _ _ h => h) (Or.inl ⟨by rfl, ?_⟩) (by assumption) ?_
          rotate_left
          · intro w hSw; go_simp; try with_reducible rfl
          go_simp
          refine wpAnyH_take (i := 8) (v := ?_) rfl (by kernel_rfl) (by kernel_rfl) (by kernel_rfl) (fun _ _ _ h => h) (Or.inl ⟨by rfl, ?_⟩) (by assumption) ?_
          rotate_left
          · intro w hSw; go_simp; try with_reducible rfl
          go_simp
          refine wpAnyH_take (i := 9) (v := ?_) rfl (by kernel_rfl) (by kernel_rfl) (by kernel_rfl) (fun _ _ _ h => h) (Or.inl ⟨by rfl, ?_⟩) (by assumption) ?_
          rotate_left
          · intro w hSw; go_simp; try with_reducible rfl
          go_simp
          refine wpAnyH_take (i := 10) (v := ?_) rfl (by kernel_rfl) (by kernel_rfl) (by kernel_rfl) (fun _ _ _ h => h) (Or.inl ⟨by rfl, ?_⟩) (by assumption) ?_
          rotate_left
          · intro w hSw; go_simp; try with_reducible rfl
          go_simp
          refine wpAnyH_take (i := 11) (v := ?_) rfl (by kernel_rfl) (by kernel_rfl) (by kernel_rfl) (fun _ _ _ h => h) (Or.inl ⟨by rfl, ?_⟩) (by assumption) ?_
          rotate_left
          · intro w hSw; go_simp; try with_reducible rfl
          go_simp
          refine wpAnyH_take (i := 12) (v := ?_) rfl (by kernel_rfl) (by kernel_rfl) (by kernel_rfl) (fun _ _ _ h => h) (Or.inl ⟨by rfl, ?_⟩) (by assumption) ?_
          rotate_left
          · intro w hSw; go_simp; try with_reducible rfl
          go_simp
          refine wpAnyH_take (i := 13) (v := ?_) rfl (by kernel_rfl) (by kernel_rfl) (by kernel_rfl) (fun _ _ _ h => h) (Or.inl ⟨by rfl, ?_⟩) (by assumption) ?_
          rotate_left
          · intro w hSw; go_simp; try with_reducible rfl
          go_simp
          refine wpAnyH_take (i := 15) (v := ?_) rfl (by kernel_rfl) (by kernel_rfl) (by kernel_rfl) (fun _ _ _ h => h) (Or.inl ⟨by rfl, ?_⟩) (by assumption) ?_
          rotate_left
          · intro w hSw; go_simp; try with_reducible rfl
          go_simp
          refine wpAnyH_take (i := 16) (v := ?_) rfl (by kernel_rfl) (by kernel_rfl) (by kernel_rfl) (fun _ _ _ h => h) (Or.inl ⟨by rfl, ?_⟩) (by assumption) ?_
          rotate_left
          · intro w hSw; go_simp; try with_reducible rfl
          go_simp
          refine wpAnyH_take (i := 17) (v := ?_) rfl (by kernel_rfl) (by kernel_rfl) (by kernel_rfl) (fun _ _ _ h => h) (Or.inl ⟨by rfl, ?_⟩) (by assumption) ?_
          rotate_left
          · intro w hSw; go_simp; try with_reducible rfl
          go_simp
          refine wpAnyH_ready (rs := [14]) (by kernel_rfl) (by simp) (AllReadyH.cons rfl (fun K hK => ?_) AllReadyH.nil)
          go_simp
          go_at_call 7
          refine Calls.mono HN1.out ?_
          rintro e wa ⟨rfl, hba⟩
          have d1 := (hba.cell (p := ⟨ab, ao, none⟩) (cell_blk_lt c1)).trans c1
          have d2 := (hba.cell (p := ⟨bb, bo, none⟩) (cell_blk_lt c2)).trans c2
          refine hK.out _ _ ⟨d1, d2⟩ (fun hHeld => ?_)
          clear hK K
          have hBa := hB3.drew.trans (hba.mono hB3.drew.size)
          have hTa := hT.below hBa hT.lt
          refine wpAnyH_ready (rs := [18]) (by kernel_rfl) (by simp) (AllReadyH.cons rfl (fun K hK => ?_) AllReadyH.nil)
          go_simp
          go_at_call 7
          refine (HN2.out wa hTa).mono ?_
          rintro e wb ⟨rfl, hbb⟩
          have e1 := (hbb.cell (p := ⟨ab, ao, none⟩) (cell_blk_lt d1)).trans d1
          have e2 := (hbb.cell (p := ⟨bb, bo, none⟩) (cell_blk_lt d2)).trans d2
          refine hK.out _ _ ⟨e1, e2⟩ (fun hHeld => ?_)
          clear hK K
          refine wpAnyH_take (i := 19) (v := ?_) rfl (by kernel_rfl) (by kernel_rfl) (by kernel_rfl) (fun _ _ _ h => h) (Or.inl ⟨by rfl, ?_⟩) (by assumption) ?_
          rotate_left
          · intro w hSw; go_simp; try with_reducible rfl
          go_simp
          refine wpAnyH_take (i := 20) (v := ?_) rfl (by kernel_rfl) (by kernel_rfl) (by kernel_rfl) (fun _ _ _ h => h) (Or.inl ⟨by rfl, ?_⟩) (by assumption) ?_
          rotate_left
          · intro w hSw; go_simp; try with_reducible rfl
          go_simp
          refine wpAnyH_done (by kernel_rfl) ?_ _
          refine NoPanic.normal ?_
          have hBb := hBa.trans (hbb.mono hBa.size)
          go_wp2_with fail
          refine (HN3.out wb (hT.below hBb hT.lt)).mono ?_
          rintro e w5 ⟨rfl, hb5⟩
          have hB5 := hBb.trans (hb5.mono hBb.size)
          have HP5 : Hid (Sa w5 (some ⟨ab, ao, none⟩) m p) := HP.out.later hB5
          have HQ5 : Hid (Sa w5 (some ⟨bb, bo, none⟩) m q) := HQ.out.later hB5
          clear HN3 HN2 HN1 hb5
          rw [hTop]
          have f1 := HFP.out top w5 (hT.below hB5 hT.lt) HP5.out
          have F1 : Hid _ := f1
          clear f1 HFP HP5
          go_wp2_with fail
          refine Calls.mono F1.out ?_
          rintro e w6 ⟨rfl, hb6⟩
          clear F1
          have hB6 := hB5.trans (hb6.mono hB5.size)
          have f2 := HFQ.out top w6 (hT.below hB6 hT.lt) (HQ5.out.later hb6)
          have F2 : Hid _ := f2
          clear f2 HFQ HQ5
          generalize folS m s p top = S1 at HE ⊢
          generalize folE m s p top = E1 at HE ⊢
          generalize folS m s q top = S2 at HE F2 ⊢
          generalize folE m s q top = E2 at HE F2 ⊢
          go_wp2_with fail
          refine Calls.mono F2.out ?_
          rintro e w7 ⟨rfl, hb7⟩
          clear F2
          have hB7 := hB6.trans (hb7.mono hB6.size)
          have hse := teq S1 S2
          by_cases r1 : E1 = 0
          · by_cases r2 : E2 = 0
            · have r3 : S1 = S2 := Classical.byContradiction fun h => HE.out ⟨r1, r2, h⟩
              rw [decide_eq_true r3] at hse
              rw [r1, r2]
              go_wp2_with fail
              go_ret
              exact ⟨rfl, hB7⟩
            · have r4 : (E2 == 0) = false := beq_eq_false_iff_ne.2 r2
              rw [r1]
              go_wp2_with fail
              go_ret
              exact ⟨rfl, hB7⟩
          · have r4 : (E1 == 0) = false := beq_eq_false_iff_ne.2 r1
            go_wp2_with fail
            go_ret
            exact ⟨rfl, hB7⟩
        · have hqe := teq top top2
          rw [decide_eq_false hq] at hqe
          clear hq
          go_wp2_with fail
          refine wp_region_noPanic ?_
          refine wp_region_held_drew (S := fun z : World => z.cell? ⟨ab, ao, none⟩ = some (.string X) ∧ z.cell? ⟨bb, bo, none⟩ = some (.string Y)) (by kernel_rfl) ⟨c1, c2⟩ (fun hHeld => ?_)
          refine wpAnyH_take (i := 0) (v := ?_) rfl (by kernel_rfl) (by kernel_rfl) (by kernel_rfl) (fun _ _ _ h => h) (Or.inl ⟨by rfl, ?_⟩) (by assumption) ?_
          rotate_left
          · intro w hSw; go_simp; try with_reducible rfl
          go_simp
          refine wpAnyH_take (i := 2) (v := ?_) rfl (by kernel_rfl) (by kernel_rfl) (by kernel_rfl) (fun _ _ _ h => h) (Or.inl ⟨by rfl, ?_⟩) (by assumption) ?_
          rotate_left
          · intro w hSw; go_simp; try with_reducible rfl
          go_simp
          refine wpAnyH_take (i := 1) (v := ?_) rfl (by kernel_rfl) (by kernel_rfl) (by kernel_rfl) (fun _ _ _ h => h) (Or.inl ⟨by rfl, ?_⟩) (by assumption) ?_
          rotate_left
          · intro w hSw; go_simp; try with_reducible rfl
          go_simp
          refine wpAnyH_take (i := 3) (v := ?_) rfl (by kernel_rfl) (by kernel_rfl) (by kernel_rfl) (fun _ _ _ h => h) (Or.inl ⟨by rfl, ?_⟩) (by assumption) ?_
          rotate_left
          · intro w hSw; go_simp; try with_reducible rfl
          go_simp
          refine wpAnyH_take (i := 4) (v := ?_) rfl (by kernel_rfl) (by kernel_rfl) (by kernel_rfl) (fun _ _ _ h => h) (Or.inl ⟨by rfl, ?_⟩) (by assumption) ?_
          rotate_left
          · intro w hSw; go_simp; try with_reducible rfl
          go_simp
          refine wpAnyH_take (i := 5) (v := ?_) rfl (by kernel_rfl) (by kernel_rfl) (by kernel_rfl) (fun _ _ _ h => h) (Or.inl ⟨by rfl, ?_⟩) (by assumption) ?_
          rotate_left
          · intro w hSw; go_simp; try with_reducible rfl
          go_simp
          refine wpAnyH_take (i := 6) (v := ?_) rfl (by kernel_rfl) (by kernel_rfl) (by kernel_rfl) (fun _ _ _ h => h) (Or.inl ⟨by rfl, ?_⟩) (by assumption) ?_
          rotate_left
          · intro w hSw; go_simp; try with_reducible rfl
          go_simp
          refine wpAnyH_take (i := 7) (v := ?_) rfl (by kernel_rfl) (by kernel_rfl) (by kernel_rfl) (fun _ _ _ h => h) (Or.inl ⟨by rfl, ?_⟩) (by assumption) ?_
          rotate_left
          · intro w hSw; go_simp; try with_reducible rfl
          go_simp
          refine wpAnyH_take (i := 8) (v := ?_) rfl (by kernel_rfl) (by kernel_rfl) (by kernel_rfl) (fun _ _ _ h => h) (Or.inl ⟨by rfl, ?_⟩) (by assumption) ?_
          rotate_left
          · intro w hSw; go_simp; try with_reducible rfl
          go_simp
          refine wpAnyH_take (i := 9) (v := ?_) rfl (by kernel_rfl) (by kernel_rfl) (by kernel_rfl) (fun _ _ _ h => h) (Or.inl ⟨by rfl, ?_⟩) (by assumption) ?_
          rotate_left
          · intro w hSw; go_simp; try with_reducible rfl
          go_simp
          refine wpAnyH_take (i := 10) (v := ?_) rfl (by kernel_rfl) (by kernel_rfl) (by kernel_rfl) (fun _ _ _ h => h) (Or.inl ⟨by rfl, ?_⟩) (by assumption) ?_
          rotate_left
          · intro w hSw; go_simp; try with_reducible rfl
          go_simp
          refine wpAnyH_take (i := 11) (v := ?_) rfl (by kernel_rfl) (by kernel_rfl) (by kernel_rfl) (fun _ _ _ h => h) (Or.inl ⟨by rfl, ?_⟩) (by assumption) ?_
          rotate_left
          · intro w hSw; go_simp; try with_reducible rfl
          go_simp
          refine wpAnyH_take (i := 12) (v := ?_) rfl (by kernel_rfl) (by kernel_rfl) (by kernel_rfl) (fun _ _ _ h => h) (Or.inl ⟨by rfl, ?_⟩) (by assumption) ?_
          rotate_left
          · intro w hSw; go_simp; try with_reducible rfl
          go_simp
          refine wpAnyH_take (i := 13) (v := ?_) rfl (by kernel_rfl) (by kernel_rfl) (by kernel_rfl) (fun _ _ _ h => h) (Or.inl ⟨by rfl, ?_⟩) (by assumption) ?_
          rotate_left
          · intro w hSw; go_simp; try with_reducible rfl
          go_simp
          refine wpAnyH_take (i := 15) (v := ?_) rfl (by kernel_rfl) (by kernel_rfl) (by kernel_rfl) (fun _ _ _ h => h) (Or.inl ⟨by rfl, ?_⟩) (by assumption) ?_
          rotate_left
          · intro w hSw; go_simp; try with_reducible rfl
          go_simp
          refine wpAnyH_take (i := 16) (v := ?_) rfl (by kernel_rfl) (by kernel_rfl) (by kernel_rfl) (fun _ _ _ h => h) (Or.inl ⟨by rfl, ?_⟩) (by assumption) ?_
          rotate_left
          · intro w hSw; go_simp; try with_reducible rfl
          go_simp
          refine wpAnyH_take (i := 17) (v := ?_) rfl (by kernel_rfl) (by kernel_rfl) (by kernel_rfl) (fun _ _ _ h => h) (Or.inl ⟨by rfl, ?_⟩) (by assumption) ?_
          rotate_left
          · intro w hSw; go_simp; try with_reducible rfl
          go_simp
          refine wpAnyH_ready (rs := [14]) (by kernel_rfl) (by simp) (AllReadyH.cons rfl (fun K hK => ?_) AllReadyH.nil)
          go_simp
          go_at_call 7
          refine Calls.mono HN1.out ?_
          rintro e wa ⟨rfl, hba⟩
          have d1 := (hba.cell (p := ⟨ab, ao, none⟩) (cell_blk_lt c1)).trans c1
          have d2 := (hba.cell (p := ⟨bb, bo, none⟩) (cell_blk_lt c2)).trans c2
          refine hK.out _ _ ⟨d1, d2⟩ (fun hHeld => ?_)
          clear hK K
          have hBa := hB3.drew.trans (hba.mono hB3.drew.size)
          have hTa := hT.below hBa hT.lt
          refine wpAnyH_ready (rs := [18]) (by kernel_rfl) (by simp) (AllReadyH.cons rfl (fun K hK => ?_) AllReadyH.nil)
          go_simp
          go_at_call 7
          refine (HN2.out wa hTa).mono ?_
          rintro e wb ⟨rfl, hbb⟩
          have e1 := (hbb.cell (p := ⟨ab, ao, none⟩) (cell_blk_lt d1)).trans d1
          have e2 := (hbb.cell (p := ⟨bb, bo, none⟩) (cell_blk_lt d2)).trans d2
          refine hK.out _ _ ⟨e1, e2⟩ (fun hHeld => ?_)
          clear hK K
          refine wpAnyH_take (i := 19) (v := ?_) rfl (by kernel_rfl) (by kernel_rfl) (by kernel_rfl) (fun _ _ _ h => h) (Or.inl ⟨by rfl, ?_⟩) (by assumption) ?_
          rotate_left
          · intro w hSw; go_simp; try with_reducible rfl
          go_simp
          refine wpAnyH_take (i := 20) (v := ?_) rfl (by kernel_rfl) (by kernel_rfl) (by kernel_rfl) (fun _ _ _ h => h) (Or.inl ⟨by rfl, ?_⟩) (by assumption) ?_
          rotate_left
          · intro w hSw; go_simp; try with_reducible rfl
          go_simp
          refine wpAnyH_done (by kernel_rfl) ?_ _
          refine NoPanic.normal ?_
          have hBb := hBa.trans (hbb.mono hBa.size)
          go_wp2_with fail
          go_ret
          exact ⟨rfl, hBb⟩
    · have l1 : (m : Int) ≠ (n : Int) := by omega
      have l2 : ((m : Int) != (n : Int)) = true := bne_iff_ne.2 l1
      have l3 : ((m : Int) == (n : Int)) = false := beq_eq_false_iff_ne.2 l1
      go_wp2_with fail
      go_region
      go_wp2_with fail
      go_ret
      exact ⟨rfl, hB3.drew⟩
  · obtain ⟨rfl, rfl, hm0, hap, hxy, hdd, hx1, hy1⟩ := hcl
    have hxe := teq x y
    rw [decide_eq_false hxy] at hxe
    have hdx := teq (digest x) (digest y)
    rw [decide_eq_true hdd] at hdx
    go_wp2_with fail
    refine (lwakes_any w1 hT1).mono ?_
    rintro e w1a ⟨rfl, hb3⟩
    have hB1a := hB1.trans (hb3.mono hB1.size)
    have hT1a := hT.below hB1a hT.lt
    have hs1 := shaSum_any x (by omega) w1a hT1a
    generalize digest x = DX at hs1 hdx hdd
    have HS1 : Hid _ := hs1
    clear hs1
    go_wp2_with fail
    refine Calls.mono HS1.out ?_
    rintro e w1b ⟨rfl, hb4⟩
    clear HS1
    have hB1b := hB1a.trans (hb4.mono hB1a.size)
    have hT1b := hT.below hB1b hT.lt
    have hs2 := shaSum_any y (by omega) w1b hT1b
    generalize digest y = DY at hs2 hdx hdd
    have HS2 : Hid _ := hs2
    clear hs2
    go_wp2_with fail
    refine Calls.mono HS2.out ?_
    rintro e w3 ⟨rfl, hb5⟩
    clear HS2
    have hB3 := hB1b.trans (hb5.mono hB1b.size)
    have HP3 : Hid (Sa w3 (some pa) m p) := HP.out.later hB3
    have HQ3 : Hid (Sa w3 (some pb) m q) := HQ.out.later hB3
    clear HP1 HQ1
    obtain ⟨ab, ao, ea, k1⟩ := HP3.out.cells hm0
    obtain ⟨bb, bo, eb, k2⟩ := HQ3.out.cells hm0
    cases ea
    cases eb
    have c1 : w3.drew.cell? ⟨ab, ao, none⟩ = some (.string (p 0)) := k1 0 (by omega)
    have c2 : w3.drew.cell? ⟨bb, bo, none⟩ = some (.string (q 0)) := k2 0 (by omega)
    have hn1 := node_any (p 0) (HZ.out 0 (by omega)) w3.drew (hT.below hB3.drew hT.lt)
    have hn2 := fun z (hz : Tabs z) => node_any (q 0) (HY.out 0 (by omega)) z hz
    have hn3 := fun z (hz : Tabs z) => node_any (p 0) (HZ.out 0 (by omega)) z hz
    rw [show digest (⟨#[1]⟩ ++ p 0) = nH (p 0) from rfl] at hn1
    have HN2 : Hid (∀ z, Tabs z → Calls Tryd.prog 7 #[.string (q 0)] z fun e w' => e = .returned (.string (nH (q 0))) ∧ Below z.heap.size z w') := hn2
    have HN3 : Hid (∀ z, Tabs z → Calls Tryd.prog 7 #[.string (p 0)] z fun e w' => e = .returned (.string (nH (p 0))) ∧ Below z.heap.size z w') := hn3
    have HN1 : Hid _ := hn1
    have hfp := fun top z (hz : Tabs z) (hs : Sa z (some ⟨ab, ao, none⟩) m p) => follow_any top s (some ⟨ab, ao, none⟩) m cap (by omega) p z hs hz
    have hfq := fun top z (hz : Tabs z) (hs : Sa z (some ⟨bb, bo, none⟩) m q) => follow_any top s (some ⟨bb, bo, none⟩) m capb (by omega) q z hs hz
    have HFP : Hid _ := hfp
    have HFQ : Hid _ := hfq
    have h00 : (m : Int) ≠ 0 := by omega
    have h01 : ((m : Int) == 0) = false := beq_eq_false_iff_ne.2 h00
    have h02 : (0 : Int) < (m : Int) := by omega
    have h03 : 0 < m := by omega
    clear hn1 hn2 hn3 hfp hfq k1 k2
    have hpq := apart_top hm0 hap
    have he := hap
    unfold apart at he
    have HE : Hid _ := he
    clear he hap
    generalize hX : p 0 = X at c1 HN1 HN3 HE hpq
    generalize hY : q 0 = Y at c2 HN2 hpq
    generalize hTop : nH X = top at HN1 HE hpq
    generalize hTop2 : nH Y = top2 at HN2 hpq
    have hqe := teq top top2
    rw [decide_eq_true hpq.symm] at hqe
    clear hpq
    go_wp2_with fail
    refine wp_region_noPanic ?_
    refine wp_region_held_drew (S := fun z : World => z.cell? ⟨ab, ao, none⟩ = some (.string X) ∧ z.cell? ⟨bb, bo, none⟩ = some (.string Y)) (by kernel_rfl) ⟨c1, c2⟩ (fun hHeld => ?_)
    refine wpAnyH_take (i := 0) (v := ?_) rfl (by kernel_rfl) (by kernel_rfl) (by kernel_rfl) (fun _ _ _ h => h) (Or.inl ⟨by rfl, ?_⟩) (by assumption) ?_
    rotate_left
    · intro w hSw; go_simp; try with_reducible rfl
    go_simp
    refine wpAnyH_take (i := 2) (v := ?_) rfl (by kernel_rfl) (by kernel_rfl) (by kernel_rfl) (fun _ _ _ h => h) (Or.inl ⟨by rfl, ?_⟩) (by assumption) ?_
    rotate_left
    · intro w hSw; go_simp; try with_reducible rfl
    go_simp
    refine wpAnyH_take (i := 1) (v := ?_) rfl (by kernel_rfl) (by kernel_rfl) (by kernel_rfl) (fun _ _ _ h => h) (Or.inl ⟨by rfl, ?_⟩) (by assumption) ?_
    rotate_left
    · intro w hSw; go_simp; try with_reducible rfl
    go_simp
    refine wpAnyH_take (i := 3) (v := ?_) rfl (by kernel_rfl) (by kernel_rfl) (by kernel_rfl) (fun _ _ _ h => h) (Or.inl ⟨by rfl, ?_⟩) (by assumption) ?_
    rotate_left
    · intro w hSw; go_simp; try with_reducible rfl
    go_simp
    refine wpAnyH_take (i := 4) (v := ?_) rfl (by kernel_rfl) (by kernel_rfl) (by kernel_rfl) (fun _ _ _ h => h) (Or.inl ⟨by rfl, ?_⟩) (by assumption) ?_
    rotate_left
    · intro w hSw; go_simp; try with_reducible rfl
    go_simp
    refine wpAnyH_take (i := 5) (v := ?_) rfl (by kernel_rfl) (by kernel_rfl) (by kernel_rfl) (fun _ _ _ h => h) (Or.inl ⟨by rfl, ?_⟩) (by assumption) ?_
    rotate_left
    · intro w hSw; go_simp; try with_reducible rfl
    go_simp
    refine wpAnyH_take (i := 6) (v := ?_) rfl (by kernel_rfl) (by kernel_rfl) (by kernel_rfl) (fun _ _ _ h => h) (Or.inl ⟨by rfl, ?_⟩) (by assumption) ?_
    rotate_left
    · intro w hSw; go_simp; try with_reducible rfl
    go_simp
    refine wpAnyH_take (i := 7) (v := ?_) rfl (by kernel_rfl) (by kernel_rfl) (by kernel_rfl) (fun _ _ _ h => h) (Or.inl ⟨by rfl, ?_⟩) (by assumption) ?_
    rotate_left
    · intro w hSw; go_simp; try with_reducible rfl
    go_simp
    refine wpAnyH_take (i := 8) (v := ?_) rfl (by kernel_rfl) (by kernel_rfl) (by kernel_rfl) (fun _ _ _ h => h) (Or.inl ⟨by rfl, ?_⟩) (by assumption) ?_
    rotate_left
    · intro w hSw; go_simp; try with_reducible rfl
    go_simp
    refine wpAnyH_take (i := 9) (v := ?_) rfl (by kernel_rfl) (by kernel_rfl) (by kernel_rfl) (fun _ _ _ h => h) (Or.inl ⟨by rfl, ?_⟩) (by assumption) ?_
    rotate_left
    · intro w hSw; go_simp; try with_reducible rfl
    go_simp
    refine wpAnyH_take (i := 10) (v := ?_) rfl (by kernel_rfl) (by kernel_rfl) (by kernel_rfl) (fun _ _ _ h => h) (Or.inl ⟨by rfl, ?_⟩) (by assumption) ?_
    rotate_left
    · intro w hSw; go_simp; try with_reducible rfl
    go_simp
    refine wpAnyH_take (i := 11) (v := ?_) rfl (by kernel_rfl) (by kernel_rfl) (by kernel_rfl) (fun _ _ _ h => h) (Or.inl ⟨by rfl, ?_⟩) (by assumption) ?_
    rotate_left
    · intro w hSw; go_simp; try with_reducible rfl
    go_simp
    refine wpAnyH_take (i := 12) (v := ?_) rfl (by kernel_rfl) (by kernel_rfl) (by kernel_rfl) (fun _ _ _ h => h) (Or.inl ⟨by rfl, ?_⟩) (by assumption) ?_
    rotate_left
    · intro w hSw; go_simp; try with_reducible rfl
    go_simp
    refine wpAnyH_take (i := 13) (v := ?_) rfl (by kernel_rfl) (by kernel_rfl) (by kernel_rfl) (fun _ _ _ h => h) (Or.inl ⟨by rfl, ?_⟩) (by assumption) ?_
    rotate_left
    · intro w hSw; go_simp; try with_reducible rfl
    go_simp
    refine wpAnyH_take (i := 15) (v := ?_) rfl (by kernel_rfl) (by kernel_rfl) (by kernel_rfl) (fun _ _ _ h => h) (Or.inl ⟨by rfl, ?_⟩) (by assumption) ?_
    rotate_left
    · intro w hSw; go_simp; try with_reducible rfl
    go_simp
    refine wpAnyH_take (i := 16) (v := ?_) rfl (by kernel_rfl) (by kernel_rfl) (by kernel_rfl) (fun _ _ _ h => h) (Or.inl ⟨by rfl, ?_⟩) (by assumption) ?_
    rotate_left
    · intro w hSw; go_simp; try with_reducible rfl
    go_simp
    refine wpAnyH_take (i := 17) (v := ?_) rfl (by kernel_rfl) (by kernel_rfl) (by kernel_rfl) (fun _ _ _ h => h) (Or.inl ⟨by rfl, ?_⟩) (by assumption) ?_
    rotate_left
    · intro w hSw; go_simp; try with_reducible rfl
    go_simp
    refine wpAnyH_ready (rs := [14]) (by kernel_rfl) (by simp) (AllReadyH.cons rfl (fun K hK => ?_) AllReadyH.nil)
    go_simp
    go_at_call 7
    refine Calls.mono HN1.out ?_
    rintro e wa ⟨rfl, hba⟩
    have d1 := (hba.cell (p := ⟨ab, ao, none⟩) (cell_blk_lt c1)).trans c1
    have d2 := (hba.cell (p := ⟨bb, bo, none⟩) (cell_blk_lt c2)).trans c2
    refine hK.out _ _ ⟨d1, d2⟩ (fun hHeld => ?_)
    clear hK K
    have hBa := hB3.drew.trans (hba.mono hB3.drew.size)
    have hTa := hT.below hBa hT.lt
    refine wpAnyH_ready (rs := [18]) (by kernel_rfl) (by simp) (AllReadyH.cons rfl (fun K hK => ?_) AllReadyH.nil)
    go_simp
    go_at_call 7
    refine (HN2.out wa hTa).mono ?_
    rintro e wb ⟨rfl, hbb⟩
    have e1 := (hbb.cell (p := ⟨ab, ao, none⟩) (cell_blk_lt d1)).trans d1
    have e2 := (hbb.cell (p := ⟨bb, bo, none⟩) (cell_blk_lt d2)).trans d2
    refine hK.out _ _ ⟨e1, e2⟩ (fun hHeld => ?_)
    clear hK K
    refine wpAnyH_take (i := 19) (v := ?_) rfl (by kernel_rfl) (by kernel_rfl) (by kernel_rfl) (fun _ _ _ h => h) (Or.inl ⟨by rfl, ?_⟩) (by assumption) ?_
    rotate_left
    · intro w hSw; go_simp; try with_reducible rfl
    go_simp
    refine wpAnyH_take (i := 20) (v := ?_) rfl (by kernel_rfl) (by kernel_rfl) (by kernel_rfl) (fun _ _ _ h => h) (Or.inl ⟨by rfl, ?_⟩) (by assumption) ?_
    rotate_left
    · intro w hSw; go_simp; try with_reducible rfl
    go_simp
    refine wpAnyH_done (by kernel_rfl) ?_ _
    refine NoPanic.normal ?_
    have hBb := hBa.trans (hbb.mono hBa.size)
    go_wp2_with fail
    refine (HN3.out wb (hT.below hBb hT.lt)).mono ?_
    rintro e w5 ⟨rfl, hb5⟩
    have hB5 := hBb.trans (hb5.mono hBb.size)
    have HP5 : Hid (Sa w5 (some ⟨ab, ao, none⟩) m p) := HP.out.later hB5
    have HQ5 : Hid (Sa w5 (some ⟨bb, bo, none⟩) m q) := HQ.out.later hB5
    clear HN3 HN2 HN1 hb5
    rw [hTop]
    have f1 := HFP.out top w5 (hT.below hB5 hT.lt) HP5.out
    have F1 : Hid _ := f1
    clear f1 HFP HP5
    go_wp2_with fail
    refine Calls.mono F1.out ?_
    rintro e w6 ⟨rfl, hb6⟩
    clear F1
    have hB6 := hB5.trans (hb6.mono hB5.size)
    have f2 := HFQ.out top w6 (hT.below hB6 hT.lt) (HQ5.out.later hb6)
    have F2 : Hid _ := f2
    clear f2 HFQ HQ5
    generalize folS m s p top = S1 at HE ⊢
    generalize folE m s p top = E1 at HE ⊢
    generalize folS m s q top = S2 at HE F2 ⊢
    generalize folE m s q top = E2 at HE F2 ⊢
    go_wp2_with fail
    refine Calls.mono F2.out ?_
    rintro e w7 ⟨rfl, hb7⟩
    clear F2
    have hB7 := hB6.trans (hb7.mono hB6.size)
    have hse := teq S1 S2
    obtain ⟨r1, r2, r3⟩ := HE.out
    rw [decide_eq_false r3] at hse
    rw [r1, r2]
    go_wp2_with fail
    go_ret
    exact ⟨rfl, hB7⟩
end Go.Proofs.YtbbgagpompgagabDoor
