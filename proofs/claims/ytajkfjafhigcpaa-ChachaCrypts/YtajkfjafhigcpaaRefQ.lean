/- What a quarter of the words at four places is, as the document makes it. -/
import Derived.Test.YtajkfjafhigcpaaOrd
namespace Go.Proofs.Ytajkfjafhigcpaa
open Go.RowKit Go.PlainAid
set_option linter.unusedVariables false

theorem Try.zero23 : (Try.prog.info? 23).map (fun i => i.zero) = some (some (.agg (ws 4 (fun _ => 0)).toArray)) := by kernel_rfl
theorem Try.size23 : (Try.prog.info? 23).map (·.size) = some 4 := by kernel_rfl
theorem zero23_run (w : World) : (zeroValue 23).run Try.prog w = .ok (.agg (ws 4 (fun _ => 0)).toArray) w := by
  obtain ⟨i, hi, hz⟩ := Option.map_eq_some_iff.1 Try.zero23
  simp [zeroValue, typeInfo, hi, hz]

set_option maxHeartbeats 2000000 in
set_option maxRecDepth 20000 in
theorem refQ_any (S : Nat → Int) (a b c d : Nat) (a16 : a < 16) (b16 : b < 16) (c16 : c < 16) (d16 : d < 16) (w : World) :
    Calls Try.prog 23 #[.agg (ws 16 S).toArray, .int .i64 (a : Int), .int .i64 (b : Int), .int .i64 (c : Int), .int .i64 (d : Int)] w fun e w' => e = .returned (.agg (ws 16 (qS S a b c d)).toArray) ∧ Below w.heap.size w w' := by
  have hzr := zero49_run
  have hzq := zero23_run
  obtain ⟨Z, hZ⟩ : ∃ Z, ws 16 (fun _ => 0) = Z := ⟨_, rfl⟩
  obtain ⟨Y, hY⟩ : ∃ Y, ws 16 S = Y := ⟨_, rfl⟩
  obtain ⟨O, hO⟩ : ∃ O, ws 4 (fun _ => 0) = O := ⟨_, rfl⟩
  rw [hZ] at hzr
  rw [hO] at hzq
  rw [hY]
  have hOl : O.length = 4 := by rw [← hO, ws_length]
  have hZl : Z.length = 16 := by rw [← hZ, ws_length]
  have HY : Hid (ws 16 S = Y) := hY
  clear hY hZ hO
  go_enter Try.func23, Try.ntmps23
  go_wp2_with fail
  have hA0 : Blk ((w.alloc (.cells Y.toArray 49)).alloc (.cells Z.toArray 49)) w.heap.size 49 (ws 16 S) := by
    rw [HY.out]
    have := (Blk.new w 49 Y.toArray).alloc (.cells Z.toArray 49)
    simpa using this
  have hB0 : Blk ((w.alloc (.cells Y.toArray 49)).alloc (.cells Z.toArray 49)) (w.heap.size + 1) 49 Z := by
    have := Blk.new (w.alloc (.cells Y.toArray 49)) 49 Z.toArray
    simpa using this
  have hl0 : Below w.heap.size w ((w.alloc (.cells Y.toArray 49)).alloc (.cells Z.toArray 49)) := ((Below.refl _ w).alloc (Nat.le_refl _) _).alloc (by simp) _
  clear hzr HY
  generalize (w.alloc (.cells Y.toArray 49)).alloc (.cells Z.toArray 49) = w0 at hA0 hB0 hl0 ⊢
  obtain ⟨g, hgd⟩ : ∃ g, w.heap.size = g := ⟨_, rfl⟩
  rw [hgd] at hA0 hB0 hl0 ⊢
  have HG : Hid (w.heap.size = g) := hgd
  clear hgd
  have a16' : (a : Int) < 16 := by omega
  have b16' : (b : Int) < 16 := by omega
  have c16' : (c : Int) < 16 := by omega
  have d16' : (d : Int) < 16 := by omega
  have hqu := fun w => refQuarter_any (S a) (S b) (S c) (S d) w
  have hcell : ∀ z, Blk z g 49 (ws 16 S) → z.cell? ⟨g, a, none⟩ = some (.int .u32 (S a)) ∧ z.cell? ⟨g, b, none⟩ = some (.int .u32 (S b)) ∧ z.cell? ⟨g, c, none⟩ = some (.int .u32 (S c)) ∧ z.cell? ⟨g, d, none⟩ = some (.int .u32 (S d)) := fun z h => ⟨h.cell (ws_at 16 S a a16), h.cell (ws_at 16 S b b16), h.cell (ws_at 16 S c c16), h.cell (ws_at 16 S d d16)⟩
  have HC : Hid (∀ z, Blk z g 49 (ws 16 S) → z.cell? ⟨g, a, none⟩ = some (.int .u32 (S a)) ∧ z.cell? ⟨g, b, none⟩ = some (.int .u32 (S b)) ∧ z.cell? ⟨g, c, none⟩ = some (.int .u32 (S c)) ∧ z.cell? ⟨g, d, none⟩ = some (.int .u32 (S d))) := hcell
  clear hcell
  refine wp_region_noPanic ?_
  refine wp_region_held_drew (S := fun z => z.cell? ⟨g, a, none⟩ = some (.int .u32 (S a)) ∧ z.cell? ⟨g, b, none⟩ = some (.int .u32 (S b)) ∧ z.cell? ⟨g, c, none⟩ = some (.int .u32 (S c)) ∧ z.cell? ⟨g, d, none⟩ = some (.int .u32 (S d))) (by kernel_rfl) (HC.out _ hA0.drew) (fun hHeld => ?_)
  refine wpAnyH_take (i := 0) (v := ?_) rfl (by kernel_rfl) (by kernel_rfl) (by kernel_rfl) (fun _ _ _ h => h) (Or.inl ⟨by rfl, ?_⟩) (by assumption) ?_
  rotate_left
  · intro w hSw; go_simp; try with_reducible rfl
  go_simp
  refine wpAnyH_take (i := 1) (v := ?_) rfl (by kernel_rfl) (by kernel_rfl) (by kernel_rfl) (fun _ _ _ h => h) (Or.inl ⟨by rfl, ?_⟩) (by assumption) ?_
  rotate_left
  · intro w hSw; go_simp; try with_reducible rfl
  go_simp
  refine wpAnyH_take (i := 3) (v := ?_) rfl (by kernel_rfl) (by kernel_rfl) (by kernel_rfl) (fun _ _ _ h => h) (Or.inl ⟨by rfl, ?_⟩) (by assumption) ?_
  rotate_left
  · intro w hSw; go_simp; try with_reducible rfl
  go_simp
  refine wpAnyH_take (i := 4) (v := ?_) rfl (by kernel_rfl) (by kernel_rfl) (by kernel_rfl) (fun _ _ _ h => h) (Or.inl ⟨by rfl, ?_⟩) (by assumption) ?_
  rotate_left
  · intro w hSw; go_simp; try with_reducible rfl
  go_simp
  refine wpAnyH_take (i := 6) (v := ?_) rfl (by kernel_rfl) (by kernel_rfl) (by kernel_rfl) (fun _ _ _ h => h) (Or.inl ⟨by rfl, ?_⟩) (by assumption) ?_
  rotate_left
  · intro w hSw; go_simp; try with_reducible rfl
  go_simp
  refine wpAnyH_take (i := 7) (v := ?_) rfl (by kernel_rfl) (by kernel_rfl) (by kernel_rfl) (fun _ _ _ h => h) (Or.inl ⟨by rfl, ?_⟩) (by assumption) ?_
  rotate_left
  · intro w hSw; go_simp; try with_reducible rfl
  go_simp
  refine wpAnyH_take (i := 9) (v := ?_) rfl (by kernel_rfl) (by kernel_rfl) (by kernel_rfl) (fun _ _ _ h => h) (Or.inl ⟨by rfl, ?_⟩) (by assumption) ?_
  rotate_left
  · intro w hSw; go_simp; try with_reducible rfl
  go_simp
  refine wpAnyH_take (i := 10) (v := ?_) rfl (by kernel_rfl) (by kernel_rfl) (by kernel_rfl) (fun _ _ _ h => h) (Or.inl ⟨by rfl, ?_⟩) (by assumption) ?_
  rotate_left
  · intro w hSw; go_simp; try with_reducible rfl
  go_simp
  refine wpAnyH_take (i := 2) (v := ?_) rfl (by kernel_rfl) (by kernel_rfl) (by kernel_rfl) (fun _ _ _ h => h) (Or.inl ⟨by rfl, ?_⟩) (by assumption) ?_
  rotate_left
  · rintro w ⟨s0, s1, s2, s3⟩; go_simp; try with_reducible rfl
  go_simp
  refine wpAnyH_take (i := 5) (v := ?_) rfl (by kernel_rfl) (by kernel_rfl) (by kernel_rfl) (fun _ _ _ h => h) (Or.inl ⟨by rfl, ?_⟩) (by assumption) ?_
  rotate_left
  · rintro w ⟨s0, s1, s2, s3⟩; go_simp; try with_reducible rfl
  go_simp
  refine wpAnyH_take (i := 8) (v := ?_) rfl (by kernel_rfl) (by kernel_rfl) (by kernel_rfl) (fun _ _ _ h => h) (Or.inl ⟨by rfl, ?_⟩) (by assumption) ?_
  rotate_left
  · rintro w ⟨s0, s1, s2, s3⟩; go_simp; try with_reducible rfl
  go_simp
  refine wpAnyH_take (i := 11) (v := ?_) rfl (by kernel_rfl) (by kernel_rfl) (by kernel_rfl) (fun _ _ _ h => h) (Or.inl ⟨by rfl, ?_⟩) (by assumption) ?_
  rotate_left
  · rintro w ⟨s0, s1, s2, s3⟩; go_simp; try with_reducible rfl
  go_simp
  refine wpAnyH_ready (rs := [12, 13]) (by kernel_rfl) (by simp) (AllReadyH.cons rfl (fun K hK => ?_) (AllReadyH.cons rfl (fun K hK => ?_) AllReadyH.nil))
  · go_simp
    go_at_call 11
    refine (hqu _).mono ?_
    rintro e wx ⟨rfl, hbx⟩
    have hAx := hA0.drew.below hbx hA0.drew.lt
    have hBx := hB0.drew.below hbx hB0.drew.lt
    have hlx : Below g w wx := hl0.drew.trans (hbx.mono (Nat.le_of_lt hA0.drew.lt))
    have hgl := hBx.lt
    refine hK.out _ _ (HC.out _ hAx) (fun hHeld => ?_)
    clear hK K hA0 hB0 hl0 hbx
    have hAy := hAx.alloc (.cells O.toArray 23)
    have hBy := hBx.alloc (.cells O.toArray 23)
    have hly := hlx.alloc (by omega : g ≤ wx.heap.size) (.cells O.toArray 23)
    have hGy : Blk (wx.alloc (.cells O.toArray 23)) wx.heap.size 23 O := by
      have := Blk.new wx 23 O.toArray
      simpa using this
    have hgG : g + 1 < wx.heap.size := hgl
    refine wpAnyH_ready (rs := [13]) (by kernel_rfl) (by simp) (AllReadyH.cons rfl (fun K hK => ?_) AllReadyH.nil)
    go_simp
    refine hK.out _ _ (HC.out _ hAy) (fun hHeld => ?_)
    clear hK K
    clear hAx hBx hlx hgl
    obtain ⟨G, hGd⟩ : ∃ G, wx.heap.size = G := ⟨_, rfl⟩
    rw [hGd] at hGy hgG ⊢
    clear hGd
    refine wpAnyH_ready (rs := [14]) (by kernel_rfl) (by simp) (AllReadyH.cons rfl (fun K hK => ?_) AllReadyH.nil)
    refine step_store_blk rfl 23 _ _ rfl G O [.int .u32 (qa (S a) (S b) (S c) (S d)), .int .u32 (qb (S a) (S b) (S c) (S d)), .int .u32 (qc (S a) (S b) (S c) (S d)), .int .u32 (qd (S a) (S b) (S c) (S d))] rfl rfl 23 hGy (by rw [Try.size23]; rfl) (by rw [hOl]; rfl) (by intro v hv; simp at hv; rcases hv with rfl | rfl | rfl | rfl <;> rfl) ?_
    have hAz := hAy.setRowOther (by omega : g ≠ G) [.int .u32 (qa (S a) (S b) (S c) (S d)), .int .u32 (qb (S a) (S b) (S c) (S d)), .int .u32 (qc (S a) (S b) (S c) (S d)), .int .u32 (qd (S a) (S b) (S c) (S d))].toArray
    have hBz := hBy.setRowOther (by omega : g + 1 ≠ G) [.int .u32 (qa (S a) (S b) (S c) (S d)), .int .u32 (qb (S a) (S b) (S c) (S d)), .int .u32 (qc (S a) (S b) (S c) (S d)), .int .u32 (qd (S a) (S b) (S c) (S d))].toArray
    have hGz := hGy.setRow (M := [.int .u32 (qa (S a) (S b) (S c) (S d)), .int .u32 (qb (S a) (S b) (S c) (S d)), .int .u32 (qc (S a) (S b) (S c) (S d)), .int .u32 (qd (S a) (S b) (S c) (S d))])
    have hlz := below_setRow hly (by omega : g ≤ G) [.int .u32 (qa (S a) (S b) (S c) (S d)), .int .u32 (qb (S a) (S b) (S c) (S d)), .int .u32 (qc (S a) (S b) (S c) (S d)), .int .u32 (qd (S a) (S b) (S c) (S d))].toArray
    refine hK.out _ _ (HC.out _ hAz) (fun hHeld => ?_)
    clear hK K
    go_simp
    refine wpAnyH_done (by kernel_rfl) ?_ _
    refine NoPanic.normal ?_
    clear hAy hBy hGy hly hqu HC hOl
    have hfin := Blk.four hAz a b c d
    have HQ : Hid (ws 16 (qS S a b c d) = ws 16 (qS S a b c d)) := rfl
    obtain ⟨U, hU⟩ : ∃ U, ws 16 (qS S a b c d) = U := ⟨_, rfl⟩
    rw [hU] at hfin HQ
    have HU : Hid (ws 16 (qS S a b c d) = U) := hU
    have hUl : U.length = 16 := by rw [← hU, ws_length]
    have hUo : ∀ v ∈ U, v.oneCell' = true := by rw [← hU]; exact ws_one _ _
    clear hU HQ
    generalize qa (S a) (S b) (S c) (S d) = va at hAz hBz hGz hlz hfin ⊢
    generalize qb (S a) (S b) (S c) (S d) = vb at hAz hBz hGz hlz hfin ⊢
    generalize qc (S a) (S b) (S c) (S d) = vc at hAz hBz hGz hlz hfin ⊢
    generalize qd (S a) (S b) (S c) (S d) = vd at hAz hBz hGz hlz hfin ⊢
    generalize World.setRow _ G _ = wz at hAz hBz hGz hlz hfin ⊢
    have g0 := hGz.cell (i := 0) rfl
    have A1 := hAz.setCell a (.int .u32 va)
    have G1 := hGz.setOther (by omega : G ≠ g) a (.int .u32 va)
    have g1 := G1.cell (i := 1) rfl
    have A2 := A1.setCell b (.int .u32 vb)
    have G2 := G1.setOther (by omega : G ≠ g) b (.int .u32 vb)
    have g2 := G2.cell (i := 2) rfl
    have A3 := A2.setCell c (.int .u32 vc)
    have G3 := G2.setOther (by omega : G ≠ g) c (.int .u32 vc)
    have g3 := G3.cell (i := 3) rfl
    have fz0 := hAz.frozen a
    have fz1 := A1.frozen b
    have fz2 := A2.frozen c
    have fz3 := A3.frozen d
    obtain ⟨u0, hu0⟩ := hAz.some a (by simp [ws_length]; exact a16)
    obtain ⟨u1, hu1⟩ := A1.some b (by simp [ws_length]; exact b16)
    obtain ⟨u2, hu2⟩ := A2.some c (by simp [ws_length]; exact c16)
    obtain ⟨u3, hu3⟩ := A3.some d (by simp [ws_length]; exact d16)
    have hB4 := (((hBz.setOther (by omega : g + 1 ≠ g) a (.int .u32 va)).setOther (by omega : g + 1 ≠ g) b (.int .u32 vb)).setOther (by omega : g + 1 ≠ g) c (.int .u32 vc)).setOther (by omega : g + 1 ≠ g) d (.int .u32 vd)
    have hl4 : Below g w ((((wz.setCell ⟨g, a, none⟩ (.int .u32 va)).setCell ⟨g, b, none⟩ (.int .u32 vb)).setCell ⟨g, c, none⟩ (.int .u32 vc)).setCell ⟨g, d, none⟩ (.int .u32 vd)) := (((hlz.setCell (Nat.le_refl _) _).setCell (Nat.le_refl _) _).setCell (Nat.le_refl _) _).setCell (Nat.le_refl _) _
    have hR : (loadVar 49 ⟨g + 1, 0, none⟩).run Try.prog (((((wz.setCell ⟨g, a, none⟩ (.int .u32 va)).setCell ⟨g, b, none⟩ (.int .u32 vb)).setCell ⟨g, c, none⟩ (.int .u32 vc)).setCell ⟨g, d, none⟩ (.int .u32 vd)).setRow (g + 1) U.toArray) = .ok (.agg U.toArray) (((((wz.setCell ⟨g, a, none⟩ (.int .u32 va)).setCell ⟨g, b, none⟩ (.int .u32 vb)).setCell ⟨g, c, none⟩ (.int .u32 vc)).setCell ⟨g, d, none⟩ (.int .u32 vd)).setRow (g + 1) U.toArray) := by
      have h1 : Blk (((((wz.setCell ⟨g, a, none⟩ (.int .u32 va)).setCell ⟨g, b, none⟩ (.int .u32 vb)).setCell ⟨g, c, none⟩ (.int .u32 vc)).setCell ⟨g, d, none⟩ (.int .u32 vd)).setRow (g + 1) U.toArray) (g + 1) 49 (ws 16 (qS S a b c d)) := by rw [HU.out]; exact hB4.setRow
      have h2 := load49 h1
      rw [HU.out] at h2
      exact h2
    have hl5 := below_setRow hl4 (by omega : g ≤ g + 1) U.toArray
    clear A1 A2 A3 G1 G2 G3 hAz hBz hGz hlz
    go_wp2_with (first | (refine wpList_load_blk rfl 49 _ rfl g rfl 49 U _ ?_ Try.underlying49 rfl (by rw [Try.size49, hUl]) ?_; exact hfin) | (refine wpList_store_blk rfl 49 _ _ rfl (g + 1) Z U rfl rfl 49 ?_ (by rw [Try.size49, hUl]) (by rw [hZl, hUl]) hUo ?_; exact hB4))
    refine bodyPost_ret_by (v := .agg U.toArray) (results_cell 10 49 ⟨g + 1, 0, none⟩ Try.results23 rfl hR) rfl ⟨by rw [HU.out], ?_⟩
    rw [HG.out]; exact hl5
  · go_simp
    have hA1 := hA0.drew.alloc (.cells O.toArray 23)
    have hB1 := hB0.drew.alloc (.cells O.toArray 23)
    have hl1 := hl0.drew.alloc (Nat.le_of_lt hA0.drew.lt) (.cells O.toArray 23)
    have hG1 : Blk (w0.drew.alloc (.cells O.toArray 23)) w0.heap.size 23 O := by
      have := Blk.new w0.drew 23 O.toArray
      simpa using this
    have hgG : g + 1 < w0.heap.size := hB0.lt
    refine hK.out _ _ (HC.out _ hA1) (fun hHeld => ?_)
    clear hK K
    refine wpAnyH_ready (rs := [12]) (by kernel_rfl) (by simp) (AllReadyH.cons rfl (fun K hK => ?_) AllReadyH.nil)
    go_simp
    go_at_call 11
    refine (hqu _).mono ?_
    rintro e wx ⟨rfl, hbx⟩
    have hAy := hA1.below hbx hA1.lt
    have hBy := hB1.below hbx hB1.lt
    have hGy := hG1.below hbx hG1.lt
    have hly : Below g w wx := hl1.trans (hbx.mono (Nat.le_of_lt hA1.lt))
    refine hK.out _ _ (HC.out _ hAy) (fun hHeld => ?_)
    clear hK K
    clear hA0 hB0 hl0 hA1 hB1 hG1 hl1 hbx
    obtain ⟨G, hGd⟩ : ∃ G, w0.heap.size = G := ⟨_, rfl⟩
    rw [hGd] at hGy hgG ⊢
    clear hGd
    refine wpAnyH_ready (rs := [14]) (by kernel_rfl) (by simp) (AllReadyH.cons rfl (fun K hK => ?_) AllReadyH.nil)
    refine step_store_blk rfl 23 _ _ rfl G O [.int .u32 (qa (S a) (S b) (S c) (S d)), .int .u32 (qb (S a) (S b) (S c) (S d)), .int .u32 (qc (S a) (S b) (S c) (S d)), .int .u32 (qd (S a) (S b) (S c) (S d))] rfl rfl 23 hGy (by rw [Try.size23]; rfl) (by rw [hOl]; rfl) (by intro v hv; simp at hv; rcases hv with rfl | rfl | rfl | rfl <;> rfl) ?_
    have hAz := hAy.setRowOther (by omega : g ≠ G) [.int .u32 (qa (S a) (S b) (S c) (S d)), .int .u32 (qb (S a) (S b) (S c) (S d)), .int .u32 (qc (S a) (S b) (S c) (S d)), .int .u32 (qd (S a) (S b) (S c) (S d))].toArray
    have hBz := hBy.setRowOther (by omega : g + 1 ≠ G) [.int .u32 (qa (S a) (S b) (S c) (S d)), .int .u32 (qb (S a) (S b) (S c) (S d)), .int .u32 (qc (S a) (S b) (S c) (S d)), .int .u32 (qd (S a) (S b) (S c) (S d))].toArray
    have hGz := hGy.setRow (M := [.int .u32 (qa (S a) (S b) (S c) (S d)), .int .u32 (qb (S a) (S b) (S c) (S d)), .int .u32 (qc (S a) (S b) (S c) (S d)), .int .u32 (qd (S a) (S b) (S c) (S d))])
    have hlz := below_setRow hly (by omega : g ≤ G) [.int .u32 (qa (S a) (S b) (S c) (S d)), .int .u32 (qb (S a) (S b) (S c) (S d)), .int .u32 (qc (S a) (S b) (S c) (S d)), .int .u32 (qd (S a) (S b) (S c) (S d))].toArray
    refine hK.out _ _ (HC.out _ hAz) (fun hHeld => ?_)
    clear hK K
    go_simp
    refine wpAnyH_done (by kernel_rfl) ?_ _
    refine NoPanic.normal ?_
    clear hAy hBy hGy hly hqu HC hOl
    have hfin := Blk.four hAz a b c d
    have HQ : Hid (ws 16 (qS S a b c d) = ws 16 (qS S a b c d)) := rfl
    obtain ⟨U, hU⟩ : ∃ U, ws 16 (qS S a b c d) = U := ⟨_, rfl⟩
    rw [hU] at hfin HQ
    have HU : Hid (ws 16 (qS S a b c d) = U) := hU
    have hUl : U.length = 16 := by rw [← hU, ws_length]
    have hUo : ∀ v ∈ U, v.oneCell' = true := by rw [← hU]; exact ws_one _ _
    clear hU HQ
    generalize qa (S a) (S b) (S c) (S d) = va at hAz hBz hGz hlz hfin ⊢
    generalize qb (S a) (S b) (S c) (S d) = vb at hAz hBz hGz hlz hfin ⊢
    generalize qc (S a) (S b) (S c) (S d) = vc at hAz hBz hGz hlz hfin ⊢
    generalize qd (S a) (S b) (S c) (S d) = vd at hAz hBz hGz hlz hfin ⊢
    generalize World.setRow _ G _ = wz at hAz hBz hGz hlz hfin ⊢
    have g0 := hGz.cell (i := 0) rfl
    have A1 := hAz.setCell a (.int .u32 va)
    have G1 := hGz.setOther (by omega : G ≠ g) a (.int .u32 va)
    have g1 := G1.cell (i := 1) rfl
    have A2 := A1.setCell b (.int .u32 vb)
    have G2 := G1.setOther (by omega : G ≠ g) b (.int .u32 vb)
    have g2 := G2.cell (i := 2) rfl
    have A3 := A2.setCell c (.int .u32 vc)
    have G3 := G2.setOther (by omega : G ≠ g) c (.int .u32 vc)
    have g3 := G3.cell (i := 3) rfl
    have fz0 := hAz.frozen a
    have fz1 := A1.frozen b
    have fz2 := A2.frozen c
    have fz3 := A3.frozen d
    obtain ⟨u0, hu0⟩ := hAz.some a (by simp [ws_length]; exact a16)
    obtain ⟨u1, hu1⟩ := A1.some b (by simp [ws_length]; exact b16)
    obtain ⟨u2, hu2⟩ := A2.some c (by simp [ws_length]; exact c16)
    obtain ⟨u3, hu3⟩ := A3.some d (by simp [ws_length]; exact d16)
    have hB4 := (((hBz.setOther (by omega : g + 1 ≠ g) a (.int .u32 va)).setOther (by omega : g + 1 ≠ g) b (.int .u32 vb)).setOther (by omega : g + 1 ≠ g) c (.int .u32 vc)).setOther (by omega : g + 1 ≠ g) d (.int .u32 vd)
    have hl4 : Below g w ((((wz.setCell ⟨g, a, none⟩ (.int .u32 va)).setCell ⟨g, b, none⟩ (.int .u32 vb)).setCell ⟨g, c, none⟩ (.int .u32 vc)).setCell ⟨g, d, none⟩ (.int .u32 vd)) := (((hlz.setCell (Nat.le_refl _) _).setCell (Nat.le_refl _) _).setCell (Nat.le_refl _) _).setCell (Nat.le_refl _) _
    have hR : (loadVar 49 ⟨g + 1, 0, none⟩).run Try.prog (((((wz.setCell ⟨g, a, none⟩ (.int .u32 va)).setCell ⟨g, b, none⟩ (.int .u32 vb)).setCell ⟨g, c, none⟩ (.int .u32 vc)).setCell ⟨g, d, none⟩ (.int .u32 vd)).setRow (g + 1) U.toArray) = .ok (.agg U.toArray) (((((wz.setCell ⟨g, a, none⟩ (.int .u32 va)).setCell ⟨g, b, none⟩ (.int .u32 vb)).setCell ⟨g, c, none⟩ (.int .u32 vc)).setCell ⟨g, d, none⟩ (.int .u32 vd)).setRow (g + 1) U.toArray) := by
      have h1 : Blk (((((wz.setCell ⟨g, a, none⟩ (.int .u32 va)).setCell ⟨g, b, none⟩ (.int .u32 vb)).setCell ⟨g, c, none⟩ (.int .u32 vc)).setCell ⟨g, d, none⟩ (.int .u32 vd)).setRow (g + 1) U.toArray) (g + 1) 49 (ws 16 (qS S a b c d)) := by rw [HU.out]; exact hB4.setRow
      have h2 := load49 h1
      rw [HU.out] at h2
      exact h2
    have hl5 := below_setRow hl4 (by omega : g ≤ g + 1) U.toArray
    clear A1 A2 A3 G1 G2 G3 hAz hBz hGz hlz
    go_wp2_with (first | (refine wpList_load_blk rfl 49 _ rfl g rfl 49 U _ ?_ Try.underlying49 rfl (by rw [Try.size49, hUl]) ?_; exact hfin) | (refine wpList_store_blk rfl 49 _ _ rfl (g + 1) Z U rfl rfl 49 ?_ (by rw [Try.size49, hUl]) (by rw [hZl, hUl]) hUo ?_; exact hB4))
    refine bodyPost_ret_by (v := .agg U.toArray) (results_cell 10 49 ⟨g + 1, 0, none⟩ Try.results23 rfl hR) rfl ⟨by rw [HU.out], ?_⟩
    rw [HG.out]; exact hl5
end Go.Proofs.Ytajkfjafhigcpaa
