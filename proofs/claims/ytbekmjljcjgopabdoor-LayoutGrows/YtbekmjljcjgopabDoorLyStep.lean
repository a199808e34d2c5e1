/- Layouts: Step, by the program and by the document. -/
import Derived.Test.YtbekmjljcjgopabDoorLyMoves
namespace Go.Proofs.YtbekmjljcjgopabDoor
open Go.RowKit Go.PlainAid
set_option linter.unusedVariables false
set_option maxRecDepth 20000

/-- The layout behind the next step. -/
def spL (D S M : Int) (G : Bool) : List Value := if stE D S M G = 0 then (if M + 1 = S then lyL (D + 1) S 0 false else lyL D S (M + 1) true) else lyL 0 0 0 false
theorem ly_one (D S M : Int) (G : Bool) : ∀ v ∈ lyL D S M G, v.oneCell' = true := by
  intro v hv
  unfold lyL at hv
  simp only [List.mem_cons, List.not_mem_nil, or_false] at hv
  rcases hv with rfl | rfl | rfl | rfl <;> rfl
theorem Tryd.size24 : (Tryd.prog.info? 24).map (·.size) = some 4 := by kernel_rfl
section
variable {D S M : Int} {G : Bool}
set_option maxHeartbeats 2000000 in
theorem step_any (w : World) (ht : Tabs w) : Calls Tryd.prog 6 #[.agg #[.int .i64 D, .int .i64 S, .int .i64 M, .bool G]] w fun e w' => e = .returned (.tuple #[.agg (spL D S M G).toArray, .int .i64 (stE D S M G)]) ∧ Below w.heap.size w w' := by
  have q1 : Hid (∀ z, Tabs z → Calls Tryd.prog 11 #[.agg #[.int .i64 D, .int .i64 S, .int .i64 M, .bool G]] z fun e w' => e = .returned (.int .i64 (stE D S M G)) ∧ Below z.heap.size z w') := fun z hz => still_any z hz
  have H0 := ((hold_nought w.heap.size w w (Nat.le_refl _) (Below.refl _ _)).newBlk firm_nought 24 (lyL D S M G).toArray).newBlk ((firm_blk _ _ _).star firm_nought) 24 (lyL 0 0 0 false).toArray
  have hz : Hid ((Tryd.prog.info? 24).map (·.size) = some 4) := Tryd.size24
  have HT : Hid (Tabs ((w.alloc (.cells #[.int .i64 D, .int .i64 S, .int .i64 M, .bool G] 24)).alloc (.cells #[.int .i64 0, .int .i64 0, .int .i64 0, .bool false] 24))) := (ht.below (bx w 24 (lyL D S M G)) ht.lt).below (bx _ 24 (lyL 0 0 0 false)) (by simp)
  simp only [World.size_alloc] at H0
  clear ht
  by_cases hE : stE D S M G = 0
  · obtain ⟨hg, hG⟩ := st_gd hE
    subst hG
    unfold spL
    rw [hE, if_pos rfl]
    rw [hE] at q1
    have hd2 := hg.d2
    have hd8 := hg.d8
    have hm0 := hg.m.1
    have hm1 := hg.m.2
    have hs16 := hg.s16.2
    clear hg hE
    by_cases hS : M + 1 = S
    · rw [if_pos hS]
      have hS' : (M + 1 == S) = true := by simpa using hS
      skip
      skip
      go_enter Tryd.func6, Tryd.ntmps6
      go_wp2_with (first
        | (go_at_call 11; refine (q1.out _ HT.out).mono ?_; rintro x w1 ⟨rfl, hw⟩; have H1 : Hid (Hold w.heap.size w w1 (star (blkA (w.heap.size + 1) 24 (lyL 0 0 0 false)) (star (blkA w.heap.size 24 (lyL D S M true)) nought))) := H0.below ((firm_blk _ _ _).star ((firm_blk _ _ _).star firm_nought)) hw; have B2 := H1.out.right.blk; have c0 := B2.cell (i := 0) rfl; have c1 := B2.cell (i := 1) rfl; have c2 := B2.cell (i := 2) rfl; have c3 := B2.cell (i := 3) rfl; have z2 := B2.frozen 2; clear hw B2)
        | (refine wpList_store_blk rfl 24 _ _ rfl (w.heap.size + 1) (lyL 0 0 0 false) (lyL (D + 1) S 0 false) rfl rfl 24 H1.out.blk hz.out rfl (ly_one _ _ _ _) ?_))
      have HE : Hid (Hold w.heap.size w (w1.setRow (w.heap.size + 1) (lyL (D + 1) S 0 false).toArray) (star (blkA (w.heap.size + 1) 24 (lyL (D + 1) S 0 false)) (star (blkA w.heap.size 24 (lyL D S M true)) nought))) := H1.out.setRowBlk ((firm_blk _ _ _).star firm_nought) (lyL (D + 1) S 0 false)
      have HR : Hid ((loadVar 24 ⟨w.heap.size + 1, 0, none⟩).run Tryd.prog (w1.setRow (w.heap.size + 1) (lyL (D + 1) S 0 false).toArray) = .ok (.agg (lyL (D + 1) S 0 false).toArray) (w1.setRow (w.heap.size + 1) (lyL (D + 1) S 0 false).toArray)) := run_loadVar_row _ (w.heap.size + 1) 24 24 (lyL (D + 1) S 0 false).toArray (0, 0) _ HE.out.blk Tryd.underlying24 rfl hz.out
      exact bodyPost_ret_by (v := .tuple #[.agg (lyL (D + 1) S 0 false).toArray, .int .i64 0]) (results_cell_tmp 2 3 24 ⟨w.heap.size + 1, 0, none⟩ rfl rfl HR.out rfl) rfl ⟨rfl, HE.out.low⟩
    · rw [if_neg hS]
      have hS' : (M + 1 == S) = false := by simpa using hS
      skip
      go_enter Tryd.func6, Tryd.ntmps6
      go_wp2_with (first
        | (go_at_call 11; refine (q1.out _ HT.out).mono ?_; rintro x w1 ⟨rfl, hw⟩; have H1 : Hid (Hold w.heap.size w w1 (star (blkA (w.heap.size + 1) 24 (lyL 0 0 0 false)) (star (blkA w.heap.size 24 (lyL D S M true)) nought))) := H0.below ((firm_blk _ _ _).star ((firm_blk _ _ _).star firm_nought)) hw; have B2 := H1.out.right.blk; have c0 := B2.cell (i := 0) rfl; have c1 := B2.cell (i := 1) rfl; have c2 := B2.cell (i := 2) rfl; have c3 := B2.cell (i := 3) rfl; have z2 := B2.frozen 2; clear hw B2)
        | (refine wpList_load_blk rfl 24 _ rfl w.heap.size rfl 24 (lyL D S (M + 1) true) _ (H1.out.right.blk.setCell 2 (.int .i64 (M + 1))) Tryd.underlying24 rfl hz.out ?_; have H2 : Hid (Hold w.heap.size w (w1.setCell ⟨w.heap.size, 2, none⟩ (.int .i64 (M + 1))) (star (blkA (w.heap.size + 1) 24 (lyL 0 0 0 false)) (star (blkA w.heap.size 24 (lyL D S (M + 1) true)) nought))) := (Hold.setBlk ((firm_blk _ _ _).star firm_nought) H1.out.swap 2 (.int .i64 (M + 1))).swap)
        | (refine wpList_store_blk rfl 24 _ _ rfl (w.heap.size + 1) (lyL 0 0 0 false) (lyL D S (M + 1) true) rfl rfl 24 H2.out.blk hz.out rfl (ly_one _ _ _ _) ?_))
      have HE : Hid (Hold w.heap.size w ((w1.setCell ⟨w.heap.size, 2, none⟩ (.int .i64 (M + 1))).setRow (w.heap.size + 1) (lyL D S (M + 1) true).toArray) (star (blkA (w.heap.size + 1) 24 (lyL D S (M + 1) true)) (star (blkA w.heap.size 24 (lyL D S (M + 1) true)) nought))) := H2.out.setRowBlk ((firm_blk _ _ _).star firm_nought) (lyL D S (M + 1) true)
      have HR : Hid ((loadVar 24 ⟨w.heap.size + 1, 0, none⟩).run Tryd.prog ((w1.setCell ⟨w.heap.size, 2, none⟩ (.int .i64 (M + 1))).setRow (w.heap.size + 1) (lyL D S (M + 1) true).toArray) = .ok (.agg (lyL D S (M + 1) true).toArray) ((w1.setCell ⟨w.heap.size, 2, none⟩ (.int .i64 (M + 1))).setRow (w.heap.size + 1) (lyL D S (M + 1) true).toArray)) := run_loadVar_row _ (w.heap.size + 1) 24 24 (lyL D S (M + 1) true).toArray (0, 0) _ HE.out.blk Tryd.underlying24 rfl hz.out
      exact bodyPost_ret_by (v := .tuple #[.agg (lyL D S (M + 1) true).toArray, .int .i64 0]) (results_cell_tmp 2 3 24 ⟨w.heap.size + 1, 0, none⟩ rfl rfl HR.out rfl) rfl ⟨rfl, HE.out.low⟩
  · unfold spL
    rw [if_neg hE]
    have hE1 : (stE D S M G != 0) = true := by simpa using hE
    generalize stE D S M G = E at *
    go_enter Tryd.func6, Tryd.ntmps6
    go_wp2_with (first
      | (go_at_call 11; refine (q1.out _ HT.out).mono ?_; rintro x w1 ⟨rfl, hw⟩; have H1 : Hid (Hold w.heap.size w w1 (star (blkA (w.heap.size + 1) 24 (lyL 0 0 0 false)) (star (blkA w.heap.size 24 (lyL D S M G)) nought))) := H0.below ((firm_blk _ _ _).star ((firm_blk _ _ _).star firm_nought)) hw; have B2 := H1.out.right.blk; have c0 := B2.cell (i := 0) rfl; have c1 := B2.cell (i := 1) rfl; have c2 := B2.cell (i := 2) rfl; have c3 := B2.cell (i := 3) rfl; have z2 := B2.frozen 2; clear hw B2)
      | (refine wpList_store_blk rfl 24 _ _ rfl (w.heap.size + 1) (lyL 0 0 0 false) (lyL 0 0 0 false) rfl rfl 24 H1.out.blk hz.out rfl (ly_one _ _ _ _) ?_))
    have HE : Hid (Hold w.heap.size w (w1.setRow (w.heap.size + 1) (lyL 0 0 0 false).toArray) (star (blkA (w.heap.size + 1) 24 (lyL 0 0 0 false)) (star (blkA w.heap.size 24 (lyL D S M G)) nought))) := H1.out.setRowBlk ((firm_blk _ _ _).star firm_nought) (lyL 0 0 0 false)
    have HR : Hid ((loadVar 24 ⟨w.heap.size + 1, 0, none⟩).run Tryd.prog (w1.setRow (w.heap.size + 1) (lyL 0 0 0 false).toArray) = .ok (.agg (lyL 0 0 0 false).toArray) (w1.setRow (w.heap.size + 1) (lyL 0 0 0 false).toArray)) := run_loadVar_row _ (w.heap.size + 1) 24 24 (lyL 0 0 0 false).toArray (0, 0) _ HE.out.blk Tryd.underlying24 rfl hz.out
    exact bodyPost_ret_by (v := .tuple #[.agg (lyL 0 0 0 false).toArray, .int .i64 E]) (results_cell_tmp 2 3 24 ⟨w.heap.size + 1, 0, none⟩ rfl rfl HR.out rfl) rfl ⟨rfl, HE.out.low⟩
end
end Go.Proofs.YtbekmjljcjgopabDoor
