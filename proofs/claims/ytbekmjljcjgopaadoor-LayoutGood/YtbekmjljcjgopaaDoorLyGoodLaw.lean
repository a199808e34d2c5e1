/- LayoutGood: its walk. -/
import Derived.Test.YtbekmjljcjgopaaDoorLyTwo
namespace Go.Proofs.YtbekmjljcjgopaaDoor
open Go.RowKit Go.PlainAid
set_option linter.unusedVariables false
set_option maxRecDepth 20000

set_option maxHeartbeats 4000000 in
theorem layoutGood_law (D S M : Int) (G : Bool) (t : Int) (w : World) (hD1 : D ≤ 9223372036854775807) (hM1 : M ≤ 9223372036854775807) (ht : Tabs w) : Calls Tryd.prog 3 #[.agg #[.int .i64 D, .int .i64 S, .int .i64 M, .bool G], .int .i64 t] w fun e w' => e = .returned (.bool true) ∧ Below w.heap.size w w' := by
  have HA : Hid (B2 w _ _ _ D S M G) := b2_a w ht 23 (lyL D S M G)
  have HB : Hid (B2 w _ _ _ D S M G) := b2_b w ht 23 (lyL D S M G)
  have q1 : Hid (∀ z, Tabs z → Calls Tryd.prog 11 #[.agg #[.int .i64 D, .int .i64 S, .int .i64 M, .bool G]] z fun e w' => e = .returned (.bool (decide (Gd D S M G))) ∧ Below z.heap.size z w') := fun z hz => good_any z hz
  have q2 : Hid (∀ z, Calls Tryd.prog 9 #[.agg #[.int .i64 D, .int .i64 S, .int .i64 M, .bool G]] z fun e w' => e = .returned (.bool (decide (Gd D S M G))) ∧ Below z.heap.size z w') := fun z => rgood_any z
  have q3 : Hid (∀ z, Tabs z → Calls Tryd.prog 12 #[.agg #[.int .i64 D, .int .i64 S, .int .i64 M, .bool G]] z fun e w' => e = .returned (.int .i64 (bkN D S M G)) ∧ Below z.heap.size z w') := fun z hz => blocks_any z hz
  have q4 : Hid (∀ z, Tabs z → Calls Tryd.prog 13 #[.agg #[.int .i64 D, .int .i64 S, .int .i64 M, .bool G], .int .i64 t] z fun e w' => e = .returned (.int .i64 (wdN D S M G t)) ∧ Below z.heap.size z w') := fun z hz => wide_any z hz t
  have q5 : Hid (∀ z, Tabs z → Calls Tryd.prog 14 #[.agg #[.int .i64 D, .int .i64 S, .int .i64 M, .bool G], .int .i64 t] z fun e w' => e = .returned (.int .i64 (wdN D S M G t)) ∧ Below z.heap.size z w') := fun z hz => rwide_any z hz t
  clear ht
  go_enter Tryd.func3, Tryd.ntmps3
  go_upto_region 1 with fail
  go_cut [5, 6] from 8 (fun x y wc => ∃ g1 g2, x = .pointer (some ⟨g1, 0, none⟩) ∧ y = .pointer (some ⟨g2, 0, none⟩) ∧ B2 w wc g1 g2 D S M G)
  case first =>
    clear q1 q2 q3 q4 q5
    go_region
    all_goals (go_wp2_with fail; go_meet; first | exact ⟨_, _, rfl, rfl, HA.out⟩ | exact ⟨_, _, rfl, rfl, HB.out⟩)
  case rest =>
    obtain ⟨g1, g2, rfl, rfl, hX⟩ := hcut
    have X2 : Hid (B2 w wc g1 g2 D S M G) := hX
    clear HA HB hX
    obtain ⟨⟨c0, c1, c2, c3⟩, ⟨d0, d1, d2, d3⟩⟩ := X2.out.c8
    by_cases hg : Gd D S M G
    · rw [show bkN D S M G = S * D from if_pos hg] at q3
      have hb := hg.sd
      have hb1 : S * D ≤ 140737488355328 := by omega
      have hb0 := hb.1
      rw [decide_eq_true hg] at q1 q2
      generalize wdN D S M G t = wd at *
      clear hb hg
      go_wp2_with (go_at_call 9; refine (q2.out _).mono ?_; rintro x w3 ⟨rfl, h3⟩; have X3 : Hid (B2 w w3 g1 g2 D S M G) := X2.out.next h3; obtain ⟨⟨c0, c1, c2, c3⟩, ⟨d0, d1, d2, d3⟩⟩ := X3.out.c8; clear h3 X2)
      clear c0 c1 c2 c3 d0 d1 d2 d3
      have X4 : Hid (B2 w w3.drew g1 g2 D S M G) := X3.out.next (Below.refl _ _).drew
      clear X3
      refine wp_region_noPanic ?_
      refine wp_region_held_drew (S := fun z : World => (z.cell? ⟨g1, 0, none⟩ = some (.int .i64 D) ∧ z.cell? ⟨g1, 1, none⟩ = some (.int .i64 S) ∧ z.cell? ⟨g1, 2, none⟩ = some (.int .i64 M) ∧ z.cell? ⟨g1, 3, none⟩ = some (.bool G)) ∧ (z.cell? ⟨g2, 0, none⟩ = some (.int .i64 D) ∧ z.cell? ⟨g2, 1, none⟩ = some (.int .i64 S) ∧ z.cell? ⟨g2, 2, none⟩ = some (.int .i64 M) ∧ z.cell? ⟨g2, 3, none⟩ = some (.bool G))) (by kernel_rfl) X4.out.c8 (fun hHeld => ?_)
      refine wpAnyH_ready (rs := [0]) (by kernel_rfl) (by simp) (AllReadyH.cons rfl (fun K hK => ?_) AllReadyH.nil)
      go_simp
      go_at_call 10
      refine (wakes18_any _ X4.out.tabs).mono ?_
      rintro x w5 ⟨rfl, h5⟩
      have X5 : Hid (B2 w w5 g1 g2 D S M G) := X4.out.next h5
      clear h5 X4
      refine hK.out _ _ X5.out.c8 (fun hHeld => ?_)
      clear hK K
      have hs := X5.out.c8
      refine wpAnyH_take (i := 1) (v := ?_) rfl (by kernel_rfl) (by kernel_rfl) (by kernel_rfl) (fun _ _ _ h => h) (Or.inl ⟨by rfl, ?_⟩) (by assumption) ?_
      rotate_left
      · intro w hSw; go_simp; try with_reducible rfl
      go_simp
      refine wpAnyH_take (i := 2) (v := ?_) rfl (by kernel_rfl) (by kernel_rfl) (by kernel_rfl) (fun _ _ _ h => h) (Or.inl ⟨by rfl, ?_⟩) (by assumption) ?_
      rotate_left
      · intro w hSw; go_simp; try with_reducible rfl
      go_simp
      refine wpAnyH_take (i := 4) (v := ?_) rfl (by kernel_rfl) (by kernel_rfl) (by kernel_rfl) (fun _ _ _ h => h) (Or.inl ⟨by rfl, ?_⟩) (by assumption) ?_
      rotate_left
      · intro w hSw; go_simp; try with_reducible rfl
      go_simp
      clear hs
      refine wpAnyH_ready (rs := [3]) (by kernel_rfl) (by simp) (AllReadyH.cons rfl (fun K hK => ?_) AllReadyH.nil)
      go_simp
      go_at_call 11
      refine (q1.out _ X5.out.tabs).mono ?_
      rintro x w6 ⟨rfl, h6⟩
      have X6 : Hid (B2 w w6 g1 g2 D S M G) := X5.out.next h6
      clear h6 X5
      refine hK.out _ _ X6.out.c8 (fun hHeld => ?_)
      clear hK K
      refine wpAnyH_ready (rs := [5]) (by kernel_rfl) (by simp) (AllReadyH.cons rfl (fun K hK => ?_) AllReadyH.nil)
      go_simp
      go_at_call 9
      refine (q2.out _).mono ?_
      rintro x w7 ⟨rfl, h7⟩
      have X7 : Hid (B2 w w7 g1 g2 D S M G) := X6.out.next h7
      clear h7 X6
      refine hK.out _ _ X7.out.c8 (fun hHeld => ?_)
      clear hK K
      have hs := X7.out.c8
      refine wpAnyH_take (i := 6) (v := ?_) rfl (by kernel_rfl) (by kernel_rfl) (by kernel_rfl) (fun _ _ _ h => h) (Or.inl ⟨by rfl, ?_⟩) (by assumption) ?_
      rotate_left
      · intro w hSw; go_simp; try with_reducible rfl
      go_simp
      refine wpAnyH_take (i := 7) (v := ?_) rfl (by kernel_rfl) (by kernel_rfl) (by kernel_rfl) (fun _ _ _ h => h) (Or.inl ⟨by rfl, ?_⟩) (by assumption) ?_
      rotate_left
      · intro w hSw; go_simp; try with_reducible rfl
      go_simp
      refine wpAnyH_take (i := 8) (v := ?_) rfl (by kernel_rfl) (by kernel_rfl) (by kernel_rfl) (fun _ _ _ h => h) (Or.inl ⟨by rfl, ?_⟩) (by assumption) ?_
      rotate_left
      · intro w hSw; go_simp; try with_reducible rfl
      go_simp
      refine wpAnyH_take (i := 9) (v := ?_) rfl (by kernel_rfl) (by kernel_rfl) (by kernel_rfl) (fun _ _ _ h => h) (Or.inl ⟨by rfl, ?_⟩) (by assumption) ?_
      rotate_left
      · intro w hSw; go_simp; try with_reducible rfl
      go_simp
      refine wpAnyH_take (i := 11) (v := ?_) rfl (by kernel_rfl) (by kernel_rfl) (by kernel_rfl) (fun _ _ _ h => h) (Or.inl ⟨by rfl, ?_⟩) (by assumption) ?_
      rotate_left
      · intro w hSw; go_simp; try with_reducible rfl
      go_simp
      clear hs
      refine wpAnyH_ready (rs := [10]) (by kernel_rfl) (by simp) (AllReadyH.cons rfl (fun K hK => ?_) AllReadyH.nil)
      go_simp
      go_at_call 12
      refine (q3.out _ X7.out.tabs).mono ?_
      rintro x w8 ⟨rfl, h8⟩
      have X8 : Hid (B2 w w8 g1 g2 D S M G) := X7.out.next h8
      clear h8 X7
      refine hK.out _ _ X8.out.c8 (fun hHeld => ?_)
      clear hK K
      have hs := X8.out.c8
      refine wpAnyH_take (i := 12) (v := ?_) rfl (by kernel_rfl) (by kernel_rfl) (by kernel_rfl) (fun _ _ _ h => h) (Or.inl ⟨by rfl, ?_⟩) (by assumption) ?_
      rotate_left
      · intro w hSw; go_simp; try with_reducible rfl
      go_simp
      refine wpAnyH_take (i := 13) (v := ?_) rfl (by kernel_rfl) (by kernel_rfl) (by kernel_rfl) (fun _ _ _ h => h) (Or.inl ⟨by rfl, ?_⟩) (by assumption) ?_
      rotate_left
      · intro w hSw; go_simp; try with_reducible rfl
      go_simp
      refine wpAnyH_take (i := 14) (v := ?_) rfl (by kernel_rfl) (by kernel_rfl) (by kernel_rfl) (fun _ _ _ h => h) (Or.inl ⟨by rfl, ?_⟩) (by assumption) ?_
      rotate_left
      · intro w hSw; go_simp; try with_reducible rfl
      go_simp
      refine wpAnyH_take (i := 15) (v := ?_) rfl (by kernel_rfl) (by kernel_rfl) (by kernel_rfl) (fun _ _ _ h => h) (Or.inl ⟨by rfl, ?_⟩) (by assumption) ?_
      rotate_left
      · intro w hSw; go_simp; try with_reducible rfl
      go_simp
      refine wpAnyH_take (i := 16) (v := ?_) rfl (by kernel_rfl) (by kernel_rfl) (by kernel_rfl) (fun _ _ _ h => h) (Or.inl ⟨by rfl, ?_⟩) (by assumption) ?_
      rotate_left
      · intro w hSw; go_simp; try with_reducible rfl
      go_simp
      refine wpAnyH_take (i := 18) (v := ?_) rfl (by kernel_rfl) (by kernel_rfl) (by kernel_rfl) (fun _ _ _ h => h) (Or.inl ⟨by rfl, ?_⟩) (by assumption) ?_
      rotate_left
      · intro w hSw; go_simp; try with_reducible rfl
      go_simp
      refine wpAnyH_take (i := 19) (v := ?_) rfl (by kernel_rfl) (by kernel_rfl) (by kernel_rfl) (fun _ _ _ h => h) (Or.inl ⟨by rfl, ?_⟩) (by assumption) ?_
      rotate_left
      · intro w hSw; go_simp; try with_reducible rfl
      go_simp
      clear hs
      refine wpAnyH_ready (rs := [17]) (by kernel_rfl) (by simp) (AllReadyH.cons rfl (fun K hK => ?_) AllReadyH.nil)
      go_simp
      go_at_call 13
      refine (q4.out _ X8.out.tabs).mono ?_
      rintro x w9 ⟨rfl, h9⟩
      have X9 : Hid (B2 w w9 g1 g2 D S M G) := X8.out.next h9
      clear h9 X8
      refine hK.out _ _ X9.out.c8 (fun hHeld => ?_)
      clear hK K
      refine wpAnyH_ready (rs := [20]) (by kernel_rfl) (by simp) (AllReadyH.cons rfl (fun K hK => ?_) AllReadyH.nil)
      go_simp
      go_at_call 14
      refine (q5.out _ X9.out.tabs).mono ?_
      rintro x w10 ⟨rfl, h10⟩
      have X10 : Hid (B2 w w10 g1 g2 D S M G) := X9.out.next h10
      clear h10 X9
      refine hK.out _ _ X10.out.c8 (fun hHeld => ?_)
      clear hK K
      have hs := X10.out.c8
      refine wpAnyH_take (i := 21) (v := ?_) rfl (by kernel_rfl) (by kernel_rfl) (by kernel_rfl) (fun _ _ _ h => h) (Or.inl ⟨by rfl, ?_⟩) (by assumption) ?_
      rotate_left
      · intro w hSw; go_simp; try with_reducible rfl
      go_simp
      refine wpAnyH_take (i := 22) (v := ?_) rfl (by kernel_rfl) (by kernel_rfl) (by kernel_rfl) (fun _ _ _ h => h) (Or.inl ⟨by rfl, ?_⟩) (by assumption) ?_
      rotate_left
      · intro w hSw; go_simp; try with_reducible rfl
      go_simp
      refine wpAnyH_take (i := 23) (v := ?_) rfl (by kernel_rfl) (by kernel_rfl) (by kernel_rfl) (fun _ _ _ h => h) (Or.inl ⟨by rfl, ?_⟩) (by assumption) ?_
      rotate_left
      · intro w hSw; go_simp; try with_reducible rfl
      go_simp
      refine wpAnyH_done (by kernel_rfl) ?_ _
      refine NoPanic.normal ?_
      clear hs
      go_wp2_with fail
      go_ret
      exact ⟨by simp, X10.out.low⟩
    · rw [show bkN D S M G = 0 from if_neg hg] at q3
      rw [decide_eq_false hg] at q1 q2
      generalize wdN D S M G t = wd at *
      clear hg
      go_wp2_with (go_at_call 9; refine (q2.out _).mono ?_; rintro x w3 ⟨rfl, h3⟩; have X3 : Hid (B2 w w3 g1 g2 D S M G) := X2.out.next h3; obtain ⟨⟨c0, c1, c2, c3⟩, ⟨d0, d1, d2, d3⟩⟩ := X3.out.c8; clear h3 X2)
      clear c0 c1 c2 c3 d0 d1 d2 d3
      have X4 : Hid (B2 w w3.drew g1 g2 D S M G) := X3.out.next (Below.refl _ _).drew
      clear X3
      refine wp_region_noPanic ?_
      refine wp_region_held_drew (S := fun z : World => (z.cell? ⟨g1, 0, none⟩ = some (.int .i64 D) ∧ z.cell? ⟨g1, 1, none⟩ = some (.int .i64 S) ∧ z.cell? ⟨g1, 2, none⟩ = some (.int .i64 M) ∧ z.cell? ⟨g1, 3, none⟩ = some (.bool G)) ∧ (z.cell? ⟨g2, 0, none⟩ = some (.int .i64 D) ∧ z.cell? ⟨g2, 1, none⟩ = some (.int .i64 S) ∧ z.cell? ⟨g2, 2, none⟩ = some (.int .i64 M) ∧ z.cell? ⟨g2, 3, none⟩ = some (.bool G))) (by kernel_rfl) X4.out.c8 (fun hHeld => ?_)
      refine wpAnyH_ready (rs := [0]) (by kernel_rfl) (by simp) (AllReadyH.cons rfl (fun K hK => ?_) AllReadyH.nil)
      go_simp
      go_at_call 10
      refine (wakes18_any _ X4.out.tabs).mono ?_
      rintro x w5 ⟨rfl, h5⟩
      have X5 : Hid (B2 w w5 g1 g2 D S M G) := X4.out.next h5
      clear h5 X4
      refine hK.out _ _ X5.out.c8 (fun hHeld => ?_)
      clear hK K
      have hs := X5.out.c8
      refine wpAnyH_take (i := 1) (v := ?_) rfl (by kernel_rfl) (by kernel_rfl) (by kernel_rfl) (fun _ _ _ h => h) (Or.inl ⟨by rfl, ?_⟩) (by assumption) ?_
      rotate_left
      · intro w hSw; go_simp; try with_reducible rfl
      go_simp
      refine wpAnyH_take (i := 2) (v := ?_) rfl (by kernel_rfl) (by kernel_rfl) (by kernel_rfl) (fun _ _ _ h => h) (Or.inl ⟨by rfl, ?_⟩) (by assumption) ?_
      rotate_left
      · intro w hSw; go_simp; try with_reducible rfl
      go_simp
      refine wpAnyH_take (i := 4) (v := ?_) rfl (by kernel_rfl) (by kernel_rfl) (by kernel_rfl) (fun _ _ _ h => h) (Or.inl ⟨by rfl, ?_⟩) (by assumption) ?_
      rotate_left
      · intro w hSw; go_simp; try with_reducible rfl
      go_simp
      clear hs
      refine wpAnyH_ready (rs := [3]) (by kernel_rfl) (by simp) (AllReadyH.cons rfl (fun K hK => ?_) AllReadyH.nil)
      go_simp
      go_at_call 11
      refine (q1.out _ X5.out.tabs).mono ?_
      rintro x w6 ⟨rfl, h6⟩
      have X6 : Hid (B2 w w6 g1 g2 D S M G) := X5.out.next h6
      clear h6 X5
      refine hK.out _ _ X6.out.c8 (fun hHeld => ?_)
      clear hK K
      refine wpAnyH_ready (rs := [5]) (by kernel_rfl) (by simp) (AllReadyH.cons rfl (fun K hK => ?_) AllReadyH.nil)
      go_simp
      go_at_call 9
      refine (q2.out _).mono ?_
      rintro x w7 ⟨rfl, h7⟩
      have X7 : Hid (B2 w w7 g1 g2 D S M G) := X6.out.next h7
      clear h7 X6
      refine hK.out _ _ X7.out.c8 (fun hHeld => ?_)
      clear hK K
      have hs := X7.out.c8
      refine wpAnyH_take (i := 6) (v := ?_) rfl (by kernel_rfl) (by kernel_rfl) (by kernel_rfl) (fun _ _ _ h => h) (Or.inl ⟨by rfl, ?_⟩) (by assumption) ?_
      rotate_left
      · intro w hSw; go_simp; try with_reducible rfl
      go_simp
      refine wpAnyH_take (i := 7) (v := ?_) rfl (by kernel_rfl) (by kernel_rfl) (by kernel_rfl) (fun _ _ _ h => h) (Or.inl ⟨by rfl, ?_⟩) (by assumption) ?_
      rotate_left
      · intro w hSw; go_simp; try with_reducible rfl
      go_simp
      refine wpAnyH_take (i := 8) (v := ?_) rfl (by kernel_rfl) (by kernel_rfl) (by kernel_rfl) (fun _ _ _ h => h) (Or.inl ⟨by rfl, ?_⟩) (by assumption) ?_
      rotate_left
      · intro w hSw; go_simp; try with_reducible rfl
      go_simp
      refine wpAnyH_take (i := 9) (v := ?_) rfl (by kernel_rfl) (by kernel_rfl) (by kernel_rfl) (fun _ _ _ h => h) (Or.inl ⟨by rfl, ?_⟩) (by assumption) ?_
      rotate_left
      · intro w hSw; go_simp; try with_reducible rfl
      go_simp
      refine wpAnyH_take (i := 11) (v := ?_) rfl (by kernel_rfl) (by kernel_rfl) (by kernel_rfl) (fun _ _ _ h => h) (Or.inl ⟨by rfl, ?_⟩) (by assumption) ?_
      rotate_left
      · intro w hSw; go_simp; try with_reducible rfl
      go_simp
      clear hs
      refine wpAnyH_ready (rs := [10]) (by kernel_rfl) (by simp) (AllReadyH.cons rfl (fun K hK => ?_) AllReadyH.nil)
      go_simp
      go_at_call 12
      refine (q3.out _ X7.out.tabs).mono ?_
      rintro x w8 ⟨rfl, h8⟩
      have X8 : Hid (B2 w w8 g1 g2 D S M G) := X7.out.next h8
      clear h8 X7
      refine hK.out _ _ X8.out.c8 (fun hHeld => ?_)
      clear hK K
      have hs := X8.out.c8
      refine wpAnyH_take (i := 12) (v := ?_) rfl (by kernel_rfl) (by kernel_rfl) (by kernel_rfl) (fun _ _ _ h => h) (Or.inl ⟨by rfl, ?_⟩) (by assumption) ?_
      rotate_left
      · intro w hSw; go_simp; try with_reducible rfl
      go_simp
      refine wpAnyH_take (i := 13) (v := ?_) rfl (by kernel_rfl) (by kernel_rfl) (by kernel_rfl) (fun _ _ _ h => h) (Or.inl ⟨by rfl, ?_⟩) (by assumption) ?_
      rotate_left
      · intro w hSw; go_simp; try with_reducible rfl
      go_simp
      refine wpAnyH_take (i := 14) (v := ?_) rfl (by kernel_rfl) (by kernel_rfl) (by kernel_rfl) (fun _ _ _ h => h) (Or.inl ⟨by rfl, ?_⟩) (by assumption) ?_
      rotate_left
      · intro w hSw; go_simp; try with_reducible rfl
      go_simp
      refine wpAnyH_take (i := 15) (v := ?_) rfl (by kernel_rfl) (by kernel_rfl) (by kernel_rfl) (fun _ _ _ h => h) (Or.inl ⟨by rfl, ?_⟩) (by assumption) ?_
      rotate_left
      · intro w hSw; go_simp; try with_reducible rfl
      go_simp
      refine wpAnyH_take (i := 16) (v := ?_) rfl (by kernel_rfl) (by kernel_rfl) (by kernel_rfl) (fun _ _ _ h => h) (Or.inl ⟨by rfl, ?_⟩) (by assumption) ?_
      rotate_left
      · intro w hSw; go_simp; try with_reducible rfl
      go_simp
      refine wpAnyH_take (i := 18) (v := ?_) rfl (by kernel_rfl) (by kernel_rfl) (by kernel_rfl) (fun _ _ _ h => h) (Or.inl ⟨by rfl, ?_⟩) (by assumption) ?_
      rotate_left
      · intro w hSw; go_simp; try with_reducible rfl
      go_simp
      refine wpAnyH_take (i := 19) (v := ?_) rfl (by kernel_rfl) (by kernel_rfl) (by kernel_rfl) (fun _ _ _ h => h) (Or.inl ⟨by rfl, ?_⟩) (by assumption) ?_
      rotate_left
      · intro w hSw; go_simp; try with_reducible rfl
      go_simp
      clear hs
      refine wpAnyH_ready (rs := [17]) (by kernel_rfl) (by simp) (AllReadyH.cons rfl (fun K hK => ?_) AllReadyH.nil)
      go_simp
      go_at_call 13
      refine (q4.out _ X8.out.tabs).mono ?_
      rintro x w9 ⟨rfl, h9⟩
      have X9 : Hid (B2 w w9 g1 g2 D S M G) := X8.out.next h9
      clear h9 X8
      refine hK.out _ _ X9.out.c8 (fun hHeld => ?_)
      clear hK K
      refine wpAnyH_ready (rs := [20]) (by kernel_rfl) (by simp) (AllReadyH.cons rfl (fun K hK => ?_) AllReadyH.nil)
      go_simp
      go_at_call 14
      refine (q5.out _ X9.out.tabs).mono ?_
      rintro x w10 ⟨rfl, h10⟩
      have X10 : Hid (B2 w w10 g1 g2 D S M G) := X9.out.next h10
      clear h10 X9
      refine hK.out _ _ X10.out.c8 (fun hHeld => ?_)
      clear hK K
      have hs := X10.out.c8
      refine wpAnyH_take (i := 21) (v := ?_) rfl (by kernel_rfl) (by kernel_rfl) (by kernel_rfl) (fun _ _ _ h => h) (Or.inl ⟨by rfl, ?_⟩) (by assumption) ?_
      rotate_left
      · intro w hSw; go_simp; try with_reducible rfl
      go_simp
      refine wpAnyH_take (i := 22) (v := ?_) rfl (by kernel_rfl) (by kernel_rfl) (by kernel_rfl) (fun _ _ _ h => h) (Or.inl ⟨by rfl, ?_⟩) (by assumption) ?_
      rotate_left
      · intro w hSw; go_simp; try with_reducible rfl
      go_simp
      refine wpAnyH_take (i := 23) (v := ?_) rfl (by kernel_rfl) (by kernel_rfl) (by kernel_rfl) (fun _ _ _ h => h) (Or.inl ⟨by rfl, ?_⟩) (by assumption) ?_
      rotate_left
      · intro w hSw; go_simp; try with_reducible rfl
      go_simp
      refine wpAnyH_done (by kernel_rfl) ?_ _
      refine NoPanic.normal ?_
      clear hs
      go_wp2_with fail
      go_ret
      exact ⟨by simp, X10.out.low⟩
end Go.Proofs.YtbekmjljcjgopaaDoor
