/- LayoutSteps: its walk. -/
import Derived.Test.YtbekmjljcjgopaaDoorLyAls
namespace Go.Proofs.YtbekmjljcjgopaaDoor
open Go.RowKit Go.PlainAid
set_option linter.unusedVariables false
set_option maxRecDepth 20000

theorem sp_is (D S M : Int) (G : Bool) : ∃ D3 S3 M3 G3, spL D S M G = lyL D3 S3 M3 G3 := by
  unfold spL
  split
  · split <;> exact ⟨_, _, _, _, rfl⟩
  · exact ⟨_, _, _, _, rfl⟩
set_option maxHeartbeats 4000000 in
theorem layoutSteps_law (D S M : Int) (G : Bool) (w : World) (hD1 : D ≤ 9223372036854775807) (hM1 : M ≤ 9223372036854775807) (ht : Tabs w) : Calls Tryd.prog 6 #[.agg #[.int .i64 D, .int .i64 S, .int .i64 M, .bool G]] w fun e w' => e = .returned (.bool true) ∧ Below w.heap.size w w' := by
  have X0 : Hid (Bx w (w.alloc (.cells #[.int .i64 D, .int .i64 S, .int .i64 M, .bool G] 23)).drew w.heap.size 23 (lyL D S M G)) := (Bx.box w ht 23 (lyL D S M G)).next (Below.refl _ _).drew
  have q0 : Hid (∀ z, Calls Tryd.prog 15 #[.agg #[.int .i64 D, .int .i64 S, .int .i64 M, .bool G]] z fun e w' => e = .returned (.agg #[.int .i64 (goD D), .int .i64 (goS S), .int .i64 (goM S M G), .bool G]) ∧ Below z.heap.size z w') := fun z => good18_any z hD1 hM1
  have qw : Hid (∀ z, Tabs z → Calls Tryd.prog 10 #[] z fun e w' => e = .returned (.bool true) ∧ Below z.heap.size z w') := fun z hz => wakes18_any z hz
  have HSZ : Hid ((Tryd.prog.info? 24).map (·.size) = some 4) := Tryd.size24
  have qa : Hid (∀ z, Tabs z → ∀ (D S M : Int) (G : Bool), Calls Tryd.prog 22 #[.agg #[.int .i64 D, .int .i64 S, .int .i64 M, .bool G]] z fun e w' => ∃ v, e = .returned (.tuple #[v, .int .i64 (stE D S M G)]) ∧ w'.ownsRow z.heap.size 3 1 v (mvN D S M G) (mvL D M (mvN D S M G)) ∧ Below z.heap.size z w') := fun z hz D S M G => moves_any z hz
  have qb : Hid (∀ z, Tabs z → ∀ (D S M : Int) (G : Bool), Calls Tryd.prog 23 #[.agg #[.int .i64 D, .int .i64 S, .int .i64 M, .bool G]] z fun e w' => ∃ v, e = .returned (.tuple #[v, .int .i64 (stE D S M G)]) ∧ w'.ownsRow z.heap.size 3 1 v (mvN D S M G) (mvL D M (mvN D S M G)) ∧ Below z.heap.size z w') := fun z hz D S M G => rmoves_any z
  have qc : Hid (∀ z, Tabs z → ∀ (D S M : Int) (G : Bool), Calls Tryd.prog 24 #[.agg #[.int .i64 D, .int .i64 S, .int .i64 M, .bool G]] z fun e w' => e = .returned (.tuple #[.agg (spL D S M G).toArray, .int .i64 (stE D S M G)]) ∧ Below z.heap.size z w') := fun z hz D S M G => step_any z hz
  have qd : Hid (∀ z, Tabs z → ∀ (D S M : Int) (G : Bool), Calls Tryd.prog 25 #[.agg #[.int .i64 D, .int .i64 S, .int .i64 M, .bool G]] z fun e w' => e = .returned (.tuple #[.agg (spL D S M G).toArray, .int .i64 (stE D S M G)]) ∧ Below z.heap.size z w') := fun z hz D S M G => rstep_any z hz
  clear ht hD1 hM1
  go_enter Tryd.func6, Tryd.ntmps6
  go_upto_region 1 with fail
  generalize goD D = D2 at *
  generalize goS S = S2 at *
  generalize goM S M G = M2 at *
  refine wp_region_noPanic ?_
  refine wp_region_held_drew (S := fun z : World => z.cell? ⟨w.heap.size, 0, none⟩ = some (.int .i64 D) ∧ z.cell? ⟨w.heap.size, 1, none⟩ = some (.int .i64 S) ∧ z.cell? ⟨w.heap.size, 2, none⟩ = some (.int .i64 M) ∧ z.cell? ⟨w.heap.size, 3, none⟩ = some (.bool G)) (by kernel_rfl) X0.out.cells (fun hHeld => ?_)
  refine wpAnyH_take (i := 0) (v := ?_) rfl (by kernel_rfl) (by kernel_rfl) (by kernel_rfl) (fun _ _ _ h => h) (Or.inl ⟨by rfl, ?_⟩) (by assumption) ?_
  rotate_left
  · intro w hSw; go_simp; try with_reducible rfl
  go_simp
  refine wpAnyH_take (i := 1) (v := ?_) rfl (by kernel_rfl) (by kernel_rfl) (by kernel_rfl) (fun _ _ _ h => h) (Or.inl ⟨by rfl, ?_⟩) (by assumption) ?_
  rotate_left
  · intro w hSw; go_simp; try with_reducible rfl
  go_simp
  refine wpAnyH_take (i := 5) (v := ?_) rfl (by kernel_rfl) (by kernel_rfl) (by kernel_rfl) (fun _ _ _ h => h) (Or.inl ⟨by rfl, ?_⟩) (by assumption) ?_
  rotate_left
  · intro w hSw; go_simp; try with_reducible rfl
  go_simp
  refine wpAnyH_ready (rs := [2]) (by kernel_rfl) (by simp) (AllReadyH.cons rfl (fun K hK => ?_) AllReadyH.nil)
  go_simp
  go_at_call 15
  refine (q0.out _).mono ?_
  rintro x w1 ⟨rfl, h1⟩
  have X1 : Hid (Bx w w1 w.heap.size 23 (lyL D S M G)) := X0.out.next h1
  clear h1 X0
  refine hK.out _ _ X1.out.cells (fun hHeld => ?_)
  clear hK K
  have X2 : Hid (Als w (w1.alloc (.cells #[.int .i64 D, .int .i64 S, .int .i64 M, .bool G, .int .i64 D2, .int .i64 S2, .int .i64 M2, .bool G] 24)) [(w1.heap.size, 24, [.int .i64 D, .int .i64 S, .int .i64 M, .bool G, .int .i64 D2, .int .i64 S2, .int .i64 M2, .bool G])]) := Als.box (bs := []) ⟨⟨X1.out.low, X1.out.tabs, X1.out.2.2.2⟩, fun b hb => by cases hb⟩ 24 [.int .i64 D, .int .i64 S, .int .i64 M, .bool G, .int .i64 D2, .int .i64 S2, .int .i64 M2, .bool G]
  refine wpAnyH_ready (rs := [3]) (by kernel_rfl) (by simp) (AllReadyH.cons rfl (fun K hK => ?_) AllReadyH.nil)
  go_simp
  refine hK.out _ _ (X1.out.next (bx w1 24 [.int .i64 D, .int .i64 S, .int .i64 M, .bool G, .int .i64 D2, .int .i64 S2, .int .i64 M2, .bool G])).cells (fun hHeld => ?_)
  clear hK K
  have hsc := (X1.out.next (bx w1 24 [.int .i64 D, .int .i64 S, .int .i64 M, .bool G, .int .i64 D2, .int .i64 S2, .int .i64 M2, .bool G])).cells
  refine wpAnyH_take (i := 4) (v := ?_) rfl (by kernel_rfl) (by kernel_rfl) (by kernel_rfl) (fun _ _ _ h => h) (Or.inl ⟨by rfl, ?_⟩) (by assumption) ?_
  rotate_left
  · intro w hSw; go_simp; try with_reducible rfl
  go_simp
  refine wpAnyH_done (by kernel_rfl) ?_ _
  refine NoPanic.normal ?_
  clear hsc X1 q0
  generalize w1.alloc (.cells #[.int .i64 D, .int .i64 S, .int .i64 M, .bool G, .int .i64 D2, .int .i64 S2, .int .i64 M2, .bool G] 24) = w2 at *
  generalize w1.heap.size = gb at *
  go_wp2_with fail
  go_loopw [20] (fun j wr => ∃ k : Nat, j = .int .i64 (k : Int) ∧ Hid (k ≤ 2 ∧ Als w wr [(gb, 24, [.int .i64 D, .int .i64 S, .int .i64 M, .bool G, .int .i64 D2, .int .i64 S2, .int .i64 M2, .bool G])])) (fun j _ => 2 - (intOf j).toNat)
  case atStart => exact ⟨0, rfl, by decide, X2.out⟩
  case round =>
    clear X2
    obtain ⟨k, rfl, hk⟩ := hrel
    have hk2 := hk.out.1
    by_cases hlt : k < 2
    · have hk' : (k : Int) < 2 := by omega
      obtain ⟨D', S', M', G', -, hrow⟩ := hk.out.2.mid k hlt
      have HROW : Hid (wr.rangeAt gb (k * 4) [.int .i64 D', .int .i64 S', .int .i64 M', .bool G']) := hrow
      have X5 : Hid (Als w ((wr.alloc (.cells #[.int .i64 D', .int .i64 S', .int .i64 M', .bool G'] 24)).alloc (.cells #[.int .i64 D', .int .i64 S', .int .i64 M', .bool G'] 25)) [((wr.alloc (.cells #[.int .i64 D', .int .i64 S', .int .i64 M', .bool G'] 24)).heap.size, 25, lyL D' S' M' G'), (wr.heap.size, 24, lyL D' S' M' G'), (gb, 24, [.int .i64 D, .int .i64 S, .int .i64 M, .bool G, .int .i64 D2, .int .i64 S2, .int .i64 M2, .bool G])]) := (hk.out.2.box 24 (lyL D' S' M' G')).box 25 (lyL D' S' M' G')
      rw [World.size_alloc] at X5
      clear hk hrow
      go_upto_region 5 with (first
        | (refine wpList_load_mid rfl 24 _ rfl gb (k * 4) rfl [.int .i64 D', .int .i64 S', .int .i64 M', .bool G'] _ HROW.out Tryd.underlying24 rfl HSZ.out ?_))
      generalize hw3 : (wr.alloc (.cells #[.int .i64 D', .int .i64 S', .int .i64 M', .bool G'] 24)).alloc (.cells #[.int .i64 D', .int .i64 S', .int .i64 M', .bool G'] 25) = w5 at *
      generalize hgl : wr.heap.size = gl at *
      clear hw3 hgl HROW
      have qa2 := fun z hz => qa.out z hz D' S' M' G'
      have qb2 := fun z hz => qb.out z hz D' S' M' G'
      have qc2 := fun z hz => qc.out z hz D' S' M' G'
      have qd2 := fun z hz => qd.out z hz D' S' M' G'
      obtain ⟨D3, S3, M3, G3, hsp⟩ := sp_is D' S' M' G'
      rw [hsp] at qc2 qd2
      have hat : ∀ i, i < mvN D' S' M' G' → ∃ u : Int, (mvL D' M' (mvN D' S' M' G'))[i]? = some (.int .i64 u) := fun i hi => ⟨_, mvL_at _ _ hi⟩
      have hn9 : mvN D' S' M' G' ≤ 1000 := by
        unfold mvN
        split
        · rename_i hE; have := (st_gd hE).1.d8; omega
        · omega
      generalize mvL D' M' (mvN D' S' M' G') = ML at *
      generalize mvN D' S' M' G' = n at *
      generalize stE D' S' M' G' = E at *
      have QA : Hid (∀ z, Tabs z → Calls Tryd.prog 22 #[.agg #[.int .i64 D', .int .i64 S', .int .i64 M', .bool G']] z fun e w' => ∃ v, e = .returned (.tuple #[v, .int .i64 E]) ∧ w'.ownsRow z.heap.size 3 1 v n ML ∧ Below z.heap.size z w') := qa2
      have QB : Hid (∀ z, Tabs z → Calls Tryd.prog 23 #[.agg #[.int .i64 D', .int .i64 S', .int .i64 M', .bool G']] z fun e w' => ∃ v, e = .returned (.tuple #[v, .int .i64 E]) ∧ w'.ownsRow z.heap.size 3 1 v n ML ∧ Below z.heap.size z w') := qb2
      have QC : Hid (∀ z, Tabs z → Calls Tryd.prog 24 #[.agg #[.int .i64 D', .int .i64 S', .int .i64 M', .bool G']] z fun e w' => e = .returned (.tuple #[.agg #[.int .i64 D3, .int .i64 S3, .int .i64 M3, .bool G3], .int .i64 E]) ∧ Below z.heap.size z w') := qc2
      have QD : Hid (∀ z, Tabs z → Calls Tryd.prog 25 #[.agg #[.int .i64 D', .int .i64 S', .int .i64 M', .bool G']] z fun e w' => e = .returned (.tuple #[.agg #[.int .i64 D3, .int .i64 S3, .int .i64 M3, .bool G3], .int .i64 E]) ∧ Below z.heap.size z w') := qd2
      have HAT : Hid (∀ i, i < n → ∃ u : Int, ML[i]? = some (.int .i64 u)) := hat
      clear hsp qa2 qb2 qc2 qd2 hat
      obtain ⟨l50, l51, l52, l53⟩ := X5.out.tl.ly; obtain ⟨r50, r51, r52, r53⟩ := X5.out.ly
      go_wp2_with (first
        | (go_at_call 22; refine (QA.out _ X5.out.tabs).mono ?_; rintro x w6 ⟨v6, rfl, hr6, h6⟩; obtain ⟨a6, c6, hv6⟩ := owns_form hr6; subst hv6; have X6 : Hid (Als w w6 [(gl + 1, 25, lyL D' S' M' G'), (gl, 24, lyL D' S' M' G'), (gb, 24, [.int .i64 D, .int .i64 S, .int .i64 M, .bool G, .int .i64 D2, .int .i64 S2, .int .i64 M2, .bool G])]) := X5.out.next h6; have R6 : Hid (w6.ownsRow 0 3 1 (.slice a6 n c6) n ML) := owns_low hr6 (Nat.zero_le _); obtain ⟨l60, l61, l62, l63⟩ := X6.out.tl.ly; obtain ⟨r60, r61, r62, r63⟩ := X6.out.ly; clear h6 hr6 X5)
        | (go_at_call 23; refine (QB.out _ X6.out.tabs).mono ?_; rintro x w7 ⟨v7, rfl, hr7, h7⟩; obtain ⟨a7, c7, hv7⟩ := owns_form hr7; subst hv7; have X7 : Hid (Als w w7 [(gl + 1, 25, lyL D' S' M' G'), (gl, 24, lyL D' S' M' G'), (gb, 24, [.int .i64 D, .int .i64 S, .int .i64 M, .bool G, .int .i64 D2, .int .i64 S2, .int .i64 M2, .bool G])]) := X6.out.next h7; have R7 : Hid (w7.ownsRow 0 3 1 (.slice a6 n c6) n ML ∧ w7.ownsRow 0 3 1 (.slice a7 n c7) n ML) := ⟨owns_below R6.out h7, owns_low hr7 (Nat.zero_le _)⟩; obtain ⟨l70, l71, l72, l73⟩ := X7.out.tl.ly; obtain ⟨r70, r71, r72, r73⟩ := X7.out.ly; clear h7 hr7 X6 R6)
        | (go_at_call 24; refine (QC.out _ X7.out.tabs).mono ?_; rintro x w8 ⟨rfl, h8⟩; have X8 : Hid (Als w (w8.alloc (.cells #[.int .i64 D3, .int .i64 S3, .int .i64 M3, .bool G3] 24)) [(w8.heap.size, 24, lyL D3 S3 M3 G3), (gl + 1, 25, lyL D' S' M' G'), (gl, 24, lyL D' S' M' G'), (gb, 24, [.int .i64 D, .int .i64 S, .int .i64 M, .bool G, .int .i64 D2, .int .i64 S2, .int .i64 M2, .bool G])]) := (X7.out.next h8).box 24 (lyL D3 S3 M3 G3); have R8 : Hid ((w8.alloc (.cells #[.int .i64 D3, .int .i64 S3, .int .i64 M3, .bool G3] 24)).ownsRow 0 3 1 (.slice a6 n c6) n ML ∧ (w8.alloc (.cells #[.int .i64 D3, .int .i64 S3, .int .i64 M3, .bool G3] 24)).ownsRow 0 3 1 (.slice a7 n c7) n ML) := ⟨owns_below (owns_below R7.out.1 h8) (bx w8 24 (lyL D3 S3 M3 G3)), owns_below (owns_below R7.out.2 h8) (bx w8 24 (lyL D3 S3 M3 G3))⟩; obtain ⟨l80, l81, l82, l83⟩ := X8.out.tl.tl.ly; obtain ⟨r80, r81, r82, r83⟩ := X8.out.tl.ly; clear h8 X7 R7)
        | (go_at_call 25; refine (QD.out _ X8.out.tabs).mono ?_; rintro x w9 ⟨rfl, h9⟩; have X9 : Hid (Als w (w9.alloc (.cells #[.int .i64 D3, .int .i64 S3, .int .i64 M3, .bool G3] 25)) [(w9.heap.size, 25, lyL D3 S3 M3 G3), (w8.heap.size, 24, lyL D3 S3 M3 G3), (gl + 1, 25, lyL D' S' M' G'), (gl, 24, lyL D' S' M' G'), (gb, 24, [.int .i64 D, .int .i64 S, .int .i64 M, .bool G, .int .i64 D2, .int .i64 S2, .int .i64 M2, .bool G])]) := (X8.out.next h9).box 25 (lyL D3 S3 M3 G3); have R9 : Hid ((w9.alloc (.cells #[.int .i64 D3, .int .i64 S3, .int .i64 M3, .bool G3] 25)).ownsRow 0 3 1 (.slice a6 n c6) n ML ∧ (w9.alloc (.cells #[.int .i64 D3, .int .i64 S3, .int .i64 M3, .bool G3] 25)).ownsRow 0 3 1 (.slice a7 n c7) n ML) := ⟨owns_below (owns_below R8.out.1 h9) (bx w9 25 (lyL D3 S3 M3 G3)), owns_below (owns_below R8.out.2 h9) (bx w9 25 (lyL D3 S3 M3 G3))⟩; obtain ⟨l90, l91, l92, l93⟩ := X9.out.tl.ly; obtain ⟨r90, r91, r92, r93⟩ := X9.out.ly; clear h9 X8 R8))
      generalize w9.alloc (.cells #[.int .i64 D3, .int .i64 S3, .int .i64 M3, .bool G3] 25) = w10 at *
      have X10 : Hid (Als w w10 [(gb, 24, [.int .i64 D, .int .i64 S, .int .i64 M, .bool G, .int .i64 D2, .int .i64 S2, .int .i64 M2, .bool G])]) := X9.out.tl.tl.tl.tl
      clear X9
      go_loopw [67] (fun j wr => ∃ i : Nat, j = .int .i64 (i : Int) ∧ Hid (i ≤ n ∧ Als w wr [(gb, 24, [.int .i64 D, .int .i64 S, .int .i64 M, .bool G, .int .i64 D2, .int .i64 S2, .int .i64 M2, .bool G])] ∧ wr.ownsRow 0 3 1 (.slice a6 n c6) n ML ∧ wr.ownsRow 0 3 1 (.slice a7 n c7) n ML)) (fun j _ => n - (intOf j).toNat)
      case atStart => exact ⟨0, rfl, Nat.zero_le _, X10.out, R9.out⟩
      case round =>
        clear X10 R9
        obtain ⟨i, rfl, hi⟩ := hrel
        have hi2 := hi.out.1
        by_cases hil : i < n
        · have hi' : (i : Int) < (n : Int) := by omega
          obtain ⟨u, hu⟩ := HAT.out i hil
          obtain ⟨g6, e6, f6⟩ := owns_cell hi.out.2.2.1 hu
          obtain ⟨g7, e7, f7⟩ := owns_cell hi.out.2.2.2 hu
          subst e6 e7
          clear hu
          go_wp2_with fail
          go_quiet (fail)
          go_wp2_with fail
          go_roundw
          case rel => exact ⟨i + 1, by go_num, by omega, hi.out.2.1.drewN _, owns_below hi.out.2.2.1 (ly_drewN (Below.refl _ _) _), owns_below hi.out.2.2.2 (ly_drewN (Below.refl _ _) _)⟩
          case measure => simp [intOf]; omega
        · obtain rfl : i = n := by omega
          have hi' : ¬ (i : Int) < (i : Int) := by omega
          go_wp2_with fail
          go_roundw
          case rel => exact ⟨k + 1, by go_num, by omega, hi.out.2.1⟩
          case measure => simp [intOf]; omega
    · obtain rfl : k = 2 := by omega
      go_wp2_with (go_at_call 10; refine (qw.out _ hk.out.2.tabs).mono ?_; rintro x w9 ⟨rfl, h9⟩; have X9 : Hid (Als w w9 [(gb, 24, [.int .i64 D, .int .i64 S, .int .i64 M, .bool G, .int .i64 D2, .int .i64 S2, .int .i64 M2, .bool G])]) := hk.out.2.next h9; clear h9)
      go_ret
      exact ⟨rfl, X9.out.low⟩
end Go.Proofs.YtbekmjljcjgopaaDoor
