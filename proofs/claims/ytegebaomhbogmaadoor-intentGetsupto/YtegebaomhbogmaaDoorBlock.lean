/- The state behind one more block, as the document makes it. -/
import Derived.Test.YtegebaomhbogmaaDoorRef
import Derived.Test.YtegebaomhbogmaaDoorMix
import Derived.Deep.AppendLies
namespace Go.Proofs.YtegebaomhbogmaaDoor
open Go.RowKit Go.PlainAid
set_option linter.unusedVariables false

/-- The document's tables: the first state, the rounds' constants. -/
def RTabs (w : World) : Prop := (∀ i, i < 64 → w.cell? ⟨1, i, none⟩ = some (.int .u32 (kc i))) ∧ (∀ i, i < 8 → w.cell? ⟨0, i, none⟩ = some (.int .u32 (ini i)))
set_option maxRecDepth 20000 in
theorem RTabs.lt {w : World} (h : RTabs w) : 1 < w.heap.size := cell_lt (h.1 0 (by decide))
set_option maxRecDepth 20000 in
theorem RTabs.below {w w' : World} {B : Nat} (h : RTabs w) (hb : Below B w w') (hB : 1 < B) : RTabs w' :=
  ⟨fun i hi => (hb.cell (p := ⟨1, i, none⟩) hB).trans (h.1 i hi), fun i hi => (hb.cell (p := ⟨0, i, none⟩) (by show 0 < B; omega)).trans (h.2 i hi)⟩
set_option maxRecDepth 20000 in
theorem moved0 (x : Int) (h : 0 ≤ x ∧ x < 4294967296) (w : World) : Calls Tryd.prog 58 #[.int .u32 x, .int .i64 7, .int .i64 18, .int .u32 8] w fun e w' => e = .returned (.int .u32 (sg0 x)) ∧ w' = w := moved_any x 7 18 8 (by omega) (by omega) (by omega) h w
set_option maxRecDepth 20000 in
theorem moved1 (x : Int) (h : 0 ≤ x ∧ x < 4294967296) (w : World) : Calls Tryd.prog 58 #[.int .u32 x, .int .i64 17, .int .i64 19, .int .u32 1024] w fun e w' => e = .returned (.int .u32 (sg1 x)) ∧ w' = w := moved_any x 17 19 1024 (by omega) (by omega) (by omega) h w
set_option maxRecDepth 20000 in
theorem turned1 (x : Int) (h : 0 ≤ x ∧ x < 4294967296) (w : World) : Calls Tryd.prog 59 #[.int .u32 x, .int .i64 6, .int .i64 11, .int .i64 25] w fun e w' => e = .returned (.int .u32 (bS1 x)) ∧ w' = w := turned_any x 6 11 25 (by omega) (by omega) (by omega) h w
set_option maxRecDepth 20000 in
theorem turned0 (x : Int) (h : 0 ≤ x ∧ x < 4294967296) (w : World) : Calls Tryd.prog 59 #[.int .u32 x, .int .i64 2, .int .i64 13, .int .i64 22] w fun e w' => e = .returned (.int .u32 (bS0 x)) ∧ w' = w := turned_any x 2 13 22 (by omega) (by omega) (by omega) h w
set_option maxHeartbeats 2000000 in
set_option maxRecDepth 20000 in
theorem block_any (S : Nat → Int) (hS : Ok S) (b : ByteArray) (hb : b.size = 64) (w : World) (ht : RTabs w) :
    Calls Tryd.prog 46 #[.agg (ws 8 S).toArray, .string b] w fun e w' => e = .returned (.agg (ws 8 (cpr S (wordsL be4 b))).toArray) ∧ Below w.heap.size w w' := by
  have hzr := zero95_run
  have h1g := ht.lt
  obtain ⟨Z, hZ⟩ : ∃ Z, ws 8 (fun _ => 0) = Z := ⟨_, rfl⟩
  obtain ⟨Y, hY⟩ : ∃ Y, ws 8 S = Y := ⟨_, rfl⟩
  rw [hZ] at hzr
  rw [hY]
  have hYs : Y.length = 8 := by rw [← hY, ws_length]
  have hZs : Z.length = 8 := by rw [← hZ, ws_length]
  have hL0 : Blk ((w.alloc (.cells Y.toArray 95)).alloc (.cells Z.toArray 95)) w.heap.size 95 (ws 8 S) := by
    have := (Blk.new w 95 Y.toArray).alloc (.cells Z.toArray 95)
    rw [hY]; simpa using this
  have hR0 : Blk ((w.alloc (.cells Y.toArray 95)).alloc (.cells Z.toArray 95)) (w.heap.size + 1) 95 (ws 8 (fun _ => 0)) := by
    have := Blk.new (w.alloc (.cells Y.toArray 95)) 95 Z.toArray
    rw [hZ]; simpa using this
  have hb0 : Below w.heap.size w ((w.alloc (.cells Y.toArray 95)).alloc (.cells Z.toArray 95)) := ((Below.refl _ w).alloc (Nat.le_refl _) _).alloc (by simp) _
  clear hY hZ
  go_enter Tryd.func46, Tryd.ntmps46
  go_wp2_with fail
  clear hzr hYs hZs
  generalize (w.alloc (.cells Y.toArray 95)).alloc (.cells Z.toArray 95) = w0 at hL0 hR0 hb0 ⊢
  have ht0 := ht.below hb0 h1g
  obtain ⟨g, hgd⟩ : ∃ g, w.heap.size = g := ⟨_, rfl⟩
  rw [hgd] at hL0 hR0 hb0 h1g ⊢
  have HG : Hid (w.heap.size = g) := hgd
  clear hgd ht
  have hsz : g + 2 ≤ w0.heap.size := hR0.lt
  have hW := refWords_big b w0 (by omega) (by omega)
  rw [hb] at hW
  refine hW.mono ?_
  rintro e w1 ⟨v, rfl, hown, hbs⟩
  clear hW
  have hs1 := hL0.below hbs hL0.lt
  have hr1 := hR0.below hbs hR0.lt
  have ht1 := ht0.below hbs ht0.lt
  have hb2 : Below g w w1 := hb0.trans (hbs.mono (by omega))
  have hsz1 := hbs.size
  obtain ⟨B, hB⟩ : ∃ B, w0.heap.size = B := ⟨_, rfl⟩
  rw [hB] at hown hsz hsz1
  clear hL0 hR0 ht0 hb0 hbs hB
  obtain ⟨f, hf⟩ : ∃ f, wordsL be4 b = f := ⟨_, rfl⟩
  have hfl : ∀ i, i < 16 → 0 ≤ f i ∧ f i < 4294967296 := by rw [← hf]; exact fun i _ => words_lo b i
  have HF : Hid (wordsL be4 b = f) := hf
  have e16 : wordsF be4 b (64 / 4) = ws 16 (Wt f) := by
    rw [← hf]
    unfold wordsF
    exact ws_congr 16 (fun i => wordsL be4 b i) (Wt (wordsL be4 b)) (fun i hi => (Wt_first _ i hi).symm)
  rw [e16] at hown
  clear e16 hf
  obtain ⟨i0, hi, hz0, hz1, hz2⟩ := info_parts Tryd.info73
  go_wp2_with fail
  go_loopw [5, 7] (fun v i wr => ∃ k : Nat, 16 ≤ k ∧ k ≤ 64 ∧ i = .int .i64 k ∧ wr.ownsRow B 73 1 v k (ws k (Wt f)) ∧ Blk wr g 95 (ws 8 S) ∧ Blk wr (g + 1) 95 (ws 8 (fun _ => 0)) ∧ RTabs wr ∧ B ≤ wr.heap.size ∧ Below g w wr) (fun _ i _ => (64 - intOf i).toNat)
  case atStart => exact ⟨16, by omega, by omega, rfl, hown, hs1, hr1, ht1, hsz1, hb2⟩
  case round =>
    clear hown hs1 hr1 ht1 hb2 hsz1
    obtain ⟨k, hk16, hk, rfl, hown, hs, hr, ht, hBw, hl⟩ := hrel
    obtain ⟨gb, cap, rfl, hgb, hgw⟩ := hown.form (by omega)
    by_cases hlt : k < 64
    · have hlt' : (k : Int) < 64 := by omega
      have cell : ∀ j, j < k → wr.cell? ⟨gb, j, none⟩ = some (.int .u32 (Wt f j)) := fun j hj => by
        rw [World.ownsRow.cellAt hown j (by omega), ws_at k _ j hj]
      have c2 := cell (k - 2) (by omega)
      have c15 := cell (k - 15) (by omega)
      have b2 := Wt_lo f hfl (k - 2)
      have b15 := Wt_lo f hfl (k - 15)
      have hV := Wt_step f k hk16
      obtain ⟨x2, hx2⟩ : ∃ x2, Wt f (k - 2) = x2 := ⟨_, rfl⟩
      obtain ⟨x15, hx15⟩ : ∃ x15, Wt f (k - 15) = x15 := ⟨_, rfl⟩
      rw [hx2] at b2 hV c2
      rw [hx15] at b15 hV c15
      have p2 : (0 : Int) ≤ (k : Int) - 2 := by omega
      have p15 : (0 : Int) ≤ (k : Int) - 15 := by omega
      have s2 : (2 : Int) ≤ (k : Int) := by omega
      have s15 : (15 : Int) ≤ (k : Int) := by omega
      have q2 : (k : Int) - 2 < (k : Int) := by omega
      have q15 : (k : Int) - 15 < (k : Int) := by omega
      have t2 : ((k : Int) - 2).toNat = k - 2 := by omega
      have t15 : ((k : Int) - 15).toNat = k - 15 := by omega
      have HV : Hid (Wt f k = _) := hV
      clear hx2 hx15 hV
      go_wp2_with (first | (go_at_call_of 58 (Value.int .u32 x15); refine (moved0 x15 b15 _).mono ?_; rintro e w' ⟨rfl, hw'⟩; rw [hw']; clear hw') | (go_at_call_of 58 (Value.int .u32 x2); refine (moved1 x2 b2 _).mono ?_; rintro e w' ⟨rfl, hw'⟩; rw [hw']; clear hw'))
      have c7 := cell (k - 7) (by omega)
      have c16 := cell (k - 16) (by omega)
      obtain ⟨x7, hx7⟩ : ∃ x7, Wt f (k - 7) = x7 := ⟨_, rfl⟩
      obtain ⟨x16, hx16⟩ : ∃ x16, Wt f (k - 16) = x16 := ⟨_, rfl⟩
      have hV := HV.out
      rw [hx7, hx16] at hV
      rw [hx7] at c7
      rw [hx16] at c16
      obtain ⟨V, hVw⟩ : ∃ V, IntKind.u32.wrap (IntKind.u32.wrap (IntKind.u32.wrap (sg1 x2 + x7) + sg0 x15) + x16) = V := ⟨_, rfl⟩
      have hV2 : Wt f k = V := by rw [hV, ← hVw, IntKind.wrap_u32', IntKind.wrap_u32', IntKind.wrap_u32']
      obtain ⟨g', cap', w', hrun, hown', hgrow, hlie, hg'⟩ := run_append_lies (P := Tryd.prog) (wr.drew.alloc (.cells #[.int .u32 V] 73)) 75 75 B 73 i0 (.int .u32 0) 1 4 Tryd.underlying75 hi hz0 hz1 hz2 rfl (by decide) (.slice (some ⟨gb, 0, none⟩) k cap) k (ws k (Wt f)) (hown.drew.alloc _) ⟨wr.heap.size, 0, none⟩ 1 1 [.int .u32 V] rfl (fun j u hj => by
          match j, hj with
          | 0, hj => simp at hj; subst hj; simp only [Addr.add]; exact (Blk.new wr.drew 73 #[.int .u32 V]).cell rfl) (fun u hu => by simp at hu; subst hu; rfl) (by decide) (by unfold maxLen; omega) (by omega) (by simp; omega) _ rfl
      have hbx : Below g w w' := by
        refine Below.grown (hl.drew.alloc (by have := hs.lt; simp; omega) _) hgrow (by have := hs.lt; simp; omega) ?_
        intro q hq
        simp only [Value.ownBlock, Option.some.injEq] at hq
        omega
      have hs' : Blk w' g 95 (ws 8 S) := by
        have h1 := (hs.drew.alloc (.cells #[.int .u32 V] 73))
        have hl1 := h1.lt
        unfold Blk at h1 ⊢
        rw [hgrow.block g hl1 (by simp only [Value.ownBlock]; intro e; cases e; omega)]; exact h1
      have hr' : Blk w' (g + 1) 95 (ws 8 (fun _ => 0)) := by
        have h1 := (hr.drew.alloc (.cells #[.int .u32 V] 73))
        have hl1 := h1.lt
        unfold Blk at h1 ⊢
        rw [hgrow.block (g + 1) hl1 (by simp only [Value.ownBlock]; intro e; cases e; omega)]; exact h1
      have ht' : RTabs w' := by
        have hq : Below 2 wr w' := by
          refine Below.grown (((Below.refl 2 wr).drew).alloc (by have := hs.lt; simp; omega) _) hgrow (by have := hs.lt; simp; omega) ?_
          intro q hq
          simp only [Value.ownBlock, Option.some.injEq] at hq
          omega
        exact ht.below hq (by omega)
      have hBw' : B ≤ w'.heap.size := by have := hgrow.size; simp at this; omega
      have hown2 : w'.ownsRow B 73 1 (.slice (some ⟨g', 0, none⟩) (k + 1) cap') (k + 1) (ws (k + 1) (Wt f)) := by
        have e : ws (k + 1) (Wt f) = ws k (Wt f) ++ [.int .u32 V] := by
          rw [← hV2]; unfold ws; rw [List.range_succ, List.map_append]; rfl
        rw [e]; exact hown'
      have s7 : (7 : Int) ≤ (k : Int) := by omega
      have s16 : (16 : Int) ≤ (k : Int) := by omega
      have q7 : (k : Int) - 7 < (k : Int) := by omega
      have q16 : (k : Int) - 16 < (k : Int) := by omega
      have t7 : ((k : Int) - 7).toNat = k - 7 := by omega
      have t16 : ((k : Int) - 16).toNat = k - 16 := by omega
      have z7 : IntKind.i64.wrap ((k : Int) - 7) = (k : Int) - 7 := IntWalk.i64_in _ ⟨by omega, by omega⟩
      have z16 : IntKind.i64.wrap ((k : Int) - 16) = (k : Int) - 16 := IntWalk.i64_in _ ⟨by omega, by omega⟩
      clear hown' hgrow hlie hown hs hr ht hBw hl cell HV hV hV2 hx7 hx16 c2 c15 hi hz0 hz1 hz2 hg' hgw
      refine wp_region_noPanic ?_
      refine wp_region_held_drew (S := fun _ => True) (by kernel_rfl) trivial (fun hHeld => ?_)
      refine wpAnyH_take (i := 0) (v := ?_) rfl (by kernel_rfl) (by kernel_rfl) (by kernel_rfl) (fun _ _ _ h => h) (Or.inl ⟨by rfl, ?_⟩) (by assumption) ?_
      rotate_left
      · intro w hSw; go_simp; try with_reducible rfl
      go_simp
      refine wpAnyH_take (i := 1) (v := ?_) rfl (by kernel_rfl) (by kernel_rfl) (by kernel_rfl) (fun _ _ _ h => h) (Or.inl ⟨by rfl, ?_⟩) (by assumption) ?_
      rotate_left
      · intro w hSw; go_simp; try with_reducible rfl
      go_simp
      refine wpAnyH_take (i := 2) (v := ?_) rfl (by kernel_rfl) (by kernel_rfl) (by kernel_rfl) (fun _ _ _ h => h) (Or.inl ⟨by rfl, ?_⟩) (by assumption) ?_
      rotate_left
      · intro w hSw; go_simp; try with_reducible rfl
      go_simp
      refine wpAnyH_take (i := 3) (v := ?_) rfl (by kernel_rfl) (by kernel_rfl) (by kernel_rfl) (fun _ _ _ h => h) (Or.inl ⟨by rfl, ?_⟩) (by assumption) ?_
      rotate_left
      · intro w hSw; go_simp; try with_reducible rfl
      go_simp
      refine wpAnyH_take (i := 4) (v := ?_) rfl (by kernel_rfl) (by kernel_rfl) (by kernel_rfl) (fun _ _ _ h => h) (Or.inl ⟨by rfl, ?_⟩) (by assumption) ?_
      rotate_left
      · intro w hSw; go_simp; try with_reducible rfl
      go_simp
      refine wpAnyH_take (i := 5) (v := ?_) rfl (by kernel_rfl) (by kernel_rfl) (by kernel_rfl) (fun _ _ _ h => h) (Or.inl ⟨by rfl, ?_⟩) (by assumption) ?_
      rotate_left
      · intro w hSw; go_simp; try with_reducible rfl
      go_simp
      refine wpAnyH_take (i := 8) (v := ?_) rfl (by kernel_rfl) (by kernel_rfl) (by kernel_rfl) (fun _ _ _ h => h) (Or.inl ⟨by rfl, ?_⟩) (by assumption) ?_
      rotate_left
      · intro w hSw; go_simp; try with_reducible rfl
      go_simp
      refine wpAnyH_take (i := 10) (v := ?_) rfl (by kernel_rfl) (by kernel_rfl) (by kernel_rfl) (fun _ _ _ h => h) (Or.inl ⟨by rfl, ?_⟩) (by assumption) ?_
      rotate_left
      · intro w hSw; go_simp; try with_reducible rfl
      go_simp
      refine wpAnyH_take (i := 11) (v := ?_) rfl (by kernel_rfl) (by kernel_rfl) (by kernel_rfl) (fun _ _ _ h => h) (Or.inl ⟨by rfl, ?_⟩) (by assumption) ?_
      rotate_left
      · intro w hSw; go_simp; try with_reducible rfl
      go_simp
      refine wpAnyH_take (i := 12) (v := ?_) rfl (by kernel_rfl) (by kernel_rfl) (by kernel_rfl) (fun _ _ _ h => h) (Or.inl ⟨by rfl, ?_⟩) (by assumption) ?_
      rotate_left
      · intro w hSw; go_simp; try with_reducible rfl
      go_simp
      refine wpAnyH_take (i := 13) (v := ?_) rfl (by kernel_rfl) (by kernel_rfl) (by kernel_rfl) (fun _ _ _ h => h) (Or.inl ⟨by rfl, ?_⟩) (by assumption) ?_
      rotate_left
      · intro w hSw; go_simp; try with_reducible rfl
      go_simp
      refine wpAnyH_ready (rs := [6, 14]) (by kernel_rfl) (by simp) (AllReadyH.cons rfl (fun K hK => ?_) (AllReadyH.cons rfl (fun K hK => ?_) AllReadyH.nil))
      · go_simp
        refine hK.out _ _ trivial (fun hHeld => ?_)
        clear hK K
        refine wpAnyH_take (i := 7) (v := ?_) rfl (by kernel_rfl) (by kernel_rfl) (by kernel_rfl) (fun _ _ _ h => h) (Or.inl ⟨by rfl, ?_⟩) (by assumption) ?_
        rotate_left
        · intro w hSw; go_simp; try with_reducible rfl
        go_simp
        refine wpAnyH_take (i := 9) (v := ?_) rfl (by kernel_rfl) (by kernel_rfl) (by kernel_rfl) (fun _ _ _ h => h) (Or.inl ⟨by rfl, ?_⟩) (by assumption) ?_
        rotate_left
        · intro w hSw; go_simp; try with_reducible rfl
        go_simp
        refine wpAnyH_ready (rs := [14]) (by kernel_rfl) (by simp) (AllReadyH.cons rfl (fun K hK => ?_) AllReadyH.nil)
        go_simp
        refine hK.out _ _ trivial (fun hHeld => ?_)
        clear hK K
        refine wpAnyH_take (i := 15) (v := ?_) rfl (by kernel_rfl) (by kernel_rfl) (by kernel_rfl) (fun _ _ _ h => h) (Or.inl ⟨by rfl, ?_⟩) (by assumption) ?_
        rotate_left
        · intro w hSw; go_simp; try with_reducible rfl
        go_simp
        refine wpAnyH_ready (rs := [16]) (by kernel_rfl) (by simp) (AllReadyH.cons rfl (fun K hK => ?_) AllReadyH.nil)
        go_simp
        refine hK.out _ _ trivial (fun hHeld => ?_)
        clear hK K
        refine wpAnyH_ready (rs := [17]) (by kernel_rfl) (by simp) (AllReadyH.cons rfl (fun K hK => ?_) AllReadyH.nil)
        refine step_append_lit rfl _ _ 75 75 rfl _ _ rfl rfl _ _ hrun ?_
        refine hK.out _ _ trivial (fun hHeld => ?_)
        clear hK K
        go_simp
        refine wpAnyH_take (i := 18) (v := ?_) rfl (by kernel_rfl) (by kernel_rfl) (by kernel_rfl) (fun _ _ _ h => h) (Or.inl ⟨by rfl, ?_⟩) (by assumption) ?_
        rotate_left
        · intro w hSw; go_simp; try with_reducible rfl
        go_simp
        refine wpAnyH_done (by kernel_rfl) ?_ _
        refine NoPanic.normal ?_
        go_wp2_with fail
        go_roundw
        case rel => exact ⟨k + 1, by omega, by omega, by go_num, hown2, hs', hr', ht', hBw', hbx⟩
        case measure => simp [intOf]; omega
      · go_simp
        refine hK.out _ _ trivial (fun hHeld => ?_)
        clear hK K
        refine wpAnyH_ready (rs := [6]) (by kernel_rfl) (by simp) (AllReadyH.cons rfl (fun K hK => ?_) AllReadyH.nil)
        go_simp
        refine hK.out _ _ trivial (fun hHeld => ?_)
        clear hK K
        refine wpAnyH_take (i := 7) (v := ?_) rfl (by kernel_rfl) (by kernel_rfl) (by kernel_rfl) (fun _ _ _ h => h) (Or.inl ⟨by rfl, ?_⟩) (by assumption) ?_
        rotate_left
        · intro w hSw; go_simp; try with_reducible rfl
        go_simp
        refine wpAnyH_take (i := 9) (v := ?_) rfl (by kernel_rfl) (by kernel_rfl) (by kernel_rfl) (fun _ _ _ h => h) (Or.inl ⟨by rfl, ?_⟩) (by assumption) ?_
        rotate_left
        · intro w hSw; go_simp; try with_reducible rfl
        go_simp
        refine wpAnyH_take (i := 15) (v := ?_) rfl (by kernel_rfl) (by kernel_rfl) (by kernel_rfl) (fun _ _ _ h => h) (Or.inl ⟨by rfl, ?_⟩) (by assumption) ?_
        rotate_left
        · intro w hSw; go_simp; try with_reducible rfl
        go_simp
        refine wpAnyH_ready (rs := [16]) (by kernel_rfl) (by simp) (AllReadyH.cons rfl (fun K hK => ?_) AllReadyH.nil)
        go_simp
        refine hK.out _ _ trivial (fun hHeld => ?_)
        clear hK K
        refine wpAnyH_ready (rs := [17]) (by kernel_rfl) (by simp) (AllReadyH.cons rfl (fun K hK => ?_) AllReadyH.nil)
        refine step_append_lit rfl _ _ 75 75 rfl _ _ rfl rfl _ _ hrun ?_
        refine hK.out _ _ trivial (fun hHeld => ?_)
        clear hK K
        go_simp
        refine wpAnyH_take (i := 18) (v := ?_) rfl (by kernel_rfl) (by kernel_rfl) (by kernel_rfl) (fun _ _ _ h => h) (Or.inl ⟨by rfl, ?_⟩) (by assumption) ?_
        rotate_left
        · intro w hSw; go_simp; try with_reducible rfl
        go_simp
        refine wpAnyH_done (by kernel_rfl) ?_ _
        refine NoPanic.normal ?_
        go_wp2_with fail
        go_roundw
        case rel => exact ⟨k + 1, by omega, by omega, by go_num, hown2, hs', hr', ht', hBw', hbx⟩
        case measure => simp [intOf]; omega
    · have hk64 : k = 64 := by omega
      subst hk64
      rw [show ((64 : Nat) : Int) = (64 : Int) from rfl]
      have cellW : ∀ j, j < 64 → wr.cell? ⟨gb, j, none⟩ = some (.int .u32 (Wt f j)) := fun j hj => by
        rw [World.ownsRow.cellAt hown j (by omega), ws_at 64 _ j hj]
      have cellK := ht.1
      have a0 := hs.cell (ws_at 8 S 0 (by omega))
      have a1 := hs.cell (ws_at 8 S 1 (by omega))
      have a2 := hs.cell (ws_at 8 S 2 (by omega))
      have a3 := hs.cell (ws_at 8 S 3 (by omega))
      have a4 := hs.cell (ws_at 8 S 4 (by omega))
      have a5 := hs.cell (ws_at 8 S 5 (by omega))
      have a6 := hs.cell (ws_at 8 S 6 (by omega))
      have a7 := hs.cell (ws_at 8 S 7 (by omega))
      clear hi hz0 hz1 hz2 hgw hown
      have HK : Hid (∀ i, i < 64 → wr.cell? ⟨1, i, none⟩ = some (.int .u32 (kc i))) := cellK
      have HW : Hid (∀ j, j < 64 → wr.cell? ⟨gb, j, none⟩ = some (.int .u32 (Wt f j))) := cellW
      clear cellK cellW
      go_wp2_with fail
      rename World => wo
      go_loopw [10, 11, 12, 13, 14, 15, 16, 17, 18] (fun va vb vc vd ve vf vg vh i wz => ∃ (q m : Nat) (R : Nat → Int), q ≤ 64 ∧ i = .int .i64 q ∧ R = rds S (fun t => (Wt f t + kc t) % 4294967296) q ∧ va = .int .u32 (R 0) ∧ vb = .int .u32 (R 1) ∧ vc = .int .u32 (R 2) ∧ vd = .int .u32 (R 3) ∧ ve = .int .u32 (R 4) ∧ vf = .int .u32 (R 5) ∧ vg = .int .u32 (R 6) ∧ vh = .int .u32 (R 7) ∧ wz = wo.drewN m) (fun _ _ _ _ _ _ _ _ i _ => (64 - intOf i).toNat)
      case atStart => exact ⟨0, 0, S, by omega, rfl, rfl, rfl, rfl, rfl, rfl, rfl, rfl, rfl, rfl, rfl⟩
      case round =>
        obtain ⟨q, m, R, hq, rfl, hR, rfl, rfl, rfl, rfl, rfl, rfl, rfl, rfl, rfl⟩ := hrel
        have hRo : Ok R := by rw [hR]; exact rds_ok _ _ _ hS
        by_cases hlt2 : q < 64
        · have hq' : (q : Int) < 64 := by omega
          obtain ⟨wz, hwz⟩ : ∃ wz, wo.drewN m = wz := ⟨_, rfl⟩
          have cW : wz.cell? ⟨gb, q, none⟩ = some (.int .u32 (Wt f q)) := by rw [← hwz]; exact HW.out q hlt2
          have cK : wz.cell? ⟨1, q, none⟩ = some (.int .u32 (kc q)) := by rw [← hwz]; exact HK.out q hlt2
          rw [hwz]
          have HWZ : Hid (wo.drewN m = wz) := hwz
          have HR : Hid (rds S (fun t => (Wt f t + kc t) % 4294967296) (q + 1) = nx R ((Wt f q + kc q) % 4294967296)) := by rw [rds_succ, ← hR]; exact rfl
          have b0 := hRo 0 (by omega)
          have b4 := hRo 4 (by omega)
          clear hwz hR a0 a1 a2 a3 a4 a5 a6 a7
          obtain ⟨r0, e0⟩ : ∃ r0, R 0 = r0 := ⟨_, rfl⟩
          obtain ⟨r4, e4⟩ : ∃ r4, R 4 = r4 := ⟨_, rfl⟩
          rw [e0] at b0 ⊢
          rw [e4] at b4 ⊢
          have E0 : Hid (R 0 = r0) := e0
          have E4 : Hid (R 4 = r4) := e4
          clear e0 e4
          go_wp2_with (first | (go_at_call_of 59 (Value.int .u32 r4); refine (turned1 r4 b4 _).mono ?_; rintro e w' ⟨rfl, hw'⟩; rw [hw']; clear hw') | (go_at_call_of 59 (Value.int .u32 r0); refine (turned0 r0 b0 _).mono ?_; rintro e w' ⟨rfl, hw'⟩; rw [hw']; clear hw') | (go_at_call 60; refine (pick_any r4 (R 5) (R 6) b4 _).mono ?_; rintro e w' ⟨rfl, hw'⟩; rw [hw']; clear hw') | (go_at_call 61; refine (most_any r0 (R 1) (R 2) _).mono ?_; rintro e w' ⟨rfl, hw'⟩; rw [hw']; clear hw'))
          go_quiet (fail)
          go_wp2_with fail
          refine ⟨⟨q + 1, m + nq, nx R ((Wt f q + kc q) % 4294967296), by omega, by go_num, HR.out.symm, ?_, ?_, rfl, rfl, ?_, ?_, rfl, rfl, ?_⟩, by simp [intOf]; omega⟩
          · rw [← E0.out, ← E4.out]
            congr 1
            unfold nx
            rw [if_pos rfl]
            unfold tin
            omega
          · rw [← E0.out]; rfl
          · rw [← E4.out]
            congr 1
            unfold nx
            rw [if_neg (by omega), if_pos rfl]
            unfold tin
            omega
          · rw [← E4.out]; rfl
          · rw [← HWZ.out, World.drewN_drewN]
        · have hq64 : q = 64 := by omega
          subst hq64
          have hs2 : Blk (wo.drewN m) g 95 (ws 8 S) := hs
          have hr2 : Blk (wo.drewN m) (g + 1) 95 (ws 8 (fun _ => 0)) := hr
          have hl2 : Below g w (wo.drewN m) := ⟨hl.os, hl.tape, hl.output, hl.size, hl.block⟩
          clear hs hr hl a0 a1 a2 a3 a4 a5 a6 a7 HK HW
          generalize wo.drewN m = wz at hs2 hr2 hl2 ⊢
          have a0 := hs2.cell (ws_at 8 S 0 (by omega))
          have a1 := hs2.cell (ws_at 8 S 1 (by omega))
          have a2 := hs2.cell (ws_at 8 S 2 (by omega))
          have a3 := hs2.cell (ws_at 8 S 3 (by omega))
          have a4 := hs2.cell (ws_at 8 S 4 (by omega))
          have a5 := hs2.cell (ws_at 8 S 5 (by omega))
          have a6 := hs2.cell (ws_at 8 S 6 (by omega))
          have a7 := hs2.cell (ws_at 8 S 7 (by omega))
          have eV : ws 8 (cpr S (wordsL be4 b)) = ws 8 (fun i => (S i + R i) % 4294967296) := by
            rw [HF.out]
            apply ws_congr
            intro i _
            unfold cpr
            rw [← hR, Int.add_comm]
          have hA' : Blk (wz.setRow (g + 1) (ws 8 (fun i => (S i + R i) % 4294967296)).toArray) (g + 1) 95 (ws 8 (fun i => (S i + R i) % 4294967296)) := hr2.setRow
          have hLd := load95 hA'
          have hl' : Below g w (wz.setRow (g + 1) (ws 8 (fun i => (S i + R i) % 4294967296)).toArray) := below_setRow hl2 (by omega) _
          have HE : Hid (ws 8 (cpr S (wordsL be4 b)) = ws 8 (fun i => (S i + R i) % 4294967296)) := eV
          clear hA' eV hR hRo HF hl2 hs2
          go_wp2_with (refine wpList_store_blk rfl 95 _ _ rfl (g + 1) _ (ws 8 (fun i => (S i + R i) % 4294967296)) rfl rfl 95 hr2 (by rw [Tryd.size95, ws_length]) (by rw [ws_length, ws_length]) (ws_one _ _) ?_)
          refine bodyPost_ret_by (v := .agg (ws 8 (fun i => (S i + R i) % 4294967296)).toArray) (results_cell 4 95 ⟨g + 1, 0, none⟩ Tryd.results46 rfl hLd) rfl ⟨by rw [HE.out], ?_⟩
          rw [HG.out]; exact hl'
end Go.Proofs.YtegebaomhbogmaaDoor
