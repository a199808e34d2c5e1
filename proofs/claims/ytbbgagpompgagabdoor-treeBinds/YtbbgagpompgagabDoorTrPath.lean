/- The inner nodes over a leaf: the program's own answer. -/
import Derived.Test.YtbbgagpompgagabDoorTrOver
import Derived.Test.YtbbgagpompgagabDoorNums
namespace Go.Proofs.YtbbgagpompgagabDoor
open Go.RowKit Go.PlainAid Go.Shelf
set_option linter.unusedVariables false
attribute [local go_sem] Oper.semAt_some

theorem nr_succ (κ : IntKind) (n : Nat) (S : Nat → Nat) : nr κ (n + 1) S = nr κ n S ++ [.int κ ((S n : Nat) : Int)] := by unfold nr; rw [List.range_succ, List.map_append]; rfl
theorem owns_base {w : World} {b b' : Nat} {e : TypeId} {size : Nat} {v : Value} {n : Nat} {xs : List Value} (h : w.ownsRow b e size v n xs) (hb : b' ≤ b) : w.ownsRow b' e size v n xs := by
  refine ⟨h.1, ?_⟩
  rcases h.2 with hn | ⟨g, cap, cur, rfl, hg, rest⟩
  · exact .inl hn
  · exact .inr ⟨g, cap, cur, rfl, Nat.le_trans hb hg, rest⟩
theorem Tryd.info3p : (Tryd.prog.info? 3).map (fun i => (i.zero, i.size, i.bytes)) = some (some (.int .i64 0), 1, 8) := by kernel_rfl
set_option maxRecDepth 20000 in
theorem path_bad (n s : Int) (h : hasB n s = false) (w : World) : Calls Tryd.prog 10 #[.int .i64 n, .int .i64 s] w fun e w' => e = .returned (.tuple #[.slice none 0 0, .int .i64 2]) ∧ w' = w := by
  have hc := has_any n s w
  rw [h] at hc
  go_enter Tryd.func10, Tryd.ntmps10
  go_wp2_with fail
  refine hc.mono ?_
  rintro e w' ⟨rfl, rfl⟩
  go_wp2_with fail
  go_ret2
  exact ⟨rfl, rfl⟩

set_option maxRecDepth 100000 in
set_option maxHeartbeats 2000000 in
theorem path_ok (d n s : Nat) (hn : 2 ^ d = n) (h : okS d (s : Int)) (w : World) : Calls Tryd.prog 10 #[.int .i64 (n : Int), .int .i64 (s : Int)] w fun e w' => ∃ v, e = .returned (.tuple #[v, .int .i64 0]) ∧ w'.ownsRow w.heap.size 3 1 v d (nr .i64 d (nd d s)) ∧ Below w.heap.size w w' := by
  have hc := has_any ((2 ^ d : Nat) : Int) s w
  rw [hasB_yes d s h, hn] at hc
  obtain ⟨h1, h2, h3, h4⟩ := h
  have h4' : s < 2 ^ d := by omega
  have HN : Hid (2 ^ d = n) := hn
  clear hn h3 h4
  refine (callsIn_wide (n := 9)).1 ?_
  refine callsIn_of_wp_marks Tryd.func10 rfl trivial ?_ rfl
  simp only [Tryd.ntmps10, List.size_toArray, List.length_cons, List.length_nil, Nat.reduceAdd, Nat.reduceSub, Array.replicate_succ, Array.replicate_zero, List.push_toArray, List.append_toArray, List.nil_append, List.cons_append]
  gi_wp2_with fail
  refine ⟨trivial, (callsIn_wide.2 hc).mono ?_⟩
  rintro e w' ⟨rfl, hw'⟩
  rw [hw']
  clear hc hw' w'
  gi_wp2_with fail
  refine ⟨trivial, (callsIn_wide.2 (over_any _ _ _)).mono ?_⟩
  rintro e w' ⟨rfl, hw'⟩
  rw [hw']
  clear hw' w'
  gi_wp2_with fail
  have b0 := ((Blk.new w 32 #[.slice none 0 0]).alloc (.cells #[.int .i64 (n : Int)] 3)).alloc (.cells #[.int .i64 (s : Int)] 3)
  have b1 := (Blk.new (w.alloc (.cells #[.slice none 0 0] 32)) 3 #[.int .i64 (n : Int)]).alloc (.cells #[.int .i64 (s : Int)] 3)
  have b2 := Blk.new ((w.alloc (.cells #[.slice none 0 0] 32)).alloc (.cells #[.int .i64 (n : Int)] 3)) 3 #[.int .i64 (s : Int)]
  simp only [World.size_alloc] at b1 b2
  have hB0 : Below w.heap.size w (((w.alloc (.cells #[.slice none 0 0] 32)).alloc (.cells #[.int .i64 (n : Int)] 3)).alloc (.cells #[.int .i64 (s : Int)] 3)) := (((Below.refl _ w).alloc (Nat.le_refl _) _).alloc (by simp) _).alloc (by simp; omega) _
  have hsz : (((w.alloc (.cells #[.slice none 0 0] 32)).alloc (.cells #[.int .i64 (n : Int)] 3)).alloc (.cells #[.int .i64 (s : Int)] 3)).heap.size = w.heap.size + 3 := by simp
  generalize ((w.alloc (.cells #[.slice none 0 0] 32)).alloc (.cells #[.int .i64 (n : Int)] 3)).alloc (.cells #[.int .i64 (s : Int)] 3) = W0 at b0 b1 b2 hB0 hsz ⊢
  obtain ⟨i0, hi, hz0, hz1, hz2⟩ := info_parts Tryd.info3p
  refine range_law (enc := fun k => #[.agg (stepV d s k)]) (c := 1) (N := d) (MM := fun k => k = w.heap.size ∨ w.heap.size + 6 ≤ k) rfl (enters_of Tryd.func22 (by kernel_rfl) rfl)
    (over_iter 8 d s h2 h4' W0 _ (w.heap.size + 1) (w.heap.size + 1 + 1) (by omega) (by omega) (by rw [HN.out]; exact b1.cell rfl) (b2.cell rfl) (fun k hk => by omega)) (fun k hk => by omega) (fun _ => rfl)
    (fun k W => ∃ v, Blk W w.heap.size 32 [v] ∧ W.ownsRow (w.heap.size + 6) 3 1 v k (nr .i64 k (nd d s)) ∧ Below w.heap.size w W) (fun _ _ _ => False)
    ?hI (fun _ _ _ _ h _ => h) ⟨_, b0, World.ownsRow_nil _ _ _ _, hB0⟩
    (fun k a' W => ∃ Bx, Blk W Bx 44 (stepV d s k).toList ∧ w.heap.size + 6 ≤ Bx ∧ a' = { tmps := #[.int .i64 (n : Int), .int .i64 (s : Int), undef, undef, .slice none 0 0, .int .i64 0, .pointer (some ⟨w.heap.size, 0, none⟩), .pointer (some ⟨Bx, 0, none⟩), .int .i64 (n : Int), .int .i64 (s : Int), .bool true, .bool false, .int .i64 (n : Int), .int .i64 (s : Int), .func (.func 22) #[] #[.pointer (some ⟨w.heap.size + 1, 0, none⟩), .pointer (some ⟨w.heap.size + 1 + 1, 0, none⟩)], .agg (stepV d s k), undef, undef, undef, undef, undef, undef], defers := [] }) ?hA ?assign ?body ?done ?stop
  case hI =>
    rintro k A B ⟨v, hv, hr, hb⟩ hk
    refine ⟨v, hv.kept hk (by omega), owns_kept hr hk (fun j hj => ?_), hk.below hb hb.size (fun j hj => by omega)⟩
    have := (World.ownsRow.lt hr j hj).1
    omega
  case hA =>
    rintro k a' A B ⟨Bx, hb, hx, rfl⟩ hk
    exact ⟨Bx, hb.kept hk (by omega), hx, rfl⟩
  case assign =>
    rintro k W K hk ⟨v, hv, hr, hb⟩ hs hK
    unfold stepV
    have hb := Blk.new W 44 (stepV d s k)
    unfold stepV at hb
    gi_wp2
    exact hK _ _ ((Kept.refl _ W).alloc _) ⟨W.heap.size, hb, by omega, rfl⟩
  case body =>
    rintro k a' W hk ⟨v, hv, hr, hb⟩ ⟨Bx, hx, hBx, rfl⟩ hs
    have c6 := hv.cell (i := 0) rfl
    have cx : W.cell? ⟨Bx, 1, none⟩ = some (.int .i64 (nd d s k : Int)) := hx.cell (i := 1) rfl
    obtain ⟨M, hM⟩ : ∃ M, nd d s k = M := ⟨_, rfl⟩
    rw [hM] at cx
    have HM : Hid (nd d s k = M) := hM
    generalize stepV d s k = sv at hx ⊢
    clear hM
    gi_wp2_with (gi_at_builtin; refine wpListIn_append_own _ rfl _ _ 32 rfl (w.heap.size + 6) 3 i0 (.int .i64 0) 1 8 Tryd.underlying32 hi hz0 hz1 hz2 rfl (by decide) _ _ _ rfl (hr.alloc _) ⟨W.heap.size, 0, none⟩ 1 1 [.int .i64 (M : Int)] rfl rfl (cell_one_new _ _ _) (by simp [Value.oneCell']) (by unfold maxLen; omega) (by omega) (by simp; omega) ?_; intro v' w1 hown' hgrow _; obtain ⟨g', cap', rfl⟩ := ownsRow_succ hown'; have hk1 := ((Kept.refl (fun j => v.ownBlock = some j) W).alloc (.cells #[.int .i64 (M : Int)] 3)).grown hgrow (fun j e => .inl e); have hv1 := hv.kept hk1 (fun e => by have := (World.ownsRow.lt hr _ e).1; omega); have hc1 := hv1.cell (i := 0) rfl; have hf1 := hv1.frozen 0)
    have hk2 : Kept (fun j => j = w.heap.size ∨ w.heap.size + 6 ≤ j) W (w1.setCell ⟨w.heap.size, 0, none⟩ (.slice (some ⟨g', 0, none⟩) (k + 1) cap')) := (hk1.mono (fun j _ e => .inr (World.ownsRow.lt hr j e).1)).setCell (.inl (.inl rfl)) 0 _
    refine ⟨hk2, _, hv1.setCell 0 _, ?_, hk2.below hb hb.size (fun j hj => by omega)⟩
    rw [nr_succ, HM.out]
    refine owns_kept hown' (Kept.one w1 w.heap.size 0 _) (fun j hj => ?_)
    have := (World.ownsRow.lt hown' j hj).1
    omega
  case done =>
    rintro W ⟨v, hv, hr, hb⟩ hD
    have c6 := hv.cell (i := 0) rfl
    rw [hsz] at hD
    gi_wp2
    refine ⟨by simp, .inl ⟨_, _, rfl, run_takeDeferred hD, ?_⟩⟩
    have hk := Kept.put W (w.heap.size + 3) (.deferred none)
    refine ⟨_, results_tmp2 rfl _ _ _, v, rfl, owns_base (owns_kept hr hk (fun j hj => ?_)) (by omega), hk.below hb hb.size (fun j hj => by omega)⟩
    have := (World.ownsRow.lt hr j hj).1
    omega
  case stop =>
    rintro c k W _ h _
    exact h.elim
end Go.Proofs.YtbbgagpompgagabDoor
