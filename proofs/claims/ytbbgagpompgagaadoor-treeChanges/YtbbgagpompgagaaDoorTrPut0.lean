/- Parts of Put: a pair with another half; pairs of another length; the steps collected, and told backwards. -/
import Derived.Test.YtbbgagpompgagaaDoorTrBuild
namespace Go.Proofs.YtbbgagpompgagaaDoor
open Go.RowKit Go.PlainAid Go.Shelf
set_option linter.unusedVariables false
attribute [local go_sem] Oper.semAt_some

set_option maxRecDepth 20000 in
theorem withHalf_any (q x : ByteArray) (b : Nat) (hb : b < 2) (hq : q.size = 64) (hx : x.size = 32) (w : World) : Calls Tryd.prog 36 #[.string q, .int .i64 (b : Int), .string x] w fun e w' => e = .returned (.string (withB q b x)) ∧ w' = w := by
  have hb' : b = 0 ∨ b = 1 := by omega
  rcases hb' with rfl | rfl
  · have h : withB q 0 x = x ++ q.extract 32 64 := by unfold withB; rw [if_pos rfl, hq]
    rw [h]
    rw [show (((0 : Nat) : Int)) = 0 from rfl]
    go_enter Tryd.func36, Tryd.ntmps36
    go_wp2_with fail
    go_ret
    exact ⟨rfl, rfl⟩
  · have h : withB q 1 x = q.extract 0 32 ++ x := by unfold withB; rw [if_neg (by decide)]
    rw [h]
    rw [show (((1 : Nat) : Int)) = 1 from rfl]
    go_enter Tryd.func36, Tryd.ntmps36
    go_wp2_with fail
    go_ret
    exact ⟨rfl, rfl⟩

abbrev notPairV : Value := .func (.func 33) #[] #[]
set_option maxRecDepth 20000 in
set_option maxHeartbeats 400000 in
theorem sIndex_any (a : Option Addr) (n ca : Nat) (p : Nat → ByteArray) (w : World) (hn : n ≤ 1000000) (ha : Sa w a n p) :
    Calls Tryd.prog 42 #[.slice a n ca, notPairV] w fun e w' => (∃ z : Int, e = .returned (.int .i64 z) ∧ (0 ≤ z ↔ ∃ i, i < n ∧ (p i).size ≠ 64)) ∧ w' = w := by
  go_enter Tryd.func42, Tryd.ntmps42
  go_wp2_with fail
  go_loop [8] (fun i => ∃ k : Nat, k ≤ n ∧ i = .int .i64 k ∧ Hid (∀ j, j < k → (p j).size = 64)) (fun i => (n : Nat) - (intOf i).toNat)
  case atStart => exact ⟨0, Nat.zero_le _, rfl, fun j hj => by omega⟩
  case round =>
    obtain ⟨k, hk, rfl, hbefore⟩ := hrel
    by_cases hlt : k < n
    · rcases ha with h0 | ⟨b, o, rfl, ha⟩
      · omega
      have hcell := ha k hlt
      have hnp := notPair_any (p k) w
      have HA : Hid _ := ha
      clear ha
      by_cases h64 : (p k).size = 64
      · rw [decide_eq_false (fun h => h h64)] at hnp
        go_wp2_with fail
        refine hnp.mono ?_
        rintro e w' ⟨rfl, rfl⟩
        go_wp2_with fail
        go_round
        case rel => exact ⟨k + 1, by omega, by go_num, fun j hj => by
          by_cases e : j = k
          · rw [e]; exact h64
          · exact hbefore.out j (by omega)⟩
        case measure => simp [intOf]; omega
      · rw [decide_eq_true h64] at hnp
        go_wp2_with fail
        refine hnp.mono ?_
        rintro e w' ⟨rfl, rfl⟩
        go_wp2_with fail
        go_ret
        exact ⟨⟨(k : Int), rfl, ⟨fun _ => ⟨k, hlt, h64⟩, fun _ => by omega⟩⟩, rfl⟩
    · have hkn : k = n := by omega
      subst hkn
      clear ha
      go_wp2_with fail
      go_ret
      exact ⟨⟨-1, rfl, ⟨fun h => by omega, fun ⟨i, hi, h⟩ => absurd (hbefore.out i hi) h⟩⟩, rfl⟩
set_option maxRecDepth 20000 in
theorem sContains_any (a : Option Addr) (n ca : Nat) (p : Nat → ByteArray) (w : World) (hn : n ≤ 1000000) (ha : Sa w a n p) :
    Calls Tryd.prog 32 #[.slice a n ca, notPairV] w fun e w' => e = .returned (.bool (decide (∃ i, i < n ∧ (p i).size ≠ 64))) ∧ w' = w := by
  go_enter Tryd.func32, Tryd.ntmps32
  go_wp2_with fail
  refine (sIndex_any a n ca p w hn ha).mono ?_
  rintro e w' ⟨⟨z, rfl, hz⟩, rfl⟩
  have HZ : Hid (0 ≤ z ↔ ∃ i, i < n ∧ (p i).size ≠ 64) := hz
  clear hz
  go_wp2_with fail
  go_ret
  refine ⟨congrArg (fun b => Ending.returned (.bool b)) ?_, rfl⟩
  exact decide_eq_decide.2 HZ.out

/-- The steps, one behind the other. -/
def stepsL (d s k : Nat) : List Value := (List.range k).flatMap fun i => (stepV d s i).toList
theorem stepsL_succ (d s k : Nat) : stepsL d s (k + 1) = stepsL d s k ++ (stepV d s k).toList := by unfold stepsL; rw [List.range_succ, List.flatMap_append]; simp
theorem stepsL_length (d s k : Nat) : (stepsL d s k).length = k * 3 := by
  induction k with
  | zero => rfl
  | succ k ih => rw [stepsL_succ, List.length_append, ih]; simp [stepV]; omega
theorem stepsL_at (d s k i j : Nat) (hi : i < k) (v : Value) (hj : j < 3) (hv : (stepV d s i).toList[j]? = some v) : (stepsL d s k)[i * 3 + j]? = some v := by
  induction k with
  | zero => omega
  | succ k ih =>
    rw [stepsL_succ]
    by_cases h : i < k
    · rw [List.getElem?_append_left (by rw [stepsL_length]; omega)]; exact ih h
    · have : i = k := by omega
      subst this
      rw [List.getElem?_append_right (by rw [stepsL_length]; omega), stepsL_length, show i * 3 + j - i * 3 = j by omega]; exact hv
theorem Tryd.infoStep : (Tryd.prog.info? 57).map (fun i => (i.zero, i.size, i.bytes)) = some (some (.agg #[.int .i64 0, .int .i64 0, .int .i64 0]), 3, 24) := by kernel_rfl

theorem cells_new (w : World) (T : TypeId) (L : List Value) : ∀ i u, L[i]? = some u → (w.alloc (.cells L.toArray T)).cell? ((⟨w.heap.size, 0, none⟩ : Addr).add i) = some u := by
  intro i u h
  have hb := Blk.new w T L.toArray
  rw [List.toList_toArray] at hb
  rw [Go.WideShapes.add_plain, Nat.zero_add]
  exact hb.cell h
set_option maxRecDepth 100000 in
set_option maxHeartbeats 2000000 in
theorem appendSeq_any (d n s : Nat) (hn : 2 ^ d = n) (hd : d ≤ 4) (hs : s < 2 ^ d) (gl gs : Nat) (w : World) (hl : w.cell? ⟨gl, 0, none⟩ = some (.int .i64 (n : Int))) (hsl : w.cell? ⟨gs, 0, none⟩ = some (.int .i64 (s : Int))) :
    Calls Tryd.prog 44 #[.slice none 0 0, .func (.func 37) #[] #[.pointer (some ⟨gl, 0, none⟩), .pointer (some ⟨gs, 0, none⟩)]] w fun e w' => ∃ v, e = .returned v ∧ w'.ownsRow w.heap.size 57 3 v d (stepsL d s d) ∧ Below w.heap.size w w' := by
  have hgl := cell_blk_lt hl
  have hgs := cell_blk_lt hsl
  have HN : Hid (2 ^ d = n) := hn
  have b0 := Blk.new w 69 #[.slice none 0 0]
  have hB0 : Below w.heap.size w (w.alloc (.cells #[.slice none 0 0] 69)) := (Below.refl _ w).alloc (Nat.le_refl _) _
  have hsz : (w.alloc (.cells #[.slice none 0 0] 69)).heap.size = w.heap.size + 1 := by simp
  refine (callsIn_wide (n := 9)).1 ?_
  refine callsIn_of_wp_marks Tryd.func44 rfl trivial ?_ rfl
  simp only [Tryd.ntmps44, List.size_toArray, List.length_cons, List.length_nil, Nat.reduceAdd, Nat.reduceSub, Array.replicate_succ, Array.replicate_zero, List.push_toArray, List.append_toArray, List.nil_append, List.cons_append]
  gi_wp2_with fail
  generalize w.alloc (.cells #[.slice none 0 0] 69) = W0 at b0 hB0 hsz ⊢
  obtain ⟨i0, hi, hz0, hz1, hz2⟩ := info_parts Tryd.infoStep
  refine range_law (enc := fun k => #[.agg (stepV d s k)]) (c := 1) (N := d) (MM := fun k => k = w.heap.size ∨ w.heap.size + 4 ≤ k) rfl (enters_of Tryd.func37 (by kernel_rfl) rfl)
    (over_iter 8 d s hd hs W0 _ gl gs (by omega) (by omega) (by rw [HN.out]; exact (hB0.cell (p := ⟨gl, 0, none⟩) hgl).trans hl) ((hB0.cell (p := ⟨gs, 0, none⟩) hgs).trans hsl) (fun k hk => by omega)) (fun k hk => by omega) (fun _ => rfl)
    (fun k W => ∃ v, Blk W w.heap.size 69 [v] ∧ W.ownsRow (w.heap.size + 4) 57 3 v k (stepsL d s k) ∧ Below w.heap.size w W) (fun _ _ _ => False)
    ?hI (fun _ _ _ _ h _ => h) ⟨_, b0, World.ownsRow_nil _ _ _ _, hB0⟩
    (fun k a' W => ∃ Bx, Blk W Bx 57 (stepV d s k).toList ∧ w.heap.size + 4 ≤ Bx ∧ a' = { tmps := #[.slice none 0 0, .func (.func 37) #[] #[.pointer (some ⟨gl, 0, none⟩), .pointer (some ⟨gs, 0, none⟩)], .pointer (some ⟨w.heap.size, 0, none⟩), undef, .slice none 0 0, .pointer (some ⟨Bx, 0, none⟩), .func (.func 37) #[] #[.pointer (some ⟨gl, 0, none⟩), .pointer (some ⟨gs, 0, none⟩)], .agg (stepV d s k), undef, undef, undef, undef, undef], defers := [] }) ?hA ?assign ?body ?done ?stop
  case hI =>
    rintro k A B ⟨v, hv, hr, hb⟩ hk
    refine ⟨v, hv.kept hk (by omega), owns_kept hr hk (fun j hj => ?_), hk.below hb hb.size (fun j hj => by omega)⟩
    have := (World.ownsRow.lt hr j hj).1
    omega
  case hA =>
    rintro k a' A B ⟨Bx, hb, hx, rfl⟩ hk
    exact ⟨Bx, hb.kept hk (by omega), hx, rfl⟩
  case assign =>
    rintro k W K hk ⟨v, hv, hr, hb⟩ hs hK
    unfold stepV
    have hb := Blk.new W 57 (stepV d s k)
    unfold stepV at hb
    gi_wp2
    exact hK _ _ ((Kept.refl _ W).alloc _) ⟨W.heap.size, hb, by omega, rfl⟩
  case body =>
    rintro k a' W hk ⟨v, hv, hr, hb⟩ ⟨Bx, hx, hBx, rfl⟩ hs
    have c6 := hv.cell (i := 0) rfl
    have x0 : W.cell? ⟨Bx, 0, none⟩ = some (.int .i64 (k : Int)) := hx.cell (i := 0) rfl
    have x1 : W.cell? ⟨Bx, 1, none⟩ = some (.int .i64 (nd d s k : Int)) := hx.cell (i := 1) rfl
    have x2 : W.cell? ⟨Bx, 2, none⟩ = some (.int .i64 (sd d s k : Int)) := hx.cell (i := 2) rfl
    have HS : Hid (stepsL d s (k + 1) = stepsL d s k ++ [.int .i64 (k : Int), .int .i64 (nd d s k : Int), .int .i64 (sd d s k : Int)]) := stepsL_succ d s k
    have hk' : k + 1 ≤ 4 := by omega
    generalize stepV d s k = sv at hx ⊢
    generalize nd d s k = M at x1 HS
    generalize sd d s k = S at x2 HS
    gi_wp2_with (gi_at_builtin; refine wpListIn_append_own _ rfl _ _ 69 rfl (w.heap.size + 4) 57 i0 (.agg #[.int .i64 0, .int .i64 0, .int .i64 0]) 3 24 Tryd.underlying69 hi hz0 hz1 hz2 rfl (by decide) _ _ _ rfl (hr.alloc _) ⟨W.heap.size, 0, none⟩ 1 1 [.int .i64 (k : Int), .int .i64 (M : Int), .int .i64 (S : Int)] rfl rfl (cells_new W 57 _) (by simp [Value.oneCell']) (by unfold maxLen; omega) (by omega) (by simp; omega) ?_; intro v' w1 hown' hgrow _; obtain ⟨g', cap', rfl⟩ := ownsRow_succ hown'; have hk1 := ((Kept.refl (fun j => v.ownBlock = some j) W).alloc (.cells #[.int .i64 (k : Int), .int .i64 (M : Int), .int .i64 (S : Int)] 57)).grown hgrow (fun j e => .inl e); have hv1 := hv.kept hk1 (fun e => by have := (World.ownsRow.lt hr _ e).1; omega); have hc1 := hv1.cell (i := 0) rfl; have hf1 := hv1.frozen 0)
    have hk2 : Kept (fun j => j = w.heap.size ∨ w.heap.size + 4 ≤ j) W (w1.setCell ⟨w.heap.size, 0, none⟩ (.slice (some ⟨g', 0, none⟩) (k + 1) cap')) := (hk1.mono (fun j _ e => .inr (World.ownsRow.lt hr j e).1)).setCell (.inl (.inl rfl)) 0 _
    refine ⟨hk2, _, hv1.setCell 0 _, ?_, hk2.below hb hb.size (fun j hj => by omega)⟩
    rw [HS.out]
    refine owns_kept hown' (Kept.one w1 w.heap.size 0 _) (fun j hj => ?_)
    have := (World.ownsRow.lt hown' j hj).1
    omega
  case done =>
    rintro W ⟨v, hv, hr, hb⟩ hD
    have c6 := hv.cell (i := 0) rfl
    have hp := Kept.put W W0.heap.size (.deferred none)
    gi_wp2_with fail
    refine ⟨by simp, .inl ⟨_, _, rfl, run_takeDeferred hD, ?_⟩⟩
    refine ⟨_, results_tmp rfl _ _ _, v, rfl, owns_base (owns_kept hr hp (fun j hj => ?_)) (by omega), hp.below hb hb.size (fun j hj => by omega)⟩
    have := (World.ownsRow.lt hr j hj).1
    omega
  case stop =>
    rintro c k W _ h _
    exact h.elim
set_option maxRecDepth 20000 in
theorem collect_any (d n s : Nat) (hn : 2 ^ d = n) (hd : d ≤ 4) (hs : s < 2 ^ d) (gl gs : Nat) (w : World) (hl : w.cell? ⟨gl, 0, none⟩ = some (.int .i64 (n : Int))) (hsl : w.cell? ⟨gs, 0, none⟩ = some (.int .i64 (s : Int))) :
    Calls Tryd.prog 35 #[.func (.func 37) #[] #[.pointer (some ⟨gl, 0, none⟩), .pointer (some ⟨gs, 0, none⟩)]] w fun e w' => ∃ v, e = .returned v ∧ w'.ownsRow w.heap.size 57 3 v d (stepsL d s d) ∧ Below w.heap.size w w' := by
  have h := appendSeq_any d n s hn hd hs gl gs w hl hsl
  clear hl hsl
  go_enter Tryd.func35, Tryd.ntmps35
  go_wp2_with fail
  refine h.mono ?_
  rintro e w' ⟨v, rfl, hv, hb⟩
  go_wp2_with fail
  go_ret
  exact ⟨v, rfl, hv, hb⟩
set_option maxRecDepth 20000 in
theorem back_any (v : Value) (w : World) (a : Option Addr) (k c : Nat) (hv : v = .slice a k c) : Calls Tryd.prog 34 #[v] w fun e w' => e = .returned (.func (.func 43) #[] #[.pointer (some ⟨w.heap.size, 0, none⟩)]) ∧ w' = w.alloc (.cells #[v] 69) := by
  subst hv
  go_enter Tryd.func34, Tryd.ntmps34
  go_wp2
  go_ret
  exact ⟨rfl, rfl⟩
end Go.Proofs.YtbbgagpompgagaaDoor
