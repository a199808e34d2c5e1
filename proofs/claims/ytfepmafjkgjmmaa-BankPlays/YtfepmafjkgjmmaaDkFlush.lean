/- Flush, Fail and Image. -/
import Derived.Test.YtfepmafjkgjmmaaDkSettle
namespace Go.Proofs.Ytfepmafjkgjmmaa
open Go.RowKit Go.PlainAid
set_option linter.unusedVariables false

/-- 'clear(s)', s lying in a row that is known whole. -/
theorem run_clear_row (w : World) (t e ty : TypeId) (z : Value) (ht : Try.prog.underlying t = some (.slice e)) (hv : ∀ w, (zeroValue e).run Try.prog w = .ok z w) (g off n c : Nat) (hn : 0 < n) (cur : Array Value) (T : TypeId)
    (hg : w.heap[g]? = some (.cells cur T (0, 0))) (hfit : off + n * z.cells.size ≤ cur.size) (h1 : ∀ v ∈ (Builtin.zeroCells z.cells n).toList, v.oneCell' = true) :
    (Builtin.clear_ #[t] ty #[.slice (some ⟨g, off, none⟩) n c]).run Try.prog w = .ok (.tuple #[]) (w.setRow g (cur.toList.take off ++ (Builtin.zeroCells z.cells n).toList ++ cur.toList.drop (off + n * z.cells.size)).toArray) := by
  have hst := run_storeCells_at Try.prog g off T (Builtin.zeroCells z.cells n).toList 0 cur w hg (by rw [Array.length_toList, size_zeroCells]; omega) h1
  simp only [Nat.add_zero, Array.length_toList, size_zeroCells] at hst
  obtain ⟨m, rfl⟩ : ∃ m, n = m + 1 := ⟨n - 1, by omega⟩
  simp [Builtin.clear_, run_underlying ht, hv, hst]
theorem zero_string : ∀ w : World, (zeroValue 9).run Try.prog w = .ok (.string noB) w := by
  obtain ⟨i0, hi, hz0, hz1, hz2⟩ := info_parts Try.info9
  intro w
  simp [zeroValue, typeInfo, hi, hz0]
theorem clear_strs (w : World) (gl n : Nat) (f : Nat → ByteArray) (h : Blk w gl 9 (strs n f)) (hn : 1 ≤ n) :
    ∀ ty, (Builtin.clear_ #[37] ty #[.slice (some ⟨gl, 0, none⟩) n n]).run Try.prog w = .ok (.tuple #[]) (w.setRow gl (strs n fun _ => noB).toArray) := by
  intro ty
  have hz : (Builtin.zeroCells (Value.string noB).cells n).toList = strs n fun _ => noB := by
    apply List.ext_getElem
    · simp [Builtin.zeroCells, strs, Value.cells]
    · intro i h1 h2
      simp [Builtin.zeroCells, strs, Value.cells, Nat.mod_one]
  have hr := run_clear_row w 37 9 ty (.string noB) Try.underlying37 zero_string gl 0 n n (by omega) (strs n f).toArray 9 h (by simp [strs_length, Value.cells]) (by rw [hz]; exact strs_one n _)
  rw [hz] at hr
  rw [hr]
  simp [Value.cells]
  rw [List.drop_eq_nil_of_le (by rw [strs_length]; exact Nat.le_refl _), List.append_nil]
/-- What lasts behind a Flush, and what waits. -/
def flushL (l : Nat → ByteArray) (q : List Wr) (dead : Bool) : Nat → ByteArray := if dead = true then l else app l q
def flushQ (q : List Wr) (dead : Bool) : List Wr := if dead = true then q else []
theorem flush_nil (w : World) : Calls Try.prog 25 #[.pointer none] w fun e w' => e = .returned (.int .i64 1) ∧ w' = w := by
  go_enter Try.func25, Try.ntmps25
  go_wp2_with (go_at_call 38; refine (usable_nil _).mono ?_; rintro e w' ⟨rfl, rfl⟩)
  go_ret
  exact ⟨rfl, rfl⟩
set_option maxRecDepth 20000 in
theorem flush_any {F : Nat → Prop} {g n : Nat} {l : Nat → ByteArray} {q : List Wr} {dead : Bool} {w : World} (h : DiskAt w F g n l q dead) :
    Calls Try.prog 25 #[.pointer (some ⟨g, 0, none⟩)] w fun e w' => e = .returned (.int .i64 (errD dead)) ∧ Turned F w w' (fun F' => DiskAt w' F' g n (flushL l q dead) (flushQ q dead) dead) := by
  have hu := usable_any h
  have h' := h
  obtain ⟨gc, gl, v, h⟩ := h
  cases dead
  · rw [show flushL l q false = app l q from rfl, show flushQ q false = [] from rfl, show errD false = 0 from rfl]
    rw [show errD false = 0 from rfl] at hu
    have c0 := h.top.cell (i := 0) rfl
    have c1 := h.top.cell (i := 1) rfl
    have hgc := h.top.ne h.cells (by decide)
    have hgl := h.top.ne h.lasts (by decide)
    have hrun := copy_strs w.drew gl gc n l (app l q) h.lasts h.cells h.low
    have K1 : Kept (fun k => k = gl) w (w.drew.setRow gl (strs n (app l q)).toArray) := (Kept.oneRow _ _ _).ofDrew
    have T1 := h.top.kept K1 hgl
    have L1 : Blk (w.drew.setRow gl (strs n (app l q)).toArray) gl 9 (strs n (app l q)) := h.lasts.drew.setRow
    have C1 := h.cells.kept K1 h.ne
    obtain ⟨Z, hZ⟩ : ∃ Z, (strs n (app l q)).toArray = Z := ⟨_, rfl⟩
    rw [hZ] at hrun K1 T1 C1 L1
    have d2 := T1.cell (i := 2) rfl
    have f2 := T1.frozen 2
    have d0 := T1.cell (i := 0) rfl
    have d1 := T1.cell (i := 1) rfl
    have T2 := T1.setCell 2 (.slice none 0 0)
    have K2 : Kept (fun k => k = g) (w.drew.setRow gl Z) ((w.drew.setRow gl Z).setCell ⟨g, 2, none⟩ (.slice none 0 0)) := Kept.one _ _ _ _
    have C2 := C1.kept K2 (fun e => hgc e.symm)
    have L2 := L1.kept K2 (fun e => hgl e.symm)
    have K3 : Kept F w ((w.drew.setRow gl Z).setCell ⟨g, 2, none⟩ (.slice none 0 0)) := (K1.mono (fun i _ e => by rw [e]; exact h.inn.2.2.1)).setCell (.inl h.inn.1) _ _
    have HT : Hid (Turned F w ((w.drew.setRow gl Z).setCell ⟨g, 2, none⟩ (.slice none 0 0)) (fun F' => DiskAt ((w.drew.setRow gl Z).setCell ⟨g, 2, none⟩ (.slice none 0 0)) F' g n (app l q) [] false)) :=
      ⟨F, ⟨gc, gl, .slice none 0 0, ⟨h.inn.1, h.inn.2.1, h.inn.2.2.1, fun k hk => (by cases hk)⟩, h.ne, h.low, h.high, fun p hp => (by cases hp), T2, C2, L2, Waits.nil _ _, fun k hk => Nat.lt_of_lt_of_le (h.bound k hk) K3.size⟩, K3, fun k hk => .inl hk⟩
    clear h h' K1 T1 C1 L1 T2 K2 C2 L2 K3 hgc hgl hZ
    go_enter Try.func25, Try.ntmps25
    go_wp2_with (go_at_call 38; refine hu.mono ?_; rintro e w' ⟨rfl, rfl⟩)
    refine wp_region_noPanic ?_
    refine wp_region_held_drew (S := fun z => z.cell? ⟨g, 0, none⟩ = some (.slice (some ⟨gc, 0, none⟩) n n) ∧ z.cell? ⟨g, 1, none⟩ = some (.slice (some ⟨gl, 0, none⟩) n n)) (by kernel_rfl) ⟨c0, c1⟩ (fun hHeld => ?_)
    refine wpAnyH_take (i := 0) (v := ?_) rfl (by kernel_rfl) (by kernel_rfl) (by kernel_rfl) (fun _ _ _ h => h) (Or.inl ⟨by rfl, ?_⟩) (by assumption) ?_
    rotate_left
    · intro w hSw; go_simp; try with_reducible rfl
    go_simp
    refine wpAnyH_take (i := 1) (v := ?_) rfl (by kernel_rfl) (by kernel_rfl) (by kernel_rfl) (fun _ _ _ h => h) (Or.inl ⟨by rfl, ?_⟩) (by assumption) ?_
    rotate_left
    · intro w hSw; go_simp; try with_reducible rfl
    go_simp
    refine wpAnyH_take (i := 2) (v := ?_) rfl (by kernel_rfl) (by kernel_rfl) (by kernel_rfl) (fun _ _ _ h => h) (Or.inl ⟨by rfl, ?_⟩) (by assumption) ?_
    rotate_left
    · intro w hSw; go_simp; try with_reducible rfl
    go_simp
    refine wpAnyH_take (i := 3) (v := ?_) rfl (by kernel_rfl) (by kernel_rfl) (by kernel_rfl) (fun _ _ _ h => h) (Or.inl ⟨by rfl, ?_⟩) (by assumption) ?_
    rotate_left
    · intro w hSw; go_simp; try with_reducible rfl
    go_simp
    refine wpAnyH_take (i := 4) (v := ?_) rfl (by kernel_rfl) (by kernel_rfl) (by kernel_rfl) (fun _ _ _ h => h) (Or.inl ⟨by rfl, ?_⟩) (by assumption) ?_
    rotate_left
    · intro w hSw; go_simp; try with_reducible rfl
    go_simp
    refine wpAnyH_take (i := 5) (v := ?_) rfl (by kernel_rfl) (by kernel_rfl) (by kernel_rfl) (fun _ _ _ h => h) (Or.inl ⟨by rfl, ?_⟩) (by assumption) ?_
    rotate_left
    · intro w hSw; go_simp; try with_reducible rfl
    go_simp
    refine wpAnyH_take (i := 6) (v := ?_) rfl (by kernel_rfl) (by kernel_rfl) (by kernel_rfl) (fun _ _ _ h => h) (Or.inl ⟨by rfl, ?_⟩) (by assumption) ?_
    rotate_left
    · intro w hSw; go_simp; try with_reducible rfl
    go_simp
    refine wpAnyH_take (i := 7) (v := ?_) rfl (by kernel_rfl) (by kernel_rfl) (by kernel_rfl) (fun _ _ _ h => h) (Or.inl ⟨by rfl, ?_⟩) (by assumption) ?_
    rotate_left
    · intro w hSw; go_simp; try with_reducible rfl
    go_simp
    refine wpAnyH_ready (rs := [8]) (by kernel_rfl) (by simp) (AllReadyH.cons rfl (fun K hK => ?_) AllReadyH.nil)
    refine step_copy_run rfl _ _ 37 37 rfl _ _ rfl rfl _ _ hrun ?_
    refine hK.out _ _ ⟨d0, d1⟩ (fun hHeld => ?_)
    clear hK K
    refine wpAnyH_done (by kernel_rfl) ?_ _
    refine NoPanic.normal ?_
    go_wp2_with fail
    go_ret
    exact ⟨rfl, HT.out⟩
  · rw [show flushL l q true = l from rfl, show flushQ q true = q from rfl, show errD true = 20 from rfl]
    rw [show errD true = 20 from rfl] at hu
    have HT : Hid _ := DiskIn.turn (w' := w) h'
    clear h h'
    go_enter Try.func25, Try.ntmps25
    go_wp2_with (go_at_call 38; refine hu.mono ?_; rintro e w' ⟨rfl, rfl⟩)
    go_ret
    exact ⟨rfl, HT.out⟩
theorem fail_nil (w : World) : Calls Try.prog 34 #[.pointer none] w fun e w' => e = .returned (.tuple #[]) ∧ w' = w := by
  go_enter Try.func34, Try.ntmps34
  go_wp2
  refine bodyPost_ret (results_none rfl _ _ _) rfl ⟨rfl, rfl⟩
theorem Turned.trans {F : Nat → Prop} {a b c : World} {A : (Nat → Prop) → Prop} (h : Kept F a b) (k : Turned F b c A) : Turned F a c A := by
  obtain ⟨F', h1, h2, h3⟩ := k
  exact ⟨F', h1, h.trans h2 (fun i hi => .inl hi), fun k hk => (h3 k hk).imp id (fun h' => Nat.le_trans h.size h')⟩
set_option maxRecDepth 20000 in
theorem fail_any {F : Nat → Prop} {g n : Nat} {l : Nat → ByteArray} {q : List Wr} {dead : Bool} {w : World} (h : DiskAt w F g n l q dead) :
    Calls Try.prog 34 #[.pointer (some ⟨g, 0, none⟩)] w fun e w' => e = .returned (.tuple #[]) ∧ Turned F w w' (fun F' => DiskAt w' F' g n (fun _ => noB) [] true) := by
  obtain ⟨gc, gl, v, h⟩ := h
  have c1 := h.top.cell (i := 1) rfl
  have c3 := h.top.cell (i := 3) rfl
  have f3 := h.top.frozen 3
  have hgc := h.top.ne h.cells (by decide)
  have hgl := h.top.ne h.lasts (by decide)
  have T1 := h.top.setCell 3 (.bool true)
  have K1 : Kept (fun k => k = g) w (w.setCell ⟨g, 3, none⟩ (.bool true)) := Kept.one _ _ _ _
  have C1 := h.cells.kept K1 (fun e => hgc e.symm)
  have L1 := h.lasts.kept K1 (fun e => hgl e.symm)
  have d1 := T1.cell (i := 1) rfl
  have hrun := clear_strs _ gl n l L1 h.low
  have K2 : Kept (fun k => k = gl) (w.setCell ⟨g, 3, none⟩ (.bool true)) ((w.setCell ⟨g, 3, none⟩ (.bool true)).setRow gl (strs n fun _ => noB).toArray) := Kept.oneRow _ _ _
  have T2 := T1.kept K2 hgl
  have C2 := C1.kept K2 h.ne
  have L2 : Blk ((w.setCell ⟨g, 3, none⟩ (.bool true)).setRow gl (strs n fun _ => noB).toArray) gl 9 (strs n fun _ => noB) := L1.setRow
  have K3 : Kept F w ((w.setCell ⟨g, 3, none⟩ (.bool true)).setRow gl (strs n fun _ => noB).toArray) := (K1.mono (fun i _ e => by rw [e]; exact h.inn.1)).setRow (.inl h.inn.2.2.1) _
  have hset := dkSettle_any (F := F) ⟨h.inn.1, h.inn.2.1, h.inn.2.2.1⟩ h.ne h.low h.high T2 C2 L2 (fun k hk => Nat.lt_of_lt_of_le (h.bound k hk) K3.size)
  obtain ⟨Z, hZ⟩ : ∃ Z, (strs n fun _ => noB).toArray = Z := ⟨_, rfl⟩
  rw [hZ] at hrun K3 hset
  have HK : Hid _ := K3
  have hset' := hset
  clear h T1 K1 C1 L1 K2 T2 C2 L2 K3 hgc hgl hZ hset
  go_enter Try.func34, Try.ntmps34
  go_wp2_with (go_at_call 50; refine hset'.mono ?_; rintro e w' ⟨rfl, hT⟩)
  go_end0
  exact ⟨rfl, Turned.trans HK.out hT⟩
theorem image_nil (w : World) : Calls Try.prog 15 #[.pointer none] w fun e w' => e = .returned (.slice none 0 0) ∧ w' = w := by
  go_enter Try.func15, Try.ntmps15
  go_wp2_with (go_at_call 38; refine (usable_nil _).mono ?_; rintro e w' ⟨rfl, rfl⟩)
  go_ret
  exact ⟨rfl, rfl⟩
/-- A row of m texts f, with an address or none. -/
def TextsAt (w : World) (v : Value) (m : Nat) (f : Nat → ByteArray) : Prop := ∃ a cap, v = .slice a m cap ∧ m ≤ cap ∧ (m = 0 ∨ ∃ b o, a = some ⟨b, o, none⟩ ∧ b < w.heap.size ∧ ∀ i, i < m → w.cell? ⟨b, o + i, none⟩ = some (.string (f i)))
theorem image_dead {F : Nat → Prop} {g n : Nat} {l : Nat → ByteArray} {q : List Wr} {w : World} (h : DiskAt w F g n l q true) :
    Calls Try.prog 15 #[.pointer (some ⟨g, 0, none⟩)] w fun e w' => e = .returned (.slice none 0 0) ∧ w' = w := by
  have hu := usable_any h
  rw [show errD true = 20 from rfl] at hu
  clear h
  go_enter Try.func15, Try.ntmps15
  go_wp2_with (go_at_call 38; refine hu.mono ?_; rintro e w' ⟨rfl, rfl⟩)
  go_ret
  exact ⟨rfl, rfl⟩
set_option maxRecDepth 20000 in
theorem image_any {F : Nat → Prop} {g n : Nat} {l : Nat → ByteArray} {q : List Wr} {w : World} (h : DiskAt w F g n l q false) :
    Calls Try.prog 15 #[.pointer (some ⟨g, 0, none⟩)] w fun e w' => e = .returned (.slice (some ⟨w.heap.size, 0, none⟩) n n) ∧ Blk w' w.heap.size 9 (strs n (app l q)) ∧ Below w.heap.size w w' := by
  have hu := usable_any h
  rw [show errD false = 0 from rfl] at hu
  obtain ⟨gc, gl, v, h⟩ := h
  have c0 := h.top.cell (i := 0) rfl
  have hmk := make_strs n h.high
  have b1 := Blk.new w 9 (strs n fun _ => noB).toArray
  have C1 := h.cells.alloc (.cells (strs n fun _ => noB).toArray 9)
  have d0 := (h.top.alloc (.cells (strs n fun _ => noB).toArray 9)).cell (i := 0) rfl
  rw [List.toList_toArray] at b1
  have hrun := copy_strs _ w.heap.size gc n _ _ b1 C1 h.low
  have b2 : Blk ((w.alloc (.cells (strs n fun _ => noB).toArray 9)).setRow w.heap.size (strs n (app l q)).toArray) w.heap.size 9 (strs n (app l q)) := b1.setRow
  have hB : Below w.heap.size w ((w.alloc (.cells (strs n fun _ => noB).toArray 9)).setRow w.heap.size (strs n (app l q)).toArray) := below_setRow ((Below.refl _ _).alloc (Nat.le_refl _) _) (Nat.le_refl _) _
  obtain ⟨Z, hZ⟩ : ∃ Z, (strs n fun _ => noB).toArray = Z := ⟨_, rfl⟩
  obtain ⟨Y, hY⟩ : ∃ Y, (strs n (app l q)).toArray = Y := ⟨_, rfl⟩
  rw [hZ] at hmk d0 hrun b2 hB
  rw [hY] at hrun b2 hB
  have HB : Hid _ := And.intro b2 hB
  clear h b1 C1 b2 hB hZ hY
  go_enter Try.func15, Try.ntmps15
  go_wp2_with (go_at_call 38; refine hu.mono ?_; rintro e w' ⟨rfl, rfl⟩)
  go_ret
  exact ⟨rfl, HB.out⟩
end Go.Proofs.Ytfepmafjkgjmmaa
