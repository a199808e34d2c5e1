/- 15 texts in one. -/
import Derived.Test.YtnpebabffnjmmaaPoRow
import Derived.Test.YtnpebabffnjmmaaPoText
import Derived.Test.YtnpebabffnjmmaaBlk
import Derived.Lib.ConvBytes
import Derived.ArgAppend
import Derived.Deep.AppendLies
import Derived.Test.YtnpebabffnjmmaaOrd
import Derived.Test.YtnpebabffnjmmaaChArr
import Derived.Test.YtnpebabffnjmmaaChState
import Derived.Maps.AppendAt
import Derived.Test.YtnpebabffnjmmaaRefXor
import Derived.Test.YtnpebabffnjmmaaPoSum
import Derived.Test.YtnpebabffnjmmaaAeTagB
import Derived.Test.YtnpebabffnjmmaaPoEqual
import Derived.Test.YtnpebabffnjmmaaAeWakes
import Derived.OpenShut
import Derived.ShutString
import Derived.ChangeOld
import Derived.ChangeArms
import Derived.ProofKit
/- A row of bytes that grows out of a text's bytes, and the document's fill and size, for every such row. -/
namespace Go.Proofs.Ytnpebabffnjmmaa
open Go.RowKit Go.PlainAid
set_option linter.unusedVariables false

/-- A row of bytes f that the call itself made and that may grow. -/
def RowF (w : World) (base : Nat) (v : Value) (n : Nat) (f : Nat → Int) : Prop :=
  ∃ g cap, v = .slice (some ⟨g, 0, none⟩) n cap ∧ base ≤ g ∧ g < w.heap.size ∧ n ≤ cap ∧ (∀ i, i < n → w.cell? ⟨g, i, none⟩ = some (.int .u8 (f i))) ∧ (∀ i, i < cap → (w.cell? ⟨g, i, none⟩).isSome = true ∧ w.frozen? ⟨g, i, none⟩ = false)
set_option maxRecDepth 20000 in
theorem rowF_of (w : World) (s : ByteArray) : ∃ c w', (convert 9 36 (.string s)).run Try.prog w = .ok (.slice (some ⟨w.heap.size, 0, none⟩) s.size c) w' ∧ RowF w' w.heap.size (.slice (some ⟨w.heap.size, 0, none⟩) s.size c) s.size (bt s) ∧ Below w.heap.size w w' := by
  have hr := Lib.run_convert_string_bytes (P := Try.prog) w 9 36 5 s Try.underlying9 Try.underlying36 Try.underlying5
  have hs := Lib.bytesWorld_size w 5 s
  have hn := Lib.bytesWorld_at_new w 5 s
  have hge := grownCap_ge w s.size 0 5
  have hcs : (Lib.bytesCells w 5 s).size = grownCap w s.size 0 5 := by
    unfold Lib.bytesCells
    have hd : s.data.size = s.size := rfl
    rw [Array.size_append, Array.size_map, Array.size_replicate, hd]
    omega
  refine ⟨_, _, hr, ⟨w.heap.size, _, rfl, Nat.le_refl _, by omega, hge, fun i hi => ?_, fun i hi => ⟨?_, ?_⟩⟩, ⟨rfl, rfl, rfl, by omega, fun j hj => Lib.bytesWorld_at_old w 5 s j hj⟩⟩
  · rw [Lib.bytesWorld_cell w 5 s i hi]
    congr 2
    unfold bt
    rw [dif_pos hi, List.getD_eq_getElem?_getD]
    have hd : i < s.data.toList.length := by rw [Array.length_toList]; exact hi
    rw [List.getElem?_eq_getElem hd, Option.getD_some]
    simp
    rfl
  · simp only [World.cell?, hn]
    rw [Array.getElem?_eq_getElem (by rw [hcs]; exact hi)]
    rfl
  · simp only [World.frozen?, hn]
    simp
    omega
set_option maxRecDepth 20000 in
theorem rowF_push (x : Int) (w : World) (base : Nat) (v : Value) (n : Nat) (f : Nat → Int) (h : RowF w base v n f) (hf : f n = x) (hn : n ≤ 1000000000) (hb : base ≤ w.heap.size) :
    ∃ v' w', (Builtin.append_ #[36, 36] 36 #[v, .slice (some ⟨w.heap.size, 0, none⟩) 1 1]).run Try.prog (w.alloc (.cells #[.int .u8 x] 5)) = .ok v' w' ∧ RowF w' base v' (n + 1) f ∧ Below base w w' := by
  obtain ⟨g, cap, rfl, hbg, hg, hnc, hcell, hfree⟩ := h
  obtain ⟨i0, hi, hz0, hz1, hz2⟩ := info_parts Try.info5
  have hold : ∀ j, (w.alloc (.cells #[.int .u8 x] 5)).cell? ⟨g, j, none⟩ = w.cell? ⟨g, j, none⟩ := fun j => World.cell?_alloc_lt _ _ _ hg
  have hfr : ∀ j, (w.alloc (.cells #[.int .u8 x] 5)).frozen? ⟨g, j, none⟩ = w.frozen? ⟨g, j, none⟩ := fun j => World.frozen?_alloc_past _ _ _ hg
  have hnews : ∀ (j : Nat) u, [Value.int .u8 x][j]? = some u → (w.alloc (.cells #[.int .u8 x] 5)).cell? ((⟨w.heap.size, 0, none⟩ : Addr).add j) = some u := fun j u hj => by
    match j, hj with
    | 0, hj => simp at hj; subst hj; simp only [Addr.add]; exact (Blk.new w 5 #[.int .u8 x]).cell rfl
  have hba : Below base w (w.alloc (.cells #[.int .u8 x] 5)) := (Below.refl _ _).alloc hb _
  by_cases hroom : n + 1 ≤ cap
  · have hrun := run_append_room_cells (P := Try.prog) (w.alloc (.cells #[.int .u8 x] 5)) 36 36 5 i0 Try.underlying36 hi g 0 n cap ⟨w.heap.size, 0, none⟩ 1 1 [.int .u8 x] (by rw [hz1]; rfl) hnews (fun u hu => by simp at hu; subst hu; rfl) hroom
      (fun j hj => by simp at hj; subst hj; rw [hz1, hold]; simpa using (hfree n (by omega)).1) (fun j hj => by simp at hj; subst hj; rw [hz1, hfr]; simpa using (hfree n (by omega)).2)
    rw [hz1] at hrun
    simp only [Nat.zero_add, Nat.mul_one, World.setCells] at hrun
    refine ⟨_, _, hrun, ⟨g, cap, rfl, hbg, by simp; omega, hroom, fun i hi' => ?_, fun i hi' => ⟨?_, ?_⟩⟩, hba.setCell hbg _⟩
    · by_cases e : i = n
      · subst e
        rw [World.cell?_setCell_same' _ ⟨g, i, none⟩ _ (by rw [hold]; exact (hfree i (by omega)).1), hf]
      · rw [World.cell?_setCell_other _ _ _ _ (fun h => by cases h; exact e rfl), hold]
        exact hcell i (by omega)
    · by_cases e : i = n
      · subst e
        rw [World.cell?_setCell_same' _ ⟨g, i, none⟩ _ (by rw [hold]; exact (hfree i (by omega)).1)]; rfl
      · rw [World.cell?_setCell_other _ _ _ _ (fun h => by cases h; exact e rfl), hold]
        exact (hfree i hi').1
    · rw [World.frozen?_setCell, hfr]; exact (hfree i hi').2
  · obtain ⟨v', w', hrun, hown, hgrow⟩ := run_append_arg_grows (P := Try.prog) (w.alloc (.cells #[.int .u8 x] 5)) 36 36 5 i0 (.int .u8 0) 1 1 Try.underlying36 hi hz0 hz1 hz2 rfl (by decide) ⟨g, 0, none⟩ n cap ((List.range n).map fun i => .int .u8 (f i)) (by simp) (fun j u hj => by
        rw [Addr.add_mid, Nat.zero_add, hold]
        have hjn : j < n := by
          rcases Nat.lt_or_ge j n with h | h
          · exact h
          · rw [List.getElem?_eq_none (by simp; exact h)] at hj; cases hj
        rw [hcell j hjn, ← hj]
        simp [hjn]) ⟨w.heap.size, 0, none⟩ 1 1 [.int .u8 x] rfl hnews (by omega) (by unfold maxLen; omega) (by omega)
    obtain ⟨g', cap', rfl, hb', hlt'⟩ := hown.form (by omega)
    refine ⟨_, w', hrun, ?_, Below.grown hba hgrow (by simp; omega) (fun k h => by cases h)⟩
    have hsz : (w.alloc (.cells #[.int .u8 x] 5)).heap.size = w.heap.size + 1 := by simp
    rcases hown.2 with ⟨hv, _⟩ | ⟨g2, cap2, cur, hv, _, hcur, h1, _, h3, _⟩
    · cases hv
    · cases hv
      refine ⟨g', cap', rfl, by omega, hlt', h1, fun i hi' => ?_, fun i hi' => ⟨?_, ?_⟩⟩
      · rw [World.ownsRow.cellAt hown i (by omega)]
        by_cases e : i = n
        · subst e
          rw [List.getElem?_append_right (by simp)]
          simp [hf]
        · rw [List.getElem?_append_left (by simp; omega)]
          simp [show i < n by omega]
      · simp only [World.cell?, hcur]
        rw [Array.getElem?_eq_getElem (by omega)]; rfl
      · simp [World.frozen?, hcur]
set_option maxRecDepth 20000 in
theorem rowF_text {w : World} {base : Nat} {v : Value} {n : Nat} {f : Nat → Int} (h : RowF w base v n f) : (convert 36 9 v).run Try.prog w = .ok (.string (strOfNums ((List.range n).map f))) w := by
  obtain ⟨g, cap, rfl, _, _, _, hcell, _⟩ := h
  exact run_convert_bytes_arg (P := Try.prog) w 36 5 Try.underlying36 Try.underlying5 g 0 n cap ((List.range n).map f) (by simp) (fun i hi => by
    rw [Nat.zero_add, hcell i hi]
    simp [hi]) 9 Try.underlying9
set_option maxRecDepth 20000 in
theorem RowF.below {w w' : World} {base : Nat} {v : Value} {n : Nat} {f : Nat → Int} (h : RowF w base v n f) (hb : Below w.heap.size w w') : RowF w' base v n f := by
  obtain ⟨g, cap, rfl, h1, h2, h3, h4, h5⟩ := h
  exact ⟨g, cap, rfl, h1, Nat.lt_of_lt_of_le h2 hb.size, h3, fun i hi => (hb.cell (p := ⟨g, i, none⟩) h2).trans (h4 i hi), fun i hi => ⟨by rw [hb.cell (p := ⟨g, i, none⟩) h2]; exact (h5 i hi).1, by rw [hb.frozen (p := ⟨g, i, none⟩) h2]; exact (h5 i hi).2⟩⟩

set_option maxRecDepth 20000 in
theorem wpList_append_lit {P : Program} {ops : Array Oper} {rest : List Oper} {o : Oper} {a : Act} {w : World} {Q : Exit → Act → World → Prop} (hgd : o.guard = none) (s x : Operand) (t tn : TypeId)
    (ho : o.op = .call { callee := .builtin .append, args := #[s, x], argTypes := #[t, tn] }) (vs vx : Value) (hs : a.eval s = vs) (hx : a.eval x = vx)
    (v' : Value) (w' : World) (hr : (Builtin.append_ #[t, tn] o.type #[vs, vx]).run P w = .ok v' w') (h : wpList P ops Q rest (a.put o.dst v') w') : wpList P ops Q (o :: rest) a w :=
  wpList_plain hgd fun K hK => by
    unfold Oper.wp
    simp [execOp, ho, resolve, invoke, builtin, hs, hx, hr, Result.andThen]
    exact hK _ _ h
/-- How long a slice in a slot is. -/
def sliceLen : Value → Nat
  | .slice _ n _ => n
  | _ => 0


set_option maxRecDepth 20000 in
theorem RowF.congr {w : World} {base : Nat} {v : Value} {n : Nat} {f f' : Nat → Int} (h : RowF w base v n f) (e : ∀ i, i < n → f i = f' i) : RowF w base v n f' := by
  obtain ⟨g, cap, rfl, h1, h2, h3, h4, h5⟩ := h
  exact ⟨g, cap, rfl, h1, h2, h3, fun i hi => by rw [← e i hi]; exact h4 i hi, h5⟩
set_option maxHeartbeats 1000000 in
set_option maxRecDepth 20000 in
theorem fill_any (f : Nat → Int) (base n m : Nat) (v : Value) (w : World) (hnm : n ≤ m) (hm : m < n + 16) (h16 : m % 16 = 0) (hbig : m ≤ 1000000) (hz : ∀ i, n ≤ i → i < m → f i = 0) (hrow : RowF w base v n f) (hbase : base ≤ w.heap.size) :
    Calls Try.prog 34 #[v] w fun e w' => ∃ v', e = .returned v' ∧ RowF w' base v' m f ∧ Below base w w' := by
  have hlo : ∀ k, n ≤ k → k < m → ¬ k % 16 = 0 := fun k h1 h2 h3 => by omega
  have H16 : Hid (m % 16 = 0) := h16
  clear h16
  go_enter Try.func34, Try.ntmps34
  go_wp2_with fail
  go_loopw [0] (fun v wr => ∃ k : Nat, n ≤ k ∧ k ≤ m ∧ RowF wr base v k f ∧ Below base w wr ∧ base ≤ wr.heap.size) (fun v _ => m - sliceLen v)
  case atStart => exact ⟨n, by omega, by omega, hrow, Below.refl _ _, hbase⟩
  case round =>
    clear hrow hbase
    obtain ⟨k, hk1, hk2, hrow, hb, hbase⟩ := hrel
    have hrow' := hrow
    obtain ⟨g, cap, rfl, hg1, hg2, hg3, hg4, hg5⟩ := hrow
    clear hg4 hg5
    by_cases hlt : k < m
    · have hne := hlo k hk1 hlt
      have hne' : (((k : Int) % 16) != 0) = true := by rw [bne_iff_ne]; omega
      obtain ⟨v', w', hrun, hrow2, hb2⟩ := rowF_push 0 wr base _ k f hrow' (hz k hk1 hlt) (by omega) hbase
      obtain ⟨g', cap', rfl, h1', h2', h3', h4', h5'⟩ := hrow2
      have hrow3 : RowF w' base (.slice (some ⟨g', 0, none⟩) (k + 1) cap') (k + 1) f := ⟨g', cap', rfl, h1', h2', h3', h4', h5'⟩
      clear h4' h5' hrow'
      go_wp2_with (at_builtin; refine wpList_append_lit rfl _ _ 36 36 rfl _ _ rfl rfl _ _ hrun ?_)
      refine ⟨⟨k + 1, by omega, by omega, hrow3, hb.trans hb2, by omega⟩, ?_⟩
      show m - (k + 1) < m - k
      omega
    · have hkm : k = m := by omega
      have hne' : (((k : Int) % 16) != 0) = false := by
        have := H16.out
        rw [← hkm] at this
        rw [bne_eq_false_iff_eq]; omega
      go_wp2_with fail
      go_ret
      exact ⟨_, rfl, hkm ▸ hrow', hb⟩
set_option maxHeartbeats 1000000 in
set_option maxRecDepth 20000 in
theorem size_any (f : Nat → Int) (base n N : Nat) (v : Value) (w : World) (hbig : n ≤ 1000000) (hN : N ≤ 1000000000) (hz : ∀ i, i < 8 → f (n + i) = ((dg 8 N i : Nat) : Int)) (hrow : RowF w base v n f) (hbase : base ≤ w.heap.size) :
    Calls Try.prog 35 #[v, .int .i64 (N : Int)] w fun e w' => ∃ v', e = .returned v' ∧ RowF w' base v' (n + 8) f ∧ Below base w w' := by
  go_enter Try.func35, Try.ntmps35
  go_wp2_with fail
  go_loopw [0, 1, 5] (fun v x i wr => ∃ k M : Nat, k ≤ 8 ∧ i = .int .i64 k ∧ x = .int .i64 (M : Int) ∧ M ≤ 1000000000 ∧ M = N / 2 ^ (8 * k) ∧ RowF wr base v (n + k) f ∧ Below base w wr ∧ base ≤ wr.heap.size) (fun _ _ i _ => 8 - (intOf i).toNat)
  case atStart => exact ⟨0, N, by omega, rfl, rfl, hN, by simp, hrow, Below.refl _ _, hbase⟩
  case round =>
    clear hrow hbase
    obtain ⟨k, M, hk, rfl, rfl, hM, hMk, hrow, hb, hbase⟩ := hrel
    have HM : Hid (M = N / 2 ^ (8 * k)) := hMk
    clear hMk
    have hrow' := hrow
    obtain ⟨g, cap, rfl, hg1, hg2, hg3, hg4, hg5⟩ := hrow
    clear hg4 hg5
    by_cases hlt : k < 8
    · have hx : f (n + k) = (M : Int) % 256 := by
        rw [hz k hlt]; unfold dg; rw [← HM.out]; omega
      obtain ⟨v', w', hrun, hrow2, hb2⟩ := rowF_push ((M : Int) % 256) wr base _ (n + k) f hrow' hx (by omega) hbase
      obtain ⟨g', cap', rfl, h1', h2', h3', h4', h5'⟩ := hrow2
      have hrow3 : RowF w' base (.slice (some ⟨g', 0, none⟩) (n + k + 1) cap') (n + (k + 1)) f := ⟨g', cap', rfl, h1', h2', h3', h4', h5'⟩
      have HM2 : Hid (M / 256 = N / 2 ^ (8 * (k + 1))) := by
        have e : M / 256 = N / 2 ^ (8 * (k + 1)) := by
          rw [HM.out, Nat.div_div_eq_div_mul, show 8 * (k + 1) = 8 * k + 8 by omega, Nat.pow_add]
        exact e
      clear h4' h5' hrow' hx
      go_wp2_with (at_builtin; refine wpList_append_lit rfl _ _ 36 36 rfl _ _ rfl rfl _ _ hrun ?_)
      refine ⟨⟨k + 1, M / 256, by omega, by go_num, by go_num, by omega, HM2.out, hrow3, hb.trans hb2, by omega⟩, ?_⟩
      simp [intOf]; omega
    · have hkm : k = 8 := by omega
      subst hkm
      go_wp2_with fail
      go_ret
      exact ⟨_, rfl, hrow', hb⟩
end Go.Proofs.Ytnpebabffnjmmaa
/- What a quarter of the words at four places is, as the document makes it. -/
namespace Go.Proofs.Ytnpebabffnjmmaa
open Go.RowKit Go.PlainAid
set_option linter.unusedVariables false

theorem Try.zero107 : (Try.prog.info? 107).map (fun i => i.zero) = some (some (.agg (ws 4 (fun _ => 0)).toArray)) := by kernel_rfl
theorem Try.size107 : (Try.prog.info? 107).map (·.size) = some 4 := by kernel_rfl
theorem zero107_run (w : World) : (zeroValue 107).run Try.prog w = .ok (.agg (ws 4 (fun _ => 0)).toArray) w := by
  obtain ⟨i, hi, hz⟩ := Option.map_eq_some_iff.1 Try.zero107
  simp [zeroValue, typeInfo, hi, hz]

set_option maxHeartbeats 2000000 in
set_option maxRecDepth 20000 in
theorem refQ_any (S : Nat → Int) (a b c d : Nat) (a16 : a < 16) (b16 : b < 16) (c16 : c < 16) (d16 : d < 16) (w : World) :
    Calls Try.prog 49 #[.agg (ws 16 S).toArray, .int .i64 (a : Int), .int .i64 (b : Int), .int .i64 (c : Int), .int .i64 (d : Int)] w fun e w' => e = .returned (.agg (ws 16 (qS S a b c d)).toArray) ∧ Below w.heap.size w w' := by
  have hzr := zero45_run
  have hzq := zero107_run
  obtain ⟨Z, hZ⟩ : ∃ Z, ws 16 (fun _ => 0) = Z := ⟨_, rfl⟩
  obtain ⟨Y, hY⟩ : ∃ Y, ws 16 S = Y := ⟨_, rfl⟩
  obtain ⟨O, hO⟩ : ∃ O, ws 4 (fun _ => 0) = O := ⟨_, rfl⟩
  rw [hZ] at hzr
  rw [hO] at hzq
  rw [hY]
  have hOl : O.length = 4 := by rw [← hO, ws_length]
  have hZl : Z.length = 16 := by rw [← hZ, ws_length]
  have HY : Hid (ws 16 S = Y) := hY
  clear hY hZ hO
  go_enter Try.func49, Try.ntmps49
  go_wp2_with fail
  have hA0 : Blk ((w.alloc (.cells Y.toArray 45)).alloc (.cells Z.toArray 45)) w.heap.size 45 (ws 16 S) := by
    rw [HY.out]
    have := (Blk.new w 45 Y.toArray).alloc (.cells Z.toArray 45)
    simpa using this
  have hB0 : Blk ((w.alloc (.cells Y.toArray 45)).alloc (.cells Z.toArray 45)) (w.heap.size + 1) 45 Z := by
    have := Blk.new (w.alloc (.cells Y.toArray 45)) 45 Z.toArray
    simpa using this
  have hl0 : Below w.heap.size w ((w.alloc (.cells Y.toArray 45)).alloc (.cells Z.toArray 45)) := ((Below.refl _ w).alloc (Nat.le_refl _) _).alloc (by simp) _
  clear hzr HY
  generalize (w.alloc (.cells Y.toArray 45)).alloc (.cells Z.toArray 45) = w0 at hA0 hB0 hl0 ⊢
  obtain ⟨g, hgd⟩ : ∃ g, w.heap.size = g := ⟨_, rfl⟩
  rw [hgd] at hA0 hB0 hl0 ⊢
  have HG : Hid (w.heap.size = g) := hgd
  clear hgd
  have a16' : (a : Int) < 16 := by omega
  have b16' : (b : Int) < 16 := by omega
  have c16' : (c : Int) < 16 := by omega
  have d16' : (d : Int) < 16 := by omega
  have hqu := fun w => refQuarter_any (S a) (S b) (S c) (S d) w
  have hcell : ∀ z, Blk z g 45 (ws 16 S) → z.cell? ⟨g, a, none⟩ = some (.int .u32 (S a)) ∧ z.cell? ⟨g, b, none⟩ = some (.int .u32 (S b)) ∧ z.cell? ⟨g, c, none⟩ = some (.int .u32 (S c)) ∧ z.cell? ⟨g, d, none⟩ = some (.int .u32 (S d)) := fun z h => ⟨h.cell (ws_at 16 S a a16), h.cell (ws_at 16 S b b16), h.cell (ws_at 16 S c c16), h.cell (ws_at 16 S d d16)⟩
  have HC : Hid (∀ z, Blk z g 45 (ws 16 S) → z.cell? ⟨g, a, none⟩ = some (.int .u32 (S a)) ∧ z.cell? ⟨g, b, none⟩ = some (.int .u32 (S b)) ∧ z.cell? ⟨g, c, none⟩ = some (.int .u32 (S c)) ∧ z.cell? ⟨g, d, none⟩ = some (.int .u32 (S d))) := hcell
  clear hcell
  refine wp_region_noPanic ?_
  refine wp_region_held_drew (S := fun z => z.cell? ⟨g, a, none⟩ = some (.int .u32 (S a)) ∧ z.cell? ⟨g, b, none⟩ = some (.int .u32 (S b)) ∧ z.cell? ⟨g, c, none⟩ = some (.int .u32 (S c)) ∧ z.cell? ⟨g, d, none⟩ = some (.int .u32 (S d))) (by kernel_rfl) (HC.out _ hA0.drew) (fun hHeld => ?_)
  refine wpAnyH_take (i := 0) (v := ?_) rfl (by kernel_rfl) (by kernel_rfl) (by kernel_rfl) (fun _ _ _ h => h) (Or.inl ⟨by rfl, ?_⟩) (by assumption) ?_
  rotate_left
  · intro w hSw; go_simp; try with_reducible rfl
  go_simp
  refine wpAnyH_take (i := 1) (v := ?_) rfl (by kernel_rfl) (by kernel_rfl) (by kernel_rfl) (fun _ _ _ h => h) (Or.inl ⟨by rfl, ?_⟩) (by assumption) ?_
  rotate_left
  · intro w hSw; go_simp; try with_reducible rfl
  go_simp
  refine wpAnyH_take (i := 3) (v := ?_) rfl (by kernel_rfl) (by kernel_rfl) (by kernel_rfl) (fun _ _ _ h => h) (Or.inl ⟨by rfl, ?_⟩) (by assumption) ?_
  rotate_left
  · intro w hSw; go_simp; try with_reducible rfl
  go_simp
  refine wpAnyH_take (i := 4) (v := ?_) rfl (by kernel_rfl) (by kernel_rfl) (by kernel_rfl) (fun _ _ _ h => h) (Or.inl ⟨by rfl, ?_⟩) (by assumption) ?_
  rotate_left
  · intro w hSw; go_simp; try with_reducible rfl
  go_simp
  refine wpAnyH_take (i := 6) (v := ?_) rfl (by kernel_rfl) (by kernel_rfl) (by kernel_rfl) (fun _ _ _ h => h) (Or.inl ⟨by rfl, ?_⟩) (by assumption) ?_
  rotate_left
  · intro w hSw; go_simp; try with_reducible rfl
  go_simp
  refine wpAnyH_take (i := 7) (v := ?_) rfl (by kernel_rfl) (by kernel_rfl) (by kernel_rfl) (fun _ _ _ h => h) (Or.inl ⟨by rfl, ?_⟩) (by assumption) ?_
  rotate_left
  · intro w hSw; go_simp; try with_reducible rfl
  go_simp
  refine wpAnyH_take (i := 9) (v := ?_) rfl (by kernel_rfl) (by kernel_rfl) (by kernel_rfl) (fun _ _ _ h => h) (Or.inl ⟨by rfl, ?_⟩) (by assumption) ?_
  rotate_left
  · intro w hSw; go_simp; try with_reducible rfl
  go_simp
  refine wpAnyH_take (i := 10) (v := ?_) rfl (by kernel_rfl) (by kernel_rfl) (by kernel_rfl) (fun _ _ _ h => h) (Or.inl ⟨by rfl, ?_⟩) (by assumption) ?_
  rotate_left
  · intro w hSw; go_simp; try with_reducible rfl
  go_simp
  refine wpAnyH_take (i := 2) (v := ?_) rfl (by kernel_rfl) (by kernel_rfl) (by kernel_rfl) (fun _ _ _ h => h) (Or.inl ⟨by rfl, ?_⟩) (by assumption) ?_
  rotate_left
  · rintro w ⟨s0, s1, s2, s3⟩; go_simp; try with_reducible rfl
  go_simp
  refine wpAnyH_take (i := 5) (v := ?_) rfl (by kernel_rfl) (by kernel_rfl) (by kernel_rfl) (fun _ _ _ h => h) (Or.inl ⟨by rfl, ?_⟩) (by assumption) ?_
  rotate_left
  · rintro w ⟨s0, s1, s2, s3⟩; go_simp; try with_reducible rfl
  go_simp
  refine wpAnyH_take (i := 8) (v := ?_) rfl (by kernel_rfl) (by kernel_rfl) (by kernel_rfl) (fun _ _ _ h => h) (Or.inl ⟨by rfl, ?_⟩) (by assumption) ?_
  rotate_left
  · rintro w ⟨s0, s1, s2, s3⟩; go_simp; try with_reducible rfl
  go_simp
  refine wpAnyH_take (i := 11) (v := ?_) rfl (by kernel_rfl) (by kernel_rfl) (by kernel_rfl) (fun _ _ _ h => h) (Or.inl ⟨by rfl, ?_⟩) (by assumption) ?_
  rotate_left
  · rintro w ⟨s0, s1, s2, s3⟩; go_simp; try with_reducible rfl
  go_simp
  refine wpAnyH_ready (rs := [12, 13]) (by kernel_rfl) (by simp) (AllReadyH.cons rfl (fun K hK => ?_) (AllReadyH.cons rfl (fun K hK => ?_) AllReadyH.nil))
  · go_simp
    go_at_call 66
    refine (hqu _).mono ?_
    rintro e wx ⟨rfl, hbx⟩
    have hAx := hA0.drew.below hbx hA0.drew.lt
    have hBx := hB0.drew.below hbx hB0.drew.lt
    have hlx : Below g w wx := hl0.drew.trans (hbx.mono (Nat.le_of_lt hA0.drew.lt))
    have hgl := hBx.lt
    refine hK.out _ _ (HC.out _ hAx) (fun hHeld => ?_)
    clear hK K hA0 hB0 hl0 hbx
    have hAy := hAx.alloc (.cells O.toArray 107)
    have hBy := hBx.alloc (.cells O.toArray 107)
    have hly := hlx.alloc (by omega : g ≤ wx.heap.size) (.cells O.toArray 107)
    have hGy : Blk (wx.alloc (.cells O.toArray 107)) wx.heap.size 107 O := by
      have := Blk.new wx 107 O.toArray
      simpa using this
    have hgG : g + 1 < wx.heap.size := hgl
    refine wpAnyH_ready (rs := [13]) (by kernel_rfl) (by simp) (AllReadyH.cons rfl (fun K hK => ?_) AllReadyH.nil)
    go_simp
    refine hK.out _ _ (HC.out _ hAy) (fun hHeld => ?_)
    clear hK K
    clear hAx hBx hlx hgl
    obtain ⟨G, hGd⟩ : ∃ G, wx.heap.size = G := ⟨_, rfl⟩
    rw [hGd] at hGy hgG ⊢
    clear hGd
    refine wpAnyH_ready (rs := [14]) (by kernel_rfl) (by simp) (AllReadyH.cons rfl (fun K hK => ?_) AllReadyH.nil)
    refine step_store_blk rfl 107 _ _ rfl G O [.int .u32 (qa (S a) (S b) (S c) (S d)), .int .u32 (qb (S a) (S b) (S c) (S d)), .int .u32 (qc (S a) (S b) (S c) (S d)), .int .u32 (qd (S a) (S b) (S c) (S d))] rfl rfl 107 hGy (by rw [Try.size107]; rfl) (by rw [hOl]; rfl) (by intro v hv; simp at hv; rcases hv with rfl | rfl | rfl | rfl <;> rfl) ?_
    have hAz := hAy.setRowOther (by omega : g ≠ G) [.int .u32 (qa (S a) (S b) (S c) (S d)), .int .u32 (qb (S a) (S b) (S c) (S d)), .int .u32 (qc (S a) (S b) (S c) (S d)), .int .u32 (qd (S a) (S b) (S c) (S d))].toArray
    have hBz := hBy.setRowOther (by omega : g + 1 ≠ G) [.int .u32 (qa (S a) (S b) (S c) (S d)), .int .u32 (qb (S a) (S b) (S c) (S d)), .int .u32 (qc (S a) (S b) (S c) (S d)), .int .u32 (qd (S a) (S b) (S c) (S d))].toArray
    have hGz := hGy.setRow (M := [.int .u32 (qa (S a) (S b) (S c) (S d)), .int .u32 (qb (S a) (S b) (S c) (S d)), .int .u32 (qc (S a) (S b) (S c) (S d)), .int .u32 (qd (S a) (S b) (S c) (S d))])
    have hlz := below_setRow hly (by omega : g ≤ G) [.int .u32 (qa (S a) (S b) (S c) (S d)), .int .u32 (qb (S a) (S b) (S c) (S d)), .int .u32 (qc (S a) (S b) (S c) (S d)), .int .u32 (qd (S a) (S b) (S c) (S d))].toArray
    refine hK.out _ _ (HC.out _ hAz) (fun hHeld => ?_)
    clear hK K
    go_simp
    refine wpAnyH_done (by kernel_rfl) ?_ _
    refine NoPanic.normal ?_
    clear hAy hBy hGy hly hqu HC hOl
    have hfin := Blk.four hAz a b c d
    have HQ : Hid (ws 16 (qS S a b c d) = ws 16 (qS S a b c d)) := rfl
    obtain ⟨U, hU⟩ : ∃ U, ws 16 (qS S a b c d) = U := ⟨_, rfl⟩
    rw [hU] at hfin HQ
    have HU : Hid (ws 16 (qS S a b c d) = U) := hU
    have hUl : U.length = 16 := by rw [← hU, ws_length]
    have hUo : ∀ v ∈ U, v.oneCell' = true := by rw [← hU]; exact ws_one _ _
    clear hU HQ
    generalize qa (S a) (S b) (S c) (S d) = va at hAz hBz hGz hlz hfin ⊢
    generalize qb (S a) (S b) (S c) (S d) = vb at hAz hBz hGz hlz hfin ⊢
    generalize qc (S a) (S b) (S c) (S d) = vc at hAz hBz hGz hlz hfin ⊢
    generalize qd (S a) (S b) (S c) (S d) = vd at hAz hBz hGz hlz hfin ⊢
    generalize World.setRow _ G _ = wz at hAz hBz hGz hlz hfin ⊢
    have g0 := hGz.cell (i := 0) rfl
    have A1 := hAz.setCell a (.int .u32 va)
    have G1 := hGz.setOther (by omega : G ≠ g) a (.int .u32 va)
    have g1 := G1.cell (i := 1) rfl
    have A2 := A1.setCell b (.int .u32 vb)
    have G2 := G1.setOther (by omega : G ≠ g) b (.int .u32 vb)
    have g2 := G2.cell (i := 2) rfl
    have A3 := A2.setCell c (.int .u32 vc)
    have G3 := G2.setOther (by omega : G ≠ g) c (.int .u32 vc)
    have g3 := G3.cell (i := 3) rfl
    have fz0 := hAz.frozen a
    have fz1 := A1.frozen b
    have fz2 := A2.frozen c
    have fz3 := A3.frozen d
    obtain ⟨u0, hu0⟩ := hAz.hasCell a (by simp [ws_length]; exact a16)
    obtain ⟨u1, hu1⟩ := A1.hasCell b (by simp [ws_length]; exact b16)
    obtain ⟨u2, hu2⟩ := A2.hasCell c (by simp [ws_length]; exact c16)
    obtain ⟨u3, hu3⟩ := A3.hasCell d (by simp [ws_length]; exact d16)
    have hB4 := (((hBz.setOther (by omega : g + 1 ≠ g) a (.int .u32 va)).setOther (by omega : g + 1 ≠ g) b (.int .u32 vb)).setOther (by omega : g + 1 ≠ g) c (.int .u32 vc)).setOther (by omega : g + 1 ≠ g) d (.int .u32 vd)
    have hl4 : Below g w ((((wz.setCell ⟨g, a, none⟩ (.int .u32 va)).setCell ⟨g, b, none⟩ (.int .u32 vb)).setCell ⟨g, c, none⟩ (.int .u32 vc)).setCell ⟨g, d, none⟩ (.int .u32 vd)) := (((hlz.setCell (Nat.le_refl _) _).setCell (Nat.le_refl _) _).setCell (Nat.le_refl _) _).setCell (Nat.le_refl _) _
    have hR : (loadVar 45 ⟨g + 1, 0, none⟩).run Try.prog (((((wz.setCell ⟨g, a, none⟩ (.int .u32 va)).setCell ⟨g, b, none⟩ (.int .u32 vb)).setCell ⟨g, c, none⟩ (.int .u32 vc)).setCell ⟨g, d, none⟩ (.int .u32 vd)).setRow (g + 1) U.toArray) = .ok (.agg U.toArray) (((((wz.setCell ⟨g, a, none⟩ (.int .u32 va)).setCell ⟨g, b, none⟩ (.int .u32 vb)).setCell ⟨g, c, none⟩ (.int .u32 vc)).setCell ⟨g, d, none⟩ (.int .u32 vd)).setRow (g + 1) U.toArray) := by
      have h1 : Blk (((((wz.setCell ⟨g, a, none⟩ (.int .u32 va)).setCell ⟨g, b, none⟩ (.int .u32 vb)).setCell ⟨g, c, none⟩ (.int .u32 vc)).setCell ⟨g, d, none⟩ (.int .u32 vd)).setRow (g + 1) U.toArray) (g + 1) 45 (ws 16 (qS S a b c d)) := by rw [HU.out]; exact hB4.setRow
      have h2 := load45 h1
      rw [HU.out] at h2
      exact h2
    have hl5 := below_setRow hl4 (by omega : g ≤ g + 1) U.toArray
    clear A1 A2 A3 G1 G2 G3 hAz hBz hGz hlz
    go_wp2_with (first | (refine wpList_load_blk rfl 45 _ rfl g rfl 45 U _ ?_ Try.underlying45 rfl (by rw [Try.size45, hUl]) ?_; exact hfin) | (refine wpList_store_blk rfl 45 _ _ rfl (g + 1) Z U rfl rfl 45 ?_ (by rw [Try.size45, hUl]) (by rw [hZl, hUl]) hUo ?_; exact hB4))
    refine bodyPost_ret_by (v := .agg U.toArray) (results_cell 10 45 ⟨g + 1, 0, none⟩ Try.results49 rfl hR) rfl ⟨by rw [HU.out], ?_⟩
    rw [HG.out]; exact hl5
  · go_simp
    have hA1 := hA0.drew.alloc (.cells O.toArray 107)
    have hB1 := hB0.drew.alloc (.cells O.toArray 107)
    have hl1 := hl0.drew.alloc (Nat.le_of_lt hA0.drew.lt) (.cells O.toArray 107)
    have hG1 : Blk (w0.drew.alloc (.cells O.toArray 107)) w0.heap.size 107 O := by
      have := Blk.new w0.drew 107 O.toArray
      simpa using this
    have hgG : g + 1 < w0.heap.size := hB0.lt
    refine hK.out _ _ (HC.out _ hA1) (fun hHeld => ?_)
    clear hK K
    refine wpAnyH_ready (rs := [12]) (by kernel_rfl) (by simp) (AllReadyH.cons rfl (fun K hK => ?_) AllReadyH.nil)
    go_simp
    go_at_call 66
    refine (hqu _).mono ?_
    rintro e wx ⟨rfl, hbx⟩
    have hAy := hA1.below hbx hA1.lt
    have hBy := hB1.below hbx hB1.lt
    have hGy := hG1.below hbx hG1.lt
    have hly : Below g w wx := hl1.trans (hbx.mono (Nat.le_of_lt hA1.lt))
    refine hK.out _ _ (HC.out _ hAy) (fun hHeld => ?_)
    clear hK K
    clear hA0 hB0 hl0 hA1 hB1 hG1 hl1 hbx
    obtain ⟨G, hGd⟩ : ∃ G, w0.heap.size = G := ⟨_, rfl⟩
    rw [hGd] at hGy hgG ⊢
    clear hGd
    refine wpAnyH_ready (rs := [14]) (by kernel_rfl) (by simp) (AllReadyH.cons rfl (fun K hK => ?_) AllReadyH.nil)
    refine step_store_blk rfl 107 _ _ rfl G O [.int .u32 (qa (S a) (S b) (S c) (S d)), .int .u32 (qb (S a) (S b) (S c) (S d)), .int .u32 (qc (S a) (S b) (S c) (S d)), .int .u32 (qd (S a) (S b) (S c) (S d))] rfl rfl 107 hGy (by rw [Try.size107]; rfl) (by rw [hOl]; rfl) (by intro v hv; simp at hv; rcases hv with rfl | rfl | rfl | rfl <;> rfl) ?_
    have hAz := hAy.setRowOther (by omega : g ≠ G) [.int .u32 (qa (S a) (S b) (S c) (S d)), .int .u32 (qb (S a) (S b) (S c) (S d)), .int .u32 (qc (S a) (S b) (S c) (S d)), .int .u32 (qd (S a) (S b) (S c) (S d))].toArray
    have hBz := hBy.setRowOther (by omega : g + 1 ≠ G) [.int .u32 (qa (S a) (S b) (S c) (S d)), .int .u32 (qb (S a) (S b) (S c) (S d)), .int .u32 (qc (S a) (S b) (S c) (S d)), .int .u32 (qd (S a) (S b) (S c) (S d))].toArray
    have hGz := hGy.setRow (M := [.int .u32 (qa (S a) (S b) (S c) (S d)), .int .u32 (qb (S a) (S b) (S c) (S d)), .int .u32 (qc (S a) (S b) (S c) (S d)), .int .u32 (qd (S a) (S b) (S c) (S d))])
    have hlz := below_setRow hly (by omega : g ≤ G) [.int .u32 (qa (S a) (S b) (S c) (S d)), .int .u32 (qb (S a) (S b) (S c) (S d)), .int .u32 (qc (S a) (S b) (S c) (S d)), .int .u32 (qd (S a) (S b) (S c) (S d))].toArray
    refine hK.out _ _ (HC.out _ hAz) (fun hHeld => ?_)
    clear hK K
    go_simp
    refine wpAnyH_done (by kernel_rfl) ?_ _
    refine NoPanic.normal ?_
    clear hAy hBy hGy hly hqu HC hOl
    have hfin := Blk.four hAz a b c d
    have HQ : Hid (ws 16 (qS S a b c d) = ws 16 (qS S a b c d)) := rfl
    obtain ⟨U, hU⟩ : ∃ U, ws 16 (qS S a b c d) = U := ⟨_, rfl⟩
    rw [hU] at hfin HQ
    have HU : Hid (ws 16 (qS S a b c d) = U) := hU
    have hUl : U.length = 16 := by rw [← hU, ws_length]
    have hUo : ∀ v ∈ U, v.oneCell' = true := by rw [← hU]; exact ws_one _ _
    clear hU HQ
    generalize qa (S a) (S b) (S c) (S d) = va at hAz hBz hGz hlz hfin ⊢
    generalize qb (S a) (S b) (S c) (S d) = vb at hAz hBz hGz hlz hfin ⊢
    generalize qc (S a) (S b) (S c) (S d) = vc at hAz hBz hGz hlz hfin ⊢
    generalize qd (S a) (S b) (S c) (S d) = vd at hAz hBz hGz hlz hfin ⊢
    generalize World.setRow _ G _ = wz at hAz hBz hGz hlz hfin ⊢
    have g0 := hGz.cell (i := 0) rfl
    have A1 := hAz.setCell a (.int .u32 va)
    have G1 := hGz.setOther (by omega : G ≠ g) a (.int .u32 va)
    have g1 := G1.cell (i := 1) rfl
    have A2 := A1.setCell b (.int .u32 vb)
    have G2 := G1.setOther (by omega : G ≠ g) b (.int .u32 vb)
    have g2 := G2.cell (i := 2) rfl
    have A3 := A2.setCell c (.int .u32 vc)
    have G3 := G2.setOther (by omega : G ≠ g) c (.int .u32 vc)
    have g3 := G3.cell (i := 3) rfl
    have fz0 := hAz.frozen a
    have fz1 := A1.frozen b
    have fz2 := A2.frozen c
    have fz3 := A3.frozen d
    obtain ⟨u0, hu0⟩ := hAz.hasCell a (by simp [ws_length]; exact a16)
    obtain ⟨u1, hu1⟩ := A1.hasCell b (by simp [ws_length]; exact b16)
    obtain ⟨u2, hu2⟩ := A2.hasCell c (by simp [ws_length]; exact c16)
    obtain ⟨u3, hu3⟩ := A3.hasCell d (by simp [ws_length]; exact d16)
    have hB4 := (((hBz.setOther (by omega : g + 1 ≠ g) a (.int .u32 va)).setOther (by omega : g + 1 ≠ g) b (.int .u32 vb)).setOther (by omega : g + 1 ≠ g) c (.int .u32 vc)).setOther (by omega : g + 1 ≠ g) d (.int .u32 vd)
    have hl4 : Below g w ((((wz.setCell ⟨g, a, none⟩ (.int .u32 va)).setCell ⟨g, b, none⟩ (.int .u32 vb)).setCell ⟨g, c, none⟩ (.int .u32 vc)).setCell ⟨g, d, none⟩ (.int .u32 vd)) := (((hlz.setCell (Nat.le_refl _) _).setCell (Nat.le_refl _) _).setCell (Nat.le_refl _) _).setCell (Nat.le_refl _) _
    have hR : (loadVar 45 ⟨g + 1, 0, none⟩).run Try.prog (((((wz.setCell ⟨g, a, none⟩ (.int .u32 va)).setCell ⟨g, b, none⟩ (.int .u32 vb)).setCell ⟨g, c, none⟩ (.int .u32 vc)).setCell ⟨g, d, none⟩ (.int .u32 vd)).setRow (g + 1) U.toArray) = .ok (.agg U.toArray) (((((wz.setCell ⟨g, a, none⟩ (.int .u32 va)).setCell ⟨g, b, none⟩ (.int .u32 vb)).setCell ⟨g, c, none⟩ (.int .u32 vc)).setCell ⟨g, d, none⟩ (.int .u32 vd)).setRow (g + 1) U.toArray) := by
      have h1 : Blk (((((wz.setCell ⟨g, a, none⟩ (.int .u32 va)).setCell ⟨g, b, none⟩ (.int .u32 vb)).setCell ⟨g, c, none⟩ (.int .u32 vc)).setCell ⟨g, d, none⟩ (.int .u32 vd)).setRow (g + 1) U.toArray) (g + 1) 45 (ws 16 (qS S a b c d)) := by rw [HU.out]; exact hB4.setRow
      have h2 := load45 h1
      rw [HU.out] at h2
      exact h2
    have hl5 := below_setRow hl4 (by omega : g ≤ g + 1) U.toArray
    clear A1 A2 A3 G1 G2 G3 hAz hBz hGz hlz
    go_wp2_with (first | (refine wpList_load_blk rfl 45 _ rfl g rfl 45 U _ ?_ Try.underlying45 rfl (by rw [Try.size45, hUl]) ?_; exact hfin) | (refine wpList_store_blk rfl 45 _ _ rfl (g + 1) Z U rfl rfl 45 ?_ (by rw [Try.size45, hUl]) (by rw [hZl, hUl]) hUo ?_; exact hB4))
    refine bodyPost_ret_by (v := .agg U.toArray) (results_cell 10 45 ⟨g + 1, 0, none⟩ Try.results49 rfl hR) rfl ⟨by rw [HU.out], ?_⟩
    rw [HG.out]; exact hl5
end Go.Proofs.Ytnpebabffnjmmaa
/- What the document's block of a key, a nonce and a counter is. -/
namespace Go.Proofs.Ytnpebabffnjmmaa
open Go.RowKit Go.PlainAid
set_option linter.unusedVariables false

theorem set16 (Z : List Value) (h : Z.length = 16) (v0 v1 v2 v3 v4 v5 v6 v7 v8 v9 v10 v11 v12 v13 v14 v15 : Value) : (((((((((((((((Z.set 0 v0).set 1 v1).set 2 v2).set 3 v3).set 4 v4).set 5 v5).set 6 v6).set 7 v7).set 8 v8).set 9 v9).set 10 v10).set 11 v11).set 12 v12).set 13 v13).set 14 v14).set 15 v15 = [v0, v1, v2, v3, v4, v5, v6, v7, v8, v9, v10, v11, v12, v13, v14, v15] := by
  match Z, h with
  | [a0, a1, a2, a3, a4, a5, a6, a7, a8, a9, a10, a11, a12, a13, a14, a15], _ => rfl
/-- A row stored whole beside another one. -/
theorem wpList_store_next {ops : Array Oper} {rest : List Oper} {o : Oper} {a : Act} {w w0 : World} {Q : Exit → Act → World → Prop} {g B : Nat} {R R' f : Nat → Int} (hgd : o.guard = none) (x y : Operand) (ho : o.op = .store 45 x y)
    (hx : a.eval x = .pointer (some ⟨g + 1, 0, none⟩)) (hy : a.eval y = .agg (ws 16 R').toArray) (hn : Blk w (g + 1) 45 (ws 16 R)) (hs : Blk w g 45 (ws 16 f)) (hl : Below B w0 w) (hB : B ≤ g)
    (h : ∀ w', Blk w' (g + 1) 45 (ws 16 R') → Blk w' g 45 (ws 16 f) → Below B w0 w' → wpList Try.prog ops Q rest (a.put o.dst undef) w') : wpList Try.prog ops Q (o :: rest) a w :=
  wpList_store_blk hgd 45 x y ho (g + 1) (ws 16 R) (ws 16 R') hx hy 45 hn (by rw [Try.size45, ws_length]) (by rw [ws_length, ws_length]) (ws_one _ _)
    (h _ hn.setRow (hs.setRowOther (by omega) _) (below_setRow hl (by omega) _))
theorem refQ_int (S : Nat → Int) (a b c d : Int) (ha : 0 ≤ a ∧ a < 16) (hb : 0 ≤ b ∧ b < 16) (hc : 0 ≤ c ∧ c < 16) (hd : 0 ≤ d ∧ d < 16) (w : World) :
    Calls Try.prog 49 #[.agg (ws 16 S).toArray, .int .i64 a, .int .i64 b, .int .i64 c, .int .i64 d] w fun e w' => e = .returned (.agg (ws 16 (qS S a.toNat b.toNat c.toNat d.toNat)).toArray) ∧ Below w.heap.size w w' := by
  have h := refQ_any S a.toNat b.toNat c.toNat d.toNat (by omega) (by omega) (by omega) (by omega) w
  rw [Int.toNat_of_nonneg ha.1, Int.toNat_of_nonneg hb.1, Int.toNat_of_nonneg hc.1, Int.toNat_of_nonneg hd.1] at h
  exact h
theorem refBlock_bad (key nonce : ByteArray) (c : Int) (hk' : key.size ≤ maxLen) (hn' : nonce.size ≤ maxLen) (h : key.size ≠ 32 ∨ nonce.size ≠ 12) (w : World) :
    Calls Try.prog 32 #[.string key, .string nonce, .int .u32 c] w fun e w' => e = .returned (.tuple #[.string ⟨#[]⟩, .int .i64 7]) ∧ w' = w := by
  unfold maxLen at hk' hn'
  by_cases hk : key.size = 32
  · have hn : nonce.size ≠ 12 := by
      rcases h with h | h
      · exact absurd hk h
      · exact h
    have hkI : (((key.size : Nat) : Int) != 32) = false := by simp; omega
    have hnI : (((nonce.size : Nat) : Int) != 12) = true := by simp; omega
    clear hk hn h
    go_enter Try.func32, Try.ntmps32
    go_wp2_with fail
    go_ret2
    exact ⟨rfl, rfl⟩
  · have hkI : (((key.size : Nat) : Int) != 32) = true := by simp; omega
    clear hk h
    go_enter Try.func32, Try.ntmps32
    go_wp2_with fail
    go_ret2
    exact ⟨rfl, rfl⟩

set_option maxHeartbeats 4000000 in
set_option maxRecDepth 20000 in
theorem refBlock_ok (key nonce : ByteArray) (c : Int) (hk : key.size = 32) (hn : nonce.size = 12) (hc : W32 c) (w : World) :
    Calls Try.prog 32 #[.string key, .string nonce, .int .u32 c] w fun e w' => e = .returned (.tuple #[.string (blkB (stI key nonce c)), .int .i64 0]) ∧ Below w.heap.size w w' := by
  have hzr := zero45_run
  obtain ⟨Z, hZ⟩ : ∃ Z, ws 16 (fun _ => 0) = Z := ⟨_, rfl⟩
  rw [hZ] at hzr
  have hZl : Z.length = 16 := by rw [← hZ, ws_length]
  clear hZ
  have hZn : (Z = []) = False := by
    apply eq_false
    intro e
    rw [e] at hZl
    cases hZl
  obtain ⟨L, hL⟩ : ∃ L, ws 16 (stI key nonce c) = L := ⟨_, rfl⟩
  have hset : (((((((((((((((Z.set 0 (.int .u32 1634760805)).set 1 (.int .u32 857760878)).set 2 (.int .u32 2036477234)).set 3 (.int .u32 1797285236)).set 4 (.int .u32 (wordsL le4 key 0))).set 5 (.int .u32 (wordsL le4 key 1))).set 6 (.int .u32 (wordsL le4 key 2))).set 7 (.int .u32 (wordsL le4 key 3))).set 8 (.int .u32 (wordsL le4 key 4))).set 9 (.int .u32 (wordsL le4 key 5))).set 10 (.int .u32 (wordsL le4 key 6))).set 11 (.int .u32 (wordsL le4 key 7))).set 12 (.int .u32 c)).set 13 (.int .u32 (wordsL le4 nonce 0))).set 14 (.int .u32 (wordsL le4 nonce 1))).set 15 (.int .u32 (wordsL le4 nonce 2)) = L := by
    rw [set16 Z hZl, ← hL]; rfl
  have HL : Hid (ws 16 (stI key nonce c) = L) := hL
  have hLl : L.length = 16 := by rw [← hL, ws_length]
  have hLo : ∀ v ∈ L, v.oneCell' = true := by rw [← hL]; exact ws_one _ _
  clear hL
  have hkI : (((key.size : Nat) : Int) != 32) = false := by simp; omega
  have hnI : (((nonce.size : Nat) : Int) != 12) = false := by simp; omega
  have hWk := fun w => refWords_little key w (by omega) (by omega)
  have hWn := fun w => refWords_little nonce w (by omega) (by omega)
  rw [hk] at hWk
  rw [hn] at hWn
  have HKN : Hid (key.size = 32 ∧ nonce.size = 12) := ⟨hk, hn⟩
  have hks : key.size ≤ 32 := by omega
  have hns : nonce.size ≤ 12 := by omega
  clear hk hn
  go_enter Try.func32, Try.ntmps32
  go_wp2_with fail
  refine (hWk w).mono ?_
  rintro e w1 ⟨v1, rfl, ho1, hb1⟩
  go_wp2_with fail
  refine (hWn w1).mono ?_
  rintro e w2 ⟨v2, rfl, ho2, hb2⟩
  have ho1' := owns_below ho1 hb2
  obtain ⟨gk, capk, rfl, hgk1, hgk2⟩ := ho1'.form (by decide)
  obtain ⟨gn, capn, rfl, hgn1, hgn2⟩ := ho2.form (by decide)
  have hl2 : Below w.heap.size w w2 := hb1.trans (hb2.mono hb1.size)
  have cK : ∀ i, i < 8 → w2.cell? ⟨gk, i, none⟩ = some (.int .u32 (wordsL le4 key i)) := fun i hi => by
    rw [World.ownsRow.cellAt ho1' i (by omega)]
    unfold wordsF
    rw [show 32 / 4 = 8 from rfl]
    simp [hi]
  have cN : ∀ i, i < 3 → w2.cell? ⟨gn, i, none⟩ = some (.int .u32 (wordsL le4 nonce i)) := fun i hi => by
    rw [World.ownsRow.cellAt ho2 i (by omega)]
    unfold wordsF
    rw [show 12 / 4 = 3 from rfl]
    simp [hi]
  have hgk : gk < w2.heap.size := cell_lt (cK 0 (by decide))
  have hgn : gn < w2.heap.size := cell_lt (cN 0 (by decide))
  have hSK : ∀ z, Below w2.heap.size w2 z → z.cell? ⟨gk, 0, none⟩ = some (.int .u32 (wordsL le4 key 0)) ∧ z.cell? ⟨gk, 1, none⟩ = some (.int .u32 (wordsL le4 key 1)) ∧ z.cell? ⟨gk, 2, none⟩ = some (.int .u32 (wordsL le4 key 2)) ∧ z.cell? ⟨gk, 3, none⟩ = some (.int .u32 (wordsL le4 key 3)) ∧ z.cell? ⟨gk, 4, none⟩ = some (.int .u32 (wordsL le4 key 4)) ∧ z.cell? ⟨gk, 5, none⟩ = some (.int .u32 (wordsL le4 key 5)) ∧ z.cell? ⟨gk, 6, none⟩ = some (.int .u32 (wordsL le4 key 6)) ∧ z.cell? ⟨gk, 7, none⟩ = some (.int .u32 (wordsL le4 key 7)) ∧ z.cell? ⟨gn, 0, none⟩ = some (.int .u32 (wordsL le4 nonce 0)) ∧ z.cell? ⟨gn, 1, none⟩ = some (.int .u32 (wordsL le4 nonce 1)) ∧ z.cell? ⟨gn, 2, none⟩ = some (.int .u32 (wordsL le4 nonce 2)) := fun z hb =>
    ⟨(hb.cell (p := ⟨gk, 0, none⟩) hgk).trans (cK 0 (by decide)), (hb.cell (p := ⟨gk, 1, none⟩) hgk).trans (cK 1 (by decide)), (hb.cell (p := ⟨gk, 2, none⟩) hgk).trans (cK 2 (by decide)), (hb.cell (p := ⟨gk, 3, none⟩) hgk).trans (cK 3 (by decide)), (hb.cell (p := ⟨gk, 4, none⟩) hgk).trans (cK 4 (by decide)), (hb.cell (p := ⟨gk, 5, none⟩) hgk).trans (cK 5 (by decide)), (hb.cell (p := ⟨gk, 6, none⟩) hgk).trans (cK 6 (by decide)), (hb.cell (p := ⟨gk, 7, none⟩) hgk).trans (cK 7 (by decide)), (hb.cell (p := ⟨gn, 0, none⟩) hgn).trans (cN 0 (by decide)), (hb.cell (p := ⟨gn, 1, none⟩) hgn).trans (cN 1 (by decide)), (hb.cell (p := ⟨gn, 2, none⟩) hgn).trans (cN 2 (by decide))⟩
  have HSK : Hid (∀ z, Below w2.heap.size w2 z → z.cell? ⟨gk, 0, none⟩ = some (.int .u32 (wordsL le4 key 0)) ∧ z.cell? ⟨gk, 1, none⟩ = some (.int .u32 (wordsL le4 key 1)) ∧ z.cell? ⟨gk, 2, none⟩ = some (.int .u32 (wordsL le4 key 2)) ∧ z.cell? ⟨gk, 3, none⟩ = some (.int .u32 (wordsL le4 key 3)) ∧ z.cell? ⟨gk, 4, none⟩ = some (.int .u32 (wordsL le4 key 4)) ∧ z.cell? ⟨gk, 5, none⟩ = some (.int .u32 (wordsL le4 key 5)) ∧ z.cell? ⟨gk, 6, none⟩ = some (.int .u32 (wordsL le4 key 6)) ∧ z.cell? ⟨gk, 7, none⟩ = some (.int .u32 (wordsL le4 key 7)) ∧ z.cell? ⟨gn, 0, none⟩ = some (.int .u32 (wordsL le4 nonce 0)) ∧ z.cell? ⟨gn, 1, none⟩ = some (.int .u32 (wordsL le4 nonce 1)) ∧ z.cell? ⟨gn, 2, none⟩ = some (.int .u32 (wordsL le4 nonce 2))) := hSK
  clear hSK ho1 ho1' ho2 hb1 hb2 hWk hWn cK cN hgk1 hgk2 hgn1 hgn2 hgk hgn
  go_wp2_with fail
  refine wp_region_noPanic ?_
  refine wp_region_held_drew (S := fun z => z.cell? ⟨gk, 0, none⟩ = some (.int .u32 (wordsL le4 key 0)) ∧ z.cell? ⟨gk, 1, none⟩ = some (.int .u32 (wordsL le4 key 1)) ∧ z.cell? ⟨gk, 2, none⟩ = some (.int .u32 (wordsL le4 key 2)) ∧ z.cell? ⟨gk, 3, none⟩ = some (.int .u32 (wordsL le4 key 3)) ∧ z.cell? ⟨gk, 4, none⟩ = some (.int .u32 (wordsL le4 key 4)) ∧ z.cell? ⟨gk, 5, none⟩ = some (.int .u32 (wordsL le4 key 5)) ∧ z.cell? ⟨gk, 6, none⟩ = some (.int .u32 (wordsL le4 key 6)) ∧ z.cell? ⟨gk, 7, none⟩ = some (.int .u32 (wordsL le4 key 7)) ∧ z.cell? ⟨gn, 0, none⟩ = some (.int .u32 (wordsL le4 nonce 0)) ∧ z.cell? ⟨gn, 1, none⟩ = some (.int .u32 (wordsL le4 nonce 1)) ∧ z.cell? ⟨gn, 2, none⟩ = some (.int .u32 (wordsL le4 nonce 2))) (by kernel_rfl) (HSK.out _ (Below.refl _ _).drew) (fun hHeld => ?_)
  refine wpAnyH_take (i := 0) (v := ?_) rfl (by kernel_rfl) (by kernel_rfl) (by kernel_rfl) (fun _ _ _ h => h) (Or.inl ⟨by rfl, ?_⟩) (by assumption) ?_
  rotate_left
  · intro w hSw; go_simp; try with_reducible rfl
  go_simp
  refine wpAnyH_take (i := 1) (v := ?_) rfl (by kernel_rfl) (by kernel_rfl) (by kernel_rfl) (fun _ _ _ h => h) (Or.inl ⟨by rfl, ?_⟩) (by assumption) ?_
  rotate_left
  · intro w hSw; go_simp; try with_reducible rfl
  go_simp
  refine wpAnyH_take (i := 3) (v := ?_) rfl (by kernel_rfl) (by kernel_rfl) (by kernel_rfl) (fun _ _ _ h => h) (Or.inl ⟨by rfl, ?_⟩) (by assumption) ?_
  rotate_left
  · intro w hSw; go_simp; try with_reducible rfl
  go_simp
  refine wpAnyH_take (i := 4) (v := ?_) rfl (by kernel_rfl) (by kernel_rfl) (by kernel_rfl) (fun _ _ _ h => h) (Or.inl ⟨by rfl, ?_⟩) (by assumption) ?_
  rotate_left
  · intro w hSw; go_simp; try with_reducible rfl
  go_simp
  refine wpAnyH_take (i := 6) (v := ?_) rfl (by kernel_rfl) (by kernel_rfl) (by kernel_rfl) (fun _ _ _ h => h) (Or.inl ⟨by rfl, ?_⟩) (by assumption) ?_
  rotate_left
  · intro w hSw; go_simp; try with_reducible rfl
  go_simp
  refine wpAnyH_take (i := 7) (v := ?_) rfl (by kernel_rfl) (by kernel_rfl) (by kernel_rfl) (fun _ _ _ h => h) (Or.inl ⟨by rfl, ?_⟩) (by assumption) ?_
  rotate_left
  · intro w hSw; go_simp; try with_reducible rfl
  go_simp
  refine wpAnyH_take (i := 9) (v := ?_) rfl (by kernel_rfl) (by kernel_rfl) (by kernel_rfl) (fun _ _ _ h => h) (Or.inl ⟨by rfl, ?_⟩) (by assumption) ?_
  rotate_left
  · intro w hSw; go_simp; try with_reducible rfl
  go_simp
  refine wpAnyH_take (i := 10) (v := ?_) rfl (by kernel_rfl) (by kernel_rfl) (by kernel_rfl) (fun _ _ _ h => h) (Or.inl ⟨by rfl, ?_⟩) (by assumption) ?_
  rotate_left
  · intro w hSw; go_simp; try with_reducible rfl
  go_simp
  refine wpAnyH_take (i := 12) (v := ?_) rfl (by kernel_rfl) (by kernel_rfl) (by kernel_rfl) (fun _ _ _ h => h) (Or.inl ⟨by rfl, ?_⟩) (by assumption) ?_
  rotate_left
  · intro w hSw; go_simp; try with_reducible rfl
  go_simp
  refine wpAnyH_take (i := 13) (v := ?_) rfl (by kernel_rfl) (by kernel_rfl) (by kernel_rfl) (fun _ _ _ h => h) (Or.inl ⟨by rfl, ?_⟩) (by assumption) ?_
  rotate_left
  · intro w hSw; go_simp; try with_reducible rfl
  go_simp
  refine wpAnyH_take (i := 15) (v := ?_) rfl (by kernel_rfl) (by kernel_rfl) (by kernel_rfl) (fun _ _ _ h => h) (Or.inl ⟨by rfl, ?_⟩) (by assumption) ?_
  rotate_left
  · intro w hSw; go_simp; try with_reducible rfl
  go_simp
  refine wpAnyH_take (i := 16) (v := ?_) rfl (by kernel_rfl) (by kernel_rfl) (by kernel_rfl) (fun _ _ _ h => h) (Or.inl ⟨by rfl, ?_⟩) (by assumption) ?_
  rotate_left
  · intro w hSw; go_simp; try with_reducible rfl
  go_simp
  refine wpAnyH_take (i := 18) (v := ?_) rfl (by kernel_rfl) (by kernel_rfl) (by kernel_rfl) (fun _ _ _ h => h) (Or.inl ⟨by rfl, ?_⟩) (by assumption) ?_
  rotate_left
  · intro w hSw; go_simp; try with_reducible rfl
  go_simp
  refine wpAnyH_take (i := 19) (v := ?_) rfl (by kernel_rfl) (by kernel_rfl) (by kernel_rfl) (fun _ _ _ h => h) (Or.inl ⟨by rfl, ?_⟩) (by assumption) ?_
  rotate_left
  · intro w hSw; go_simp; try with_reducible rfl
  go_simp
  refine wpAnyH_take (i := 21) (v := ?_) rfl (by kernel_rfl) (by kernel_rfl) (by kernel_rfl) (fun _ _ _ h => h) (Or.inl ⟨by rfl, ?_⟩) (by assumption) ?_
  rotate_left
  · intro w hSw; go_simp; try with_reducible rfl
  go_simp
  refine wpAnyH_take (i := 22) (v := ?_) rfl (by kernel_rfl) (by kernel_rfl) (by kernel_rfl) (fun _ _ _ h => h) (Or.inl ⟨by rfl, ?_⟩) (by assumption) ?_
  rotate_left
  · intro w hSw; go_simp; try with_reducible rfl
  go_simp
  refine wpAnyH_take (i := 24) (v := ?_) rfl (by kernel_rfl) (by kernel_rfl) (by kernel_rfl) (fun _ _ _ h => h) (Or.inl ⟨by rfl, ?_⟩) (by assumption) ?_
  rotate_left
  · intro w hSw; go_simp; try with_reducible rfl
  go_simp
  refine wpAnyH_take (i := 25) (v := ?_) rfl (by kernel_rfl) (by kernel_rfl) (by kernel_rfl) (fun _ _ _ h => h) (Or.inl ⟨by rfl, ?_⟩) (by assumption) ?_
  rotate_left
  · intro w hSw; go_simp; try with_reducible rfl
  go_simp
  refine wpAnyH_take (i := 26) (v := ?_) rfl (by kernel_rfl) (by kernel_rfl) (by kernel_rfl) (fun _ _ _ h => h) (Or.inl ⟨by rfl, ?_⟩) (by assumption) ?_
  rotate_left
  · intro w hSw; go_simp; try with_reducible rfl
  go_simp
  refine wpAnyH_take (i := 28) (v := ?_) rfl (by kernel_rfl) (by kernel_rfl) (by kernel_rfl) (fun _ _ _ h => h) (Or.inl ⟨by rfl, ?_⟩) (by assumption) ?_
  rotate_left
  · intro w hSw; go_simp; try with_reducible rfl
  go_simp
  refine wpAnyH_take (i := 29) (v := ?_) rfl (by kernel_rfl) (by kernel_rfl) (by kernel_rfl) (fun _ _ _ h => h) (Or.inl ⟨by rfl, ?_⟩) (by assumption) ?_
  rotate_left
  · intro w hSw; go_simp; try with_reducible rfl
  go_simp
  refine wpAnyH_take (i := 31) (v := ?_) rfl (by kernel_rfl) (by kernel_rfl) (by kernel_rfl) (fun _ _ _ h => h) (Or.inl ⟨by rfl, ?_⟩) (by assumption) ?_
  rotate_left
  · intro w hSw; go_simp; try with_reducible rfl
  go_simp
  refine wpAnyH_take (i := 32) (v := ?_) rfl (by kernel_rfl) (by kernel_rfl) (by kernel_rfl) (fun _ _ _ h => h) (Or.inl ⟨by rfl, ?_⟩) (by assumption) ?_
  rotate_left
  · intro w hSw; go_simp; try with_reducible rfl
  go_simp
  refine wpAnyH_take (i := 2) (v := ?_) rfl (by kernel_rfl) (by kernel_rfl) (by kernel_rfl) (fun _ _ _ h => h) (Or.inl ⟨by rfl, ?_⟩) (by assumption) ?_
  rotate_left
  · rintro w ⟨s0, s1, s2, s3, s4, s5, s6, s7, s8, s9, s10⟩; go_simp; try with_reducible rfl
  go_simp
  refine wpAnyH_take (i := 5) (v := ?_) rfl (by kernel_rfl) (by kernel_rfl) (by kernel_rfl) (fun _ _ _ h => h) (Or.inl ⟨by rfl, ?_⟩) (by assumption) ?_
  rotate_left
  · rintro w ⟨s0, s1, s2, s3, s4, s5, s6, s7, s8, s9, s10⟩; go_simp; try with_reducible rfl
  go_simp
  refine wpAnyH_take (i := 8) (v := ?_) rfl (by kernel_rfl) (by kernel_rfl) (by kernel_rfl) (fun _ _ _ h => h) (Or.inl ⟨by rfl, ?_⟩) (by assumption) ?_
  rotate_left
  · rintro w ⟨s0, s1, s2, s3, s4, s5, s6, s7, s8, s9, s10⟩; go_simp; try with_reducible rfl
  go_simp
  refine wpAnyH_take (i := 11) (v := ?_) rfl (by kernel_rfl) (by kernel_rfl) (by kernel_rfl) (fun _ _ _ h => h) (Or.inl ⟨by rfl, ?_⟩) (by assumption) ?_
  rotate_left
  · rintro w ⟨s0, s1, s2, s3, s4, s5, s6, s7, s8, s9, s10⟩; go_simp; try with_reducible rfl
  go_simp
  refine wpAnyH_take (i := 14) (v := ?_) rfl (by kernel_rfl) (by kernel_rfl) (by kernel_rfl) (fun _ _ _ h => h) (Or.inl ⟨by rfl, ?_⟩) (by assumption) ?_
  rotate_left
  · rintro w ⟨s0, s1, s2, s3, s4, s5, s6, s7, s8, s9, s10⟩; go_simp; try with_reducible rfl
  go_simp
  refine wpAnyH_take (i := 17) (v := ?_) rfl (by kernel_rfl) (by kernel_rfl) (by kernel_rfl) (fun _ _ _ h => h) (Or.inl ⟨by rfl, ?_⟩) (by assumption) ?_
  rotate_left
  · rintro w ⟨s0, s1, s2, s3, s4, s5, s6, s7, s8, s9, s10⟩; go_simp; try with_reducible rfl
  go_simp
  refine wpAnyH_take (i := 20) (v := ?_) rfl (by kernel_rfl) (by kernel_rfl) (by kernel_rfl) (fun _ _ _ h => h) (Or.inl ⟨by rfl, ?_⟩) (by assumption) ?_
  rotate_left
  · rintro w ⟨s0, s1, s2, s3, s4, s5, s6, s7, s8, s9, s10⟩; go_simp; try with_reducible rfl
  go_simp
  refine wpAnyH_take (i := 23) (v := ?_) rfl (by kernel_rfl) (by kernel_rfl) (by kernel_rfl) (fun _ _ _ h => h) (Or.inl ⟨by rfl, ?_⟩) (by assumption) ?_
  rotate_left
  · rintro w ⟨s0, s1, s2, s3, s4, s5, s6, s7, s8, s9, s10⟩; go_simp; try with_reducible rfl
  go_simp
  refine wpAnyH_take (i := 27) (v := ?_) rfl (by kernel_rfl) (by kernel_rfl) (by kernel_rfl) (fun _ _ _ h => h) (Or.inl ⟨by rfl, ?_⟩) (by assumption) ?_
  rotate_left
  · rintro w ⟨s0, s1, s2, s3, s4, s5, s6, s7, s8, s9, s10⟩; go_simp; try with_reducible rfl
  go_simp
  refine wpAnyH_take (i := 30) (v := ?_) rfl (by kernel_rfl) (by kernel_rfl) (by kernel_rfl) (fun _ _ _ h => h) (Or.inl ⟨by rfl, ?_⟩) (by assumption) ?_
  rotate_left
  · rintro w ⟨s0, s1, s2, s3, s4, s5, s6, s7, s8, s9, s10⟩; go_simp; try with_reducible rfl
  go_simp
  refine wpAnyH_take (i := 33) (v := ?_) rfl (by kernel_rfl) (by kernel_rfl) (by kernel_rfl) (fun _ _ _ h => h) (Or.inl ⟨by rfl, ?_⟩) (by assumption) ?_
  rotate_left
  · rintro w ⟨s0, s1, s2, s3, s4, s5, s6, s7, s8, s9, s10⟩; go_simp; try with_reducible rfl
  go_simp
  refine wpAnyH_take (i := 34) (v := ?_) rfl (by kernel_rfl) (by kernel_rfl) (by kernel_rfl) (fun _ _ _ h => h) (Or.inl ⟨by rfl, ?_⟩) (by assumption) ?_
  rotate_left
  · intro w hSw; go_simp; try with_reducible rfl
  go_simp
  have hF1 : Blk (w2.alloc (.cells Z.toArray 45)).drew w2.heap.size 45 Z := by
    have := (Blk.new w2 45 Z.toArray).drew
    simpa using this
  have hb35 : Below w2.heap.size w2 (w2.alloc (.cells Z.toArray 45)).drew := ((Below.refl _ _).alloc (Nat.le_refl _) _).drew
  have hb36 : Below w2.heap.size w2 ((w2.alloc (.cells Z.toArray 45)).drew.setRow w2.heap.size L.toArray) := below_setRow hb35 (Nat.le_refl _) _
  have hF2 : Blk ((w2.alloc (.cells Z.toArray 45)).drew.setRow w2.heap.size L.toArray) w2.heap.size 45 L := hF1.setRow
  refine wpAnyH_ready (rs := [35]) (by kernel_rfl) (by simp) (AllReadyH.cons rfl (fun K hK => ?_) AllReadyH.nil)
  go_simp
  refine hK.out _ _ (HSK.out _ hb35) (fun hHeld => ?_)
  clear hK K
  refine wpAnyH_ready (rs := [36]) (by kernel_rfl) (by simp) (AllReadyH.cons rfl (fun K hK => ?_) AllReadyH.nil)
  refine step_store_blk rfl 45 _ _ rfl w2.heap.size Z L rfl rfl 45 hF1 (by rw [Try.size45, hLl]) (by rw [hZl, hLl]) hLo ?_
  refine hK.out _ _ (HSK.out _ hb36) (fun hHeld => ?_)
  clear hK K hHeld
  go_simp
  refine wpAnyH_done (by kernel_rfl) ?_ _
  refine NoPanic.normal ?_
  clear HSK hF1 hb35 hset hkI hnI
  have hl3 : Below w.heap.size w ((w2.alloc (.cells Z.toArray 45)).drew.setRow w2.heap.size L.toArray) := hl2.trans (hb36.mono hl2.size)
  have hsz3 : ((w2.alloc (.cells Z.toArray 45)).drew.setRow w2.heap.size L.toArray).heap.size = w2.heap.size + 1 := by simp [World.setRow]
  have hgw := hl2.size
  clear hl2 hb36
  generalize (w2.alloc (.cells Z.toArray 45)).drew.setRow w2.heap.size L.toArray = w3 at hF2 hl3 hsz3 ⊢
  obtain ⟨g, hgd⟩ : ∃ g, w2.heap.size = g := ⟨_, rfl⟩
  rw [hgd] at hF2 hsz3 hgw ⊢
  clear hgd
  have hS1 : Blk (w3.alloc (.cells Z.toArray 45)) (g + 1) 45 Z := by
    have := Blk.new w3 45 Z.toArray
    rw [hsz3] at this
    simpa using this
  have hS2 : Blk ((w3.alloc (.cells Z.toArray 45)).setRow (g + 1) L.toArray) (g + 1) 45 L := hS1.setRow
  have hF3 : Blk ((w3.alloc (.cells Z.toArray 45)).setRow (g + 1) L.toArray) g 45 L := (hF2.alloc _).setRowOther (by omega) _
  have hl4 : Below w.heap.size w ((w3.alloc (.cells Z.toArray 45)).setRow (g + 1) L.toArray) := below_setRow (hl3.alloc (by omega) _) (by omega) _
  go_wp2_with (first | (refine wpList_load_blk rfl 45 _ rfl g rfl 45 L _ ?_ Try.underlying45 rfl (by rw [Try.size45, hLl]) ?_; exact hF2) | (refine wpList_store_blk rfl 45 _ _ rfl (g + 1) Z L rfl rfl 45 ?_ (by rw [Try.size45, hLl]) (by rw [hZl, hLl]) hLo ?_; first | exact hS1 | (rw [hsz3]; exact hS1)))
  clear hS1 hF2 hl3 hsz3 hzr hZn
  generalize (w3.alloc (.cells Z.toArray 45)).setRow (g + 1) L.toArray = w4 at hS2 hF3 hl4 ⊢
  rw [← HL.out] at hS2 hF3
  clear HL hLl hLo hZl
  obtain ⟨f, hf⟩ : ∃ f, stI key nonce c = f := ⟨_, rfl⟩
  rw [hf] at hS2 hF3
  have HF : Hid (stI key nonce c = f) := hf
  clear hf
  go_loopw [14] (fun i wr => ∃ k : Nat, k ≤ 10 ∧ i = .int .i64 k ∧ Blk wr (g + 1) 45 (ws 16 (rn f (2 * k))) ∧ Blk wr g 45 (ws 16 f) ∧ Below w.heap.size w wr) (fun i _ => (10 - intOf i).toNat)
  case atStart => exact ⟨0, by omega, rfl, hS2, hF3, hl4⟩
  case round =>
    clear hS2 hF3 hl4
    obtain ⟨k, hk, rfl, hn, hs, hl⟩ := hrel
    by_cases hlt : k < 10
    · have hlt' : (k : Int) < 10 := by omega
      have HQ : Hid (rn f (2 * (k + 1)) = qS (qS (qS (qS (qS (qS (qS (qS (rn f (2 * k)) 0 4 8 12) 1 5 9 13) 2 6 10 14) 3 7 11 15) 0 5 10 15) 1 6 11 12) 2 7 8 13) 3 4 9 14) := by rw [rn_two, rq0, rq1]; exact rfl
      generalize rn f (2 * k) = R at hn HQ
      go_wp2_with (first
        | (refine wpList_load_blk rfl 45 _ rfl (g + 1) rfl 45 (ws 16 ?_) _ ?_ Try.underlying45 rfl ?_ ?_; rotate_left; exact hn; (rw [Try.size45, ws_length]))
        | (go_at_call 49; refine (refQ_int _ _ _ _ _ (by decide) (by decide) (by decide) (by decide) _).mono ?_; rintro e wy ⟨rfl, hby⟩; replace hl := hl.trans (hby.mono hl.size); replace hs := hs.below hby hs.lt; replace hn := hn.below hby hn.lt; clear hby)
        | (refine wpList_store_next (g := g) rfl _ _ rfl rfl rfl hn hs hl hgw ?_; intro wz hn hs hl))
      go_roundw
      case rel => exact ⟨k + 1, by omega, by go_num, by rw [HQ.out]; exact hn, hs, hl⟩
      case measure => simp [intOf]; omega
    · have hk10 : k = 10 := by omega
      subst hk10
      rw [show ((10 : Nat) : Int) = (10 : Int) from rfl]
      obtain ⟨i0, hi, hz0, hz1, hz2⟩ := info_parts Try.info42
      have HO : Hid (∀ i, out f i = (rn f 20 i + f i) % 4294967296) := fun i => rfl
      rw [show 2 * 10 = 20 from rfl] at hn
      generalize rn f 20 = R at hn HO
      go_wp2_with fail
      obtain ⟨B, hBd⟩ : ∃ B, wr.heap.size = B := ⟨_, rfl⟩
      have hgB : g + 1 < B := by rw [← hBd]; exact hn.lt
      have hwB : w.heap.size ≤ B := by rw [← hBd]; exact hl.size
      go_loopw [15, 16] (fun v i wz => ∃ q : Nat, q ≤ 16 ∧ i = .int .i64 q ∧ wz.ownsRow B 42 1 v q (ws q (out f)) ∧ B ≤ wz.heap.size ∧ Below B wr wz) (fun _ i _ => (16 - intOf i).toNat)
      case atStart => exact ⟨0, by omega, rfl, World.ownsRow_nil _ _ _ _, by omega, Below.refl _ _⟩
      case round =>
        rename World => wz
        rename_i v15
        obtain ⟨q, hq, rfl, hown, hBz, hbz⟩ := hrel
        by_cases hlt2 : q < 16
        · have hq' : (q : Int) < 16 := by omega
          have hnz := hn.below hbz hgB
          have hsz := hs.below hbz (by omega)
          have cn := hnz.cell (ws_at 16 R q hlt2)
          have cs := hsz.cell (ws_at 16 f q hlt2)
          obtain ⟨V, hV⟩ : ∃ V, IntKind.u32.wrap (R q + f q) = V := ⟨_, rfl⟩
          have HV : Hid (out f q = V) := by rw [← hV, IntKind.wrap_u32']; exact HO.out q
          obtain ⟨v', w', hrun, hown', hgrow, -, -⟩ := run_append_own_at (P := Try.prog) ((wz.alloc (.cells #[.int .u32 V] 42)).drew) B 65 65 42 i0 (.int .u32 0) 1 4 Try.underlying65 hi hz0 hz1 hz2 rfl (by decide) _ q (ws q (out f)) (hown.alloc _).drew ⟨wz.heap.size, 0, none⟩ 1 1 [.int .u32 V] rfl (fun j u hj => by
              match j, hj with
              | 0, hj => simp at hj; subst hj; simp only [Addr.add]; exact (Blk.new wz 42 #[.int .u32 V]).drew.cell rfl) (fun u hu => by simp at hu; subst hu; rfl) (by unfold maxLen; omega) (by omega) (by simp; omega)
          have hb' : Below B wr w' := by
            refine Below.grown ((hbz.alloc hBz _).drew) hgrow (by simp; omega) ?_
            intro x hx; exact (hown.lt x hx).1
          have hB' : B ≤ w'.heap.size := by have := hgrow.size; simp at this; omega
          have hown2 : w'.ownsRow B 42 1 v' (q + 1) (ws (q + 1) (out f)) := by
            have e : ws (q + 1) (out f) = ws q (out f) ++ [.int .u32 V] := by
              rw [← HV.out]; unfold ws; rw [List.range_succ, List.map_append]; rfl
            rw [e]; exact hown'
          have en : ((wz.alloc (.cells #[.int .u32 V] 42)).drew).cell? ⟨g + 1, q, none⟩ = some (.int .u32 (R q)) := (hnz.alloc (.cells #[.int .u32 V] 42)).cell (ws_at 16 R q hlt2)
          have es : ((wz.alloc (.cells #[.int .u32 V] 42)).drew).cell? ⟨g, q, none⟩ = some (.int .u32 (f q)) := (hsz.alloc (.cells #[.int .u32 V] 42)).cell (ws_at 16 f q hlt2)
          have en' : w'.cell? ⟨g + 1, q, none⟩ = some (.int .u32 (R q)) := (hn.below hb' hgB).cell (ws_at 16 R q hlt2)
          have es' : w'.cell? ⟨g, q, none⟩ = some (.int .u32 (f q)) := (hs.below hb' (by omega)).cell (ws_at 16 f q hlt2)
          clear hown' hgrow hown hbz hBz hnz hsz HV hi hz0 hz1 hz2
          go_wp2_with fail
          refine wp_region_noPanic ?_
          refine wp_region_held_drew (S := fun z => z.cell? ⟨g + 1, q, none⟩ = some (.int .u32 (R q)) ∧ z.cell? ⟨g, q, none⟩ = some (.int .u32 (f q))) (by kernel_rfl) ⟨cn, cs⟩ (fun hHeld => ?_)
          refine wpAnyH_take (i := 0) (v := ?_) rfl (by kernel_rfl) (by kernel_rfl) (by kernel_rfl) (fun _ _ _ h => h) (Or.inl ⟨by rfl, ?_⟩) (by assumption) ?_
          rotate_left
          · intro w hSw; go_simp; try with_reducible rfl
          go_simp
          refine wpAnyH_take (i := 1) (v := ?_) rfl (by kernel_rfl) (by kernel_rfl) (by kernel_rfl) (fun _ _ _ h => h) (Or.inl ⟨by rfl, ?_⟩) (by assumption) ?_
          rotate_left
          · intro w hSw; go_simp; try with_reducible rfl
          go_simp
          refine wpAnyH_take (i := 2) (v := ?_) rfl (by kernel_rfl) (by kernel_rfl) (by kernel_rfl) (fun _ _ _ h => h) (Or.inl ⟨by rfl, ?_⟩) (by assumption) ?_
          rotate_left
          · intro w hSw; go_simp; try with_reducible rfl
          go_simp
          refine wpAnyH_take (i := 4) (v := ?_) rfl (by kernel_rfl) (by kernel_rfl) (by kernel_rfl) (fun _ _ _ h => h) (Or.inl ⟨by rfl, ?_⟩) (by assumption) ?_
          rotate_left
          · intro w hSw; go_simp; try with_reducible rfl
          go_simp
          refine wpAnyH_take (i := 5) (v := ?_) rfl (by kernel_rfl) (by kernel_rfl) (by kernel_rfl) (fun _ _ _ h => h) (Or.inl ⟨by rfl, ?_⟩) (by assumption) ?_
          rotate_left
          · intro w hSw; go_simp; try with_reducible rfl
          go_simp
          refine wpAnyH_take (i := 3) (v := ?_) rfl (by kernel_rfl) (by kernel_rfl) (by kernel_rfl) (fun _ _ _ h => h) (Or.inl ⟨by rfl, ?_⟩) (by assumption) ?_
          rotate_left
          · rintro w ⟨s0, s1⟩; go_simp; try with_reducible rfl
          go_simp
          refine wpAnyH_take (i := 6) (v := ?_) rfl (by kernel_rfl) (by kernel_rfl) (by kernel_rfl) (fun _ _ _ h => h) (Or.inl ⟨by rfl, ?_⟩) (by assumption) ?_
          rotate_left
          · rintro w ⟨s0, s1⟩; go_simp; try with_reducible rfl
          go_simp
          refine wpAnyH_take (i := 7) (v := ?_) rfl (by kernel_rfl) (by kernel_rfl) (by kernel_rfl) (fun _ _ _ h => h) (Or.inl ⟨by rfl, ?_⟩) (by assumption) ?_
          rotate_left
          · intro w hSw; go_simp; try with_reducible rfl
          go_simp
          refine wpAnyH_ready (rs := [8]) (by kernel_rfl) (by simp) (AllReadyH.cons rfl (fun K hK => ?_) AllReadyH.nil)
          go_simp
          refine hK.out _ _ ⟨en, es⟩ (fun hHeld => ?_)
          clear hK K
          refine wpAnyH_ready (rs := [9]) (by kernel_rfl) (by simp) (AllReadyH.cons rfl (fun K hK => ?_) AllReadyH.nil)
          refine step_append_lit rfl _ _ 65 65 rfl _ _ rfl rfl _ _ hrun ?_
          refine hK.out _ _ ⟨en', es'⟩ (fun hHeld => ?_)
          clear hK K
          go_simp
          refine wpAnyH_take (i := 10) (v := ?_) rfl (by kernel_rfl) (by kernel_rfl) (by kernel_rfl) (fun _ _ _ h => h) (Or.inl ⟨by rfl, ?_⟩) (by assumption) ?_
          rotate_left
          · intro w hSw; go_simp; try with_reducible rfl
          go_simp
          refine wpAnyH_done (by kernel_rfl) ?_ _
          refine NoPanic.normal ?_
          go_wp2_with fail
          go_roundw
          case rel => exact ⟨q + 1, by omega, by go_num, hown2, hB', hb'⟩
          case measure => simp [intOf]; omega
        · have hq16 : q = 16 := by omega
          subst hq16
          obtain ⟨a, cap, rfl, hat⟩ := At_owns hown
          have hcall := refText_little a cap 16 (out f) wz (by omega) hat (fun i _ => out_lo f i)
          rw [show strOfNums (joinF four (out f) 16) = blkB f from rfl] at hcall
          clear hown hat hn hs HO
          go_wp2_with (go_at_call 50; refine hcall.mono ?_; rintro e w7 ⟨rfl, hb7⟩)
          go_ret2
          refine ⟨by rw [HF.out]; rfl, ?_⟩
          exact (hl.trans (hbz.mono hwB)).trans (hb7.mono (by omega))
end Go.Proofs.Ytnpebabffnjmmaa
/- What the document's Crypt answers, for every key, nonce, counter and text. -/
namespace Go.Proofs.Ytnpebabffnjmmaa
open Go.RowKit Go.PlainAid
set_option linter.unusedVariables false

/-- The key stream's first n bytes. -/
def stB (f : Nat → Int) (n : Nat) : ByteArray := strOfNums ((List.range n).map f)
theorem stB_size (f : Nat → Int) (n : Nat) : (stB f n).size = n := by unfold stB; rw [strOfNums_size]; simp
theorem bt_stB (f : Nat → Int) (hf : ∀ i, 0 ≤ f i ∧ f i ≤ 255) (n i : Nat) (h : i < n) : bt (stB f n) i = f i := by
  unfold stB
  rw [bt_str _ (fun x hx => by obtain ⟨j, _, rfl⟩ := List.mem_map.1 hx; exact hf j) i (by simpa using h)]
  simp
theorem stB_next (key nonce : ByteArray) (c : Int) (k : Nat) : stB (ks key nonce c) (64 * k) ++ blkB (stI key nonce ((c + (k : Int)) % 4294967296)) = stB (ks key nonce c) (64 * (k + 1)) := by
  apply bt_ext
  · rw [ByteArray.size_append, stB_size, stB_size, blkB_size]; omega
  · intro i hi
    rw [ByteArray.size_append, stB_size, blkB_size] at hi
    rw [bt_stB _ (ks_range key nonce c) _ i (by omega)]
    by_cases h : i < 64 * k
    · rw [bt_left _ _ _ (by rw [stB_size]; exact h), bt_stB _ (ks_range key nonce c) _ i h]
    · rw [bt_right _ _ _ (by rw [stB_size]; omega), stB_size]
      unfold ks
      rw [show i / 64 = k by omega, show i % 64 = i - 64 * k by omega]
theorem xor_stB (f : Nat → Int) (hf : ∀ i, 0 ≤ f i ∧ f i ≤ 255) (s : ByteArray) (n : Nat) (h : s.size ≤ n) : xorB s (stB f n) = cryB f s := by
  apply bt_ext
  · rw [xorB_size, stB_size, cryB_size]; omega
  · intro i hi
    rw [xorB_size, stB_size] at hi
    rw [bt_xorB _ _ i (by rw [stB_size]; exact hi), bt_stB f hf n i (by omega), bt_cryB f hf s i (by omega)]

theorem refCrypt_bad (key nonce s : ByteArray) (c : Int) (hk' : key.size ≤ maxLen) (hn' : nonce.size ≤ maxLen) (h : key.size ≠ 32 ∨ nonce.size ≠ 12) (w : World) :
    Calls Try.prog 21 #[.string key, .string nonce, .int .u32 c, .string s] w fun e w' => e = .returned (.tuple #[.string ⟨#[]⟩, .int .i64 7]) ∧ w' = w := by
  unfold maxLen at hk' hn'
  by_cases hk : key.size = 32
  · have hn : nonce.size ≠ 12 := by
      rcases h with h | h
      · exact absurd hk h
      · exact h
    have hkI : (((key.size : Nat) : Int) != 32) = false := by simp; omega
    have hnI : (((nonce.size : Nat) : Int) != 12) = true := by simp; omega
    clear hk hn h
    go_enter Try.func21, Try.ntmps21
    go_wp2_with fail
    go_ret2
    exact ⟨rfl, rfl⟩
  · have hkI : (((key.size : Nat) : Int) != 32) = true := by simp; omega
    clear hk h
    go_enter Try.func21, Try.ntmps21
    go_wp2_with fail
    go_ret2
    exact ⟨rfl, rfl⟩

set_option maxRecDepth 20000 in
set_option maxHeartbeats 1000000 in
theorem refCrypt_ok (key nonce s : ByteArray) (c : Int) (hk : key.size = 32) (hn : nonce.size = 12) (hc : W32 c) (hs : s.size ≤ 3900) (w : World) :
    Calls Try.prog 21 #[.string key, .string nonce, .int .u32 c, .string s] w fun e w' => e = .returned (.tuple #[.string (cryB (ks key nonce c) s), .int .i64 0]) ∧ Below w.heap.size w w' := by
  have hkI : (((key.size : Nat) : Int) != 32) = false := by simp; omega
  have hnI : (((nonce.size : Nat) : Int) != 12) = false := by simp; omega
  have hsI : ¬ ((65536 : Int) < (s.size : Int)) := by omega
  have HB : Hid (∀ (x : Int) w, W32 x → Calls Try.prog 32 #[.string key, .string nonce, .int .u32 x] w fun e w' => e = .returned (.tuple #[.string (blkB (stI key nonce x)), .int .i64 0]) ∧ Below w.heap.size w w') := fun x w hx => refBlock_ok key nonce x hk hn hx w
  have hks : key.size ≤ 32 := by omega
  have hns : nonce.size ≤ 12 := by omega
  clear hk hn
  obtain ⟨M, hM1, hM2⟩ : ∃ M, s.size ≤ 64 * M ∧ 64 * M < s.size + 64 := ⟨(s.size + 63) / 64, by omega, by omega⟩
  have hMs : (64 * M : Nat) ≤ 3970 := by omega
  go_enter Try.func21, Try.ntmps21
  go_wp2_with fail
  go_loopw [2, 10] (fun x v wr => ∃ k : Nat, k ≤ M ∧ x = .int .u32 ((c + (k : Int)) % 4294967296) ∧ v = .string (stB (ks key nonce c) (64 * k)) ∧ Below w.heap.size w wr) (fun _ v _ => 64 * M - strLen v)
  case atStart =>
    refine ⟨0, by omega, ?_, rfl, Below.refl _ _⟩
    rw [show (c + ((0 : Nat) : Int)) % 4294967296 = c by have h1 := hc.1; have h2 := hc.2; omega]
  case round =>
    obtain ⟨k, hk, rfl, rfl, hl⟩ := hrel
    have hAs := stB_size (ks key nonce c) (64 * k)
    by_cases hlt : k < M
    · have hstep := stB_next key nonce c k
      have hA2 := stB_size (ks key nonce c) (64 * (k + 1))
      have hbs := blkB_size (stI key nonce ((c + (k : Int)) % 4294967296))
      have hcall := HB.out ((c + (k : Int)) % 4294967296) wr ⟨by omega, by omega⟩
      have hnx : ((c + (k : Int)) % 4294967296 + 1) % 4294967296 = (c + ((k + 1 : Nat) : Int)) % 4294967296 := by omega
      have hx0 : 0 ≤ (c + (k : Int)) % 4294967296 := by omega
      have hx1 : (c + (k : Int)) % 4294967296 < 4294967296 := by omega
      have HM : Hid (∀ A, A = stB (ks key nonce c) (64 * (k + 1)) → A.size = 64 * (k + 1)) := fun A hA => by rw [hA]; exact hA2
      generalize (c + (k : Int)) % 4294967296 = x at hstep hcall hnx hbs hx0 hx1 ⊢
      generalize blkB (stI key nonce x) = X at hstep hcall hbs
      obtain ⟨A, hA⟩ : ∃ A, stB (ks key nonce c) (64 * k) = A := ⟨_, rfl⟩
      rw [hA] at hstep hAs ⊢
      have hltI : (A.size : Int) < (s.size : Int) := by omega
      have hAle : A.size ≤ 3970 := by omega
      have hXle : X.size ≤ 64 := by omega
      obtain ⟨y, hy⟩ : ∃ y, (c + ((k + 1 : Nat) : Int)) % 4294967296 = y := ⟨_, rfl⟩
      rw [hy] at hnx
      have HY : Hid ((c + ((k + 1 : Nat) : Int)) % 4294967296 = y) := hy
      have HS : Hid (A ++ X = stB (ks key nonce c) (64 * (k + 1))) := hstep
      have HA : Hid (A.size = 64 * k) := hAs
      have HN : Hid ((x + 1) % 4294967296 = y) := hnx
      clear hA hy hstep hA2 hbs hAs
      go_wp2_with (go_at_call 32; refine hcall.mono ?_; rintro e w2 ⟨rfl, hb2⟩)
      refine ⟨⟨k + 1, by omega, by rw [HY.out, HN.out], by rw [HS.out], hl.trans (hb2.mono hl.size)⟩, ?_⟩
      have e1 := HM.out _ HS.out
      have e2 := HA.out
      show 64 * M - (A ++ X).size < 64 * M - A.size
      omega
    · have hkM : k = M := by omega
      subst hkM
      have hx := xor_stB (ks key nonce c) (ks_range key nonce c) s (64 * k) hM1
      have hcall := refXor_any s (stB (ks key nonce c) (64 * k)) wr (by omega) (by rw [hAs]; omega)
      rw [hx] at hcall
      obtain ⟨A, hA⟩ : ∃ A, stB (ks key nonce c) (64 * k) = A := ⟨_, rfl⟩
      rw [hA] at hcall hAs ⊢
      obtain ⟨R, hR⟩ : ∃ R, cryB (ks key nonce c) s = R := ⟨_, rfl⟩
      rw [hR] at hcall
      have HR : Hid (cryB (ks key nonce c) s = R) := hR
      have hgeI : ¬ ((A.size : Int) < (s.size : Int)) := by omega
      clear hA hR hx hAs
      go_wp2_with (go_at_call 33; refine hcall.mono ?_; rintro e w3 ⟨rfl, hb3⟩)
      go_ret2
      refine ⟨?_, hl.trans (hb3.mono hl.size)⟩
      rw [HR.out]
      rfl
end Go.Proofs.Ytnpebabffnjmmaa
/- Which numbers the document takes for less than the modulus, and what taking it away leaves. -/
namespace Go.Proofs.Ytnpebabffnjmmaa
open Go.RowKit Go.PlainAid
set_option linter.unusedVariables false

theorem index89 (w : World) (S : Nat → Nat) (i : Nat) (hi : i < 17) : (Instr.index 89 (.agg (nr .i64 17 S).toArray) (.int .i64 (i : Int))).run Try.prog w = .ok (.int .i64 ((S i : Nat) : Int)) w :=
  run_index_agg w 89 3 17 _ i _ Try.underlying89 hi (nr_at _ _ _ i hi) Try.isAgg3 Try.sizeOf3

set_option maxRecDepth 20000 in
set_option maxHeartbeats 1000000 in
theorem below_any (N : Nat) (hN : N < 2 ^ 136) (w : World) :
    Calls Try.prog 74 #[.agg (nr .i64 17 (dg 8 N)).toArray] w fun e w' => e = .returned (.bool (decide (N < pP))) ∧ Below w.heap.size w w' := by
  obtain ⟨Y, hY⟩ : ∃ Y, nr .i64 17 (dg 8 N) = Y := ⟨_, rfl⟩
  have HC : Hid (∀ i, i < 17 → (w.alloc (.cells Y.toArray 89)).cell? ⟨w.heap.size, i, none⟩ = some (.int .i64 ((dg 8 N i : Nat) : Int))) := fun i hi => by
    refine (Blk.box w 89 Y).cell ?_
    rw [← hY]; exact nr_at _ _ _ i hi
  rw [hY]
  clear hY
  have hl0 : Below w.heap.size w (w.alloc (.cells Y.toArray 89)) := (Below.refl _ w).alloc (Nat.le_refl _) _
  have c16 := HC.out 16 (by decide)
  have t0 : N / 2 ^ (8 * 17) = pP / 2 ^ (8 * 17) := by rw [pP_top, Nat.div_eq_of_lt (by simpa using hN)]
  have e16 := pP_hi
  have k16 := dg_lt 8 N 16
  have H16 : Hid (dg 8 N 16 < 3 → N < pP) := fun h => below_at N pP 16 t0 (by rw [e16]; exact h)
  have H16' : Hid (3 < dg 8 N 16 → ¬ N < pP) := fun h hlt => by
    have := below_at pP N 16 t0.symm (by rw [e16]; exact h)
    omega
  have HS : Hid (dg 8 N 16 = 3 → N / 2 ^ (8 * 16) = pP / 2 ^ (8 * 16)) := fun h => same_at N pP 16 t0 (by rw [e16]; exact h)
  clear t0 e16 hN
  obtain ⟨x, hx⟩ : ∃ x, dg 8 N 16 = x := ⟨_, rfl⟩
  rw [hx] at c16 k16 H16 H16' HS
  clear hx
  rw [show (2 : Nat) ^ 8 = 256 from rfl] at k16
  by_cases h3 : x = 3
  · subst h3
    have HT := HS.out rfl
    have HT : Hid (N / 2 ^ (8 * 16) = pP / 2 ^ (8 * 16)) := HT
    rw [show ((3 : Nat) : Int) = 3 from rfl] at c16
    clear H16 H16' HS
    go_enter Try.func74, Try.ntmps74
    go_wp2_with fail
    generalize w.alloc (.cells Y.toArray 89) = w0 at *
    obtain ⟨g, hgd⟩ : ∃ g, w.heap.size = g := ⟨_, rfl⟩
    rw [hgd] at HC hl0 ⊢
    have HG : Hid (w.heap.size = g) := hgd
    clear hgd c16
    go_loopw [3] (fun v wr => ∃ k : Nat, k ≤ 15 ∧ v = .int .i64 k ∧ N / 2 ^ (8 * (k + 1)) = pP / 2 ^ (8 * (k + 1)) ∧ wr = w0) (fun v _ => (intOf v).toNat)
    case atStart => exact ⟨15, by omega, rfl, HT.out, rfl⟩
    case round =>
      clear HT
      obtain ⟨k, hk, rfl, hT, rfl⟩ := hrel
      by_cases hlt : 1 ≤ k
      · have hlt' : (1 : Int) ≤ (k : Int) := by omega
        have hk17 : (k : Int) < 17 := by omega
        have ck := HC.out k (by omega)
        have ek := pP_mid k hlt hk
        have kk := dg_lt 8 N k
        have H1 : Hid (dg 8 N k < 255 → N < pP) := fun h => below_at N pP k hT (by rw [ek]; exact h)
        have H2 : Hid (dg 8 N k = 255 → N / 2 ^ (8 * k) = pP / 2 ^ (8 * k)) := fun h => same_at N pP k hT (by rw [ek]; exact h)
        clear hT ek
        rw [show (2 : Nat) ^ 8 = 256 from rfl] at kk
        generalize dg 8 N k = y at *
        by_cases h5 : y = 255
        · have h2 := H2.out h5
          subst h5
          rw [show ((255 : Nat) : Int) = 255 from rfl] at ck
          have H3 : Hid (N / 2 ^ (8 * k) = pP / 2 ^ (8 * k)) := h2
          clear h2 H1 H2
          go_wp2_with fail
          refine ⟨⟨k - 1, by omega, ?_, by rw [show k - 1 + 1 = k by omega]; exact H3.out, trivial⟩, by simp [intOf]; omega⟩
          congr 1; omega
        · have h1 := H1.out (by omega)
          have hd : decide (N < pP) = true := decide_eq_true h1
          have h5' : ((y : Int) != 255) = true := by simp; omega
          clear H1 H2 h1
          go_wp2_with fail
          go_ret
          refine ⟨by rw [hd]; rfl, ?_⟩
          rw [HG.out]; exact hl0
      · have hk0 : k = 0 := by omega
        subst hk0
        have c0 := HC.out 0 (by decide)
        have e0 := pP_lo
        have hD : decide (N < pP) = decide (((dg 8 N 0 : Nat) : Int) < 251) := by
          by_cases hc : dg 8 N 0 < 251
          · have := below_at N pP 0 hT (by rw [e0]; exact hc)
            rw [decide_eq_true this, decide_eq_true (by omega)]
          · have : ¬ N < pP := by
              intro hlt
              by_cases h1 : dg 8 N 0 = 251
              · have := same_at N pP 0 hT (by rw [e0]; exact h1)
                simp at this; omega
              · have := below_at pP N 0 hT.symm (by rw [e0]; omega)
                omega
            rw [decide_eq_false this, decide_eq_false (by omega)]
        have HD : Hid (decide (N < pP) = decide (((dg 8 N 0 : Nat) : Int) < 251)) := hD
        clear hT e0 hD
        generalize dg 8 N 0 = y at *
        rw [show ((0 : Nat) : Int) = 0 from rfl]
        go_wp2_with fail
        go_ret
        refine ⟨by rw [HD.out]; rfl, ?_⟩
        rw [HG.out]; exact hl0
  · have h3' : ((x : Int) != 3) = true := by simp; omega
    have hD : decide (N < pP) = decide ((x : Int) < 3) := by
      by_cases hc : x < 3
      · rw [decide_eq_true (H16.out hc), decide_eq_true (by omega)]
      · rw [decide_eq_false (H16'.out (by omega)), decide_eq_false (by omega)]
    have HD : Hid (decide (N < pP) = decide ((x : Int) < 3)) := hD
    clear H16 H16' HS hD HC
    go_enter Try.func74, Try.ntmps74
    go_wp2_with fail
    go_ret
    exact ⟨by rw [HD.out]; rfl, hl0⟩
end Go.Proofs.Ytnpebabffnjmmaa
/- What the document leaves of a number when the modulus is taken away as often as it may be. -/
namespace Go.Proofs.Ytnpebabffnjmmaa
open Go.RowKit Go.PlainAid
set_option linter.unusedVariables false

theorem pP_dg (k : Nat) (hk : k < 17) : dg 8 pP k = if k = 0 then 251 else if k = 16 then 3 else 255 := by
  by_cases h0 : k = 0
  · rw [if_pos h0, h0, pP_lo]
  · rw [if_neg h0]
    by_cases h1 : k = 16
    · rw [if_pos h1, h1, pP_hi]
    · rw [if_neg h1, pP_mid k (by omega) (by omega)]

set_option maxHeartbeats 1000000 in
set_option maxRecDepth 20000 in
theorem less_any (N : Nat) (hN : N < 2 * pP) (w : World) :
    Calls Try.prog 67 #[.agg (nr .i64 17 (dg 8 N)).toArray] w fun e w' => e = .returned (.agg (nr .i64 17 (dg 8 (N % pP))).toArray) ∧ Below w.heap.size w w' := by
  have hzr := zero89_run
  obtain ⟨Z, hZ⟩ : ∃ Z, nr .i64 17 (fun _ => 0) = Z := ⟨_, rfl⟩
  obtain ⟨Y, hY⟩ : ∃ Y, nr .i64 17 (dg 8 N) = Y := ⟨_, rfl⟩
  rw [hZ] at hzr
  rw [hY]
  have lZ : Z.length = 17 := by rw [← hZ, nr_length]
  have HY : Hid (nr .i64 17 (dg 8 N) = Y) := hY
  clear hY hZ
  have hA0 : Blk ((w.alloc (.cells Y.toArray 89)).alloc (.cells Z.toArray 89)) w.heap.size 89 Y := (Blk.box w 89 Y).alloc _
  have hB0 : Blk ((w.alloc (.cells Y.toArray 89)).alloc (.cells Z.toArray 89)) (w.heap.size + 1) 89 Z := by
    have := Blk.box (w.alloc (.cells Y.toArray 89)) 89 Z
    simpa using this
  have hl0 : Below w.heap.size w ((w.alloc (.cells Y.toArray 89)).alloc (.cells Z.toArray 89)) := ((Below.refl _ w).alloc (Nat.le_refl _) _).alloc (by simp) _
  have HN : Hid (N < 2 * pP) := hN
  clear hN
  go_enter Try.func67, Try.ntmps67
  go_wp2_with fail
  generalize (w.alloc (.cells Y.toArray 89)).alloc (.cells Z.toArray 89) = w0 at hA0 hB0 hl0 ⊢
  obtain ⟨g, hgd⟩ : ∃ g, w.heap.size = g := ⟨_, rfl⟩
  rw [hgd] at hA0 hB0 hl0 ⊢
  have HG : Hid (w.heap.size = g) := hgd
  clear hgd hzr
  rw [← HY.out] at hA0
  clear HY
  go_loopw [3] (fun v wr => ∃ i M : Nat, i ≤ 1 ∧ v = .int .i64 i ∧ M + i * pP = N ∧ Blk wr g 89 (nr .i64 17 (dg 8 M)) ∧ Blk wr (g + 1) 89 Z ∧ Below g w wr) (fun v _ => (64 - intOf v).toNat)
  case atStart => exact ⟨0, N, by omega, rfl, by omega, hA0, hB0, hl0⟩
  case round =>
    clear hA0 hB0 hl0
    obtain ⟨i, M, hi, rfl, hM, hA, hB, hl⟩ := hrel
    have hi' : (i : Int) < 64 := by omega
    have HM : Hid (M + i * pP = N) := hM
    have hMb : M < 2 ^ 136 := by
      have := HN.out
      rw [pP] at this
      rw [show (2 : Nat) ^ 136 = 87112285931760246646623899502532662132736 from by decide]
      have : M ≤ N := by omega
      omega
    have hcall := fun w => below_any M hMb w
    clear hM hMb
    obtain ⟨U, hU⟩ : ∃ U, nr .i64 17 (dg 8 M) = U := ⟨_, rfl⟩
    have lU : U.length = 17 := by rw [← hU, nr_length]
    have oU : ∀ v ∈ U, v.oneCell' = true := by rw [← hU]; exact nr_one _ _ _
    have HU : Hid (nr .i64 17 (dg 8 M) = U) := hU
    rw [hU] at hA hcall
    clear hU
    go_wp2_with (refine wpList_load_blk rfl 89 _ rfl g rfl 89 U _ hA Try.underlying89 rfl (by rw [Try.size89, lU]) ?_)
    refine (hcall wr).mono ?_
    rintro e w1 ⟨rfl, hb1⟩
    have hgr : g ≤ wr.heap.size := Nat.le_of_lt hA.lt
    have hA1 := hA.below hb1 hA.lt
    have hB1 := hB.below hb1 hB.lt
    have hl1 := hl.trans (hb1.mono hgr)
    clear hcall hA hB hl hb1
    by_cases hlt : M < pP
    · rw [decide_eq_true hlt]
      have HR : Hid (nr .i64 17 (dg 8 (N % pP)) = U) := by
        have e : N % pP = M := by rw [← HM.out, Nat.add_mul_mod_self_right, Nat.mod_eq_of_lt hlt]
        rw [e]; exact HU.out
      have hR := load89 (hB1.setRow (M := U)) lU
      have hl' : Below g w (w1.setRow (g + 1) U.toArray) := below_setRow hl1 (by omega) _
      clear hlt HM HN
      go_wp2_with (first | (refine wpList_load_blk rfl 89 _ rfl g rfl 89 U _ hA1 Try.underlying89 rfl (by rw [Try.size89, lU]) ?_) | (refine wpList_store_blk rfl 89 _ _ rfl (g + 1) Z U rfl rfl 89 hB1 (by rw [Try.size89, lU]) (by rw [lZ, lU]) oU ?_))
      refine bodyPost_ret_by (v := .agg U.toArray) (results_cell 2 89 ⟨g + 1, 0, none⟩ Try.results67 rfl hR) rfl ⟨by rw [HR.out], ?_⟩
      rw [HG.out]; exact hl'
    · rw [decide_eq_false hlt]
      have hi0 : i = 0 := by
        have h1 := HM.out
        have h2 := HN.out
        rcases Nat.lt_or_ge i 1 with h | h
        · omega
        · have : i = 1 := by omega
          subst this
          omega
      subst hi0
      obtain ⟨D, hD⟩ : ∃ D, M = D + pP := ⟨M - pP, by omega⟩
      have HD : Hid (D + 1 * pP = N) := by
        have := HM.out
        show _ = _
        rw [← this, hD]; omega
      have HS : Hid (∀ k, dg 8 D k + dg 8 pP k + cy 8 D pP k = dg 8 M k + 256 * cy 8 D pP (k + 1)) := fun k => by
        obtain ⟨c, rfl, h⟩ := dg_sub 8 D pP k
        rw [hD]; exact h
      rw [← HU.out] at hA1
      clear hlt HM HN HU hD lU oU
      rw [show ((0 : Nat) : Int) = 0 from rfl]
      go_wp2_with fail
      go_loopw [5, 6] (fun b v wr => ∃ k : Nat, k ≤ 17 ∧ v = .int .i64 k ∧ b = .int .i64 ((cy 8 D pP k : Nat) : Int) ∧ Blk wr g 89 (nr .i64 17 (fun i => if i < k then dg 8 D i else dg 8 M i)) ∧ Blk wr (g + 1) 89 Z ∧ Below g w wr) (fun _ v _ => (17 - intOf v).toNat)
      case atStart => exact ⟨0, by omega, rfl, by rw [cy_zero]; rfl, hA1, hB1, hl1⟩
      case round =>
        clear hA1 hB1 hl1
        obtain ⟨k, hk, rfl, rfl, hA, hB, hl⟩ := hrel
        by_cases hlt : k < 17
        · have hlt' : (k : Int) < 17 := by omega
          have cn : wr.cell? ⟨g, k, none⟩ = some (.int .i64 ((dg 8 M k : Nat) : Int)) := by
            have := hA.cell (nr_at .i64 17 _ k hlt)
            rw [if_neg (by omega)] at this; exact this
          have fn := hA.frozen k
          have hst := HS.out k
          rw [pP_dg k hlt] at hst
          have b0 := dg_lt 8 M k
          have b1 := dg_lt 8 D k
          have b2 := cy_le 8 D pP k
          have b3 := cy_le 8 D pP (k + 1)
          rw [show (2 : Nat) ^ 8 = 256 from rfl] at b0 b1
          have hB2 : Hid (Blk (wr.setCell ⟨g, k, none⟩ (.int .i64 ((dg 8 D k : Nat) : Int))) g 89 (nr .i64 17 (fun i => if i < k + 1 then dg 8 D i else dg 8 M i))) := by
            have hh := hA.setCell k (.int .i64 ((dg 8 D k : Nat) : Int))
            rw [nr_set] at hh
            rw [nr_congr .i64 17 (fun i => if i < k + 1 then dg 8 D i else dg 8 M i) (fun i => if i = k then dg 8 D k else if i < k then dg 8 D i else dg 8 M i) ?_]
            · exact hh
            · intro i _
              show (if i < k + 1 then dg 8 D i else dg 8 M i) = if i = k then dg 8 D k else if i < k then dg 8 D i else dg 8 M i
              by_cases h1 : i = k
              · subst h1; rw [if_pos (by omega), if_pos rfl]
              · rw [if_neg h1]
                by_cases h2 : i < k
                · rw [if_pos h2, if_pos (by omega)]
                · rw [if_neg h2, if_neg (by omega)]
          have hC2 : Hid (Blk (wr.setCell ⟨g, k, none⟩ (.int .i64 ((dg 8 D k : Nat) : Int))) (g + 1) 89 Z) := hB.setOther (by omega) k _
          have hl2 : Hid (Below g w (wr.setCell ⟨g, k, none⟩ (.int .i64 ((dg 8 D k : Nat) : Int)))) := hl.setCell (Nat.le_refl _) _
          have HC : ∃ c1, cy 8 D pP (k + 1) = c1 := ⟨_, rfl⟩
          obtain ⟨c1, hc1⟩ := HC
          rw [hc1] at hst b3
          have HC1 : Hid (((cy 8 D pP (k + 1) : Nat) : Int) = (c1 : Int)) := by rw [hc1]; exact rfl
          clear hA hB hl hc1
          generalize dg 8 M k = x at *
          generalize dg 8 D k = z at *
          generalize cy 8 D pP k = y at *
          have hc01 : c1 = 0 ∨ c1 = 1 := by omega
          by_cases hk0 : k = 0
          · subst hk0
            rw [if_pos rfl] at hst
            rw [show ((0 : Nat) : Int) = 0 from rfl]
            rcases hc01 with h | h
            · subst h
              have hd : (x : Int) - 251 - (y : Int) = (z : Int) := by omega
              have hn : ((x : Int) - 251 - (y : Int) < 0) = False := by simp; omega
              have hn2 : ((z : Int) < 0) = False := by simp
              go_wp2_with fail
              exact ⟨⟨0 + 1, by omega, by rfl, by rw [HC1.out]; rfl, hB2.out, hC2.out, hl2.out⟩, by simp [intOf]⟩
            · subst h
              have hd : (x : Int) - 251 - (y : Int) = (z : Int) - 256 := by omega
              have hn : ((x : Int) - 251 - (y : Int) < 0) = True := by simp; omega
              have hn2 : ((z : Int) - 256 < 0) = True := by simp; omega
              go_wp2_with fail
              exact ⟨⟨0 + 1, by omega, by rfl, by rw [HC1.out]; rfl, hB2.out, hC2.out, hl2.out⟩, by simp [intOf]⟩
          · rw [if_neg hk0] at hst
            have hk0' : ((k : Int) == 0) = false := by simp; omega
            by_cases hk1 : k = 16
            · subst hk1
              rw [if_pos rfl] at hst
              rw [show ((16 : Nat) : Int) = 16 from rfl]
              rcases hc01 with h | h
              · subst h
                have hd : (x : Int) - 3 - (y : Int) = (z : Int) := by omega
                have hn : ((x : Int) - 3 - (y : Int) < 0) = False := by simp; omega
                have hn2 : ((z : Int) < 0) = False := by simp
                go_wp2_with fail
                exact ⟨⟨16 + 1, by omega, by rfl, by rw [HC1.out]; rfl, hB2.out, hC2.out, hl2.out⟩, by simp [intOf]⟩
              · subst h
                have hd : (x : Int) - 3 - (y : Int) = (z : Int) - 256 := by omega
                have hn : ((x : Int) - 3 - (y : Int) < 0) = True := by simp; omega
                have hn2 : ((z : Int) - 256 < 0) = True := by simp; omega
                go_wp2_with fail
                exact ⟨⟨16 + 1, by omega, by rfl, by rw [HC1.out]; rfl, hB2.out, hC2.out, hl2.out⟩, by simp [intOf]⟩
            · rw [if_neg hk1] at hst
              have hk1' : ((k : Int) == 16) = false := by simp; omega
              rcases hc01 with h | h
              · subst h
                have hd : (x : Int) - 255 - (y : Int) = (z : Int) := by omega
                have hn : ((x : Int) - 255 - (y : Int) < 0) = False := by simp; omega
                have hn2 : ((z : Int) < 0) = False := by simp
                go_wp2_with fail
                exact ⟨⟨k + 1, by omega, by go_num, by rw [HC1.out]; rfl, hB2.out, hC2.out, hl2.out⟩, by simp [intOf]; omega⟩
              · subst h
                have hd : (x : Int) - 255 - (y : Int) = (z : Int) - 256 := by omega
                have hn : ((x : Int) - 255 - (y : Int) < 0) = True := by simp; omega
                have hn2 : ((z : Int) - 256 < 0) = True := by simp; omega
                go_wp2_with fail
                exact ⟨⟨k + 1, by omega, by go_num, by rw [HC1.out]; rfl, hB2.out, hC2.out, hl2.out⟩, by simp [intOf]; omega⟩
        · have hk17 : k = 17 := by omega
          subst hk17
          rw [show ((17 : Nat) : Int) = 17 from rfl]
          have hA' : Blk wr g 89 (nr .i64 17 (dg 8 D)) := by
            rw [nr_congr .i64 17 (dg 8 D) (fun i => if i < 17 then dg 8 D i else dg 8 M i) (fun i hi => by rw [if_pos hi])]; exact hA
          clear hA HS
          go_wp2_with fail
          exact ⟨⟨1, D, by omega, rfl, HD.out, hA', hB, hl⟩, by simp [intOf]⟩
end Go.Proofs.Ytnpebabffnjmmaa
/- What the document's sum of two numbers is, by the modulus. -/
namespace Go.Proofs.Ytnpebabffnjmmaa
open Go.RowKit Go.PlainAid
set_option linter.unusedVariables false

theorem below_drewN' {B : Nat} {a w : World} (h : Below B a w) (n : Nat) : Below B a (w.drewN n) := ⟨h.os, h.tape, h.output, h.size, h.block⟩

set_option maxHeartbeats 1000000 in
set_option maxRecDepth 20000 in
theorem rsum_any (A B : Nat) (hA : A < pP) (hB : B < pP) (w : World) :
    Calls Try.prog 53 #[.agg (nr .i64 17 (dg 8 A)).toArray, .agg (nr .i64 17 (dg 8 B)).toArray] w fun e w' => e = .returned (.agg (nr .i64 17 (dg 8 ((A + B) % pP))).toArray) ∧ Below w.heap.size w w' := by
  have hzr := zero89_run
  have hcall := fun w => less_any (A + B) (by omega) w
  obtain ⟨Z, hZ⟩ : ∃ Z, nr .i64 17 (fun _ => 0) = Z := ⟨_, rfl⟩
  obtain ⟨Y, hY⟩ : ∃ Y, nr .i64 17 (dg 8 A) = Y := ⟨_, rfl⟩
  obtain ⟨X, hX⟩ : ∃ X, nr .i64 17 (dg 8 B) = X := ⟨_, rfl⟩
  rw [hZ] at hzr
  rw [hY, hX]
  have lZ : Z.length = 17 := by rw [← hZ, nr_length]
  have HY : Hid (nr .i64 17 (dg 8 A) = Y) := hY
  have HX : Hid (nr .i64 17 (dg 8 B) = X) := hX
  clear hY hZ hX hA hB
  have hA0 : Blk (((w.alloc (.cells Y.toArray 89)).alloc (.cells X.toArray 89)).alloc (.cells Z.toArray 89)) w.heap.size 89 Y := ((Blk.box w 89 Y).alloc _).alloc _
  have hB0 : Blk (((w.alloc (.cells Y.toArray 89)).alloc (.cells X.toArray 89)).alloc (.cells Z.toArray 89)) (w.heap.size + 1) 89 X := by
    have := (Blk.box (w.alloc (.cells Y.toArray 89)) 89 X).alloc (.cells Z.toArray 89)
    simpa using this
  have hC0 : Blk (((w.alloc (.cells Y.toArray 89)).alloc (.cells X.toArray 89)).alloc (.cells Z.toArray 89)) (w.heap.size + 2) 89 Z := by
    have := Blk.box ((w.alloc (.cells Y.toArray 89)).alloc (.cells X.toArray 89)) 89 Z
    simpa using this
  have hl0 : Below w.heap.size w (((w.alloc (.cells Y.toArray 89)).alloc (.cells X.toArray 89)).alloc (.cells Z.toArray 89)) := (((Below.refl _ w).alloc (Nat.le_refl _) _).alloc (by simp) _).alloc (by simp; omega) _
  go_enter Try.func53, Try.ntmps53
  go_wp2_with fail
  generalize ((w.alloc (.cells Y.toArray 89)).alloc (.cells X.toArray 89)).alloc (.cells Z.toArray 89) = w0 at hA0 hB0 hC0 hl0 ⊢
  obtain ⟨g, hgd⟩ : ∃ g, w.heap.size = g := ⟨_, rfl⟩
  rw [hgd] at hA0 hB0 hC0 hl0 ⊢
  have HG : Hid (w.heap.size = g) := hgd
  clear hgd hzr
  rw [← HY.out] at hA0
  rw [← HX.out] at hB0
  clear HY HX
  go_loopw [5, 6] (fun c v wr => ∃ k : Nat, k ≤ 17 ∧ v = .int .i64 k ∧ c = .int .i64 ((cy 8 A B k : Nat) : Int) ∧ Blk wr g 89 (nr .i64 17 (fun i => if i < k then dg 8 (A + B) i else dg 8 A i)) ∧ Blk wr (g + 1) 89 (nr .i64 17 (dg 8 B)) ∧ Blk wr (g + 2) 89 Z ∧ Below g w wr) (fun _ v _ => (17 - intOf v).toNat)
  case atStart => exact ⟨0, by omega, rfl, by rw [cy_zero]; rfl, hA0, hB0, hC0, hl0⟩
  case round =>
    clear hA0 hB0 hC0 hl0
    obtain ⟨k, hk, rfl, rfl, hA, hB, hC, hl⟩ := hrel
    by_cases hlt : k < 17
    · have hk' : (k : Int) < 17 := by omega
      have cn : wr.cell? ⟨g, k, none⟩ = some (.int .i64 ((dg 8 A k : Nat) : Int)) := by
        have := hA.cell (nr_at .i64 17 _ k hlt)
        rw [if_neg (by omega)] at this; exact this
      have cs := hB.cell (nr_at .i64 17 (dg 8 B) k hlt)
      have fn := hA.frozen k
      have b0 := dg_lt 8 A k
      have b1 := dg_lt 8 B k
      have b2 := cy_le 8 A B k
      have e1 := dg_add 8 A B k
      have e2 := cy_succ 8 A B k
      rw [show (2 : Nat) ^ 8 = 256 from rfl] at b0 b1 e1 e2
      have hB2 : Hid (∀ n, Blk ((wr.drewN n).setCell ⟨g, k, none⟩ (.int .i64 ((dg 8 (A + B) k : Nat) : Int))) g 89 (nr .i64 17 (fun i => if i < k + 1 then dg 8 (A + B) i else dg 8 A i))) := by
        intro n
        have hh := (hA.drewN n).setCell k (.int .i64 ((dg 8 (A + B) k : Nat) : Int))
        rw [nr_set] at hh
        rw [nr_congr .i64 17 (fun i => if i < k + 1 then dg 8 (A + B) i else dg 8 A i) (fun i => if i = k then dg 8 (A + B) k else if i < k then dg 8 (A + B) i else dg 8 A i) ?_]
        · exact hh
        · intro i _
          show (if i < k + 1 then dg 8 (A + B) i else dg 8 A i) = if i = k then dg 8 (A + B) k else if i < k then dg 8 (A + B) i else dg 8 A i
          by_cases h1 : i = k
          · subst h1; rw [if_pos (by omega), if_pos rfl]
          · rw [if_neg h1]
            by_cases h2 : i < k
            · rw [if_pos h2, if_pos (by omega)]
            · rw [if_neg h2, if_neg (by omega)]
      have hD2 : Hid (∀ n, Blk ((wr.drewN n).setCell ⟨g, k, none⟩ (.int .i64 ((dg 8 (A + B) k : Nat) : Int))) (g + 1) 89 (nr .i64 17 (dg 8 B))) := fun n => (hB.drewN n).setOther (by omega) k _
      have hC2 : Hid (∀ n, Blk ((wr.drewN n).setCell ⟨g, k, none⟩ (.int .i64 ((dg 8 (A + B) k : Nat) : Int))) (g + 2) 89 Z) := fun n => (hC.drewN n).setOther (by omega) k _
      have hl2 : Hid (∀ n, Below g w ((wr.drewN n).setCell ⟨g, k, none⟩ (.int .i64 ((dg 8 (A + B) k : Nat) : Int)))) := fun n => (below_drewN' hl n).setCell (Nat.le_refl _) _
      obtain ⟨c1, hc1⟩ : ∃ c1, cy 8 A B (k + 1) = c1 := ⟨_, rfl⟩
      rw [hc1] at e2
      have HC1 : Hid (((cy 8 A B (k + 1) : Nat) : Int) = (c1 : Int)) := by rw [hc1]; exact rfl
      clear hA hB hC hl hc1
      generalize dg 8 (A + B) k = z at *
      generalize dg 8 A k = x at *
      generalize dg 8 B k = y at *
      generalize cy 8 A B k = c at *
      have e1' : ((c : Int) + (x : Int) + (y : Int)) % 256 = (z : Int) := by omega
      have e2' : ((c : Int) + (x : Int) + (y : Int)) / 256 = (c1 : Int) := by omega
      clear e1 e2
      go_wp2_with fail
      go_quiet (fail)
      go_wp2_with fail
      exact ⟨⟨k + 1, by omega, by go_num, by rw [HC1.out, e2'], hB2.out nq, hD2.out nq, hC2.out nq, hl2.out nq⟩, by simp [intOf]; omega⟩
    · have hk17 : k = 17 := by omega
      subst hk17
      rw [show ((17 : Nat) : Int) = 17 from rfl]
      have hA' : Blk wr g 89 (nr .i64 17 (dg 8 (A + B))) := by
        rw [nr_congr .i64 17 (dg 8 (A + B)) (fun i => if i < 17 then dg 8 (A + B) i else dg 8 A i) (fun i hi => by rw [if_pos hi])]; exact hA
      obtain ⟨U, hU⟩ : ∃ U, nr .i64 17 (dg 8 (A + B)) = U := ⟨_, rfl⟩
      obtain ⟨V, hV⟩ : ∃ V, nr .i64 17 (dg 8 ((A + B) % pP)) = V := ⟨_, rfl⟩
      have lU : U.length = 17 := by rw [← hU, nr_length]
      have lV : V.length = 17 := by rw [← hV, nr_length]
      have oV : ∀ v ∈ V, v.oneCell' = true := by rw [← hV]; exact nr_one _ _ _
      rw [hU] at hA' hcall
      rw [hV] at hcall
      have HV : Hid (nr .i64 17 (dg 8 ((A + B) % pP)) = V) := hV
      have hgr : g ≤ wr.heap.size := Nat.le_of_lt hA.lt
      clear hA hB hU hV
      go_wp2_with (refine wpList_load_blk rfl 89 _ rfl g rfl 89 U _ hA' Try.underlying89 rfl (by rw [Try.size89, lU]) ?_)
      refine (hcall wr).mono ?_
      rintro e w1 ⟨rfl, hb1⟩
      have hC1 := hC.below hb1 hC.lt
      have hl1 := hl.trans (hb1.mono hgr)
      have hR := load89 (hC1.setRow (M := V)) lV
      have hl' : Below g w (w1.setRow (g + 2) V.toArray) := below_setRow hl1 (by omega) _
      clear hcall hC hl hb1 hA'
      go_wp2_with (refine wpList_store_blk rfl 89 _ _ rfl (g + 2) Z V rfl rfl 89 hC1 (by rw [Try.size89, lV]) (by rw [lZ, lV]) oV ?_)
      refine bodyPost_ret_by (v := .agg V.toArray) (results_cell 4 89 ⟨g + 2, 0, none⟩ Try.results53 rfl hR) rfl ⟨by rw [HV.out], ?_⟩
      rw [HG.out]; exact hl'
end Go.Proofs.Ytnpebabffnjmmaa
/- What the document's product of two numbers is, by the modulus: by the bits of the second one. -/
namespace Go.Proofs.Ytnpebabffnjmmaa
open Go.RowKit Go.PlainAid
set_option linter.unusedVariables false

/-- The bit m of the byte k. -/
theorem bit_dg (B k m : Nat) (hm : m < 8) : dg 8 B k / 2 ^ m % 2 = B / 2 ^ (8 * k + m) % 2 := by
  have h := dg_test 8 B k m
  rw [decide_eq_true hm, Bool.true_and, Nat.testBit_eq_decide_div_mod_eq, Nat.testBit_eq_decide_div_mod_eq] at h
  have h1 : dg 8 B k / 2 ^ m % 2 < 2 := Nat.mod_lt _ (by omega)
  have h2 : B / 2 ^ (8 * k + m) % 2 < 2 := Nat.mod_lt _ (by omega)
  have h3 := decide_eq_decide.1 h
  omega
theorem half_step (B e : Nat) : B / 2 ^ e = 2 * (B / 2 ^ (e + 1)) + B / 2 ^ e % 2 := by
  rw [Nat.pow_succ, ← Nat.div_div_eq_div_mul]; omega
/-- One bit more of the product. -/
theorem prod_step0 (A B e O : Nat) (hO : O = A * (B / 2 ^ (e + 1)) % pP) (hb : B / 2 ^ e % 2 = 0) : (O + O) % pP = A * (B / 2 ^ e) % pP := by
  rw [half_step B e, hb, hO, ← Nat.add_mod]
  generalize B / 2 ^ (e + 1) = C
  rw [Nat.add_zero, Nat.mul_left_comm, Nat.two_mul]
theorem prod_step1 (A B e O : Nat) (hO : O = A * (B / 2 ^ (e + 1)) % pP) (hb : B / 2 ^ e % 2 = 1) : ((O + O) % pP + A) % pP = A * (B / 2 ^ e) % pP := by
  rw [half_step B e, hb, hO, ← Nat.add_mod, Nat.mod_add_mod]
  generalize B / 2 ^ (e + 1) = C
  rw [Nat.mul_add, Nat.mul_left_comm, Nat.two_mul, Nat.mul_one]
theorem pow_half (i : Nat) (hi : i < 8) : 128 / 2 ^ i = 2 ^ (7 - i) := by
  have h : i = 0 ∨ i = 1 ∨ i = 2 ∨ i = 3 ∨ i = 4 ∨ i = 5 ∨ i = 6 ∨ i = 7 := by omega
  rcases h with rfl | rfl | rfl | rfl | rfl | rfl | rfl | rfl <;> rfl

set_option maxHeartbeats 2000000 in
set_option maxRecDepth 20000 in
theorem rprod_any (A B : Nat) (hA : A < pP) (hB : B < 2 ^ 136) (w : World) :
    Calls Try.prog 54 #[.agg (nr .i64 17 (dg 8 A)).toArray, .agg (nr .i64 17 (dg 8 B)).toArray] w fun e w' => e = .returned (.agg (nr .i64 17 (dg 8 (A * B % pP))).toArray) ∧ Below w.heap.size w w' := by
  have hzr := zero89_run
  obtain ⟨Z, hZ⟩ : ∃ Z, nr .i64 17 (fun _ => 0) = Z := ⟨_, rfl⟩
  obtain ⟨Y, hY⟩ : ∃ Y, nr .i64 17 (dg 8 A) = Y := ⟨_, rfl⟩
  obtain ⟨X, hX⟩ : ∃ X, nr .i64 17 (dg 8 B) = X := ⟨_, rfl⟩
  rw [hZ] at hzr
  rw [hY, hX]
  have lZ : Z.length = 17 := by rw [← hZ, nr_length]
  have lY : Y.length = 17 := by rw [← hY, nr_length]
  have HY : Hid (nr .i64 17 (dg 8 A) = Y) := hY
  have HX : Hid (nr .i64 17 (dg 8 B) = X) := hX
  have PZ : Hid (nr .i64 17 (dg 8 (A * (B / 2 ^ (8 * 17)) % pP)) = Z) := by
    rw [← hZ, Nat.div_eq_of_lt (by simpa using hB), Nat.mul_zero, Nat.zero_mod]
    exact nr_congr _ _ _ _ (fun i _ => dg_zero 8 i)
  have HA : Hid (A < pP) := hA
  clear hY hZ hX hA hB
  have hA0 : Blk ((((w.alloc (.cells Y.toArray 89)).alloc (.cells X.toArray 89)).alloc (.cells Z.toArray 89)).alloc (.cells Z.toArray 89)) w.heap.size 89 Y := (((Blk.box w 89 Y).alloc _).alloc _).alloc _
  have hB0 : Blk ((((w.alloc (.cells Y.toArray 89)).alloc (.cells X.toArray 89)).alloc (.cells Z.toArray 89)).alloc (.cells Z.toArray 89)) (w.heap.size + 1) 89 X := by
    have := ((Blk.box (w.alloc (.cells Y.toArray 89)) 89 X).alloc (.cells Z.toArray 89)).alloc (.cells Z.toArray 89)
    simpa using this
  have hC0 : Blk ((((w.alloc (.cells Y.toArray 89)).alloc (.cells X.toArray 89)).alloc (.cells Z.toArray 89)).alloc (.cells Z.toArray 89)) (w.heap.size + 2) 89 Z := by
    have := (Blk.box ((w.alloc (.cells Y.toArray 89)).alloc (.cells X.toArray 89)) 89 Z).alloc (.cells Z.toArray 89)
    simpa using this
  have hD0 : Blk ((((w.alloc (.cells Y.toArray 89)).alloc (.cells X.toArray 89)).alloc (.cells Z.toArray 89)).alloc (.cells Z.toArray 89)) (w.heap.size + 3) 89 Z := by
    have := Blk.box (((w.alloc (.cells Y.toArray 89)).alloc (.cells X.toArray 89)).alloc (.cells Z.toArray 89)) 89 Z
    simpa using this
  have hl0 : Below w.heap.size w ((((w.alloc (.cells Y.toArray 89)).alloc (.cells X.toArray 89)).alloc (.cells Z.toArray 89)).alloc (.cells Z.toArray 89)) := ((((Below.refl _ w).alloc (Nat.le_refl _) _).alloc (by simp) _).alloc (by simp; omega) _).alloc (by simp; omega) _
  go_enter Try.func54, Try.ntmps54
  go_wp2_with fail
  generalize (((w.alloc (.cells Y.toArray 89)).alloc (.cells X.toArray 89)).alloc (.cells Z.toArray 89)).alloc (.cells Z.toArray 89) = w0 at hA0 hB0 hC0 hD0 hl0 ⊢
  obtain ⟨g, hgd⟩ : ∃ g, w.heap.size = g := ⟨_, rfl⟩
  rw [hgd] at hA0 hB0 hC0 hD0 hl0 ⊢
  have HG : Hid (w.heap.size = g) := hgd
  clear hgd hzr
  rw [← HX.out] at hB0
  rw [← PZ.out] at hD0
  clear HX PZ
  have cY := fun (w : World) (O : Nat) (h : O < pP) => rsum_any O A h HA.out w
  rw [HY.out] at cY
  have CY : Hid (∀ (w : World) (O : Nat), O < pP → Calls Try.prog 53 #[.agg (nr .i64 17 (dg 8 O)).toArray, .agg Y.toArray] w fun e w' => e = .returned (.agg (nr .i64 17 (dg 8 ((O + A) % pP))).toArray) ∧ Below w.heap.size w w') := cY
  clear HY cY
  go_loopw [6] (fun v wr => ∃ k : Nat, k ≤ 17 ∧ v = .int .i64 ((k : Int) - 1) ∧ Blk wr g 89 Y ∧ Blk wr (g + 1) 89 (nr .i64 17 (dg 8 B)) ∧ Blk wr (g + 2) 89 Z ∧ Blk wr (g + 3) 89 (nr .i64 17 (dg 8 (A * (B / 2 ^ (8 * k)) % pP))) ∧ Below g w wr) (fun v _ => (1 + intOf v).toNat)
  case atStart => exact ⟨17, by omega, rfl, hA0, hB0, hC0, hD0, hl0⟩
  case round =>
    clear hA0 hB0 hC0 hD0 hl0
    obtain ⟨k1, hk, rfl, hA, hB, hC, hD, hl⟩ := hrel
    by_cases hlt : 1 ≤ k1
    · obtain ⟨k, rfl⟩ : ∃ k, k1 = k + 1 := ⟨k1 - 1, by omega⟩
      have hk0 : (0 : Int) ≤ ((k + 1 : Nat) : Int) - 1 := by omega
      have ek : ((k + 1 : Nat) : Int) - 1 = (k : Int) := by omega
      rw [ek]
      clear ek hk0
      have hk' : (k : Int) < 17 := by omega
      have HD : Hid (Blk wr (g + 3) 89 (nr .i64 17 (dg 8 (A * (B / 2 ^ (8 * (k + 1))) % pP)))) := hD
      clear hD
      go_wp2_with fail
      go_loopw [7, 8] (fun p v wr => ∃ i : Nat, i ≤ 8 ∧ v = .int .i64 i ∧ p = .int .i64 ((128 / 2 ^ i : Nat) : Int) ∧ Blk wr g 89 Y ∧ Blk wr (g + 1) 89 (nr .i64 17 (dg 8 B)) ∧ Blk wr (g + 2) 89 Z ∧ Blk wr (g + 3) 89 (nr .i64 17 (dg 8 (A * (B / 2 ^ (8 * k + (8 - i))) % pP))) ∧ Below g w wr) (fun _ v _ => (8 - intOf v).toNat)
      case atStart => exact ⟨0, by omega, rfl, rfl, hA, hB, hC, HD.out, hl⟩
      case round =>
        clear hA hB hC HD hl
        obtain ⟨i, hi, rfl, rfl, hA, hB, hC, hD, hl⟩ := hrel
        by_cases hlt2 : i < 8
        · have hi' : (i : Int) < 8 := by omega
          obtain ⟨e, he⟩ : ∃ e, 8 * k + (8 - i) = e + 1 := ⟨8 * k + (7 - i), by omega⟩
          have he' : 8 * k + (7 - i) = e := by omega
          have he2 : 8 * k + (8 - (i + 1)) = e := by omega
          obtain ⟨O, hO⟩ : ∃ O, A * (B / 2 ^ (e + 1)) % pP = O := ⟨_, rfl⟩
          have hOb : O < pP := by rw [← hO]; exact Nat.mod_lt _ pP_pos
          rw [he, hO] at hD
          have hbit := bit_dg B k (7 - i) (by omega)
          rw [he'] at hbit
          have hp := pow_half i hlt2
          have HP : Hid (128 / 2 ^ (i + 1) = 128 / 2 ^ i / 2) := by rw [Nat.pow_succ, ← Nat.div_div_eq_div_mul]; exact rfl
          have hp0 : 1 ≤ 2 ^ (7 - i) := Nat.pow_pos (by omega)
          have hp1 : 2 ^ (7 - i) ≤ 2 ^ 7 := Nat.pow_le_pow_right (by omega) (by omega)
          rw [← hp] at hbit hp0 hp1
          rw [show (2 : Nat) ^ 7 = 128 from rfl] at hp1
          have bB := dg_lt 8 B k
          rw [show (2 : Nat) ^ 8 = 256 from rfl] at bB
          have c1 := fun w => rsum_any O O hOb hOb w
          have c2 := fun w => CY.out w ((O + O) % pP) (Nat.mod_lt _ pP_pos)
          have cb : ∀ w', Below wr.heap.size wr w' → ∀ M : Array Value, (w'.setRow (g + 3) M).cell? ⟨g + 1, k, none⟩ = some (.int .i64 ((dg 8 B k : Nat) : Int)) := fun w' hb M => ((hB.below hb hB.lt).setRowOther (by omega) M).cell (nr_at .i64 17 (dg 8 B) k (by omega))
          have HF0 : Hid (B / 2 ^ e % 2 = 0 → nr .i64 17 (dg 8 ((O + O) % pP)) = nr .i64 17 (dg 8 (A * (B / 2 ^ (8 * k + (8 - (i + 1)))) % pP))) := fun h => by rw [he2, prod_step0 A B e O hO.symm h]
          have HF1 : Hid (B / 2 ^ e % 2 = 1 → nr .i64 17 (dg 8 (((O + O) % pP + A) % pP)) = nr .i64 17 (dg 8 (A * (B / 2 ^ (8 * k + (8 - (i + 1)))) % pP))) := fun h => by rw [he2, prod_step1 A B e O hO.symm h]
          obtain ⟨U, hU⟩ : ∃ U, nr .i64 17 (dg 8 O) = U := ⟨_, rfl⟩
          obtain ⟨V, hV⟩ : ∃ V, nr .i64 17 (dg 8 ((O + O) % pP)) = V := ⟨_, rfl⟩
          obtain ⟨T, hT⟩ : ∃ T, nr .i64 17 (dg 8 (((O + O) % pP + A) % pP)) = T := ⟨_, rfl⟩
          have lU : U.length = 17 := by rw [← hU, nr_length]
          have lV : V.length = 17 := by rw [← hV, nr_length]
          have lT : T.length = 17 := by rw [← hT, nr_length]
          have oV : ∀ v ∈ V, v.oneCell' = true := by rw [← hV]; exact nr_one _ _ _
          have oT : ∀ v ∈ T, v.oneCell' = true := by rw [← hT]; exact nr_one _ _ _
          rw [hU, hV] at c1
          rw [hV, hT] at c2
          rw [hV] at HF0
          rw [hT] at HF1
          rw [hU] at hD
          have hgr : g ≤ wr.heap.size := Nat.le_of_lt hA.lt
          have hb2 : B / 2 ^ e % 2 = 0 ∨ B / 2 ^ e % 2 = 1 := by omega
          clear hU hV hT hO hOb he he' he2 hp
          generalize B / 2 ^ e % 2 = bit at *
          generalize dg 8 B k = x at *
          obtain ⟨p, hpd⟩ : ∃ p, 128 / 2 ^ i = p := ⟨_, rfl⟩
          rw [hpd] at hbit hp0 hp1 HP ⊢
          clear hpd
          obtain ⟨q, hq⟩ : ∃ q, x / p = q := ⟨_, rfl⟩
          have hqI : (x : Int) / (p : Int) = (q : Int) := by rw [← hq]; simp
          have hq1 : q < 256 := by rw [← hq]; exact Nat.lt_of_le_of_lt (Nat.div_le_self _ _) bB
          rw [hq] at hbit
          have hbI : (q : Int) % 2 = (bit : Int) := by omega
          clear hq
          go_wp2_with (refine wpList_load_blk rfl 89 _ rfl (g + 3) rfl 89 U _ hD Try.underlying89 rfl (by rw [Try.size89, lU]) ?_)
          refine (c1 wr).mono ?_
          rintro e' w1 ⟨rfl, hb1⟩
          have hx := cb w1 hb1 V.toArray
          have hA1 := (hA.below hb1 hA.lt).setRowOther (show g ≠ g + 3 by omega) V.toArray
          have hB1 := (hB.below hb1 hB.lt).setRowOther (show g + 1 ≠ g + 3 by omega) V.toArray
          have hC1 := (hC.below hb1 hC.lt).setRowOther (show g + 2 ≠ g + 3 by omega) V.toArray
          have hD1 := hD.below hb1 hD.lt
          have hD2 := hD1.setRow (M := V)
          have hl1 : Below g w (w1.setRow (g + 3) V.toArray) := below_setRow (hl.trans (hb1.mono hgr)) (by omega) _
          clear cb c1 hA hB hC hD hl hb1
          rcases hb2 with h0 | h1
          · subst h0
            have hF := HF0.out rfl
            have HFF : Hid (Blk (w1.setRow (g + 3) V.toArray) (g + 3) 89 (nr .i64 17 (dg 8 (A * (B / 2 ^ (8 * k + (8 - (i + 1)))) % pP)))) := by rw [← hF]; exact hD2
            clear hF HF0 HF1 hD2 c2 hbit
            rw [show ((0 : Nat) : Int) = 0 from rfl] at hbI
            go_wp2_with (refine wpList_store_blk rfl 89 _ _ rfl (g + 3) U V rfl rfl 89 hD1 (by rw [Try.size89, lV]) (by rw [lU, lV]) oV ?_)
            exact ⟨⟨i + 1, by omega, by go_num, by rw [HP.out]; rfl, hA1, hB1, hC1, HFF.out, hl1⟩, by simp [intOf]; omega⟩
          · subst h1
            have hF := HF1.out rfl
            rw [show ((1 : Nat) : Int) = 1 from rfl] at hbI
            clear HF0 HF1 hbit
            go_wp2_with (first | (refine wpList_store_blk rfl 89 _ _ rfl (g + 3) U V rfl rfl 89 hD1 (by rw [Try.size89, lV]) (by rw [lU, lV]) oV ?_) | (refine wpList_load_blk rfl 89 _ rfl (g + 3) rfl 89 V _ hD2 Try.underlying89 rfl (by rw [Try.size89, lV]) ?_) | (refine wpList_load_blk rfl 89 _ rfl g rfl 89 Y _ hA1 Try.underlying89 rfl (by rw [Try.size89, lY]) ?_))
            generalize w1.setRow (g + 3) V.toArray = w2 at *
            refine (c2 w2).mono ?_
            rintro e' w3 ⟨rfl, hb3⟩
            have hgr2 : g ≤ w2.heap.size := Nat.le_of_lt hA1.lt
            have hA3 := (hA1.below hb3 hA1.lt).setRowOther (show g ≠ g + 3 by omega) T.toArray
            have hB3 := (hB1.below hb3 hB1.lt).setRowOther (show g + 1 ≠ g + 3 by omega) T.toArray
            have hC3 := (hC1.below hb3 hC1.lt).setRowOther (show g + 2 ≠ g + 3 by omega) T.toArray
            have hD3 := hD2.below hb3 hD2.lt
            have HFF : Hid (Blk (w3.setRow (g + 3) T.toArray) (g + 3) 89 (nr .i64 17 (dg 8 (A * (B / 2 ^ (8 * k + (8 - (i + 1)))) % pP)))) := by rw [← hF]; exact hD3.setRow
            have hl3 : Below g w (w3.setRow (g + 3) T.toArray) := below_setRow (hl1.trans (hb3.mono hgr2)) (by omega) _
            clear c2 hA1 hB1 hC1 hD1 hD2 hl1 hb3 hx hF
            go_wp2_with (refine wpList_store_blk rfl 89 _ _ rfl (g + 3) V T rfl rfl 89 hD3 (by rw [Try.size89, lT]) (by rw [lV, lT]) oT ?_)
            exact ⟨⟨i + 1, by omega, by go_num, by rw [HP.out]; rfl, hA3, hB3, hC3, HFF.out, hl3⟩, by simp [intOf]; omega⟩
        · have hi8 : i = 8 := by omega
          subst hi8
          rw [show ((8 : Nat) : Int) = 8 from rfl]
          have HD : Hid (Blk wr (g + 3) 89 (nr .i64 17 (dg 8 (A * (B / 2 ^ (8 * k)) % pP)))) := hD
          clear hD
          go_wp2_with fail
          exact ⟨⟨k, by omega, rfl, hA, hB, hC, HD.out, hl⟩, by simp [intOf]; omega⟩
    · have hk0 : k1 = 0 := by omega
      subst hk0
      rw [show ((0 : Nat) : Int) - 1 = -1 from rfl]
      obtain ⟨U, hU⟩ : ∃ U, nr .i64 17 (dg 8 (A * B % pP)) = U := ⟨_, rfl⟩
      have hD' : Blk wr (g + 3) 89 U := by
        rw [← hU]
        have := hD
        rw [Nat.mul_zero, Nat.pow_zero, Nat.div_one] at this
        exact this
      have lU : U.length = 17 := by rw [← hU, nr_length]
      have oU : ∀ v ∈ U, v.oneCell' = true := by rw [← hU]; exact nr_one _ _ _
      have HU : Hid (nr .i64 17 (dg 8 (A * B % pP)) = U) := hU
      have hR := load89 (hC.setRow (M := U)) lU
      have hl' : Below g w (wr.setRow (g + 2) U.toArray) := below_setRow hl (by omega) _
      clear hA hB hD hl hU CY HA
      go_wp2_with (first | (refine wpList_load_blk rfl 89 _ rfl (g + 3) rfl 89 U _ hD' Try.underlying89 rfl (by rw [Try.size89, lU]) ?_) | (refine wpList_store_blk rfl 89 _ _ rfl (g + 2) Z U rfl rfl 89 hC (by rw [Try.size89, lU]) (by rw [lZ, lU]) oU ?_))
      refine bodyPost_ret_by (v := .agg U.toArray) (results_cell 4 89 ⟨g + 2, 0, none⟩ Try.results54 rfl hR) rfl ⟨by rw [HU.out], ?_⟩
      rw [HG.out]; exact hl'
end Go.Proofs.Ytnpebabffnjmmaa
/- What the document's tag of a text is. -/
namespace Go.Proofs.Ytnpebabffnjmmaa
open Go.RowKit Go.PlainAid
set_option linter.unusedVariables false

set_option maxRecDepth 20000 in
theorem str_index (s : ByteArray) (i : Nat) (h : i < s.size) (w : World) : (Instr.index 9 (.string s) (.int .i64 (i : Int))).run Try.prog w = .ok (.int .u8 ((bn s i : Nat) : Int)) w := by
  rw [run_index_string w 9 s .i64 (i : Int) Try.underlying9, dif_pos ⟨by omega, by omega⟩, bn_int]
  unfold bt
  rw [dif_pos h]
  simp
set_option maxRecDepth 20000 in
theorem Try.info5' : (Try.prog.info? 5).map (fun i => (i.zero, i.size, i.bytes)) = some (some (.int .u8 0), 1, 1) := by kernel_rfl

set_option maxRecDepth 20000 in
theorem refSum_shape (key s : ByteArray) (hk : key.size ≤ maxLen) (h : key.size ≠ 32) (w : World) :
    Calls Try.prog 36 #[.string key, .string s] w fun e w' => e = .returned (.tuple #[.string ⟨#[]⟩, .int .i64 7]) ∧ w' = w := by
  unfold maxLen at hk
  have hI : (((key.size : Nat) : Int) != 32) = true := by simp; omega
  go_enter Try.func36, Try.ntmps36
  go_wp2_with fail
  go_ret2
  exact ⟨rfl, rfl⟩

set_option maxHeartbeats 2000000 in
set_option maxRecDepth 20000 in
theorem refSum_ok (key s : ByteArray) (hk : key.size = 32) (hs : s.size ≤ 65536) (w : World) :
    Calls Try.prog 36 #[.string key, .string s] w fun e w' => e = .returned (.tuple #[.string (tagB key s), .int .i64 0]) ∧ Below w.heap.size w w' := by
  have hzr := zero89_run
  obtain ⟨Z, hZ⟩ : ∃ Z, nr .i64 17 (fun _ => 0) = Z := ⟨_, rfl⟩
  rw [hZ] at hzr
  have lZ : Z.length = 17 := by rw [← hZ, nr_length]
  have PZ : Hid (nr .i64 17 (fun _ => 0) = Z) := hZ
  clear hZ
  have hI : (((key.size : Nat) : Int) != 32) = false := by simp; omega
  have hL : ¬ ((65536 : Int) < ((s.size : Nat) : Int)) := by omega
  obtain ⟨K1, hK1⟩ : ∃ K1, key.extract 0 16 = K1 := ⟨_, rfl⟩
  have s1 : K1.size = 16 := by rw [← hK1, ByteArray.size_extract]; omega
  have hrk : nt (clB K1) = rk key := by rw [← hK1]; rfl
  have c1 := fun w => refClamp_ok K1 s1 w
  have hQs := clB_size K1
  have HK : Hid (key.size = 32) := hk
  have HK2 : Hid (∀ i, i < 16 → bn key (16 + i) = dg 8 (sk key) i) := fun i hi => by
    unfold sk
    rw [dg_nt]
    unfold bn; rw [bt_cut key 16 32 i (by omega) (by omega)]
  have HT : Hid (tagB key s = leB (pac (rk key) s ((s.size + 15) / 16) + sk key) 16) := rfl
  have hrb := rk_lt key
  have HQ : Hid (∀ i, dg 8 (rk key) i = bn (clB K1) i) := fun i => by rw [← hrk, dg_nt]
  generalize rk key = r at *
  generalize sk key = a2 at *
  generalize clB K1 = Q1 at *
  have hkl : 32 ≤ key.size := by omega
  have hkr : key.size ≤ 32 := by omega
  clear hk hrk
  go_enter Try.func36, Try.ntmps36
  go_wp2_with fail
  refine (c1 _).mono ?_
  rintro e w1 ⟨rfl, hb1⟩
  have hA0 : Blk ((w1.alloc (.cells Z.toArray 89)).alloc (.cells Z.toArray 89)) w1.heap.size 89 Z := (Blk.box w1 89 Z).alloc _
  have hB0 : Blk ((w1.alloc (.cells Z.toArray 89)).alloc (.cells Z.toArray 89)) (w1.heap.size + 1) 89 Z := by
    have := Blk.box (w1.alloc (.cells Z.toArray 89)) 89 Z
    simpa using this
  have hl0 : Below w.heap.size w ((w1.alloc (.cells Z.toArray 89)).alloc (.cells Z.toArray 89)) := (hb1.alloc hb1.size _).alloc (by have := hb1.size; simp; omega) _
  have hgs := hb1.size
  clear hb1 c1
  go_wp2_with fail
  generalize (w1.alloc (.cells Z.toArray 89)).alloc (.cells Z.toArray 89) = w0 at hA0 hB0 hl0 ⊢
  obtain ⟨B, hBd⟩ : ∃ B, w.heap.size = B := ⟨_, rfl⟩
  rw [hBd] at hl0 hgs
  have HB : Hid (w.heap.size = B) := hBd
  clear hBd
  generalize w1.heap.size = g at *
  rw [← PZ.out] at hA0
  -- the factor
  go_loopw [10] (fun v wr => ∃ k : Nat, k ≤ 16 ∧ v = .int .i64 k ∧ Blk wr g 89 (nr .i64 17 (fun i => if i < k then bn Q1 i else 0)) ∧ Blk wr (g + 1) 89 Z ∧ Below B w wr) (fun v _ => (16 - intOf v).toNat)
  case atStart => exact ⟨0, by omega, rfl, hA0, hB0, hl0⟩
  case round =>
    clear hA0 hB0 hl0
    obtain ⟨k, hk, rfl, hA, hB, hl⟩ := hrel
    by_cases hlt : k < 16
    · have hlt' : (k : Int) < 16 := by omega
      have hix := str_index Q1 k (by omega)
      have hbq := bn_lt Q1 k
      have cn : wr.cell? ⟨g, k, none⟩ = some (.int .i64 ((0 : Nat) : Int)) := by
        have := hA.cell (nr_at .i64 17 _ k (by omega))
        rw [if_neg (by omega)] at this; exact this
      have fn := hA.frozen k
      have hA2 : Hid (Blk (wr.setCell ⟨g, k, none⟩ (.int .i64 ((bn Q1 k : Nat) : Int))) g 89 (nr .i64 17 (fun i => if i < k + 1 then bn Q1 i else 0))) := by
        have hh := hA.setCell k (.int .i64 ((bn Q1 k : Nat) : Int))
        rw [nr_set] at hh
        rw [nr_congr .i64 17 (fun i => if i < k + 1 then bn Q1 i else 0) (fun i => if i = k then bn Q1 k else if i < k then bn Q1 i else 0) ?_]
        · exact hh
        · intro i _
          show (if i < k + 1 then bn Q1 i else 0) = if i = k then bn Q1 k else if i < k then bn Q1 i else 0
          by_cases h1 : i = k
          · subst h1; rw [if_pos (by omega), if_pos rfl]
          · rw [if_neg h1]
            by_cases h2 : i < k
            · rw [if_pos h2, if_pos (by omega)]
            · rw [if_neg h2, if_neg (by omega)]
      have hB2 : Hid (Blk (wr.setCell ⟨g, k, none⟩ (.int .i64 ((bn Q1 k : Nat) : Int))) (g + 1) 89 Z) := hB.setOther (by omega) k _
      have hl2 : Hid (Below B w (wr.setCell ⟨g, k, none⟩ (.int .i64 ((bn Q1 k : Nat) : Int)))) := hl.setCell hgs _
      clear hA hB hl
      generalize bn Q1 k = x at *
      have hbq' : x < 256 := hbq
      clear hbq
      go_wp2_with fail
      exact ⟨⟨k + 1, by omega, by go_num, hA2.out, hB2.out, hl2.out⟩, by simp [intOf]; omega⟩
    · have hk16 : k = 16 := by omega
      subst hk16
      rw [show ((16 : Nat) : Int) = 16 from rfl]
      obtain ⟨R, hR⟩ : ∃ R, nr .i64 17 (dg 8 r) = R := ⟨_, rfl⟩
      have hA' : Blk wr g 89 R := by
        rw [← hR, nr_congr .i64 17 (dg 8 r) (fun i => if i < 16 then bn Q1 i else 0) (fun i hi => ?_)]
        · exact hA
        · rw [HQ.out i]
          show bn Q1 i = if i < 16 then bn Q1 i else 0
          by_cases h1 : i < 16
          · rw [if_pos h1]
          · rw [if_neg h1]; unfold bn; rw [bt_out Q1 i (by omega)]; rfl
      have lR : R.length = 17 := by rw [← hR, nr_length]
      have HR : Hid (nr .i64 17 (dg 8 r) = R) := hR
      have hB' : Blk wr (g + 1) 89 (nr .i64 17 (dg 8 (pac r s 0))) := by
        rw [nr_congr .i64 17 (dg 8 (pac r s 0)) (fun _ => 0) (fun i _ => dg_zero 8 i), PZ.out]; exact hB
      clear hA hB hR HQ hQs
      go_wp2_with fail
      go_loopw [11] (fun v wr => ∃ k : Nat, k ≤ (s.size + 15) / 16 ∧ v = .int .i64 (16 * k) ∧ Blk wr g 89 R ∧ Blk wr (g + 1) 89 (nr .i64 17 (dg 8 (pac r s k))) ∧ Below B w wr) (fun v _ => (s.size + 15 - intOf v).toNat)
      case atStart => exact ⟨0, by omega, rfl, hA', hB', hl⟩
      case round =>
        clear hA' hB' hl
        obtain ⟨k, hk, rfl, hA, hB, hl⟩ := hrel
        by_cases hlt : 16 * k < s.size
        · have hlt' : 16 * (k : Int) < ((s.size : Nat) : Int) := by omega
          obtain ⟨n, hn⟩ : ∃ n, min (16 * k + 16) s.size - 16 * k = n := ⟨_, rfl⟩
          have hn1 : n ≤ 16 := by omega
          have hn2 : 16 * k + n ≤ s.size := by omega
          have hn3 : n < 16 → 16 * k + n = s.size := by omega
          have hTs : (ckT s k).size = n + 1 := by rw [ckT_size, hn]
          have hTb : Hid (∀ i, i < n → bn (ckT s k) i = bn s (16 * k + i)) := fun i hi => by
            unfold bn ckT
            rw [bt_left _ _ _ (by rw [ckB_size, hn]; exact hi)]
            unfold ckB
            rw [bt_cut s _ _ i (by omega) (by omega)]
          have hT1 : Hid (bn (ckT s k) n = 1) := by
            unfold bn ckT
            rw [bt_right _ _ _ (by rw [ckB_size, hn]; exact Nat.le_refl _), ckB_size, hn, Nat.sub_self]
            exact rfl
          have hT0 : Hid (∀ i, n < i → bn (ckT s k) i = 0) := fun i hi => by
            unfold bn
            rw [bt_out _ i (by omega)]; rfl
          have hNb := ckN_pP s k
          have hdN : Hid (∀ i, dg 8 (ckN s k) i = bn (ckT s k) i) := fun i => by unfold ckN; rw [dg_nt]
          obtain ⟨C, hC⟩ : ∃ C : Nat → Nat, bn (ckT s k) = C := ⟨_, rfl⟩
          rw [hC] at hTb hT1 hT0 hdN
          clear hC hTs hn
          have hD0 : Blk (wr.alloc (.cells Z.toArray 89)) wr.heap.size 89 Z := Blk.box wr 89 Z
          have hA0 : Blk (wr.alloc (.cells Z.toArray 89)) g 89 R := hA.alloc _
          have hB0 : Blk (wr.alloc (.cells Z.toArray 89)) (g + 1) 89 (nr .i64 17 (dg 8 (pac r s k))) := hB.alloc _
          have hg1 := hB.lt
          have hl0 : Below B w (wr.alloc (.cells Z.toArray 89)) := hl.alloc (by omega) _
          clear hA hB hl
          go_wp2_with fail
          generalize wr.alloc (.cells Z.toArray 89) = w3 at hA0 hB0 hD0 hl0 ⊢
          generalize wr.heap.size = h at *
          rw [← PZ.out] at hD0
          go_loopw [13] (fun v wi => ∃ q : Nat, q ≤ n ∧ v = .int .i64 q ∧ Blk wi g 89 R ∧ Blk wi (g + 1) 89 (nr .i64 17 (dg 8 (pac r s k))) ∧ Blk wi h 89 (nr .i64 17 (fun i => if i < q then C i else 0)) ∧ Below B w wi) (fun v _ => (16 - intOf v).toNat)
          case atStart => exact ⟨0, by omega, rfl, hA0, hB0, hD0, hl0⟩
          case round =>
            clear hA0 hB0 hD0 hl0
            obtain ⟨q, hq, rfl, hA, hB, hD, hl⟩ := hrel
            by_cases hqn : q < n
            · have q1 : (q : Int) < 16 := by omega
              have q2 : 16 * (k : Int) + (q : Int) < ((s.size : Nat) : Int) := by omega
              have hix0 := str_index s (16 * k + q) (by omega)
              rw [← hTb.out q hqn] at hix0
              have hix : ∀ w, (Instr.index 9 (.string s) (.int .i64 (16 * (k : Int) + (q : Int)))).run Try.prog w = .ok (.int .u8 ((C q : Nat) : Int)) w := hix0
              clear hix0
              have hbc : C q < 256 := by rw [hTb.out q hqn]; exact bn_lt s _
              have cn : wr.cell? ⟨h, q, none⟩ = some (.int .i64 ((0 : Nat) : Int)) := by
                have := hD.cell (nr_at .i64 17 _ q (by omega))
                rw [if_neg (by omega)] at this; exact this
              have fn := hD.frozen q
              have hD2 : Hid (Blk (wr.setCell ⟨h, q, none⟩ (.int .i64 ((C q : Nat) : Int))) h 89 (nr .i64 17 (fun i => if i < q + 1 then C i else 0))) := by
                have hh := hD.setCell q (.int .i64 ((C q : Nat) : Int))
                rw [nr_set] at hh
                rw [nr_congr .i64 17 (fun i => if i < q + 1 then C i else 0) (fun i => if i = q then C q else if i < q then C i else 0) ?_]
                · exact hh
                · intro i _
                  show (if i < q + 1 then C i else 0) = if i = q then C q else if i < q then C i else 0
                  by_cases h1 : i = q
                  · subst h1; rw [if_pos (by omega), if_pos rfl]
                  · rw [if_neg h1]
                    by_cases h2 : i < q
                    · rw [if_pos h2, if_pos (by omega)]
                    · rw [if_neg h2, if_neg (by omega)]
              have hA2 : Hid (Blk (wr.setCell ⟨h, q, none⟩ (.int .i64 ((C q : Nat) : Int))) g 89 R) := hA.setOther (by omega) q _
              have hB2 : Hid (Blk (wr.setCell ⟨h, q, none⟩ (.int .i64 ((C q : Nat) : Int))) (g + 1) 89 (nr .i64 17 (dg 8 (pac r s k)))) := hB.setOther (by omega) q _
              have hl2 : Hid (Below B w (wr.setCell ⟨h, q, none⟩ (.int .i64 ((C q : Nat) : Int)))) := hl.setCell (by show B ≤ h; omega) _
              clear hA hB hD hl
              generalize C q = x at *
              go_wp2_with fail
              exact ⟨⟨q + 1, by omega, by go_num, hA2.out, hB2.out, hD2.out, hl2.out⟩, by simp [intOf]; omega⟩
            · have hqe : q = n := by omega
              subst hqe
              have bA := pac_lt r s k
              have c1 := fun w => rsum_any (pac r s k) (ckN s k) bA hNb w
              have c2 := fun w => rprod_any ((pac r s k + ckN s k) % pP) r (Nat.mod_lt _ pP_pos) (Nat.lt_trans hrb (by decide)) w
              rw [← pac_mod, HR.out] at c2
              obtain ⟨U, hU⟩ : ∃ U, nr .i64 17 (dg 8 (pac r s k)) = U := ⟨_, rfl⟩
              obtain ⟨X, hX⟩ : ∃ X, nr .i64 17 (dg 8 (ckN s k)) = X := ⟨_, rfl⟩
              obtain ⟨V, hV⟩ : ∃ V, nr .i64 17 (dg 8 ((pac r s k + ckN s k) % pP)) = V := ⟨_, rfl⟩
              obtain ⟨W, hW⟩ : ∃ W, nr .i64 17 (dg 8 (pac r s (k + 1))) = W := ⟨_, rfl⟩
              have lU : U.length = 17 := by rw [← hU, nr_length]
              have lX : X.length = 17 := by rw [← hX, nr_length]
              have lV : V.length = 17 := by rw [← hV, nr_length]
              have lW : W.length = 17 := by rw [← hW, nr_length]
              have oV : ∀ v ∈ V, v.oneCell' = true := by rw [← hV]; exact nr_one _ _ _
              have oW : ∀ v ∈ W, v.oneCell' = true := by rw [← hW]; exact nr_one _ _ _
              have HW : Hid (nr .i64 17 (dg 8 (pac r s (k + 1))) = W) := hW
              have cn : wr.cell? ⟨h, q, none⟩ = some (.int .i64 ((0 : Nat) : Int)) := by
                have := hD.cell (nr_at .i64 17 _ q (by omega))
                rw [if_neg (by omega)] at this; exact this
              have fn := hD.frozen q
              have hD1 : Blk (wr.setCell ⟨h, q, none⟩ (.int .i64 1)) h 89 X := by
                have hh := hD.setCell q (.int .i64 ((1 : Nat) : Int))
                rw [nr_set] at hh
                rw [← hX, nr_congr .i64 17 (dg 8 (ckN s k)) (fun i => if i = q then 1 else if i < q then C i else 0) ?_]
                · exact hh
                · intro i _
                  rw [hdN.out i]
                  show C i = if i = q then 1 else if i < q then C i else 0
                  by_cases h1 : i = q
                  · rw [if_pos h1, h1]; exact hT1.out
                  · rw [if_neg h1]
                    by_cases h2 : i < q
                    · rw [if_pos h2]
                    · rw [if_neg h2]; exact hT0.out i (by omega)
              have hA1 : Blk (wr.setCell ⟨h, q, none⟩ (.int .i64 1)) g 89 R := hA.setOther (by omega) q _
              have hB1 : Blk (wr.setCell ⟨h, q, none⟩ (.int .i64 1)) (g + 1) 89 U := by rw [← hU]; exact hB.setOther (by omega) q _
              have hl1 : Below B w (wr.setCell ⟨h, q, none⟩ (.int .i64 1)) := hl.setCell (by show B ≤ h; omega) _
              rw [hU, hX, hV] at c1
              rw [hV, hW] at c2
              clear hA hB hD hl hU hX hV hW bA hNb hdN hT0 hT1 hTb hq hqn
              by_cases h16 : q < 16
              · have q1 : (q : Int) < 16 := by omega
                have q2 : ¬ (16 * (k : Int) + (q : Int) < ((s.size : Nat) : Int)) := by have := hn3 h16; omega
                have q3 : (q : Int) < 17 := by omega
                clear hn3
                go_wp2_with (first | (refine wpList_load_blk rfl 89 _ rfl (g + 1) rfl 89 U _ hB1 Try.underlying89 rfl (by rw [Try.size89, lU]) ?_) | (refine wpList_load_blk rfl 89 _ rfl h rfl 89 X _ hD1 Try.underlying89 rfl (by rw [Try.size89, lX]) ?_))
                clear cn fn
                generalize wr.setCell ⟨h, q, none⟩ (.int .i64 1) = w4 at hA1 hB1 hD1 hl1 ⊢
                refine (c1 w4).mono ?_
                rintro e w5 ⟨rfl, hb5⟩
                have hA5 := hA1.below hb5 hA1.lt
                have hB5 := hB1.below hb5 hB1.lt
                have hl5 := hl1.trans (hb5.mono (show B ≤ w4.heap.size by have := hA1.lt; omega))
                have hA6 : Blk (w5.setRow (g + 1) V.toArray) g 89 R := hA5.setRowOther (by omega) _
                have hB6 : Blk (w5.setRow (g + 1) V.toArray) (g + 1) 89 V := hB5.setRow
                have hl6 : Below B w (w5.setRow (g + 1) V.toArray) := below_setRow hl5 (by omega) _
                clear hA1 hB1 hD1 hl1 hb5 c1 hA5 hl5
                go_wp2_with (first | (refine wpList_store_blk rfl 89 _ _ rfl (g + 1) U V rfl rfl 89 hB5 (by rw [Try.size89, lV]) (by rw [lU, lV]) oV ?_) | (refine wpList_load_blk rfl 89 _ rfl (g + 1) rfl 89 V _ hB6 Try.underlying89 rfl (by rw [Try.size89, lV]) ?_) | (refine wpList_load_blk rfl 89 _ rfl g rfl 89 R _ hA6 Try.underlying89 rfl (by rw [Try.size89, lR]) ?_))
                clear hB5
                generalize w5.setRow (g + 1) V.toArray = w6 at hA6 hB6 hl6 ⊢
                refine (c2 w6).mono ?_
                rintro e w7 ⟨rfl, hb7⟩
                have hA7 := hA6.below hb7 hA6.lt
                have hB7 := hB6.below hb7 hB6.lt
                have hl7 := hl6.trans (hb7.mono (show B ≤ w6.heap.size by have := hA6.lt; omega))
                have hA8 : Blk (w7.setRow (g + 1) W.toArray) g 89 R := hA7.setRowOther (by omega) _
                have hB8 : Blk (w7.setRow (g + 1) W.toArray) (g + 1) 89 W := hB7.setRow
                have hl8 : Below B w (w7.setRow (g + 1) W.toArray) := below_setRow hl7 (by omega) _
                clear hA6 hB6 hl6 hb7 c2 hA7 hl7
                go_wp2_with (refine wpList_store_blk rfl 89 _ _ rfl (g + 1) V W rfl rfl 89 hB7 (by rw [Try.size89, lW]) (by rw [lV, lW]) oW ?_)
                exact ⟨⟨k + 1, by omega, by congr 1, hA8, by rw [HW.out]; exact hB8, hl8⟩, by simp [intOf]; omega⟩
              · have q16 : q = 16 := by omega
                subst q16
                rw [show ((16 : Nat) : Int) = 16 from rfl]
                clear hn3
                go_wp2_with (first | (refine wpList_load_blk rfl 89 _ rfl (g + 1) rfl 89 U _ hB1 Try.underlying89 rfl (by rw [Try.size89, lU]) ?_) | (refine wpList_load_blk rfl 89 _ rfl h rfl 89 X _ hD1 Try.underlying89 rfl (by rw [Try.size89, lX]) ?_))
                clear cn fn
                generalize wr.setCell ⟨h, 16, none⟩ (.int .i64 1) = w4 at hA1 hB1 hD1 hl1 ⊢
                refine (c1 w4).mono ?_
                rintro e w5 ⟨rfl, hb5⟩
                have hA5 := hA1.below hb5 hA1.lt
                have hB5 := hB1.below hb5 hB1.lt
                have hl5 := hl1.trans (hb5.mono (show B ≤ w4.heap.size by have := hA1.lt; omega))
                have hA6 : Blk (w5.setRow (g + 1) V.toArray) g 89 R := hA5.setRowOther (by omega) _
                have hB6 : Blk (w5.setRow (g + 1) V.toArray) (g + 1) 89 V := hB5.setRow
                have hl6 : Below B w (w5.setRow (g + 1) V.toArray) := below_setRow hl5 (by omega) _
                clear hA1 hB1 hD1 hl1 hb5 c1 hA5 hl5
                go_wp2_with (first | (refine wpList_store_blk rfl 89 _ _ rfl (g + 1) U V rfl rfl 89 hB5 (by rw [Try.size89, lV]) (by rw [lU, lV]) oV ?_) | (refine wpList_load_blk rfl 89 _ rfl (g + 1) rfl 89 V _ hB6 Try.underlying89 rfl (by rw [Try.size89, lV]) ?_) | (refine wpList_load_blk rfl 89 _ rfl g rfl 89 R _ hA6 Try.underlying89 rfl (by rw [Try.size89, lR]) ?_))
                clear hB5
                generalize w5.setRow (g + 1) V.toArray = w6 at hA6 hB6 hl6 ⊢
                refine (c2 w6).mono ?_
                rintro e w7 ⟨rfl, hb7⟩
                have hA7 := hA6.below hb7 hA6.lt
                have hB7 := hB6.below hb7 hB6.lt
                have hl7 := hl6.trans (hb7.mono (show B ≤ w6.heap.size by have := hA6.lt; omega))
                have hA8 : Blk (w7.setRow (g + 1) W.toArray) g 89 R := hA7.setRowOther (by omega) _
                have hB8 : Blk (w7.setRow (g + 1) W.toArray) (g + 1) 89 W := hB7.setRow
                have hl8 : Below B w (w7.setRow (g + 1) W.toArray) := below_setRow hl7 (by omega) _
                clear hA6 hB6 hl6 hb7 c2 hA7 hl7
                go_wp2_with (refine wpList_store_blk rfl 89 _ _ rfl (g + 1) V W rfl rfl 89 hB7 (by rw [Try.size89, lW]) (by rw [lV, lW]) oW ?_)
                exact ⟨⟨k + 1, by omega, by congr 1, hA8, by rw [HW.out]; exact hB8, hl8⟩, by simp [intOf]; omega⟩
        · have hke : (s.size + 15) / 16 = k := by omega
          have hlt' : ¬ (16 * (k : Int) < ((s.size : Nat) : Int)) := by omega
          rw [hke] at HT
          obtain ⟨A, hAd⟩ : ∃ A, pac r s k = A := ⟨_, rfl⟩
          rw [hAd] at hB HT
          obtain ⟨i0, hi, hz0, hz1, hz2⟩ := info_parts Try.info5'
          have HE : Hid (leB (A + a2) 16 = tagB key s) := HT.out.symm
          have hg1 := hB.lt
          have hlB : Hid (Below B w wr) := hl
          clear hA hAd hke HT HR hzr PZ
          go_wp2_with fail
          rename World => w4
          obtain ⟨H, hHd⟩ : ∃ H, w4.heap.size = H := ⟨_, rfl⟩
          rw [hHd] at hg1
          go_loopw [14, 15, 16] (fun o c v wr => ∃ q : Nat, q ≤ 16 ∧ v = .int .i64 q ∧ c = .int .i64 ((cy 8 A a2 q : Nat) : Int) ∧ wr.ownsRow H 5 1 o q ((leL (A + a2) q).map (Value.int .u8)) ∧ Below H w4 wr) (fun _ _ v _ => (16 - intOf v).toNat)
          case atStart => exact ⟨0, by omega, rfl, by rw [cy_zero]; rfl, World.ownsRow_nil _ _ _ _, Below.refl _ _⟩
          case round =>
            obtain ⟨q, hq, rfl, rfl, hown, hbel⟩ := hrel
            by_cases hlt2 : q < 16
            · have q1 : (q : Int) < 16 := by omega
              have ca := (hB.below hbel hg1).cell (nr_at .i64 17 (dg 8 A) q (by omega))
              have hix0 := str_index key (16 + q) (by omega)
              rw [HK2.out q hlt2] at hix0
              have hix : ∀ w, (Instr.index 9 (.string key) (.int .i64 (16 + (q : Int)))).run Try.prog w = .ok (.int .u8 ((dg 8 a2 q : Nat) : Int)) w := hix0
              clear hix0
              have b0 := dg_lt 8 A q
              have b1 := dg_lt 8 a2 q
              have b2 := cy_le 8 A a2 q
              have e1 := dg_add 8 A a2 q
              have e2 := cy_succ 8 A a2 q
              rw [show (2 : Nat) ^ 8 = 256 from rfl] at b0 b1 e1 e2
              have hLL : (leL (A + a2) (q + 1)).map (Value.int .u8) = (leL (A + a2) q).map (Value.int .u8) ++ [.int .u8 ((dg 8 (A + a2) q : Nat) : Int)] := by
                unfold leL
                rw [List.range_succ]; simp
              have HL : Hid ((leL (A + a2) (q + 1)).map (Value.int .u8) = (leL (A + a2) q).map (Value.int .u8) ++ [.int .u8 ((dg 8 (A + a2) q : Nat) : Int)]) := hLL
              clear hLL
              obtain ⟨c1, hc1⟩ : ∃ c1, cy 8 A a2 (q + 1) = c1 := ⟨_, rfl⟩
              rw [hc1] at e2
              have HC1 : Hid (((cy 8 A a2 (q + 1) : Nat) : Int) = (c1 : Int)) := by rw [hc1]; exact rfl
              have hsz := hbel.size
              rw [hHd] at hsz
              clear hc1
              generalize dg 8 (A + a2) q = z at *
              generalize dg 8 A q = x at *
              generalize dg 8 a2 q = y at *
              generalize cy 8 A a2 q = c at *
              have e1' : ((c : Int) + (x : Int) + (y : Int)) % 256 = (z : Int) := by omega
              have e2' : ((c : Int) + (x : Int) + (y : Int)) / 256 = (c1 : Int) := by omega
              have hz : (z : Int) < 256 := by omega
              clear e1 e2
              go_wp2_with fail
              go_quiet (fail)
              go_wp2_with (at_builtin; refine wpList_append_own _ rfl _ _ 36 rfl H 5 i0 (.int .u8 0) 1 1 Try.underlying36 hi hz0 hz1 hz2 rfl (by decide) _ _ _ rfl (World.ownsRow.alloc (w := wr.drewN nq) hown _) ⟨wr.heap.size, 0, none⟩ 1 1 [.int .u8 (z : Int)] rfl rfl ?c1 ?c2 ?c3 ?c4 ?c5 ?_)
              case c1 =>
                intro j u hj
                match j, hj with
                | 0, hj => simp at hj; subst hj; simp only [Addr.add]; exact (Blk.new (wr.drewN nq) 5 #[.int .u8 (z : Int)]).cell rfl
              case c2 => intro u hu; simp at hu; subst hu; rfl
              case c3 => unfold maxLen; omega
              case c4 => omega
              case c5 => simp; omega
              · intro v' w6 hown' hgrow _
                have hbel' : Below H w4 w6 := by
                  refine Below.grown ((below_drewN' hbel nq).alloc (by show H ≤ wr.heap.size; omega) _) hgrow (by simp; omega) ?_
                  intro g hg; exact (hown.lt g hg).1
                have R' : w6.ownsRow H 5 1 v' (q + 1) ((leL (A + a2) (q + 1)).map (Value.int .u8)) := by
                  rw [HL.out]; exact hown'
                clear hown' hgrow hown hbel ca
                go_wp2_with fail
                exact ⟨⟨q + 1, by omega, by go_num, by rw [HC1.out, e2'], R', hbel'⟩, by simp [intOf]; omega⟩
            · have hq16 : q = 16 := by omega
              subst hq16
              rw [show ((16 : Nat) : Int) = 16 from rfl]
              have hcv := convert_owned hown (by simp [leL])
              rw [show strOfNums (leL (A + a2) 16) = leB (A + a2) 16 from rfl] at hcv
              generalize leB (A + a2) 16 = G at *
              have hgl : B ≤ H := by omega
              go_wp2_with fail
              go_ret2
              refine ⟨by rw [← HE.out]; rfl, ?_⟩
              rw [HB.out]
              exact hlB.out.trans (hbel.mono hgl)
end Go.Proofs.Ytnpebabffnjmmaa
/- What the document's Tag answers, for every key and nonce of their bytes and every two texts that may be sealed. -/
namespace Go.Proofs.Ytnpebabffnjmmaa
open Go.RowKit Go.PlainAid
set_option linter.unusedVariables false

section
variable (a c : ByteArray)
set_option maxRecDepth 20000 in
theorem mc_a (i : Nat) (h : i < a.size + upN a.size) : bt (mcB a c) i = bt a i := by
  unfold mcB
  rw [bt_left _ _ _ (by rw [ByteArray.size_append, pdB_size]; omega), bt_left _ _ _ (by rw [pdB_size]; omega), bt_pdB]
set_option maxRecDepth 20000 in
theorem mc_c (i : Nat) (h : i < c.size + upN c.size) : bt (mcB a c) (a.size + upN a.size + i) = bt c i := by
  unfold mcB
  rw [bt_left _ _ _ (by rw [ByteArray.size_append, pdB_size, pdB_size]; omega), bt_right _ _ _ (by rw [pdB_size]; omega), bt_pdB, pdB_size]
  congr 1; omega
set_option maxRecDepth 20000 in
theorem mc_l (i : Nat) (h : i < 8) : bt (mcB a c) (a.size + upN a.size + (c.size + upN c.size) + i) = ((dg 8 a.size i : Nat) : Int) := by
  unfold mcB lnB
  rw [bt_right _ _ _ (by rw [ByteArray.size_append, pdB_size, pdB_size]; omega), ByteArray.size_append, pdB_size, pdB_size, show a.size + upN a.size + (c.size + upN c.size) + i - (a.size + upN a.size + (c.size + upN c.size)) = i by omega, bt_left _ _ _ (by rw [leB_size]; exact h), bt_leB _ _ _ h]
set_option maxRecDepth 20000 in
theorem mc_m (i : Nat) (h : i < 8) : bt (mcB a c) (a.size + upN a.size + (c.size + upN c.size) + 8 + i) = ((dg 8 c.size i : Nat) : Int) := by
  unfold mcB lnB
  rw [bt_right _ _ _ (by rw [ByteArray.size_append, pdB_size, pdB_size]; omega), ByteArray.size_append, pdB_size, pdB_size, show a.size + upN a.size + (c.size + upN c.size) + 8 + i - (a.size + upN a.size + (c.size + upN c.size)) = 8 + i by omega, bt_right _ _ _ (by rw [leB_size]; omega), leB_size, show 8 + i - 8 = i by omega, bt_leB _ _ _ h]
end

set_option maxHeartbeats 2000000 in
set_option maxRecDepth 20000 in
theorem refTag_any (key nonce a c : ByteArray) (hk : key.size = 32) (hn : nonce.size = 12) (ha : a.size ≤ 16384) (hc : c.size ≤ 16384) (w : World) :
    Calls Try.prog 22 #[.string key, .string nonce, .string a, .string c] w fun e w' => e = .returned (.string (atg key nonce a c)) ∧ Below w.heap.size w w' := by
  have c0 := fun w => refBlock_ok key nonce 0 hk hn ⟨by decide, by decide⟩ w
  have hu1 := upN_lt a.size
  have hu2 := upN_lt c.size
  have hv1 := upN_mod a.size
  have hv2 := upN_mod c.size
  have f1 := mc_a a c
  have f2 := mc_c a c
  have f3 := mc_l a c
  have f4 := mc_m a c
  have hms : (mcB a c).size ≤ 65536 := by rw [mcB_size]; omega
  have c4 := fun w => refSum_ok (kyB key nonce) (mcB a c) (kyB_size _ _) hms w
  have hXK : (blkB (stI key nonce 0)).extract 0 32 = kyB key nonce := rfl
  have hXs : (blkB (stI key nonce 0)).size = 64 := blkB_size _
  have HT : Hid (tagB (kyB key nonce) (mcB a c) = atg key nonce a c) := rfl
  have hMt := str_bts (mcB a c)
  rw [mcB_size] at hMt
  generalize atg key nonce a c = T at HT ⊢
  generalize blkB (stI key nonce 0) = X at c0 hXK hXs
  generalize kyB key nonce = Y at c4 hXK HT
  obtain ⟨f, hf⟩ : ∃ f, bt (mcB a c) = f := ⟨_, rfl⟩
  rw [hf] at f1 f2 f3 f4 hMt
  generalize mcB a c = M at c4 HT hMt
  rw [HT.out] at c4
  have hX32 : ((32 : Int) ≤ ((X.size : Nat) : Int)) = True := by simp; omega
  have HXs : Hid (X.size = 64) := hXs
  obtain ⟨m1, hm1⟩ : ∃ m, a.size + upN a.size = m := ⟨_, rfl⟩
  obtain ⟨m2, hm2⟩ : ∃ m, m1 + (c.size + upN c.size) = m := ⟨_, rfl⟩
  rw [hm1] at f1 f2 f3 f4 hMt hv1
  rw [hm2] at f3 f4 hMt
  have HMt : Hid (strOfNums ((List.range (m2 + 8 + 8)).map f) = M) := hMt
  -- facts for the parts
  have Ha1 : Hid (∀ i, i < a.size → bt a i = f i) := fun i hi => (f1 i (by omega)).symm
  have Ha2 : Hid (∀ i, a.size ≤ i → i < m1 → f i = 0) := fun i h1 h2 => by rw [f1 i h2, bt_out _ _ h1]
  have Hc1 : Hid (∀ i, i < c.size → f (m1 + i) = bt c i) := fun i hi => f2 i (by omega)
  have Hc2 : Hid (∀ i, m1 + c.size ≤ i → i < m2 → f i = 0) := fun i h1 h2 => by
    have := f2 (i - m1) (by omega)
    rw [show m1 + (i - m1) = i by omega] at this
    rw [this, bt_out _ _ (by omega)]
  have Hl1 : Hid (∀ i, i < 8 → f (m2 + i) = ((dg 8 a.size i : Nat) : Int)) := f3
  have Hl2 : Hid (∀ i, i < 8 → f (m2 + 8 + i) = ((dg 8 c.size i : Nat) : Int)) := f4
  have N1 : Hid (a.size ≤ m1 ∧ m1 < a.size + 16 ∧ m1 % 16 = 0 ∧ m1 ≤ 1000000) := ⟨by omega, by omega, by omega, by omega⟩
  have N2 : Hid (m1 + c.size ≤ m2 ∧ m2 < m1 + c.size + 16 ∧ m2 % 16 = 0 ∧ m2 ≤ 900000) := ⟨by omega, by omega, by omega, by omega⟩
  clear HT hMt hms hXs hf f1 f2 f3 f4 hu1 hu2 hv1 hv2 hm1 hm2 hk hn
  go_enter Try.func22, Try.ntmps22
  go_wp2_with fail
  refine (c0 w).mono ?_
  rintro e w0 ⟨rfl, hb0⟩
  clear c0
  obtain ⟨cap0, w1, hconv, hrow0, hb1⟩ := rowF_of w0 a
  have hrow1 := hrow0.congr Ha1.out
  have hl1 : Below w.heap.size w w1 := hb0.trans (hb1.mono hb0.size)
  have hBs : w.heap.size ≤ w0.heap.size := hb0.size
  have hs1 : w0.heap.size ≤ w1.heap.size := hb1.size
  clear hrow0 hb1 hb0
  generalize w0.heap.size = B at hconv hrow1 hBs hs1
  go_wp2_with fail
  refine (fill_any f B a.size m1 _ w1 N1.out.1 N1.out.2.1 N1.out.2.2.1 N1.out.2.2.2 Ha2.out hrow1 hs1).mono ?_
  rintro e w2 ⟨v2, rfl, hrow2, hb2⟩
  have hl2 : Below w.heap.size w w2 := hl1.trans (hb2.mono hBs)
  have hs2 : B ≤ w2.heap.size := by have := hb2.size; omega
  clear hrow1 hl1 hb2 hconv Ha1 Ha2
  go_wp2_with fail
  go_loopw [11, 12] (fun v i wr => ∃ k : Nat, k ≤ c.size ∧ i = .int .i64 k ∧ RowF wr B v (m1 + k) f ∧ Below w.heap.size w wr ∧ B ≤ wr.heap.size) (fun _ i _ => c.size - (intOf i).toNat)
  case atStart => exact ⟨0, by omega, rfl, hrow2, hl2, hs2⟩
  case round =>
    clear hrow2 hl2 hs2
    obtain ⟨k, hk, rfl, hrow, hl, hs⟩ := hrel
    by_cases hlt : k < c.size
    · have hI : (k : Int) < ((c.size : Nat) : Int) := by omega
      have hix := fun w => str_index c k hlt w
      obtain ⟨v', w', hrun, hrow2, hb2⟩ := rowF_push ((bn c k : Nat) : Int) wr B _ (m1 + k) f hrow (by rw [Hc1.out k hlt, bn_int]) (by have := N1.out.2.2.2; omega) hs
      have hl' : Below w.heap.size w w' := hl.trans (hb2.mono hBs)
      have hs' : B ≤ w'.heap.size := by have := hb2.size; omega
      generalize bn c k = x at hix hrun
      obtain ⟨g, cap, rfl, hg1, hg2, hg3, hg4, hg5⟩ := hrow
      clear hg1 hg2 hg3 hg4 hg5 hl hb2
      go_wp2_with (at_builtin; refine wpList_append_lit rfl _ _ 36 36 rfl _ _ rfl rfl _ _ hrun ?_)
      refine ⟨⟨k + 1, by omega, by go_num, hrow2, hl', hs'⟩, ?_⟩
      simp [intOf]; omega
    · have hkm : k = c.size := by omega
      subst hkm
      clear hlt hk
      have hI : ¬ (((c.size : Nat) : Int) < ((c.size : Nat) : Int)) := by omega
      go_wp2_with fail
      refine (fill_any f B (m1 + c.size) m2 _ wr N2.out.1 N2.out.2.1 N2.out.2.2.1 (by have := N2.out.2.2.2; omega) Hc2.out hrow hs).mono ?_
      rintro e w3 ⟨v3, rfl, hrow3, hb3⟩
      have hl3 : Below w.heap.size w w3 := hl.trans (hb3.mono hBs)
      have hs3 : B ≤ w3.heap.size := by have := hb3.size; omega
      clear hrow hl hb3 hs Hc1 Hc2
      go_wp2_with fail
      refine (size_any f B m2 a.size _ w3 (by have := N2.out.2.2.2; omega) (by omega) Hl1.out hrow3 hs3).mono ?_
      rintro e w4 ⟨v4, rfl, hrow4, hb4⟩
      have hl4 : Below w.heap.size w w4 := hl3.trans (hb4.mono hBs)
      have hs4 : B ≤ w4.heap.size := by have := hb4.size; omega
      clear hrow3 hl3 hb4 hs3
      go_wp2_with fail
      refine (size_any f B (m2 + 8) c.size _ w4 (by have := N2.out.2.2.2; have := N1.out.2.2.2; omega) (by omega) Hl2.out hrow4 hs4).mono ?_
      rintro e w5 ⟨v5, rfl, hrow5, hb5⟩
      have hl5 : Below w.heap.size w w5 := hl4.trans (hb5.mono hBs)
      clear hrow4 hl4 hb5 hs4
      have HC : Hid (∀ z : World, RowF z B v5 (m2 + 8 + 8) f → (convert 36 9 v5).run Try.prog z = .ok (.string M) z) := fun z h => by
        have := rowF_text h
        rw [HMt.out] at this; exact this
      have hS0 : (fun z : World => RowF z B v5 (m2 + 8 + 8) f) w5.drew := hrow5
      have hld : Below w.heap.size w w5.drew := hl5.drew
      clear hrow5 hl5
      go_wp2_with fail
      refine wp_region_noPanic ?_
      refine wp_region_held_drew (S := fun z : World => RowF z B v5 (m2 + 8 + 8) f) (by kernel_rfl) hS0 (fun hHeld => ?_)
      refine wpAnyH_take (i := 0) (v := ?_) rfl (by kernel_rfl) (by kernel_rfl) (by kernel_rfl) (fun _ _ _ h => h) (Or.inl ⟨by rfl, ?_⟩) (by assumption) ?_
      rotate_left
      · intro w hSw; go_simp; try with_reducible rfl
      go_simp
      refine wpAnyH_take (i := 1) (v := ?_) rfl (by kernel_rfl) (by kernel_rfl) (by kernel_rfl) (fun _ _ _ h => h) (Or.inl ⟨by rfl, ?_⟩) (by assumption) ?_
      rotate_left
      · intro w hSw; go_simp; try with_reducible rfl
      go_simp
      refine wpAnyH_take (i := 2) (v := ?_) rfl (by kernel_rfl) (by kernel_rfl) (by kernel_rfl) (fun _ _ _ h => h) (Or.inl ⟨by rfl, ?_⟩) (by assumption) ?_
      rotate_left
      · intro w hSw; go_simp; try with_reducible rfl
      go_simp
      refine wpAnyH_take (i := 3) (v := ?_) rfl (by kernel_rfl) (by kernel_rfl) (by kernel_rfl) (fun _ _ _ h => h) (Or.inl ⟨by rfl, ?_⟩) (by assumption) ?_
      rotate_left
      · intro z hSw; have hcz := HC.out z hSw; go_simp; try with_reducible rfl
      go_simp
      refine wpAnyH_ready (rs := [4]) (by kernel_rfl) (by simp) (AllReadyH.cons rfl (fun K hK => ?_) AllReadyH.nil)
      go_simp
      go_at_call 36
      refine (c4 _).mono ?_
      rintro e w6 ⟨rfl, hb6⟩
      have hS6 : RowF w6 B v5 (m2 + 8 + 8) f := RowF.below hS0 hb6
      have hl6 : Below w.heap.size w w6 := hld.trans (hb6.mono hld.size)
      refine hK.out _ _ hS6 (fun hHeld => ?_)
      clear hK K
      refine wpAnyH_take (i := 5) (v := ?_) rfl (by kernel_rfl) (by kernel_rfl) (by kernel_rfl) (fun _ _ _ h => h) (Or.inl ⟨by rfl, ?_⟩) (by assumption) ?_
      rotate_left
      · intro w hSw; go_simp; try with_reducible rfl
      go_simp
      refine wpAnyH_take (i := 6) (v := ?_) rfl (by kernel_rfl) (by kernel_rfl) (by kernel_rfl) (fun _ _ _ h => h) (Or.inl ⟨by rfl, ?_⟩) (by assumption) ?_
      rotate_left
      · intro w hSw; go_simp; try with_reducible rfl
      go_simp
      refine wpAnyH_take (i := 7) (v := ?_) rfl (by kernel_rfl) (by kernel_rfl) (by kernel_rfl) (fun _ _ _ h => h) (Or.inl ⟨by rfl, ?_⟩) (by assumption) ?_
      rotate_left
      · intro w hSw; go_simp; try with_reducible rfl
      go_simp
      refine wpAnyH_take (i := 8) (v := ?_) rfl (by kernel_rfl) (by kernel_rfl) (by kernel_rfl) (fun _ _ _ h => h) (Or.inl ⟨by rfl, ?_⟩) (by assumption) ?_
      rotate_left
      · intro w hSw; go_simp; try with_reducible rfl
      go_simp
      refine wpAnyH_take (i := 9) (v := ?_) rfl (by kernel_rfl) (by kernel_rfl) (by kernel_rfl) (fun _ _ _ h => h) (Or.inl ⟨by rfl, ?_⟩) (by assumption) ?_
      rotate_left
      · intro w hSw; go_simp; try with_reducible rfl
      go_simp
      refine wpAnyH_done (by kernel_rfl) ?_ _
      refine NoPanic.normal ?_
      go_wp2_with fail
      go_ret
      exact ⟨rfl, hl6⟩
end Go.Proofs.Ytnpebabffnjmmaa
/- What the document's Seal and Open answer, for every key and nonce and every texts of up to 3,000 bytes. -/
namespace Go.Proofs.Ytnpebabffnjmmaa
open Go.RowKit Go.PlainAid
set_option linter.unusedVariables false

set_option maxHeartbeats 1000000 in
set_option maxRecDepth 20000 in
theorem refSeal_shape (key nonce a p : ByteArray) (hk' : key.size ≤ 32) (hn' : nonce.size ≤ 12) (h : key.size ≠ 32 ∨ nonce.size ≠ 12) (w : World) :
    Calls Try.prog 11 #[.string key, .string nonce, .string a, .string p] w fun e w' => e = .returned (.tuple #[.string ⟨#[]⟩, .int .i64 7]) ∧ Below w.heap.size w w' := by
  by_cases hk : key.size = 32
  · have h1 : (((key.size : Nat) : Int) != 32) = false := by simp; omega
    have h2 : (((nonce.size : Nat) : Int) != 12) = true := by simp; omega
    clear hk h hk' hn'
    go_enter Try.func11, Try.ntmps11
    go_wp2_with fail
    go_ret2
    exact ⟨rfl, Below.refl _ _⟩
  · have h1 : (((key.size : Nat) : Int) != 32) = true := by simp; omega
    clear hk h hk' hn'
    go_enter Try.func11, Try.ntmps11
    go_wp2_with fail
    go_ret2
    exact ⟨rfl, Below.refl _ _⟩
set_option maxHeartbeats 1000000 in
set_option maxRecDepth 20000 in
theorem refSeal_ok (key nonce a p : ByteArray) (hk : key.size = 32) (hn : nonce.size = 12) (ha : a.size ≤ 3000) (hp : p.size ≤ 3000) (w : World) :
    Calls Try.prog 11 #[.string key, .string nonce, .string a, .string p] w fun e w' => e = .returned (.tuple #[.string (slB key nonce a p), .int .i64 0]) ∧ Below w.heap.size w w' := by
  have c3 := fun w => refCrypt_ok key nonce p 1 hk hn ⟨by decide, by decide⟩ (by omega) w
  rw [show cryB (ks key nonce 1) p = crB key nonce p from rfl] at c3
  have hCs := crB_size key nonce p
  have c4 := fun w => refTag_any key nonce a (crB key nonce p) hk hn (by omega) (by omega) w
  have hTs := atg_size key nonce a (crB key nonce p)
  have HS : Hid (crB key nonce p ++ atg key nonce a (crB key nonce p) = slB key nonce a p) := rfl
  generalize slB key nonce a p = S at HS ⊢
  generalize crB key nonce p = C at c3 c4 hCs hTs HS
  generalize atg key nonce a C = T at c4 hTs HS
  have hw : (9223372036854775807 < C.size + T.size) = False := by simp; omega
  have h1 : (((key.size : Nat) : Int) != 32) = false := by simp; omega
  have h2 : (((nonce.size : Nat) : Int) != 12) = false := by simp; omega
  have h3 : ¬ ((16384 : Int) < ((a.size : Nat) : Int)) := by omega
  have h4 : ¬ ((16384 : Int) < ((p.size : Nat) : Int)) := by omega
  clear hk hn hCs hTs
  go_enter Try.func11, Try.ntmps11
  go_wp2_with fail
  refine (c3 w).mono ?_
  rintro e w3 ⟨rfl, hb3⟩
  go_wp2_with fail
  refine (c4 w3).mono ?_
  rintro e w4 ⟨rfl, hb4⟩
  have hb5 := hb3.trans (hb4.mono hb3.size)
  clear c3 c4 hb3 hb4
  go_wp2_with fail
  go_ret2
  exact ⟨by rw [← HS.out]; rfl, hb5⟩
set_option maxHeartbeats 1000000 in
set_option maxRecDepth 20000 in
theorem refOpen_shape (key nonce a p : ByteArray) (hk' : key.size ≤ 32) (hn' : nonce.size ≤ 12) (h : key.size ≠ 32 ∨ nonce.size ≠ 12) (w : World) :
    Calls Try.prog 14 #[.string key, .string nonce, .string a, .string p] w fun e w' => e = .returned (.tuple #[.string ⟨#[]⟩, .int .i64 7]) ∧ Below w.heap.size w w' := by
  by_cases hk : key.size = 32
  · have h1 : (((key.size : Nat) : Int) != 32) = false := by simp; omega
    have h2 : (((nonce.size : Nat) : Int) != 12) = true := by simp; omega
    clear hk h hk' hn'
    go_enter Try.func14, Try.ntmps14
    go_wp2_with fail
    go_ret2
    exact ⟨rfl, Below.refl _ _⟩
  · have h1 : (((key.size : Nat) : Int) != 32) = true := by simp; omega
    clear hk h hk' hn'
    go_enter Try.func14, Try.ntmps14
    go_wp2_with fail
    go_ret2
    exact ⟨rfl, Below.refl _ _⟩
set_option maxHeartbeats 1000000 in
set_option maxRecDepth 20000 in
theorem refOpen_short (key nonce a s : ByteArray) (hk : key.size = 32) (hn : nonce.size = 12) (h : s.size < 16) (w : World) :
    Calls Try.prog 14 #[.string key, .string nonce, .string a, .string s] w fun e w' => e = .returned (.tuple #[.string ⟨#[]⟩, .int .i64 3]) ∧ Below w.heap.size w w' := by
  have h1 : (((key.size : Nat) : Int) != 32) = false := by simp; omega
  have h2 : (((nonce.size : Nat) : Int) != 12) = false := by simp; omega
  have h3 : ((s.size : Nat) : Int) < 16 := by omega
  clear hk hn
  go_enter Try.func14, Try.ntmps14
  go_wp2_with fail
  go_ret2
  exact ⟨rfl, Below.refl _ _⟩
set_option maxHeartbeats 1000000 in
set_option maxRecDepth 20000 in
theorem refOpen_any (key nonce a s : ByteArray) (n : Nat) (hk : key.size = 32) (hn : nonce.size = 12) (hs : s.size = n + 16) (ha : a.size ≤ 3000) (h : n ≤ 3000) (w : World) :
    Calls Try.prog 14 #[.string key, .string nonce, .string a, .string s] w fun e w' => e = .returned (if s.extract n s.size = atg key nonce a (s.extract 0 n) then .tuple #[.string (crB key nonce (s.extract 0 n)), .int .i64 0] else .tuple #[.string ⟨#[]⟩, .int .i64 23]) ∧ Below w.heap.size w w' := by
  have h5 : (((key.size : Nat) : Int) != 32) = false := by simp; omega
  have h6 : (((nonce.size : Nat) : Int) != 12) = false := by simp; omega
  obtain ⟨B, hB⟩ : ∃ B, s.extract 0 n = B := ⟨_, rfl⟩
  obtain ⟨D, hD⟩ : ∃ D, s.extract n s.size = D := ⟨_, rfl⟩
  have hBs : B.size = n := by rw [← hB, ByteArray.size_extract]; omega
  have c3 := fun w => refTag_any key nonce a B hk hn (by omega) (by omega) w
  have c5 := fun w => refCrypt_ok key nonce B 1 hk hn ⟨by decide, by decide⟩ (by omega) w
  rw [show cryB (ks key nonce 1) B = crB key nonce B from rfl] at c5
  rw [hB, hD]
  generalize crB key nonce B = C at c5 ⊢
  generalize atg key nonce a B = T at c3 ⊢
  obtain ⟨R, hR⟩ : ∃ R, (if D = T then (.tuple #[.string C, .int .i64 0] : Value) else .tuple #[.string ⟨#[]⟩, .int .i64 23]) = R := ⟨_, rfl⟩
  rw [hR]
  have HR : Hid ((if D = T then (.tuple #[.string C, .int .i64 0] : Value) else .tuple #[.string ⟨#[]⟩, .int .i64 23]) = R) := hR
  clear hR
  have hq := toList_eq T D
  have hsI : ((s.size : Nat) : Int) = (n : Int) + 16 := by omega
  have h1 : ¬ ((n : Int) + 16 < 16) := by omega
  have h2 : ((n : Int) ≤ (n : Int) + 16) := by omega
  have h0 : (0 : Int) ≤ (n : Int) := by omega
  have hn2 : n ≤ s.size := by omega
  have hn3 : ¬ ((16384 : Int) < (n : Int)) := by omega
  have ha3 : ¬ ((16384 : Int) < ((a.size : Nat) : Int)) := by omega
  clear hk hn hBs hs
  go_enter Try.func14, Try.ntmps14
  go_wp2_with fail
  refine (c3 w).mono ?_
  rintro e w4 ⟨rfl, hl4⟩
  clear c3
  by_cases hDT : D = T
  · rw [decide_eq_true hDT.symm] at hq
    have HR2 : Hid (R = .tuple #[.string C, .int .i64 0]) := HR.out.symm.trans (if_pos hDT)
    clear hDT HR
    go_wp2_with fail
    refine (c5 w4).mono ?_
    rintro e w6 ⟨rfl, hb6⟩
    have hl6 := hl4.trans (hb6.mono hl4.size)
    go_wp2_with fail
    go_ret2
    exact ⟨by rw [HR2.out]; rfl, hl6⟩
  · rw [decide_eq_false (fun e => hDT e.symm)] at hq
    have HR2 : Hid (R = .tuple #[.string ⟨#[]⟩, .int .i64 23]) := HR.out.symm.trans (if_neg hDT)
    clear hDT HR
    go_wp2_with fail
    go_ret2
    exact ⟨by rw [HR2.out]; rfl, hl4⟩
end Go.Proofs.Ytnpebabffnjmmaa
/- A key and a nonce that came in as plain data, and the texts that are made of them. -/
namespace Go.Proofs.Ytnpebabffnjmmaa
open Go.RowKit Go.PlainAid
set_option linter.unusedVariables false

set_option maxRecDepth 20000 in
theorem Try.size26 : (Try.prog.info? 26).map (·.size) = some 46 := by kernel_rfl

set_option maxRecDepth 20000 in
theorem conv_nr (z : World) (g o n cap : Nat) (f : Nat → Nat) (h : Blk z g 26 (nr .u8 46 f)) (ho : o + n ≤ 46) :
    (convert 36 9 (.slice (some ⟨g, o, none⟩) n cap)).run Try.prog z = .ok (.string (strOfNums ((List.range n).map fun i => ((f (o + i) : Nat) : Int)))) z :=
  run_convert_bytes_arg (P := Try.prog) z 36 5 Try.underlying36 Try.underlying5 g o n cap _ (by simp) (fun i hi => by
    rw [h.cell (nr_at .u8 46 f (o + i) (by omega))]
    simp [hi]) 9 Try.underlying9

set_option maxRecDepth 20000 in
set_option maxHeartbeats 1000000 in
theorem whole_any (f : Nat → Nat) (w : World) :
    Calls Try.prog 15 #[.agg (nr .u8 46 f).toArray] w fun e w' => ∃ k n : ByteArray, e = .returned (.tuple #[.string k, .string n]) ∧ k.size = 32 ∧ n.size = 12 ∧ Below w.heap.size w w' := by
  have hB : Blk (w.alloc (.cells (nr .u8 46 f).toArray 26)) w.heap.size 26 (nr .u8 46 f) := Blk.box w 26 _
  have hl : Below w.heap.size w (w.alloc (.cells (nr .u8 46 f).toArray 26)) := (Below.refl _ _).alloc (Nat.le_refl _) _
  obtain ⟨k, hk⟩ : ∃ k, strOfNums ((List.range 32).map fun i => ((f (0 + i) : Nat) : Int)) = k := ⟨_, rfl⟩
  obtain ⟨n, hn⟩ : ∃ n, strOfNums ((List.range 12).map fun i => ((f (32 + i) : Nat) : Int)) = n := ⟨_, rfl⟩
  have HK : Hid (k.size = 32 ∧ n.size = 12) := ⟨by rw [← hk, strOfNums_size]; simp, by rw [← hn, strOfNums_size]; simp⟩
  have hck : ∀ m, (convert 36 9 (.slice (some ⟨w.heap.size, 0, none⟩) 32 32)).run Try.prog ((w.alloc (.cells (nr .u8 46 f).toArray 26)).drewN m) = .ok (.string k) ((w.alloc (.cells (nr .u8 46 f).toArray 26)).drewN m) := fun m => by
    rw [← hk]; exact conv_nr _ _ 0 32 32 f (hB.drewN m) (by decide)
  have hcn : ∀ m, (convert 36 9 (.slice (some ⟨w.heap.size, 32, none⟩) 12 12)).run Try.prog ((w.alloc (.cells (nr .u8 46 f).toArray 26)).drewN m) = .ok (.string n) ((w.alloc (.cells (nr .u8 46 f).toArray 26)).drewN m) := fun m => by
    rw [← hn]; exact conv_nr _ _ 32 12 12 f (hB.drewN m) (by decide)
  generalize nr .u8 46 f = L at *
  clear hk hn hB
  go_enter Try.func15, Try.ntmps15
  go_wp2_with fail
  generalize w.alloc (.cells L.toArray 26) = w1 at hck hcn hl ⊢
  obtain ⟨g, hgd⟩ : ∃ g, w.heap.size = g := ⟨_, rfl⟩
  rw [hgd] at hck hcn hl ⊢
  have HG : Hid (w.heap.size = g) := hgd
  clear hgd
  go_quiet (fail)
  have hl2 : Below g w (w1.drewN nq) := ⟨hl.os, hl.tape, hl.output, hl.size, hl.block⟩
  clear hck hcn hl
  generalize w1.drewN nq = w2 at hl2 ⊢
  go_wp2_with fail
  go_ret2
  exact ⟨_, _, rfl, HK.out.1, HK.out.2, by rw [HG.out]; exact hl2⟩

set_option maxRecDepth 20000 in
set_option maxHeartbeats 1000000 in
theorem texts_any (f : Nat → Nat) (hf : ∀ i, f i < 256) (w : World) :
    Calls Try.prog 9 #[.agg (nr .u8 46 f).toArray] w fun e w' => ∃ k n : ByteArray, e = .returned (.tuple #[.string k, .string n]) ∧ k.size ≤ 32 ∧ n.size ≤ 12 ∧ Below w.heap.size w w' := by
  have hB : Blk (w.alloc (.cells (nr .u8 46 f).toArray 26)) w.heap.size 26 (nr .u8 46 f) := Blk.box w 26 _
  have hl : Below w.heap.size w (w.alloc (.cells (nr .u8 46 f).toArray 26)) := (Below.refl _ _).alloc (Nat.le_refl _) _
  obtain ⟨N1, hN1⟩ : ∃ N, 32 - min (f 44) 32 = N := ⟨_, rfl⟩
  obtain ⟨N2, hN2⟩ : ∃ N, 12 - min (f 45) 12 = N := ⟨_, rfl⟩
  have hN1I : IntKind.u8.wrap (32 - if (32 : Int) < ((f 44 : Nat) : Int) then 32 else ((f 44 : Nat) : Int)) = (N1 : Int) := by
    split
    · rw [IntWalk.u8_in _ ⟨by omega, by omega⟩]; omega
    · rw [IntWalk.u8_in _ ⟨by omega, by omega⟩]; omega
  have hN2I : IntKind.u8.wrap (12 - if (12 : Int) < ((f 45 : Nat) : Int) then 12 else ((f 45 : Nat) : Int)) = (N2 : Int) := by
    split
    · rw [IntWalk.u8_in _ ⟨by omega, by omega⟩]; omega
    · rw [IntWalk.u8_in _ ⟨by omega, by omega⟩]; omega
  have hN1M : IntKind.u8.wrap (32 - min ((f 44 : Nat) : Int) 32) = (N1 : Int) := by rw [IntWalk.u8_in _ ⟨by omega, by omega⟩]; omega
  have hN2M : IntKind.u8.wrap (12 - min ((f 45 : Nat) : Int) 12) = (N2 : Int) := by rw [IntWalk.u8_in _ ⟨by omega, by omega⟩]; omega
  have h1 : N1 ≤ 32 := by omega
  have h2 : N2 ≤ 12 := by omega
  have h1I : (N1 : Int) ≤ 32 := by omega
  have h2I : (N2 : Int) ≤ 12 := by omega
  obtain ⟨k, hk⟩ : ∃ k, strOfNums ((List.range N1).map fun i => ((f (0 + i) : Nat) : Int)) = k := ⟨_, rfl⟩
  obtain ⟨n, hn⟩ : ∃ n, strOfNums ((List.range N2).map fun i => ((f (32 + i) : Nat) : Int)) = n := ⟨_, rfl⟩
  have HK : Hid (k.size = N1 ∧ n.size = N2) := ⟨by rw [← hk, strOfNums_size]; simp, by rw [← hn, strOfNums_size]; simp⟩
  have HB : Hid (∀ z : World, Blk z w.heap.size 26 (nr .u8 46 f) → z.cell? ⟨w.heap.size, 44, none⟩ = some (.int .u8 ((f 44 : Nat) : Int)) ∧ z.cell? ⟨w.heap.size, 45, none⟩ = some (.int .u8 ((f 45 : Nat) : Int)) ∧ (convert 36 9 (.slice (some ⟨w.heap.size, 0, none⟩) N1 32)).run Try.prog z = .ok (.string k) z ∧ (convert 36 9 (.slice (some ⟨w.heap.size, 32, none⟩) N2 12)).run Try.prog z = .ok (.string n) z) := fun z hz =>
    ⟨hz.cell (nr_at .u8 46 f 44 (by decide)), hz.cell (nr_at .u8 46 f 45 (by decide)), by rw [← hk]; exact conv_nr _ _ 0 N1 32 f hz (by omega), by rw [← hn]; exact conv_nr _ _ 32 N2 12 f hz (by omega)⟩
  have hf1 := hf 44
  have hf2 := hf 45
  clear hk hn hf hN1 hN2
  generalize nr .u8 46 f = L at *
  generalize f 44 = x at *
  generalize f 45 = y at *
  go_enter Try.func9, Try.ntmps9
  go_wp2_with fail
  generalize w.alloc (.cells L.toArray 26) = w1 at hB hl ⊢
  obtain ⟨g, hgd⟩ : ∃ g, w.heap.size = g := ⟨_, rfl⟩
  rw [hgd] at hB HB hl ⊢
  have HG : Hid (w.heap.size = g) := hgd
  clear hgd
  have hS0 : (fun z : World => Blk z g 26 L) w1.drew := hB.drew
  have hl2 : Below g w w1.drew := hl.drew
  clear hB hl
  refine wp_region_noPanic ?_
  refine wp_region_held_drew (S := fun z : World => Blk z g 26 L) (by kernel_rfl) hS0 (fun hHeld => ?_)
  refine wpAnyH_take (i := 0) (v := ?_) rfl (by kernel_rfl) (by kernel_rfl) (by kernel_rfl) (fun _ _ _ h => h) (Or.inl ⟨by rfl, ?_⟩) (by assumption) ?_
  rotate_left
  · intro z hSw; go_simp; try with_reducible rfl
  go_simp
  refine wpAnyH_take (i := 1) (v := ?_) rfl (by kernel_rfl) (by kernel_rfl) (by kernel_rfl) (fun _ _ _ h => h) (Or.inl ⟨by rfl, ?_⟩) (by assumption) ?_
  rotate_left
  · intro z hSw; go_simp; try with_reducible rfl
  go_simp
  refine wpAnyH_take (i := 2) (v := ?_) rfl (by kernel_rfl) (by kernel_rfl) (by kernel_rfl) (fun _ _ _ h => h) (Or.inl ⟨by rfl, ?_⟩) (by assumption) ?_
  rotate_left
  · intro z hSw; go_simp; try with_reducible rfl
  go_simp
  refine wpAnyH_take (i := 3) (v := ?_) rfl (by kernel_rfl) (by kernel_rfl) (by kernel_rfl) (fun _ _ _ h => h) (Or.inl ⟨by rfl, ?_⟩) (by assumption) ?_
  rotate_left
  · intro z hSw; obtain ⟨e44, e45, ek, en⟩ := HB.out z hSw; go_simp; try with_reducible rfl
  go_simp
  refine wpAnyH_take (i := 4) (v := ?_) rfl (by kernel_rfl) (by kernel_rfl) (by kernel_rfl) (fun _ _ _ h => h) (Or.inl ⟨by rfl, ?_⟩) (by assumption) ?_
  rotate_left
  · intro z hSw; go_simp; try with_reducible rfl
  go_simp
  refine wpAnyH_take (i := 5) (v := ?_) rfl (by kernel_rfl) (by kernel_rfl) (by kernel_rfl) (fun _ _ _ h => h) (Or.inl ⟨by rfl, ?_⟩) (by assumption) ?_
  rotate_left
  · intro z hSw; go_simp; try with_reducible rfl
  go_simp
  refine wpAnyH_take (i := 6) (v := ?_) rfl (by kernel_rfl) (by kernel_rfl) (by kernel_rfl) (fun _ _ _ h => h) (Or.inl ⟨by rfl, ?_⟩) (by assumption) ?_
  rotate_left
  · intro z hSw; go_simp; try with_reducible rfl
  go_simp
  refine wpAnyH_take (i := 7) (v := ?_) rfl (by kernel_rfl) (by kernel_rfl) (by kernel_rfl) (fun _ _ _ h => h) (Or.inl ⟨by rfl, ?_⟩) (by assumption) ?_
  rotate_left
  · intro z hSw; obtain ⟨e44, e45, ek, en⟩ := HB.out z hSw; go_simp; try with_reducible rfl
  go_simp
  refine wpAnyH_take (i := 8) (v := ?_) rfl (by kernel_rfl) (by kernel_rfl) (by kernel_rfl) (fun _ _ _ h => h) (Or.inl ⟨by rfl, ?_⟩) (by assumption) ?_
  rotate_left
  · intro z hSw; go_simp; try with_reducible rfl
  go_simp
  refine wpAnyH_take (i := 9) (v := ?_) rfl (by kernel_rfl) (by kernel_rfl) (by kernel_rfl) (fun _ _ _ h => h) (Or.inl ⟨by rfl, ?_⟩) (by assumption) ?_
  rotate_left
  · intro z hSw; go_simp; try with_reducible rfl
  go_simp
  refine wpAnyH_take (i := 10) (v := ?_) rfl (by kernel_rfl) (by kernel_rfl) (by kernel_rfl) (fun _ _ _ h => h) (Or.inl ⟨by rfl, ?_⟩) (by assumption) ?_
  rotate_left
  · intro z hSw; go_simp; try with_reducible rfl
  go_simp
  refine wpAnyH_take (i := 11) (v := ?_) rfl (by kernel_rfl) (by kernel_rfl) (by kernel_rfl) (fun _ _ _ h => h) (Or.inl ⟨by rfl, ?_⟩) (by assumption) ?_
  rotate_left
  · intro z hSw; obtain ⟨e44, e45, ek, en⟩ := HB.out z hSw; go_simp; try with_reducible rfl
  go_simp
  refine wpAnyH_take (i := 12) (v := ?_) rfl (by kernel_rfl) (by kernel_rfl) (by kernel_rfl) (fun _ _ _ h => h) (Or.inl ⟨by rfl, ?_⟩) (by assumption) ?_
  rotate_left
  · intro z hSw; go_simp; try with_reducible rfl
  go_simp
  refine wpAnyH_take (i := 13) (v := ?_) rfl (by kernel_rfl) (by kernel_rfl) (by kernel_rfl) (fun _ _ _ h => h) (Or.inl ⟨by rfl, ?_⟩) (by assumption) ?_
  rotate_left
  · intro z hSw; go_simp; try with_reducible rfl
  go_simp
  refine wpAnyH_take (i := 14) (v := ?_) rfl (by kernel_rfl) (by kernel_rfl) (by kernel_rfl) (fun _ _ _ h => h) (Or.inl ⟨by rfl, ?_⟩) (by assumption) ?_
  rotate_left
  · intro z hSw; go_simp; try with_reducible rfl
  go_simp
  refine wpAnyH_take (i := 15) (v := ?_) rfl (by kernel_rfl) (by kernel_rfl) (by kernel_rfl) (fun _ _ _ h => h) (Or.inl ⟨by rfl, ?_⟩) (by assumption) ?_
  rotate_left
  · intro z hSw; obtain ⟨e44, e45, ek, en⟩ := HB.out z hSw; go_simp; try with_reducible rfl
  go_simp
  refine wpAnyH_take (i := 16) (v := ?_) rfl (by kernel_rfl) (by kernel_rfl) (by kernel_rfl) (fun _ _ _ h => h) (Or.inl ⟨by rfl, ?_⟩) (by assumption) ?_
  rotate_left
  · intro z hSw; go_simp; try with_reducible rfl
  go_simp
  refine wpAnyH_take (i := 17) (v := ?_) rfl (by kernel_rfl) (by kernel_rfl) (by kernel_rfl) (fun _ _ _ h => h) (Or.inl ⟨by rfl, ?_⟩) (by assumption) ?_
  rotate_left
  · intro z hSw; go_simp; try with_reducible rfl
  go_simp
  refine wpAnyH_done (by kernel_rfl) ?_ _
  refine NoPanic.normal ?_
  clear hS0 HB hHeld
  go_wp2_with fail
  all_goals
    go_ret2
    exact ⟨_, _, rfl, by rw [HK.out.1]; exact h1, by rw [HK.out.2]; exact h2, by rw [HG.out]; exact hl2⟩
end Go.Proofs.Ytnpebabffnjmmaa
/- What the Go function AeadOpens answers: true, for every key, nonce and texts. -/
namespace Go.Proofs.Ytnpebabffnjmmaa
open Go.RowKit Go.PlainAid
set_option linter.unusedVariables false

set_option maxRecDepth 20000 in
theorem open_pair (k n x y : ByteArray) (hk : k.size ≤ 32) (hn : n.size ≤ 12) (hx : x.size ≤ 200) (hy : y.size ≤ 200) :
    ∃ (S : ByteArray) (z : Int), (∀ w, Calls Try.prog 13 #[.string k, .string n, .string x, .string y] w fun e w' => e = .returned (.tuple #[.string S, .int .i64 z]) ∧ Below w.heap.size w w') ∧
      ∀ w, Calls Try.prog 14 #[.string k, .string n, .string x, .string y] w fun e w' => e = .returned (.tuple #[.string S, .int .i64 z]) ∧ Below w.heap.size w w' := by
  by_cases h : k.size = 32 ∧ n.size = 12
  · by_cases hs : y.size < 16
    · exact ⟨_, _, fun w => open_short k n x y h.1 h.2 hs w, fun w => refOpen_short k n x y h.1 h.2 hs w⟩
    · have p1 := fun w => open_any k n x y (y.size - 16) h.1 h.2 (by omega) (by omega) (by omega) w
      have p2 := fun w => refOpen_any k n x y (y.size - 16) h.1 h.2 (by omega) (by omega) (by omega) w
      by_cases hc : y.extract (y.size - 16) y.size = atg k n x (y.extract 0 (y.size - 16))
      · simp only [if_pos hc] at p1 p2
        exact ⟨_, _, p1, p2⟩
      · simp only [if_neg hc] at p1 p2
        exact ⟨_, _, p1, p2⟩
  · have h' : k.size ≠ 32 ∨ n.size ≠ 12 := by omega
    exact ⟨_, _, fun w => open_shape k n x y (by unfold maxLen; omega) (by unfold maxLen; omega) h' w, fun w => refOpen_shape k n x y hk hn h' w⟩
set_option maxHeartbeats 2000000 in
set_option maxRecDepth 20000 in
theorem opensLaw_walk (f : Nat → Nat) (a p : ByteArray) (hf : ∀ i, f i < 256) (ha : a.size ≤ maxLen) (hp : p.size ≤ maxLen) (w : World) :
    Calls Try.prog 4 #[.agg (nr .u8 46 f).toArray, .string a, .string p] w fun e w' => e = .returned (.bool true) ∧ Below w.heap.size w w' := by
  unfold maxLen at ha hp
  have hB : Blk (w.alloc (.cells (nr .u8 46 f).toArray 26)) w.heap.size 26 (nr .u8 46 f) := Blk.box w 26 _
  have hl : Below w.heap.size w (w.alloc (.cells (nr .u8 46 f).toArray 26)) := (Below.refl _ _).alloc (Nat.le_refl _) _
  obtain ⟨A, hA0⟩ : ∃ A, min a.size 200 = A := ⟨_, rfl⟩
  obtain ⟨P, hP0⟩ : ∃ P, min p.size 200 = P := ⟨_, rfl⟩
  have hA : min ((a.size : Nat) : Int) 200 = (A : Int) := by omega
  have hP : min ((p.size : Nat) : Int) 200 = (P : Int) := by omega
  have hA1 : A ≤ a.size := by omega
  have hP1 : P ≤ p.size := by omega
  have hA2 : (A : Int) ≤ ((a.size : Nat) : Int) := by omega
  have hP2 : (P : Int) ≤ ((p.size : Nat) : Int) := by omega
  obtain ⟨x, hx⟩ : ∃ x, a.extract 0 A = x := ⟨_, rfl⟩
  obtain ⟨y, hy⟩ : ∃ y, p.extract 0 P = y := ⟨_, rfl⟩
  have Hx : Hid (x.size ≤ 200) := by
    have h : x.size ≤ 200 := by rw [← hx, ByteArray.size_extract]; omega
    exact h
  have Hy : Hid (y.size ≤ 200) := by
    have h : y.size ≤ 200 := by rw [← hy, ByteArray.size_extract]; omega
    exact h
  have hLl : (nr .u8 46 f).length = 46 := nr_length _ _ _
  have HT := fun w => texts_any f hf w
  generalize nr .u8 46 f = L at *
  clear hA0 hP0 hf
  go_enter Try.func4, Try.ntmps4
  go_wp2_with fail
  refine wp_region_noPanic ?_
  refine wp_region_held_drew (S := fun _ => True) (by kernel_rfl) trivial (fun hHeld => ?_)
  refine wpAnyH_take (i := 0) (v := ?_) rfl (by kernel_rfl) (by kernel_rfl) (by kernel_rfl) (fun _ _ _ h => h) (Or.inl ⟨by rfl, ?_⟩) (by assumption) ?_
  rotate_left
  · intro w hSw; go_simp; try with_reducible rfl
  go_simp
  refine wpAnyH_take (i := 1) (v := ?_) rfl (by kernel_rfl) (by kernel_rfl) (by kernel_rfl) (fun _ _ _ h => h) (Or.inl ⟨by rfl, ?_⟩) (by assumption) ?_
  rotate_left
  · intro w hSw; go_simp; try with_reducible rfl
  go_simp
  refine wpAnyH_take (i := 2) (v := ?_) rfl (by kernel_rfl) (by kernel_rfl) (by kernel_rfl) (fun _ _ _ h => h) (Or.inl ⟨by rfl, ?_⟩) (by assumption) ?_
  rotate_left
  · intro w hSw; go_simp; try with_reducible rfl
  go_simp
  refine wpAnyH_take (i := 3) (v := ?_) rfl (by kernel_rfl) (by kernel_rfl) (by kernel_rfl) (fun _ _ _ h => h) (Or.inl ⟨by rfl, ?_⟩) (by assumption) ?_
  rotate_left
  · intro w hSw; go_simp; try with_reducible rfl
  go_simp
  refine wpAnyH_take (i := 4) (v := ?_) rfl (by kernel_rfl) (by kernel_rfl) (by kernel_rfl) (fun _ _ _ h => h) (Or.inl ⟨by rfl, ?_⟩) (by assumption) ?_
  rotate_left
  · intro w hSw; go_simp; try with_reducible rfl
  go_simp
  refine wpAnyH_take (i := 5) (v := ?_) rfl (by kernel_rfl) (by kernel_rfl) (by kernel_rfl) (fun _ _ _ h => h) (Or.inl ⟨by rfl, ?_⟩) (by assumption) ?_
  rotate_left
  · intro w hSw; go_simp; try with_reducible rfl
  go_simp
  refine wpAnyH_take (i := 6) (v := ?_) rfl (by kernel_rfl) (by kernel_rfl) (by kernel_rfl) (fun _ _ _ h => h) (Or.inl ⟨by rfl, ?_⟩) (by assumption) ?_
  rotate_left
  · intro w hSw; go_simp; try with_reducible rfl
  go_simp
  refine wpAnyH_take (i := 7) (v := ?_) rfl (by kernel_rfl) (by kernel_rfl) (by kernel_rfl) (fun _ _ _ h => h) (Or.inl ⟨by rfl, ?_⟩) (by assumption) ?_
  rotate_left
  · intro w hSw; go_simp; try with_reducible rfl
  go_simp
  refine wpAnyH_take (i := 8) (v := ?_) rfl (by kernel_rfl) (by kernel_rfl) (by kernel_rfl) (fun _ _ _ h => h) (Or.inl ⟨by rfl, ?_⟩) (by assumption) ?_
  rotate_left
  · intro w hSw; go_simp; try with_reducible rfl
  go_simp
  refine wpAnyH_take (i := 9) (v := ?_) rfl (by kernel_rfl) (by kernel_rfl) (by kernel_rfl) (fun _ _ _ h => h) (Or.inl ⟨by rfl, ?_⟩) (by assumption) ?_
  rotate_left
  · intro w hSw; go_simp; try with_reducible rfl
  go_simp
  refine wpAnyH_take (i := 10) (v := ?_) rfl (by kernel_rfl) (by kernel_rfl) (by kernel_rfl) (fun _ _ _ h => h) (Or.inl ⟨by rfl, ?_⟩) (by assumption) ?_
  rotate_left
  · intro w hSw; go_simp; try with_reducible rfl
  go_simp
  refine wpAnyH_take (i := 11) (v := ?_) rfl (by kernel_rfl) (by kernel_rfl) (by kernel_rfl) (fun _ _ _ h => h) (Or.inl ⟨by rfl, ?_⟩) (by assumption) ?_
  rotate_left
  · intro w hSw; go_simp; try with_reducible rfl
  go_simp
  refine wpAnyH_done (by kernel_rfl) ?_ _
  refine NoPanic.normal ?_
  clear hHeld
  have hB1 : Blk (w.alloc (.cells L.toArray 26)).drew w.heap.size 26 L := hB.drew
  have hl1 : Below w.heap.size w (w.alloc (.cells L.toArray 26)).drew := hl.drew
  clear hB hl hA hP hx hy hA1 hP1 hA2 hP2
  generalize (w.alloc (.cells L.toArray 26)).drew = w1 at hB1 hl1 ⊢
  go_wp2_with (refine wpList_load_blk rfl 26 _ rfl w.heap.size rfl 26 L _ hB1 Try.underlying26 rfl (by rw [Try.size26, hLl]) ?_)
  refine (HT w1).mono ?_
  rintro e w2 ⟨k, n, rfl, hk, hn, hb2⟩
  have hl2 : Below w.heap.size w w2 := hl1.trans (hb2.mono hl1.size)
  obtain ⟨S, z, p1, p2⟩ := open_pair k n x y hk hn Hx.out Hy.out
  have hq := toList_eq S S
  rw [decide_eq_true rfl] at hq
  clear hl1 hb2 hB1 HT hk hn
  go_wp2_with fail
  refine (p1 w2).mono ?_
  rintro e w3 ⟨rfl, hb3⟩
  have hl3 := hl2.trans (hb3.mono hl2.size)
  clear hl2 hb3 p1
  go_wp2_with fail
  refine (p2 w3).mono ?_
  rintro e w4 ⟨rfl, hb4⟩
  have hl4 := hl3.trans (hb4.mono hl3.size)
  clear hl3 hb4 p2
  go_wp2_with (go_at_call 12; refine (wakes_any _).mono ?_; rintro e w5 ⟨rfl, hb5⟩)
  go_ret
  exact ⟨rfl, hl4.trans (hb5.mono hl4.size)⟩
end Go.Proofs.Ytnpebabffnjmmaa
/- Arrays of bytes that came in. -/
namespace Go.Proofs.Ytnpebabffnjmmaa
open Go.ChangeShapes Go.WideShapes Go.ChangeAt Go.RowKit Go.PlainAid
set_option linter.unusedVariables false

set_option maxRecDepth 20000 in
theorem po_agg {W : World} {b0 n : Nat} {t e : TypeId} {v : Value} (hu : Try.prog.underlying t = some (.array n e)) (h : Value.okWide Try.prog W .any b0 t v) : ∃ xs : List Value, v = .agg xs.toArray := by
  simp only [Value.okWide, hu] at h
  obtain ⟨cs, h1, _⟩ := h
  exact ⟨cs.toList, by rw [h1]⟩
section
variable {H : Type} {enc : TypeId × Value → H} {W : World}
set_option maxRecDepth 20000 in
theorem po_take (L : List Value) (i : Nat) (h : i < L.length) : (L.drop i).take 1 = [L[i]] := by
  rw [List.drop_eq_getElem_cons h]; rfl
set_option maxRecDepth 20000 in
theorem bytes_arg {t n : Nat} (hu : Try.prog.underlying t = some (.array n 5)) (hc : Try.prog.cellsOf t = n) {L : List Value} {d : DataW H} {p : List MemPlace} (h : DataW.Trod enc Try.prog W 0 (fun _ => true) true t (.agg L.toArray) d p) :
    ∃ f : Nat → Nat, L = nr .u8 n f ∧ ∀ i, f i < 256 := by
  obtain ⟨fuel, hf0⟩ := h
  obtain ⟨xs, m, _, _, hl, hn, hf⟩ := DataW.trod_array hu hf0
  rw [hc] at hl
  have hl' : L.length = n := by simpa [Value.cells] using hl
  have hs : ∀ i, i < n → ∃ k : Nat, L[i]? = some (.int .u8 (k : Int)) ∧ k < 256 := fun i hi => by
    have h1 := hf i hi
    rw [show Try.prog.cellsOf 5 = 1 by kernel_rfl, Nat.mul_one] at h1
    rw [List.getElem?_eq_getElem (by omega)] at h1
    obtain ⟨k, h3, -, h4⟩ := DataW.trod_int Try.underlying5 h1
    have hb := bounds_u8 h4
    simp only [Value.cells] at h3
    rw [po_take L i (by omega)] at h3
    refine ⟨k.toNat, ?_, by omega⟩
    rw [List.getElem?_eq_getElem (by omega), (List.cons.inj h3).1, Int.toNat_of_nonneg hb.1]
  refine ⟨fun i => if h : i < n then (hs i h).choose else 0, ?_, ?_⟩
  · apply List.ext_getElem?
    intro i
    by_cases hi : i < n
    · rw [nr_at _ _ _ i hi]
      refine (hs i hi).choose_spec.1.trans ?_
      simp only [dif_pos hi]
    · rw [List.getElem?_eq_none (by omega), List.getElem?_eq_none (by rw [nr_length]; omega)]
  · intro i
    show (if h : i < n then (hs i h).choose else 0) < 256
    split
    · rename_i h; exact (hs i h).choose_spec.2
    · decide
set_option maxRecDepth 20000 in
theorem bytes32_arg {L : List Value} {d : DataW H} {p : List MemPlace} (h : DataW.Trod enc Try.prog W 0 (fun _ => true) true 22 (.agg L.toArray) d p) : ∃ f : Nat → Nat, L = nr .u8 32 f ∧ ∀ i, f i < 256 := bytes_arg Try.underlying22 (by kernel_rfl) h
end
end Go.Proofs.Ytnpebabffnjmmaa
/- A key, a nonce and two numbers that came in, read. -/
namespace Go.Proofs.Ytnpebabffnjmmaa
open Go.ChangeShapes Go.WideShapes Go.ChangeAt Go.RowKit Go.PlainAid
set_option linter.unusedVariables false

set_option maxRecDepth 20000 in
theorem ae_struct {W : World} {b0 : Nat} {t : TypeId} {fs : Array Field} {v : Value} (hu : Try.prog.underlying t = some (.struct fs)) (h : Value.okWide Try.prog W .any b0 t v) : ∃ xs : List Value, v = .agg xs.toArray := by
  simp only [Value.okWide, hu] at h
  obtain ⟨cs, h1, _⟩ := h
  exact ⟨cs.toList, by rw [h1]⟩
section
variable {H : Type} {enc : TypeId × Value → H} {W : World}
set_option maxRecDepth 20000 in
theorem bytes2_arg {L : List Value} {d : DataW H} {p : List MemPlace} (h : DataW.Trod enc Try.prog W 0 (fun _ => true) true 24 (.agg L.toArray) d p) : ∃ f : Nat → Nat, L = nr .u8 2 f ∧ ∀ i, f i < 256 := bytes_arg Try.underlying24 (by kernel_rfl) h
set_option maxRecDepth 20000 in
theorem bytes_in {fuel n : Nat} {t : TypeId} {cs : List Value} {x : DataW H × List MemPlace} (hu : Try.prog.underlying t = some (.array n 5)) (hc : Try.prog.cellsOf t = n) (h : DataW.trod enc Try.prog W 0 (fun _ => true) true fuel t cs = some x) :
    ∀ i, i < n → ∃ k : Nat, cs[i]? = some (.int .u8 (k : Int)) ∧ k < 256 := by
  obtain ⟨xs, m, _, _, hl, hn, hf⟩ := DataW.trod_array hu h
  rw [hc] at hl
  intro i hi
  have h1 := hf i hi
  rw [show Try.prog.cellsOf 5 = 1 by kernel_rfl, Nat.mul_one] at h1
  rw [List.getElem?_eq_getElem (by omega)] at h1
  obtain ⟨k, h3, -, h4⟩ := DataW.trod_int Try.underlying5 h1
  have hb := bounds_u8 h4
  rw [po_take cs i (by omega)] at h3
  refine ⟨k.toNat, ?_, by omega⟩
  rw [List.getElem?_eq_getElem (by omega), (List.cons.inj h3).1, Int.toNat_of_nonneg hb.1]
set_option maxRecDepth 20000 in
theorem keys8_arg {L : List Value} {d : DataW H} {p : List MemPlace} (h : DataW.Trod enc Try.prog W 0 (fun _ => true) true 26 (.agg L.toArray) d p) : ∃ f : Nat → Nat, L = nr .u8 46 f ∧ ∀ i, f i < 256 := by
  obtain ⟨fuel, hf0⟩ := h
  obtain ⟨xs, m, _, _, hl, hn, hf⟩ := DataW.trod_struct Try.underlying26 hf0
  rw [show Try.prog.cellsOf 26 = 46 by kernel_rfl] at hl
  have hl' : L.length = 46 := by simpa [Value.cells] using hl
  have hn3 : xs.length = 3 := hn
  have h0 : DataW.trod enc Try.prog W 0 (fun _ => true) true m 22 ((L.drop 0).take (Try.prog.cellsOf 22)) = xs[0]? := hf 0 _ rfl
  have h1 : DataW.trod enc Try.prog W 0 (fun _ => true) true m 23 ((L.drop 32).take (Try.prog.cellsOf 23)) = xs[1]? := hf 1 _ rfl
  have h2 : DataW.trod enc Try.prog W 0 (fun _ => true) true m 24 ((L.drop 44).take (Try.prog.cellsOf 24)) = xs[2]? := hf 2 _ rfl
  rw [List.getElem?_eq_getElem (by omega)] at h0 h1 h2
  rw [show Try.prog.cellsOf 22 = 32 by kernel_rfl] at h0
  rw [show Try.prog.cellsOf 23 = 12 by kernel_rfl] at h1
  rw [show Try.prog.cellsOf 24 = 2 by kernel_rfl] at h2
  have b0 := bytes_in Try.underlying22 (by kernel_rfl) h0
  have b1 := bytes_in Try.underlying23 (by kernel_rfl) h1
  have b2 := bytes_in Try.underlying24 (by kernel_rfl) h2
  have hs : ∀ i, i < 46 → ∃ k : Nat, L[i]? = some (.int .u8 (k : Int)) ∧ k < 256 := fun i hi => by
    by_cases hi1 : i < 32
    · obtain ⟨k, hk, hk'⟩ := b0 i hi1
      rw [List.getElem?_take_of_lt hi1, List.getElem?_drop, Nat.zero_add] at hk
      exact ⟨k, hk, hk'⟩
    · by_cases hi2 : i < 44
      · obtain ⟨k, hk, hk'⟩ := b1 (i - 32) (by omega)
        rw [List.getElem?_take_of_lt (by omega), List.getElem?_drop, show 32 + (i - 32) = i by omega] at hk
        exact ⟨k, hk, hk'⟩
      · obtain ⟨k, hk, hk'⟩ := b2 (i - 44) (by omega)
        rw [List.getElem?_take_of_lt (by omega), List.getElem?_drop, show 44 + (i - 44) = i by omega] at hk
        exact ⟨k, hk, hk'⟩
  refine ⟨fun i => if h : i < 46 then (hs i h).choose else 0, ?_, ?_⟩
  · apply List.ext_getElem?
    intro i
    by_cases hi : i < 46
    · rw [nr_at _ _ _ i hi]
      refine (hs i hi).choose_spec.1.trans ?_
      simp only [dif_pos hi]
    · rw [List.getElem?_eq_none (by omega), List.getElem?_eq_none (by rw [nr_length]; omega)]
  · intro i
    show (if h : i < 46 then (hs i h).choose else 0) < 256
    split
    · rename_i h; exact (hs i h).choose_spec.2
    · decide
end
end Go.Proofs.Ytnpebabffnjmmaa
