/- A text with its end, as the document makes it. -/
import Derived.Test.YtegebaomhbogmaaDoorBlock
import Derived.Test.YtegebaomhbogmaaDoorHash
import Derived.Lib.ConvBytes
import Derived.ArgAppend
namespace Go.Proofs.YtegebaomhbogmaaDoor
open Go.RowKit Go.PlainAid
set_option linter.unusedVariables false

/-- A row of bytes f that the call itself made and that may grow. -/
def RowF (w : World) (base : Nat) (v : Value) (n : Nat) (f : Nat → Int) : Prop :=
  ∃ g cap, v = .slice (some ⟨g, 0, none⟩) n cap ∧ base ≤ g ∧ g < w.heap.size ∧ n ≤ cap ∧ (∀ i, i < n → w.cell? ⟨g, i, none⟩ = some (.int .u8 (f i))) ∧ (∀ i, i < cap → (w.cell? ⟨g, i, none⟩).isSome = true ∧ w.frozen? ⟨g, i, none⟩ = false)
set_option maxRecDepth 20000 in
theorem rowF_of (w : World) (s : ByteArray) : ∃ c w', (convert 9 51 (.string s)).run Tryd.prog w = .ok (.slice (some ⟨w.heap.size, 0, none⟩) s.size c) w' ∧ RowF w' w.heap.size (.slice (some ⟨w.heap.size, 0, none⟩) s.size c) s.size (bt s) ∧ Below w.heap.size w w' := by
  have hr := Lib.run_convert_string_bytes (P := Tryd.prog) w 9 51 5 s Tryd.underlying9 Tryd.underlying51 Tryd.underlying5
  have hs := Lib.bytesWorld_size w 5 s
  have hn := Lib.bytesWorld_at_new w 5 s
  have hge := grownCap_ge w s.size 0 5
  have hcs : (Lib.bytesCells w 5 s).size = grownCap w s.size 0 5 := by
    unfold Lib.bytesCells
    have hd : s.data.size = s.size := rfl
    rw [Array.size_append, Array.size_map, Array.size_replicate, hd]
    omega
  refine ⟨_, _, hr, ⟨w.heap.size, _, rfl, Nat.le_refl _, by omega, hge, fun i hi => ?_, fun i hi => ⟨?_, ?_⟩⟩, ⟨rfl, rfl, rfl, by omega, fun j hj => Lib.bytesWorld_at_old w 5 s j hj⟩⟩
  · rw [Lib.bytesWorld_cell w 5 s i hi]
    congr 2
    unfold bt
    rw [dif_pos hi, List.getD_eq_getElem?_getD]
    have hd : i < s.data.toList.length := by rw [Array.length_toList]; exact hi
    rw [List.getElem?_eq_getElem hd, Option.getD_some]
    simp
    rfl
  · simp only [World.cell?, hn]
    rw [Array.getElem?_eq_getElem (by rw [hcs]; exact hi)]
    rfl
  · simp only [World.frozen?, hn]
    simp
    omega
set_option maxRecDepth 20000 in
theorem rowF_push (w : World) (base : Nat) (v : Value) (n : Nat) (f : Nat → Int) (h : RowF w base v n f) (hf : f n = 0) (hn : n ≤ 140737488355000) (hb : base ≤ w.heap.size) :
    ∃ v' w', (Builtin.append_ #[51, 51] 51 #[v, .slice (some ⟨w.heap.size, 0, none⟩) 1 1]).run Tryd.prog (w.alloc (.cells #[.int .u8 0] 5)) = .ok v' w' ∧ RowF w' base v' (n + 1) f ∧ Below base w w' := by
  obtain ⟨g, cap, rfl, hbg, hg, hnc, hcell, hfree⟩ := h
  obtain ⟨i0, hi, hz0, hz1, hz2⟩ := info_parts Tryd.info5
  have hold : ∀ j, (w.alloc (.cells #[.int .u8 0] 5)).cell? ⟨g, j, none⟩ = w.cell? ⟨g, j, none⟩ := fun j => World.cell?_alloc_lt _ _ _ hg
  have hfr : ∀ j, (w.alloc (.cells #[.int .u8 0] 5)).frozen? ⟨g, j, none⟩ = w.frozen? ⟨g, j, none⟩ := fun j => World.frozen?_alloc_past _ _ _ hg
  have hnews : ∀ (j : Nat) u, [Value.int .u8 0][j]? = some u → (w.alloc (.cells #[.int .u8 0] 5)).cell? ((⟨w.heap.size, 0, none⟩ : Addr).add j) = some u := fun j u hj => by
    match j, hj with
    | 0, hj => simp at hj; subst hj; simp only [Addr.add]; exact (Blk.new w 5 #[.int .u8 0]).cell rfl
  have hba : Below base w (w.alloc (.cells #[.int .u8 0] 5)) := (Below.refl _ _).alloc hb _
  by_cases hroom : n + 1 ≤ cap
  · have hrun := run_append_room_cells (P := Tryd.prog) (w.alloc (.cells #[.int .u8 0] 5)) 51 51 5 i0 Tryd.underlying51 hi g 0 n cap ⟨w.heap.size, 0, none⟩ 1 1 [.int .u8 0] (by rw [hz1]; rfl) hnews (fun u hu => by simp at hu; subst hu; rfl) hroom
      (fun j hj => by simp at hj; subst hj; rw [hz1, hold]; simpa using (hfree n (by omega)).1) (fun j hj => by simp at hj; subst hj; rw [hz1, hfr]; simpa using (hfree n (by omega)).2)
    rw [hz1] at hrun
    simp only [Nat.zero_add, Nat.mul_one, World.setCells] at hrun
    refine ⟨_, _, hrun, ⟨g, cap, rfl, hbg, by simp; omega, hroom, fun i hi' => ?_, fun i hi' => ⟨?_, ?_⟩⟩, hba.setCell hbg _⟩
    · by_cases e : i = n
      · subst e
        rw [World.cell?_setCell_same' _ ⟨g, i, none⟩ _ (by rw [hold]; exact (hfree i (by omega)).1), hf]
      · rw [World.cell?_setCell_other _ _ _ _ (fun h => by cases h; exact e rfl), hold]
        exact hcell i (by omega)
    · by_cases e : i = n
      · subst e
        rw [World.cell?_setCell_same' _ ⟨g, i, none⟩ _ (by rw [hold]; exact (hfree i (by omega)).1)]; rfl
      · rw [World.cell?_setCell_other _ _ _ _ (fun h => by cases h; exact e rfl), hold]
        exact (hfree i hi').1
    · rw [World.frozen?_setCell, hfr]; exact (hfree i hi').2
  · obtain ⟨v', w', hrun, hown, hgrow⟩ := run_append_arg_grows (P := Tryd.prog) (w.alloc (.cells #[.int .u8 0] 5)) 51 51 5 i0 (.int .u8 0) 1 1 Tryd.underlying51 hi hz0 hz1 hz2 rfl (by decide) ⟨g, 0, none⟩ n cap ((List.range n).map fun i => .int .u8 (f i)) (by simp) (fun j u hj => by
        rw [Addr.add_mid, Nat.zero_add, hold]
        have hjn : j < n := by
          rcases Nat.lt_or_ge j n with h | h
          · exact h
          · rw [List.getElem?_eq_none (by simp; exact h)] at hj; cases hj
        rw [hcell j hjn, ← hj]
        simp [hjn]) ⟨w.heap.size, 0, none⟩ 1 1 [.int .u8 0] rfl hnews (by omega) (by unfold maxLen; omega) (by omega)
    obtain ⟨g', cap', rfl, hb', hlt'⟩ := hown.form (by omega)
    refine ⟨_, w', hrun, ?_, Below.grown hba hgrow (by simp; omega) (fun k h => by cases h)⟩
    have hsz : (w.alloc (.cells #[.int .u8 0] 5)).heap.size = w.heap.size + 1 := by simp
    rcases hown.2 with ⟨hv, _⟩ | ⟨g2, cap2, cur, hv, _, hcur, h1, _, h3, _⟩
    · cases hv
    · cases hv
      refine ⟨g', cap', rfl, by omega, hlt', h1, fun i hi' => ?_, fun i hi' => ⟨?_, ?_⟩⟩
      · rw [World.ownsRow.cellAt hown i (by omega)]
        by_cases e : i = n
        · subst e
          rw [List.getElem?_append_right (by simp)]
          simp [hf]
        · rw [List.getElem?_append_left (by simp; omega)]
          simp [show i < n by omega]
      · simp only [World.cell?, hcur]
        rw [Array.getElem?_eq_getElem (by omega)]; rfl
      · simp [World.frozen?, hcur]
set_option maxRecDepth 20000 in
theorem rowF_text {w : World} {base : Nat} {v : Value} {n : Nat} {f : Nat → Int} (h : RowF w base v n f) : (convert 51 9 v).run Tryd.prog w = .ok (.string (strOfNums ((List.range n).map f))) w := by
  obtain ⟨g, cap, rfl, _, _, _, hcell, _⟩ := h
  exact run_convert_bytes_arg (P := Tryd.prog) w 51 5 Tryd.underlying51 Tryd.underlying5 g 0 n cap ((List.range n).map f) (by simp) (fun i hi => by
    rw [Nat.zero_add, hcell i hi]
    simp [hi]) 9 Tryd.underlying9
set_option maxRecDepth 20000 in
theorem RowF.below {w w' : World} {base : Nat} {v : Value} {n : Nat} {f : Nat → Int} (h : RowF w base v n f) (hb : Below w.heap.size w w') : RowF w' base v n f := by
  obtain ⟨g, cap, rfl, h1, h2, h3, h4, h5⟩ := h
  exact ⟨g, cap, rfl, h1, Nat.lt_of_lt_of_le h2 hb.size, h3, fun i hi => (hb.cell (p := ⟨g, i, none⟩) h2).trans (h4 i hi), fun i hi => ⟨by rw [hb.cell (p := ⟨g, i, none⟩) h2]; exact (h5 i hi).1, by rw [hb.frozen (p := ⟨g, i, none⟩) h2]; exact (h5 i hi).2⟩⟩

set_option maxRecDepth 20000 in
theorem pad_text (s : ByteArray) : strOfNums ((List.range (s.size + 1 + zs s.size)).map (bt (s ++ ⟨#[128]⟩))) ++ strOfNums (joinF fourB (lw s.size) 2) = padB s := by
  unfold padB endB endL
  rw [show (128 :: (List.replicate (zs s.size) 0 ++ joinF fourB (lw s.size) 2) : List Int) = (128 :: List.replicate (zs s.size) 0) ++ joinF fourB (lw s.size) 2 from rfl, strOfNums_append, ← join_assoc]
  congr 1
  apply bt_ext
  · rw [ByteArray.size_append, strOfNums_size, strOfNums_size]
    simp; omega
  · intro i hi
    rw [strOfNums_size] at hi
    simp at hi
    rw [bt_str _ (fun x hx => by obtain ⟨j, _, rfl⟩ := List.mem_map.1 hx; exact bt_range _ j) i (by simp; exact hi)]
    simp only [List.getElem_map, List.getElem_range]
    rcases Nat.lt_or_ge i s.size with h | h
    · rw [bt_left _ _ _ h, bt_left _ _ _ h]
    · rw [bt_right _ _ _ h, bt_right _ _ _ h]
      have hl : ∀ x ∈ (128 :: List.replicate (zs s.size) 0 : List Int), 0 ≤ x ∧ x ≤ 255 := by
        intro x hx
        rcases List.mem_cons.1 hx with rfl | hx
        · omega
        · rw [(List.mem_replicate.1 hx).2]; omega
      have key : ∀ j, j < 1 + zs s.size → bt (⟨#[128]⟩ : ByteArray) j = bt (strOfNums (128 :: List.replicate (zs s.size) 0)) j := by
        intro j hj
        cases j with
        | zero => rw [bt_str _ hl 0 (by simp)]; rfl
        | succ j =>
          rw [bt_str _ hl (j + 1) (by simp; omega)]
          show bt (⟨#[128]⟩ : ByteArray) (j + 1) = (List.replicate (zs s.size) (0 : Int))[j]'(by simp; omega)
          rw [List.getElem_replicate]
          unfold bt
          rw [dif_neg (by show ¬ (j + 1 < 1); omega)]
      exact key _ (by omega)

set_option maxRecDepth 20000 in
theorem wpList_append_lit {P : Program} {ops : Array Oper} {rest : List Oper} {o : Oper} {a : Act} {w : World} {Q : Exit → Act → World → Prop} (hgd : o.guard = none) (s x : Operand) (t tn : TypeId)
    (ho : o.op = .call { callee := .builtin .append, args := #[s, x], argTypes := #[t, tn] }) (vs vx : Value) (hs : a.eval s = vs) (hx : a.eval x = vx)
    (v' : Value) (w' : World) (hr : (Builtin.append_ #[t, tn] o.type #[vs, vx]).run P w = .ok v' w') (h : wpList P ops Q rest (a.put o.dst v') w') : wpList P ops Q (o :: rest) a w :=
  wpList_plain hgd fun K hK => by
    unfold Oper.wp
    simp [execOp, ho, resolve, invoke, builtin, hs, hx, hr, Result.andThen]
    exact hK _ _ h
/-- How long a slice in a slot is. -/
def sliceLen : Value → Nat
  | .slice _ n _ => n
  | _ => 0

set_option maxHeartbeats 1000000 in
set_option maxRecDepth 20000 in
theorem padded_any (s : ByteArray) (hs : s.size ≤ 140737488354000) (w : World) :
    Calls Tryd.prog 45 #[.string s] w fun e w' => e = .returned (.string (padB s)) ∧ Below w.heap.size w w' := by
  have h128 : (s ++ (⟨#[128]⟩ : ByteArray)).size = s.size + 1 := by rw [ByteArray.size_append]; rfl
  have hz64 : zs s.size < 64 := by unfold zs; omega
  have hzm : (s.size + 1 + zs s.size) % 64 = 56 := by unfold zs; omega
  obtain ⟨c0, w1, hconv, hrow, hb1⟩ := rowF_of w (s ++ ⟨#[128]⟩)
  have hout : ∀ n, s.size + 1 ≤ n → bt (s ++ ⟨#[128]⟩) n = 0 := fun n hn => by unfold bt; rw [dif_neg (by rw [h128]; omega)]
  obtain ⟨f, hf⟩ : ∃ f, bt (s ++ ⟨#[128]⟩) = f := ⟨_, rfl⟩
  have hpt := pad_text s
  rw [hf] at hrow hout hpt
  rw [h128] at hrow hconv
  have HPT : Hid (strOfNums ((List.range (s.size + 1 + zs s.size)).map f) ++ strOfNums (joinF fourB (lw s.size) 2) = padB s) := hpt
  have HZM : Hid ((s.size + 1 + zs s.size) % 64 = 56) := hzm
  obtain ⟨z, hz⟩ : ∃ z, zs s.size = z := ⟨_, rfl⟩
  rw [hz] at hz64
  have HZ : Hid (zs s.size = z) := hz
  have hlo : ∀ n, s.size + 1 ≤ n → n < s.size + 1 + z → ¬ n % 64 = 56 := fun n h1 h2 h3 => by rw [hz] at hzm; omega
  clear hf hpt hzm hz
  go_enter Tryd.func45, Tryd.ntmps45
  go_wp2_with fail
  go_loopw [3] (fun v wr => ∃ n : Nat, s.size + 1 ≤ n ∧ n ≤ s.size + 1 + z ∧ RowF wr w.heap.size v n f ∧ Below w.heap.size w wr) (fun v _ => s.size + 1 + z - sliceLen v)
  case atStart => exact ⟨s.size + 1, by omega, by omega, hrow, hb1⟩
  case round =>
    clear hrow hb1 hconv
    obtain ⟨n, hn1, hn2, hrow, hb⟩ := hrel
    have hrow' := hrow
    obtain ⟨g, cap, rfl, hg1, hg2, hg3, hg4, hg5⟩ := hrow
    clear hg4 hg5
    by_cases hlt : n < s.size + 1 + z
    · have hne := hlo n hn1 hlt
      have hne' : (((n : Int) % 64) != 56) = true := by rw [bne_iff_ne]; omega
      obtain ⟨v', w', hrun, hrow2, hb2⟩ := rowF_push wr w.heap.size _ n f hrow' (hout n hn1) (by omega) hb.size
      obtain ⟨g', cap', rfl, h1', h2', h3', h4', h5'⟩ := hrow2
      have hrow3 : RowF w' w.heap.size (.slice (some ⟨g', 0, none⟩) (n + 1) cap') (n + 1) f := ⟨g', cap', rfl, h1', h2', h3', h4', h5'⟩
      clear h4' h5' hrow'
      go_wp2_with (at_builtin; refine wpList_append_lit rfl _ _ 51 51 rfl _ _ rfl rfl _ _ hrun ?_)
      refine ⟨⟨n + 1, by omega, by omega, hrow3, hb.trans hb2⟩, ?_⟩
      show s.size + 1 + z - (n + 1) < s.size + 1 + z - n
      omega
    · have hnz : n = s.size + 1 + z := by omega
      have hne' : (((n : Int) % 64) != 56) = false := by
        have := HZM.out
        rw [HZ.out, ← hnz] at this
        rw [bne_eq_false_iff_eq]; omega
      have hcv := rowF_text hrow'
      have hss : (s.size : Int) ≤ 140737488354000 := by omega
      have ha : At (wr.alloc (.cells #[.int .u32 (8 * (s.size : Int) / 4294967296), .int .u32 (8 * (s.size : Int) % 4294967296)] 73)) (some ⟨wr.heap.size, 0, none⟩) 2 (lw s.size) := by
        refine .inr ⟨wr.heap.size, 0, rfl, fun i hi => ?_⟩
        have hblk := Blk.new wr 73 #[.int .u32 (8 * (s.size : Int) / 4294967296), .int .u32 (8 * (s.size : Int) % 4294967296)]
        have e : i = 0 ∨ i = 1 := by omega
        rcases e with rfl | rfl
        · refine hblk.cell ?_
          rw [lw, if_pos rfl]; rfl
        · refine hblk.cell ?_
          rw [lw, if_neg (by decide)]; rfl
      have hlw : ∀ i, i < 2 → 0 ≤ lw s.size i ∧ lw s.size i < 4294967296 := by
        intro i _
        unfold lw
        split <;> omega
      have hb3 : Below w.heap.size w (wr.alloc (.cells #[.int .u32 (8 * (s.size : Int) / 4294967296), .int .u32 (8 * (s.size : Int) % 4294967296)] 73)) := hb.alloc hb.size _
      clear hcv
      have HNZ : Hid (n = s.size + 1 + z) := hnz
      have hn9 : n ≤ 140737488355000 := by omega
      clear hnz
      go_wp2_with fail
      refine (refText_big _ 2 2 (lw s.size) _ (by omega) ha hlw).mono ?_
      rintro e w2 ⟨rfl, hb4⟩
      have hba : Below wr.heap.size wr (wr.alloc (.cells #[.int .u32 (8 * (s.size : Int) / 4294967296), .int .u32 (8 * (s.size : Int) % 4294967296)] 73)) := (Below.refl _ _).alloc (Nat.le_refl _) _
      have hcv := rowF_text (hrow'.below (hba.trans (hb4.mono hba.size)))
      have hb5 := hb3.trans (hb4.mono hb3.size)
      obtain ⟨X, hX⟩ : ∃ X, strOfNums ((List.range n).map f) = X := ⟨_, rfl⟩
      have hXs : X.size = n := by rw [← hX, strOfNums_size]; simp
      rw [hX] at hcv
      obtain ⟨U, hU⟩ : ∃ U, strOfNums (joinF fourB (lw s.size) 2) = U := ⟨_, rfl⟩
      have hUs : U.size = 8 := by rw [← hU, strOfNums_size, joinF_length fourB (fun _ => rfl)]
      rw [hU]
      have HX : Hid (X ++ U = padB s) := by
        rw [← hX, ← hU, HNZ.out, ← HZ.out]; exact HPT.out
      have hXs1 : X.size ≤ 140737488355000 := by omega
      have hUs1 : U.size ≤ 8 := by omega
      clear hX hU ha hlw hb3 hb4 hba hrow' hXs hUs
      go_wp2_with fail
      go_ret
      exact ⟨by rw [← HX.out]; rfl, hb5⟩
end Go.Proofs.YtegebaomhbogmaaDoor
