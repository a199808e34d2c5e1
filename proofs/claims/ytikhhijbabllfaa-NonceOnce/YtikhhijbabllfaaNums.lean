/- Rows of numbers, texts of bytes; arrays of bytes and structs that came in. -/
import Derived.Test.YtikhhijbabllfaaBrow
import Derived.Test.YtikhhijbabllfaaCut
import Derived.OpenShut
import Derived.ShutString
import Derived.ChangeOld
import Derived.ChangeArms
import Derived.ProofKit
import Derived.Deep.Matrix
import Derived.Deep.MidRow
namespace Go.Proofs.Ytikhhijbabllfaa
open Go.ChangeShapes Go.WideShapes Go.ChangeAt Go.RowKit Go.PlainAid
set_option linter.unusedVariables false

/-- A row of n numbers S of kind κ. -/
def nr (κ : IntKind) (n : Nat) (S : Nat → Nat) : List Value := (List.range n).map fun i => .int κ ((S i : Nat) : Int)
set_option maxRecDepth 20000 in
theorem nr_length (κ : IntKind) (n : Nat) (S : Nat → Nat) : (nr κ n S).length = n := by simp [nr]
set_option maxRecDepth 20000 in
theorem nr_at (κ : IntKind) (n : Nat) (S : Nat → Nat) (i : Nat) (h : i < n) : (nr κ n S)[i]? = some (.int κ ((S i : Nat) : Int)) := by simp [nr, h]
set_option maxRecDepth 20000 in
theorem nr_congr (κ : IntKind) (n : Nat) (S R : Nat → Nat) (h : ∀ i, i < n → S i = R i) : nr κ n S = nr κ n R := by
  unfold nr; exact List.map_congr_left fun i hi => by rw [h i (List.mem_range.1 hi)]
set_option maxRecDepth 20000 in
theorem nr_set (κ : IntKind) (n : Nat) (S : Nat → Nat) (k x : Nat) : (nr κ n S).set k (.int κ (x : Int)) = nr κ n (fun i => if i = k then x else S i) := by
  apply List.ext_getElem
  · simp [nr]
  · intro j h1 h2
    rw [List.getElem_set]
    simp only [nr, List.getElem_map, List.getElem_range]
    by_cases e : k = j
    · rw [if_pos e, if_pos e.symm]
    · rw [if_neg e, if_neg (fun h => e h.symm)]
set_option maxRecDepth 20000 in
theorem nr_one (κ : IntKind) (n : Nat) (S : Nat → Nat) : ∀ v ∈ nr κ n S, v.oneCell' = true := by
  intro v hv
  obtain ⟨i, _, rfl⟩ := List.mem_map.1 hv
  rfl
set_option maxRecDepth 20000 in
/-- One element of an array by value. -/
theorem run_index_agg {P : Program} (w : World) (t e : TypeId) (n : Nat) (L : List Value) (i : Nat) (v : Value) (h : P.underlying t = some (.array n e)) (hi : i < n) (hv : L[i]? = some v)
    (ha : ∀ w, (isAgg e).run P w = .ok false w) (hs : ∀ w, (sizeOf e).run P w = .ok 1 w) : (Instr.index t (.agg L.toArray) (.int .i64 (i : Int))).run P w = .ok v w := by
  have hn : (0 : Int) ≤ (i : Int) ∧ (i : Int) < (n : Int) := by omega
  simp [Instr.index, run_underlying h, asIntOf, hn, hs, ha, part, hv, go_sem]
  intro h; omega
set_option maxRecDepth 20000 in
/-- A row box of a call's own argument. -/
theorem Blk.box (w : World) (T : TypeId) (L : List Value) : Blk (w.alloc (.cells L.toArray T)) w.heap.size T L := by
  have := Blk.new w T L.toArray
  simpa using this
set_option maxRecDepth 20000 in
/-- A row out of a block that is known whole, in each world that meets S. -/
theorem yields_row {P : Program} {ops : Array Oper} {S : World → Prop} {o : Oper} {a : Act} (hgd : o.guard = none) (ty : TypeId) (x : Operand) (ho : o.op = .load ty x)
    (g : Nat) (hx : a.eval x = .pointer (some ⟨g, 0, none⟩)) (t : TypeId) (L : List Value) (d : TypeDesc) (hg : ∀ w, S w → Blk w g t L)
    (hu : P.underlying ty = some d) (hd : (match d with | .struct _ | .array _ _ => true | _ => false) = true) (hi : (P.info? ty).map (·.size) = some L.length) : YieldsIf P ops S o (.agg L.toArray) a :=
  Or.inl ⟨by simp [Region.wanted, hgd], fun w hS => by
    unfold execOp
    simp only [ho, hx, Instr.loadAt, Instr.sureAddr, Sem.run_bind, Sem.run_pure, Result.andThen_ok, run_loadVar_row w g t ty L.toArray (0, 0) d (hg w hS) hu hd (by simpa using hi)]⟩
/-- The text of n bytes f. -/
def tx (n : Nat) (f : Nat → Nat) : ByteArray := strOfNums ((List.range n).map fun i => ((f i : Nat) : Int))
set_option maxRecDepth 20000 in
theorem tx_size (n : Nat) (f : Nat → Nat) : (tx n f).size = n := by unfold tx; rw [strOfNums_size]; simp
set_option maxRecDepth 20000 in
theorem conv_blk {w : World} {g T n : Nat} {f : Nat → Nat} (h : Blk w g T (nr .u8 n f)) (m c : Nat) (hm : m ≤ n) : (convert 39 9 (.slice (some ⟨g, 0, none⟩) m c)).run Try.prog w = .ok (.string (tx m f)) w :=
  run_convert_bytes_arg (P := Try.prog) w 39 5 Try.underlying39 Try.underlying5 g 0 m c _ (by simp) (fun i hi => by
    rw [Nat.zero_add, h.cell (nr_at .u8 n f i (by omega))]
    simp [hi]) 9 Try.underlying9
set_option maxRecDepth 20000 in
theorem tx_congr (n : Nat) (f g : Nat → Nat) (h : ∀ i, i < n → f i = g i) : tx n f = tx n g := by
  unfold tx
  congr 1
  exact List.map_congr_left fun i hi => by rw [h i (List.mem_range.1 hi)]
set_option maxRecDepth 20000 in
theorem Try.info5w : (Try.prog.info? 5).map (fun i => (i.zero, i.size, i.bytes)) = some (some (.int .u8 0), 1, 1) := by kernel_rfl
/-- n bytes of nought in the block G. -/
def PZ (G n : Nat) (z : World) : Prop := ∀ i, i < n → z.cell? ⟨G, i, none⟩ = some (.int .u8 0)
set_option maxRecDepth 20000 in
theorem pz_conv (z : World) (G n : Nat) (h : PZ G n z) : (convert 39 9 (.slice (some ⟨G, 0, none⟩) n n)).run Try.prog z = .ok (.string (strOfNums (List.replicate n 0))) z :=
  run_convert_bytes_arg (P := Try.prog) z 39 5 Try.underlying39 Try.underlying5 G 0 n n (List.replicate n 0) (List.length_replicate ..) (fun i hi => by
    rw [Nat.zero_add, h i hi, List.getD_eq_getElem?_getD, List.getElem?_replicate, if_pos hi]; rfl) 9 Try.underlying9
set_option maxRecDepth 20000 in
theorem pz_made (n : Nat) (hn : n ≤ 100000) : ∃ Z : Array Value, (∀ x : World, (Instr.makeSlice 39 (.int .i64 (n : Int)) (.int .i64 (n : Int))).run Try.prog x = .ok (.slice (some ⟨x.heap.size, 0, none⟩) n n) (x.alloc (.cells Z 5 (0, 0)))) ∧ ∀ x : World, PZ x.heap.size n (x.alloc (.cells Z 5 (0, 0))) := by
  obtain ⟨i0, hi, hz0, hz1, hz2⟩ := info_parts Try.info5w
  refine ⟨madeCells (Value.int .u8 0).cells (n * i0.size), fun x => ?_, fun x => ?_⟩
  · have := run_make (P := Try.prog) x 39 5 i0 (.int .u8 0) Try.underlying39 hi hz0 .i64 .i64 (n : Int) (n : Int) (by omega) (Int.le_refl _) (by rw [hz2]; omega) (by omega)
    rw [Int.toNat_natCast] at this
    exact this
  · intro i hi
    rw [hz1]
    have : (madeCells (Value.int .u8 0).cells (n * 1)).toList = List.replicate n (.int .u8 0) := by rw [Nat.mul_one]; exact toList_madeCells_one _ _
    have hl : (madeCells (Value.int .u8 0).cells (n * 1))[i]? = some (.int .u8 0) := by
      rw [← Array.getElem?_toList, this, List.getElem?_replicate, if_pos hi]
    rw [cell_of_row (x.alloc (.cells (madeCells (Value.int .u8 0).cells (n * 1)) 5 (0, 0))) x.heap.size i _ 5 (0, 0) (heap_alloc_new x _), hl]
set_option maxRecDepth 20000 in
theorem PZ.below {G n B : Nat} {z z' : World} (h : PZ G n z) (hb : Below B z z') (hG : G < B) : PZ G n z' := fun i hi => (hb.cell (p := ⟨G, i, none⟩) hG).trans (h i hi)
set_option maxRecDepth 20000 in
/-- string(make([]byte, n)), at one place. -/
theorem zeros_at (n : Nat) (hn : n ≤ 100000) : ∃ Z : Array Value, (∀ x : World, (Instr.makeSlice 39 (.int .i64 (n : Int)) (.int .i64 (n : Int))).run Try.prog x = .ok (.slice (some ⟨x.heap.size, 0, none⟩) n n) (x.alloc (.cells Z 5 (0, 0)))) ∧
    ∀ x : World, (convert 39 9 (.slice (some ⟨x.heap.size, 0, none⟩) n n)).run Try.prog (x.alloc (.cells Z 5 (0, 0))) = .ok (.string (strOfNums (List.replicate n 0))) (x.alloc (.cells Z 5 (0, 0))) := by
  obtain ⟨Z, h1, h2⟩ := pz_made n hn
  exact ⟨Z, h1, fun x => pz_conv _ _ n (h2 x)⟩
def zB (n : Nat) : ByteArray := strOfNums (List.replicate n 0)
set_option maxRecDepth 20000 in
theorem zB_size (n : Nat) : (zB n).size = n := by unfold zB; rw [strOfNums_size, List.length_replicate]
set_option maxRecDepth 20000 in
theorem cell_blk_lt {W : World} {b o : Nat} {v : Value} (h : W.cell? ⟨b, o, none⟩ = some v) : b < W.heap.size := World.block_lt_of_cell? W ⟨b, o, none⟩ h
set_option maxRecDepth 20000 in
theorem po_agg {W : World} {b0 n : Nat} {t e : TypeId} {v : Value} (hu : Try.prog.underlying t = some (.array n e)) (h : Value.okWide Try.prog W .any b0 t v) : ∃ xs : List Value, v = .agg xs.toArray := by
  simp only [Value.okWide, hu] at h
  obtain ⟨cs, h1, _⟩ := h
  exact ⟨cs.toList, by rw [h1]⟩
set_option maxRecDepth 20000 in
theorem ae_struct {W : World} {b0 : Nat} {t : TypeId} {fs : Array Field} {v : Value} (hu : Try.prog.underlying t = some (.struct fs)) (h : Value.okWide Try.prog W .any b0 t v) : ∃ xs : List Value, v = .agg xs.toArray := by
  simp only [Value.okWide, hu] at h
  obtain ⟨cs, h1, _⟩ := h
  exact ⟨cs.toList, by rw [h1]⟩
section
variable {H : Type} {enc : TypeId × Value → H} {W : World}
set_option maxRecDepth 20000 in
theorem po_take (L : List Value) (i : Nat) (h : i < L.length) : (L.drop i).take 1 = [L[i]] := by
  rw [List.drop_eq_getElem_cons h]; rfl
set_option maxRecDepth 20000 in
theorem bytes_arg {t n : Nat} (hu : Try.prog.underlying t = some (.array n 5)) (hc : Try.prog.cellsOf t = n) {L : List Value} {d : DataW H} {p : List MemPlace} (h : DataW.Trod enc Try.prog W 0 (fun _ => true) true t (.agg L.toArray) d p) :
    ∃ f : Nat → Nat, L = nr .u8 n f ∧ ∀ i, f i < 256 := by
  obtain ⟨fuel, hf0⟩ := h
  obtain ⟨xs, m, _, _, hl, hn, hf⟩ := DataW.trod_array hu hf0
  rw [hc] at hl
  have hl' : L.length = n := by simpa [Value.cells] using hl
  have hs : ∀ i, i < n → ∃ k : Nat, L[i]? = some (.int .u8 (k : Int)) ∧ k < 256 := fun i hi => by
    have h1 := hf i hi
    rw [show Try.prog.cellsOf 5 = 1 by kernel_rfl, Nat.mul_one] at h1
    rw [List.getElem?_eq_getElem (by omega)] at h1
    obtain ⟨k, h3, -, h4⟩ := DataW.trod_int Try.underlying5 h1
    have hb := bounds_u8 h4
    simp only [Value.cells] at h3
    rw [po_take L i (by omega)] at h3
    refine ⟨k.toNat, ?_, by omega⟩
    rw [List.getElem?_eq_getElem (by omega), (List.cons.inj h3).1, Int.toNat_of_nonneg hb.1]
  refine ⟨fun i => if h : i < n then (hs i h).choose else 0, ?_, ?_⟩
  · apply List.ext_getElem?
    intro i
    by_cases hi : i < n
    · rw [nr_at _ _ _ i hi]
      refine (hs i hi).choose_spec.1.trans ?_
      simp only [dif_pos hi]
    · rw [List.getElem?_eq_none (by omega), List.getElem?_eq_none (by rw [nr_length]; omega)]
  · intro i
    show (if h : i < n then (hs i h).choose else 0) < 256
    split
    · rename_i h; exact (hs i h).choose_spec.2
    · decide
set_option maxRecDepth 20000 in
theorem bytes_in {fuel n : Nat} {t : TypeId} {cs : List Value} {x : DataW H × List MemPlace} (hu : Try.prog.underlying t = some (.array n 5)) (hc : Try.prog.cellsOf t = n) (h : DataW.trod enc Try.prog W 0 (fun _ => true) true fuel t cs = some x) :
    ∀ i, i < n → ∃ k : Nat, cs[i]? = some (.int .u8 (k : Int)) ∧ k < 256 := by
  obtain ⟨xs, m, _, _, hl, hn, hf⟩ := DataW.trod_array hu h
  rw [hc] at hl
  intro i hi
  have h1 := hf i hi
  rw [show Try.prog.cellsOf 5 = 1 by kernel_rfl, Nat.mul_one] at h1
  rw [List.getElem?_eq_getElem (by omega)] at h1
  obtain ⟨k, h3, -, h4⟩ := DataW.trod_int Try.underlying5 h1
  have hb := bounds_u8 h4
  rw [po_take cs i (by omega)] at h3
  refine ⟨k.toNat, ?_, by omega⟩
  rw [List.getElem?_eq_getElem (by omega), (List.cons.inj h3).1, Int.toNat_of_nonneg hb.1]
end
/-- Values of one kind in a row, that came in: K cells each. -/
def Came {α : Type} (Ok : α → Prop) (row : α → List Value) (K : Nat) (W : World) (a : Option Addr) (len cap : Nat) : Prop := len ≤ cap ∧ cap ≤ maxLen ∧ ∃ A : Nat → α, (∀ i, i < len → Ok (A i)) ∧ (len = 0 ∨ ∃ b o, a = some ⟨b, o, none⟩ ∧ b < W.heap.size ∧ ∀ i, i < len → W.rangeAt b (o + i * K) (row (A i)))
set_option maxRecDepth 20000 in
theorem came_arg {H : Type} {enc : TypeId × Value → H} {W : World} {α : Type} (z : α) (Ok : α → Prop) (row : α → List Value) (K : Nat) (hK : ∀ a, (row a).length = K) (hK0 : 0 < K) {t e : TypeId} (hu : Try.prog.underlying t = some (.slice e)) (hcs : Try.prog.cellsOf e = K)
    (hin : ∀ (fuel : Nat) (cs : List Value) (x : DataW H × List MemPlace), DataW.trod enc Try.prog W 0 (fun _ => true) true fuel e cs = some x → ∃ a, Ok a ∧ cs = row a)
    {a : Option Addr} {len cap : Nat} {d : DataW H} {p : List MemPlace} (h : DataW.Trod enc Try.prog W 0 (fun _ => true) true t (.slice a len cap) d p) : Came Ok row K W a len cap := by
  obtain ⟨fuel, hf⟩ := h
  rcases DataW.trod_slice hu hf with ⟨hq, _⟩ | ⟨x, l, c, elems, rest, n, _, hq, _, hb, hl, hm, hel, hc, _⟩
  · simp [Value.cells] at hq
    obtain ⟨rfl, rfl, rfl⟩ := hq
    exact ⟨Nat.le_refl _, Nat.zero_le _, fun _ => z, fun i hi => by omega, .inl rfl⟩
  · simp [Value.cells] at hq
    obtain ⟨rfl, rfl, rfl⟩ := hq
    have hact : ∀ i, i < len → ∃ A : α, Ok A ∧ W.cells? 0 (x.add (i * K)) K = some (row A) := fun i hi => by
      have h1 := hc i hi
      rw [hcs, List.getElem?_eq_getElem (by omega), Option.bind_eq_some_iff] at h1
      obtain ⟨cs, h2, h3⟩ := h1
      obtain ⟨A, hA, rfl⟩ := hin _ _ _ h3
      exact ⟨A, hA, h2⟩
    obtain ⟨A, hA⟩ : ∃ A : Nat → α, ∀ i, i < len → Ok (A i) ∧ W.cells? 0 (x.add (i * K)) K = some (row (A i)) :=
      ⟨fun i => if h : i < len then (hact i h).choose else z, fun i hi => by simp only [dif_pos hi]; exact (hact i hi).choose_spec⟩
    refine ⟨hl, hm, A, fun i hi => (hA i hi).1, ?_⟩
    by_cases h0 : len = 0
    · exact .inl h0
    · have hcell : ∀ i, i < len → ∀ j u, (row (A i))[j]? = some u → W.cell? ((x.add (i * K)).add j) = some u := by
        intro i hi j u hu
        have h1 := (hA i hi).2
        unfold World.cells? at h1
        rw [if_pos (Nat.zero_le _)] at h1
        have hj : j < K := by
          rcases Nat.lt_or_ge j K with h | h
          · exact h
          · rw [List.getElem?_eq_none (by rw [hK]; exact h)] at hu; cases hu
        have h2 := Go.mapM_some_get h1 j j (by simp [hj])
        rw [h2, hu]
      obtain ⟨b, off, spot⟩ := x
      have hv0 : (row (A 0))[0]? = some ((row (A 0))[0]'(by rw [hK]; exact hK0)) := List.getElem?_eq_getElem _
      have hspot : spot = none := by
        have := World.cell?_spot (hcell 0 (by omega) 0 _ hv0)
        simpa [Addr.add] using this
      subst hspot
      have hc0 := hcell 0 (by omega) 0 _ hv0
      rw [Go.WideShapes.add_plain, Go.WideShapes.add_plain] at hc0
      refine .inr ⟨b, off, rfl, cell_blk_lt hc0, fun i hi j u hu => ?_⟩
      have := hcell i hi j u hu
      rw [Go.WideShapes.add_plain, Go.WideShapes.add_plain] at this
      exact this
set_option maxRecDepth 20000 in
theorem rangeAt_below {B : Nat} {w w' : World} {b o : Nat} {cs : List Value} (h : w.rangeAt b o cs) (hb : Below B w w') (hB : b < B) : w'.rangeAt b o cs := fun j v hv => (hb.cell (p := ⟨b, o + j, none⟩) hB).trans (h j v hv)
set_option maxRecDepth 20000 in
/-- One of them, as it lies there still. -/
theorem came_at {α : Type} {Ok : α → Prop} {row : α → List Value} {K : Nat} {W w : World} {a : Option Addr} {len cap : Nat} (h : Came Ok row K W a len cap) (hb : Below W.heap.size W w) (i : Nat) (hi : i < len) : ∃ b o, ∃ A : α, a = some ⟨b, o, none⟩ ∧ Ok A ∧ w.rangeAt b (o + i * K) (row A) := by
  obtain ⟨h1, h2, A, h3, h4⟩ := h
  rcases h4 with h4 | ⟨b, o, rfl, hb0, hc⟩
  · omega
  · exact ⟨b, o, A i, rfl, h3 i hi, rangeAt_below (hc i hi) hb hb0⟩
set_option maxRecDepth 20000 in
/-- The text of bytes that lie in a row. -/
theorem conv_range {w : World} {g o n : Nat} {f : Nat → Nat} (h : w.rangeAt g o (nr .u8 n f)) (m c : Nat) (hm : m ≤ n) : (convert 39 9 (.slice (some ⟨g, o, none⟩) m c)).run Try.prog w = .ok (.string (tx m f)) w :=
  run_convert_bytes_arg (P := Try.prog) w 39 5 Try.underlying39 Try.underlying5 g o m c _ (by simp) (fun i hi => by
    rw [h i _ (nr_at .u8 n f i (by omega))]
    simp [hi]) 9 Try.underlying9
set_option maxRecDepth 20000 in
theorem bytes_row {n : Nat} {cs : List Value} (hl : cs.length = n) (h : ∀ i, i < n → ∃ k : Nat, cs[i]? = some (.int .u8 (k : Int)) ∧ k < 256) : ∃ f : Nat → Nat, (∀ i, f i < 256) ∧ cs = nr .u8 n f := by
  refine ⟨fun i => if h' : i < n then (h i h').choose else 0, fun i => ?_, ?_⟩
  · show (if h' : i < n then (h i h').choose else 0) < 256
    split
    · rename_i h'; exact (h i h').choose_spec.2
    · decide
  · apply List.ext_getElem?
    intro i
    by_cases hi : i < n
    · rw [nr_at _ _ _ i hi]
      refine (h i hi).choose_spec.1.trans ?_
      simp only [dif_pos hi]
    · rw [List.getElem?_eq_none (by omega), List.getElem?_eq_none (by rw [nr_length]; omega)]
set_option maxRecDepth 20000 in
/-- They are the same all the while. -/
theorem came_fun {α : Type} {Ok : α → Prop} {row : α → List Value} {K : Nat} {W : World} {a : Option Addr} {len cap : Nat} (h : Came Ok row K W a len cap) : ∃ A : Nat → α, ∀ w, Below W.heap.size W w → ∀ i, i < len → ∃ b o, a = some ⟨b, o, none⟩ ∧ Ok (A i) ∧ w.rangeAt b (o + i * K) (row (A i)) := by
  obtain ⟨h1, h2, A, h3, h4⟩ := h
  refine ⟨A, fun w hb i hi => ?_⟩
  rcases h4 with h4 | ⟨b, o, rfl, hb0, hc⟩
  · omega
  · exact ⟨b, o, rfl, h3 i hi, rangeAt_below (hc i hi) hb hb0⟩
end Go.Proofs.Ytikhhijbabllfaa
