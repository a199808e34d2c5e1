/- A record that is being read: a reader, the record's own variable, rows that are filled. -/
import Derived.Test.YtbjmhpbelkndpaaDoorSuParse
import Derived.Test.YtbjmhpbelkndpaaDoorSuRows
import Derived.Test.YtbjmhpbelkndpaaDoorCdRead2
namespace Go.Proofs.YtbjmhpbelkndpaaDoor
open Go.RowKit Go.PlainAid
set_option linter.unusedVariables false
set_option maxRecDepth 20000

/-- A record of noughts. -/
def zRec : Rec := ⟨0, 0, 0, 0, 0, 0, false, 0, fun _ => 0, 0, fun _ => 0, fun _ => noB, fun _ => noB⟩
def zS : List Value := supV zRec none none 0 0
theorem zeroSup (w : World) : (zeroValue 26).run Tryd.prog w = .ok (.agg zS.toArray) w := by
  obtain ⟨i, hi, hz⟩ := Option.map_eq_some_iff.1 (show (Tryd.prog.info? 26).map (fun i => i.zero) = some (some (.agg zS.toArray)) by kernel_rfl)
  simp [zeroValue, typeInfo, hi, hz]
/-- n numbers as they lie in a row; the first k of f, noughts behind. -/
def si (n : Nat) (f : Nat → Int) : List Value := (List.range n).map fun i => .int .i64 (f i)
def sk (k : Nat) (f : Nat → Int) (i : Nat) : Int := if i < k then f i else 0
def tk (k : Nat) (f : Nat → ByteArray) (i : Nat) : ByteArray := if i < k then f i else noB
theorem si_len (n : Nat) (f : Nat → Int) : (si n f).length = n := by simp [si]
theorem si_at (n : Nat) (f : Nat → Int) (i : Nat) (h : i < n) : (si n f)[i]? = some (.int .i64 (f i)) := by simp [si, h]
theorem si_step (n k : Nat) (f : Nat → Int) : (si n (sk k f)).set k (.int .i64 (f k)) = si n (sk (k + 1) f) := by
  apply List.ext_getElem?
  intro i
  by_cases hi : i < n
  · rw [si_at _ _ _ hi]
    by_cases e : i = k
    · subst e
      rw [List.getElem?_set_self (by rw [si_len]; exact hi)]
      unfold sk; rw [if_pos (by omega)]
    · rw [List.getElem?_set_ne (fun h => e h.symm), si_at _ _ _ hi]
      unfold sk
      by_cases h : i < k
      · rw [if_pos h, if_pos (by omega)]
      · rw [if_neg h, if_neg (by omega)]
  · rw [List.getElem?_eq_none (by rw [List.length_set, si_len]; omega), List.getElem?_eq_none (by rw [si_len]; omega)]
/-- n members as they lie in a row. -/
def memP (L : List Value) (n : Nat) (st : Nat → Int) (top log : Nat → ByteArray) : Prop := L.length = n * 3 ∧ ∀ i, i < n → L[i * 3]? = some (.int .i64 (st i)) ∧ L[i * 3 + 1]? = some (.string (top i)) ∧ L[i * 3 + 2]? = some (.string (log i))
def set3 (L : List Value) (o : Nat) (x : Int) (t l : ByteArray) : List Value := ((L.set o (.int .i64 x)).set (o + 1) (.string t)).set (o + 1 + 1) (.string l)
theorem memP_set {L : List Value} {n k : Nat} {st st' : Nat → Int} {top log top' log' : Nat → ByteArray} (h : memP L n st top log) (hk : k < n) (x : Int) (t l : ByteArray)
    (hs : ∀ i, i < n → st' i = if i = k then x else st i) (ht : ∀ i, i < n → top' i = if i = k then t else top i) (hl : ∀ i, i < n → log' i = if i = k then l else log i) : memP (set3 L (k * 3) x t l) n st' top' log' := by
  unfold set3
  refine ⟨by rw [List.length_set, List.length_set, List.length_set]; exact h.1, fun i hi => ?_⟩
  have h1 := h.1
  obtain ⟨a, b, c⟩ := h.2 i hi
  rw [hs i hi, ht i hi, hl i hi]
  by_cases e : i = k
  · subst e
    rw [if_pos rfl, if_pos rfl, if_pos rfl]
    refine ⟨?_, ?_, ?_⟩
    · rw [List.getElem?_set_ne (by omega), List.getElem?_set_ne (by omega), List.getElem?_set_self (by omega)]
    · rw [List.getElem?_set_ne (by omega), List.getElem?_set_self (by rw [List.length_set]; omega)]
    · rw [List.getElem?_set_self (by rw [List.length_set, List.length_set]; omega)]
  · rw [if_neg e, if_neg e, if_neg e]
    refine ⟨?_, ?_, ?_⟩
    · rw [List.getElem?_set_ne (by omega), List.getElem?_set_ne (by omega), List.getElem?_set_ne (by omega)]; exact a
    · rw [List.getElem?_set_ne (by omega), List.getElem?_set_ne (by omega), List.getElem?_set_ne (by omega)]; exact b
    · rw [List.getElem?_set_ne (by omega), List.getElem?_set_ne (by omega), List.getElem?_set_ne (by omega)]; exact c
theorem memP_step {L : List Value} {n k : Nat} {st : Nat → Int} {top log : Nat → ByteArray} (h : memP L n (sk k st) (tk k top) (tk k log)) (hk : k < n) : memP (set3 L (k * 3) (st k) (top k) (log k)) n (sk (k + 1) st) (tk (k + 1) top) (tk (k + 1) log) := by
  have key : ∀ {α : Type} (f : Nat → α) (z : α) (i : Nat), (if i < k + 1 then f i else z) = if i = k then f k else (if i < k then f i else z) := fun f z i => by
    by_cases e : i = k
    · subst e; rw [if_pos (by omega), if_pos rfl]
    · rw [if_neg e]
      by_cases hl : i < k
      · rw [if_pos hl, if_pos (by omega)]
      · rw [if_neg hl, if_neg (by omega)]
  exact memP_set h hk _ _ _ (fun i hi => key st 0 i) (fun i hi => key top noB i) (fun i hi => key log noB i)
theorem si_full (n : Nat) (f : Nat → Int) : si n (sk n f) = si n f := by
  unfold si; exact List.map_congr_left fun i hi => by unfold sk; rw [if_pos (List.mem_range.1 hi)]
theorem memP_full {L : List Value} {n : Nat} {st : Nat → Int} {top log : Nat → ByteArray} (h : memP L n (sk n st) (tk n top) (tk n log)) : memP L n st top log :=
  ⟨h.1, fun i hi => by have := h.2 i hi; unfold sk tk at this; rw [if_pos hi, if_pos hi, if_pos hi] at this; exact this⟩
theorem Blk.sx {w : World} {G n : Nat} {f : Nat → Int} (h : Blk w G 3 (si n f)) : Sx w (some ⟨G, 0, none⟩) n f := .inr ⟨G, 0, rfl, h.lt, fun i hi => by rw [Nat.zero_add]; exact h.cell (si_at n f i hi)⟩
theorem Blk.mx {w : World} {G n : Nat} {T : TypeId} {L : List Value} {st : Nat → Int} {top log : Nat → ByteArray} (h : Blk w G T L) (hp : memP L n st top log) : Mx w (some ⟨G, 0, none⟩) n st top log := .inr ⟨G, 0, rfl, h.lt, fun i hi j v hv => by
  obtain ⟨a, b, c⟩ := hp.2 i hi
  rw [Nat.zero_add]
  match j, hv with
  | 0, hv => simp [mrow] at hv; subst hv; exact h.cell a
  | 1, hv => simp [mrow] at hv; subst hv; exact h.cell b
  | 2, hv => simp [mrow] at hv; subst hv; exact h.cell c
  | (n + 3), hv => simp [mrow] at hv⟩
theorem Sx.congr {w : World} {a : Option Addr} {n : Nat} {f g : Nat → Int} (h : Sx w a n f) (e : ∀ i, i < n → f i = g i) : Sx w a n g := by
  rcases h with h | ⟨b, o, h1, h2, h3⟩
  · exact .inl h
  · exact .inr ⟨b, o, h1, h2, fun i hi => by rw [← e i hi]; exact h3 i hi⟩
theorem Mx.congr {w : World} {a : Option Addr} {n : Nat} {st st' : Nat → Int} {top log top' log' : Nat → ByteArray} (h : Mx w a n st top log) (e1 : ∀ i, i < n → st i = st' i) (e2 : ∀ i, i < n → top i = top' i) (e3 : ∀ i, i < n → log i = log' i) : Mx w a n st' top' log' := by
  rcases h with h | ⟨b, o, h1, h2, h3⟩
  · exact .inl h
  · exact .inr ⟨b, o, h1, h2, fun i hi => by rw [← e1 i hi, ← e2 i hi, ← e3 i hi]; exact h3 i hi⟩
/-- make([]int, n), make([]Member, n). -/
theorem Tryd.info3w : (Tryd.prog.info? 3).map (fun i => (i.zero, i.size, i.bytes)) = some (some (.int .i64 0), 1, 8) := by kernel_rfl
theorem Tryd.info64w : (Tryd.prog.info? 64).map (fun i => (i.zero, i.size, i.bytes)) = some (some (.agg (mrow 0 noB noB).toArray), 3, 40) := by kernel_rfl
theorem made_ints (n : Nat) (hn : n ≤ 1000) (w : World) : (Instr.makeSlice 23 (.int .i64 (n : Int)) (.int .i64 (n : Int))).run Tryd.prog w = .ok (.slice (some ⟨w.heap.size, 0, none⟩) n n) (w.alloc (.cells (si n (sk 0 fun _ => 0)).toArray 3)) := by
  obtain ⟨i0, hi, hz0, hz1, hz2⟩ := info_parts Tryd.info3w
  have hr := run_make (P := Tryd.prog) w 23 3 i0 (.int .i64 0) Tryd.underlying23 hi hz0 .i64 .i64 (n : Int) (n : Int) (by omega) (Int.le_refl _) (by rw [hz2]; omega) (by omega)
  rw [Int.toNat_natCast] at hr
  rw [hr]
  congr 3
  rw [hz1, Nat.mul_one]
  apply Array.toList_inj.1
  have : (madeCells (Value.int .i64 0).cells n).toList = List.replicate n (.int .i64 0) := toList_madeCells_one _ _
  rw [this]
  show List.replicate n _ = si n _
  apply List.ext_getElem?
  intro i
  by_cases h : i < n
  · rw [List.getElem?_replicate, if_pos h, si_at _ _ _ h]; unfold sk; rw [ite_self]
  · rw [List.getElem?_replicate, if_neg h, List.getElem?_eq_none (by rw [si_len]; omega)]
theorem made_mems (n : Nat) (hn : n ≤ 1000) : ∃ L : List Value, memP L n (sk 0 fun _ => 0) (tk 0 fun _ => noB) (tk 0 fun _ => noB) ∧ ∀ w : World, (Instr.makeSlice 24 (.int .i64 (n : Int)) (.int .i64 (n : Int))).run Tryd.prog w = .ok (.slice (some ⟨w.heap.size, 0, none⟩) n n) (w.alloc (.cells L.toArray 64)) := by
  obtain ⟨i0, hi, hz0, hz1, hz2⟩ := info_parts Tryd.info64w
  refine ⟨(madeCells (Value.agg (mrow 0 noB noB).toArray).cells (n * 3)).toList, ⟨?_, fun i hi => ?_⟩, fun w => ?_⟩
  · rw [Array.length_toList]; exact size_madeCells _ _
  · have key : ∀ j, j < n * 3 → (madeCells (Value.agg (mrow 0 noB noB).toArray).cells (n * 3)).toList[j]? = some ((mrow 0 noB noB).toArray[j % 3]!) := fun j hj => by
      rw [Array.getElem?_toList]
      unfold madeCells
      simp [hj, Value.cells, mrow]
    unfold sk tk
    simp only [Nat.not_lt_zero, if_false]
    refine ⟨?_, ?_, ?_⟩
    · rw [key _ (by omega), show i * 3 % 3 = 0 by omega]; rfl
    · rw [key _ (by omega), show (i * 3 + 1) % 3 = 1 by omega]; rfl
    · rw [key _ (by omega), show (i * 3 + 2) % 3 = 2 by omega]; rfl
  · have hr := run_make (P := Tryd.prog) w 24 64 i0 (.agg (mrow 0 noB noB).toArray) Tryd.underlying24 hi hz0 .i64 .i64 (n : Int) (n : Int) (by omega) (Int.le_refl _) (by rw [hz2]; omega) (by omega)
    rw [Int.toNat_natCast] at hr
    rw [hr, hz1]
section
variable {B : Nat} {w0 w : World} {g vs v2 : Nat} {X : Asn} {s : Rst} {C : List Value}
/-- The reader in a state, the record's own variable, the answer's. -/
def Rd (B : Nat) (w0 w : World) (g vs v2 : Nat) (X : Asn) (s : Rst) (C : List Value) : Prop := Hold B w0 w (star (rdr g s.1 s.2) (star (blkA vs 26 C) (star (blkA v2 26 zS) X)))
theorem firm_rd (hX : Firm X) : Firm (star (blkA vs 26 C) (star (blkA v2 26 zS) X)) := (firm_blk _ _ _).star ((firm_blk _ _ _).star hX)
theorem Rd.low (h : Rd B w0 w g vs v2 X s C) : Below B w0 w := Hold.low h
theorem Rd.num (hX : Firm X) (h : Rd B w0 w g vs v2 X s C) (hs : s.1.size ≤ 140737488355328) : Calls Tryd.prog 22 #[.pointer (some ⟨g, 0, none⟩)] w fun x w' => x = .returned (.int .u64 (cblV s.1 s.2 18446744073709551616)) ∧ Rd B w0 w' g vs v2 X (m1 18446744073709551616 s) C := by
  rw [cbl_big]
  exact (cnum_any (firm_rd hX) h hs).mono fun x w' ⟨hx, h'⟩ => ⟨hx, by unfold m1; rw [blE_big]; exact h'⟩
theorem Rd.below (hX : Firm X) (h : Rd B w0 w g vs v2 X s C) (hs : s.1.size ≤ 140737488355328) (b : Int) (hb : -9223372036854775808 ≤ b ∧ b ≤ 9223372036854775807) : Calls Tryd.prog 23 #[.pointer (some ⟨g, 0, none⟩), .int .i64 b] w fun x w' => x = .returned (.int .i64 (cblV s.1 s.2 b)) ∧ Rd B w0 w' g vs v2 X (m1 b s) C :=
  cbelow_any (firm_rd hX) h hs b hb
theorem Rd.text (hX : Firm X) (h : Rd B w0 w g vs v2 X s C) (hs : s.1.size ≤ 140737488355328) : Calls Tryd.prog 24 #[.pointer (some ⟨g, 0, none⟩)] w fun x w' => x = .returned (.string (txV s.1 s.2)) ∧ Rd B w0 w' g vs v2 X (m2 s) C :=
  ctext_any (firm_rd hX) h hs
theorem Rd.own (h : Rd B w0 w g vs v2 X s C) : Blk w vs 26 C := (Hold.swap h).blk
theorem Rd.set (hX : Firm X) (h : Rd B w0 w g vs v2 X s C) (i : Nat) (v : Value) : Rd B w0 (w.setCell ⟨vs, i, none⟩ v) g vs v2 X s (C.set i v) :=
  ((Hold.swap h).setBlk ((firm_rdr _ _ _).star ((firm_blk _ _ _).star hX)) i v).swap
/-- To the rows, and back. -/
theorem Rd.out (h : Rd B w0 w g vs v2 X s C) : Hold B w0 w (star X (star (rdr g s.1 s.2) (star (blkA vs 26 C) (blkA v2 26 zS)))) := h.mono fun F h => pull_last h
theorem Rd.ofOut (h : Hold B w0 w (star X (star (rdr g s.1 s.2) (star (blkA vs 26 C) (blkA v2 26 zS))))) : Rd B w0 w g vs v2 X s C := h.mono fun F h => push_last h
theorem firm_out : Firm (star (rdr g s.1 s.2) (star (blkA vs 26 C) (blkA v2 26 zS))) := (firm_rdr _ _ _).star ((firm_blk _ _ _).star (firm_blk _ _ _))
theorem Rd.more (hX : Firm X) (h : Rd B w0 w g vs v2 X s C) (T : TypeId) (L : List Value) : Rd B w0 (w.alloc (.cells L.toArray T)) g vs v2 (star (blkA w.heap.size T L) X) s C := by
  have h1 := Hold.newBlk (hX.star firm_out) h.out T L.toArray
  rw [List.toList_toArray] at h1
  exact Rd.ofOut h1.unassoc
theorem Rd.row {G : Nat} {T : TypeId} {L : List Value} (h : Rd B w0 w g vs v2 (star (blkA G T L) X) s C) : Blk w G T L := h.out.left.blk
theorem Rd.row2 {G H : Nat} {T U : TypeId} {L M : List Value} (h : Rd B w0 w g vs v2 (star (blkA H U M) (star (blkA G T L) X)) s C) : Blk w G T L := h.out.left.right.blk
theorem Rd.setRow {G : Nat} {T : TypeId} {L : List Value} (hX : Firm X) (h : Rd B w0 w g vs v2 (star (blkA G T L) X) s C) (i : Nat) (v : Value) : Rd B w0 (w.setCell ⟨G, i, none⟩ v) g vs v2 (star (blkA G T (L.set i v)) X) s C :=
  Rd.ofOut (((h.out.assoc).setBlk (hX.star firm_out) i v).unassoc)
end
end Go.Proofs.YtbjmhpbelkndpaaDoor
