/- Rows of elements as texts: cut out, multiplied, combined, laid back. -/
import Derived.Test.YthcbnffhkbbkpaaMatMul
import Derived.Test.YthcbnffhkbbkpaaGfScale
import Derived.Laws.CopyOwn
namespace Go.Proofs.Ythcbnffhkbbkpaa
open Go.RowKit Go.PlainAid
set_option linter.unusedVariables false

def numsE (m : Nat) (f : Nat → E) : List Int := (List.range m).map fun i => ((f i).v : Int)
def strE (m : Nat) (f : Nat → E) : ByteArray := strOfNums (numsE m f)
theorem numsE_length (m : Nat) (f : Nat → E) : (numsE m f).length = m := by simp [numsE]
theorem numsE_range (m : Nat) (f : Nat → E) : ∀ x ∈ numsE m f, 0 ≤ x ∧ x ≤ 255 := by
  intro x hx
  obtain ⟨i, _, rfl⟩ := List.mem_map.1 hx
  have := (f i).h
  omega
theorem strE_size (m : Nat) (f : Nat → E) : (strE m f).size = m := by unfold strE; rw [strOfNums_size, numsE_length]
theorem bt_strE (m : Nat) (f : Nat → E) (i : Nat) (h : i < m) : bt (strE m f) i = ((f i).v : Int) := by
  unfold strE
  rw [bt_str _ (numsE_range m f) i (by rw [numsE_length]; exact h)]
  simp [numsE]
theorem strE_congr {m : Nat} {f g : Nat → E} (h : ∀ i, i < m → f i = g i) : strE m f = strE m g := by
  unfold strE numsE
  congr 1
  exact List.map_congr_left fun i hi => by rw [h i (List.mem_range.1 hi)]
theorem scaleB_strE (x : E) (m : Nat) (f : Nat → E) : scaleB x.v (strE m f) = strE m fun i => x * f i := by
  apply bt_ext
  · rw [scaleB_size, strE_size, strE_size]
  · intro i hi
    rw [scaleB_size, strE_size] at hi
    rw [bt_scaleB x.v x.h _ i (by rw [strE_size]; exact hi), bt_strE _ _ i hi]
    unfold gb
    rw [bt_strE _ _ i hi, Int.toNat_natCast]
    rfl
theorem xorB_strE (m : Nat) (f g : Nat → E) : xorB (strE m f) (strE m g) = strE m fun i => f i + g i := by
  apply bt_ext
  · rw [xorB_size, strE_size, strE_size, strE_size, Nat.min_self]
  · intro i hi
    rw [xorB_size, strE_size, strE_size, Nat.min_self] at hi
    rw [bt_xorB _ _ i (by rw [strE_size, strE_size, Nat.min_self]; exact hi), bt_strE _ _ i hi, bt_strE _ _ i hi, bt_strE _ _ i hi, Int.toNat_natCast, Int.toNat_natCast]
    rfl
theorem strE_cells (m : Nat) (f : Nat → E) : ((strE m f).data.map fun b => Value.int .u8 b.toNat).toList = bytesL m f := by
  unfold strE strOfNums numsE bytesL byteV
  simp only [List.map_map, Array.toList_map]
  apply List.map_congr_left
  intro i _
  have := (f i).h
  simp only [Function.comp, Int.toNat_natCast]
  congr 1
  rw [UInt8.toNat_ofNat']
  omega
theorem conv_row {w : World} {base g m cap : Nat} {f : Nat → E} (h : w.ownsRow base 5 1 (.slice (some ⟨g, 0, none⟩) m cap) m (bytesL m f)) :
    (convert 48 9 (.slice (some ⟨g, 0, none⟩) m cap)).run Try.prog w = .ok (.string (strE m f)) w :=
  run_convert_bytes_arg (P := Try.prog) w 48 5 Try.underlying48 Try.underlying5 g 0 m cap (numsE m f) (numsE_length m f) (fun i hi => by
    rw [Nat.zero_add, h.cellAt i (by omega), bytesL_at m f i hi]
    simp [numsE, List.getD, hi, byteV]) 9 Try.underlying9
theorem run_copy_strE (w : World) (g m : Nat) (f : Nat → E) (cur : Array Value) (ty : TypeId) (hg : w.heap[g]? = some (.cells cur 5 (0, 0))) (hc : cur.size = m) :
    (Builtin.copy_ #[48, 9] ty #[.slice (some ⟨g, 0, none⟩) m m, .string (strE m f)]).run Try.prog w = .ok (goInt m) (w.setRow g (bytesL m f).toArray) := by
  obtain ⟨i0, hi, hz0, hz1, hz2⟩ := info_parts Try.info5
  have hst := run_storeCells_at Try.prog g 0 5 (bytesL m f) 0 cur w hg (by rw [bytesL_length]; omega) (fun v hv => by
    obtain ⟨i, _, rfl⟩ := List.mem_map.1 hv
    rfl)
  rw [show cur.toList.take (0 + 0) ++ bytesL m f ++ cur.toList.drop (0 + 0 + (bytesL m f).length) = bytesL m f by
    rw [bytesL_length]; simp; omega] at hst
  have hce := strE_cells m f
  simp [Builtin.copy_, run_underlying Try.underlying48, Builtin.lenOf, Builtin.firstCells, sizeOf, typeInfo, hi, strE_size]
  rw [Array.toList_map] at hce
  have ht : (bytesL m f).take m = bytesL m f := List.take_of_length_le (by rw [bytesL_length]; exact Nat.le_refl _)
  simp [hce, ht, hst]
theorem grown_setRow (w : World) (g : Nat) (cs : Array Value) : w.grownBy (w.setRow g cs) (some g) :=
  ⟨rfl, rfl, rfl, by simp, fun k _ hk => setRow_other w g k cs fun e => hk (by rw [e])⟩
theorem owns_heap {w : World} {base g m : Nat} {xs : List Value} (h : w.ownsRow base 5 1 (.slice (some ⟨g, 0, none⟩) m m) m xs) : ∃ cur, w.heap[g]? = some (.cells cur 5 (0, 0)) ∧ cur.size = m ∧ cur.toList = xs ∧ base ≤ g ∧ m ≤ maxLen := by
  rcases h.2 with ⟨hn, _⟩ | ⟨g', cap', cur, hv, hg0, hg', h1, h2, h3, h4⟩
  · cases hn
  · cases hv
    refine ⟨cur, hg', by omega, ?_, hg0, h2⟩
    rw [← h4, List.take_of_length_le (by simp; omega)]
theorem owns_of {w : World} {base g m : Nat} {xs : List Value} (hg : w.heap[g]? = some (.cells xs.toArray 5 (0, 0))) (hb : base ≤ g) (hl : xs.length = m) (hm : m ≤ maxLen) : w.ownsRow base 5 1 (.slice (some ⟨g, 0, none⟩) m m) m xs :=
  ⟨by omega, .inr ⟨g, m, xs.toArray, rfl, hb, hg, Nat.le_refl _, hm, by simp; exact hl, by rw [← hl]; simp⟩⟩
theorem owns_setRow {w : World} {base g m : Nat} {xs : List Value} {f : Nat → E} (h : w.ownsRow base 5 1 (.slice (some ⟨g, 0, none⟩) m m) m xs) : (w.setRow g (bytesL m f).toArray).ownsRow base 5 1 (.slice (some ⟨g, 0, none⟩) m m) m (bytesL m f) := by
  obtain ⟨cur, h1, h2, h3, h4, h5⟩ := owns_heap h
  exact owns_of (setRow_heap w g _ _ 5 _ h1) h4 (bytesL_length m f) h5
end Go.Proofs.Ythcbnffhkbbkpaa
