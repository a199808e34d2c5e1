/- A matrix with the unit matrix to its right, laid in memory of the call's own; the right halves of its rows. -/
import Derived.Test.YtdpcbiccbhlonabMatSettle
namespace Go.Proofs.Ytdpcbiccbhlonab
open Go.RowKit Go.PlainAid
set_option linter.unusedVariables false

def halfL (m n : Nat) (f : Nat → E) : List Value := filled m n (fun j => byteV (f j)) (.int .u8 0)
theorem halfL_length (m n : Nat) (f : Nat → E) : (halfL m n f).length = m := by simp [halfL, filled]
theorem run_copy_half (w : World) (g m n ca : Nat) (a : Addr) (f : Nat → E) (cur : Array Value) (ty : TypeId) (hg : w.heap[g]? = some (.cells cur 5 (0, 0))) (hc : cur.toList = List.replicate m (.int .u8 0)) (hn : n ≤ m)
    (hs : ∀ j v, (bytesL n f)[j]? = some v → w.cell? (a.add j) = some v) :
    (Builtin.copy_ #[28, 28] ty #[.slice (some ⟨g, 0, none⟩) m m, .slice (some a) n ca]).run Try.prog w = .ok (goInt n) (w.setRow g (halfL m n f).toArray) := by
  have hsz : cur.size = m := by rw [← Array.length_toList, hc]; simp
  have h := run_copy_row (P := Try.prog) w 28 28 ty 5 g 0 m m a n ca cur 5 (bytesL n f) Try.underlying28 (by obtain ⟨i0, hi, hz0, hz1, hz2⟩ := info_parts Try.info5; rw [hi]; simp [hz1]) hg
    (by rw [bytesL_length]; exact (Nat.min_eq_left hn).symm) hs (by rw [bytesL_length]; omega) (fun v hv => by
      obtain ⟨i, _, rfl⟩ := List.mem_map.1 hv
      rfl)
  rw [bytesL_length] at h
  rw [h]
  congr 3
  rw [hc]
  unfold halfL filled bytesL
  apply List.ext_getElem
  · simp; omega
  · intro i h1 h2
    simp only [List.getElem_map, List.getElem_range]
    by_cases e : i < n
    · rw [if_pos e]
      simp [e]
    · rw [if_neg e]
      simp only [List.take_zero, List.nil_append]
      rw [List.getElem_append_right (by simp; omega)]
      simp
theorem half_set (m n k : Nat) (A : Mx) (hm : m = 2 * n) (hk : k < n) : (halfL m n (A k)).set (n + k) (.int .u8 1) = bytesL m (wideM n A k) := by
  unfold halfL filled bytesL
  apply List.ext_getElem
  · simp
  · intro i h1 h2
    rw [List.getElem_set]
    simp only [List.getElem_map, List.getElem_range, wideM]
    by_cases e : n + k = i
    · subst e
      rw [if_pos rfl, if_neg (by omega)]
      simp [idM, byteV, E.one_v]
    · rw [if_neg e]
      by_cases e' : i < n
      · rw [if_pos e', if_pos e']
      · rw [if_neg e', if_neg e']
        have : ¬ k = i - n := by omega
        simp [idM, this, byteV, E.zero_v]
theorem owns_setRow_list {w : World} {base g m : Nat} {xs ys : List Value} (h : w.ownsRow base 5 1 (.slice (some ⟨g, 0, none⟩) m m) m xs) (hl : ys.length = m) : (w.setRow g ys.toArray).ownsRow base 5 1 (.slice (some ⟨g, 0, none⟩) m m) m ys := by
  obtain ⟨cur, h1, h2, h3, h4, h5⟩ := owns_heap h
  exact owns_of (setRow_heap w g _ _ 5 _ h1) h4 hl h5

end Go.Proofs.Ytdpcbiccbhlonab
