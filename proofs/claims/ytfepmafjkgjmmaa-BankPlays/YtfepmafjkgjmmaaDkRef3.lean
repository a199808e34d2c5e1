/- The document's Restore. -/
import Derived.Test.YtfepmafjkgjmmaaDkRef1
import Derived.Test.YtfepmafjkgjmmaaDkRest
namespace Go.Proofs.Ytfepmafjkgjmmaa
open Go.RowKit Go.PlainAid
set_option linter.unusedVariables false

/-- The first j cells restored. -/
def parL (l : Nat → ByteArray) (m : Nat) (f : Nat → ByteArray) (j i : Nat) : ByteArray := if i < j then restL m f i else l i
theorem parL_zero (l : Nat → ByteArray) (m : Nat) (f : Nat → ByteArray) : parL l m f 0 = l := by funext i; unfold parL; rw [if_neg (by omega)]
theorem parL_end (l : Nat → ByteArray) (m : Nat) (f : Nat → ByteArray) (n : Nat) : ∀ i, i < n → parL l m f n i = restL m f i := by intro i hi; unfold parL; rw [if_pos hi]
theorem parL_step (l : Nat → ByteArray) (m : Nat) (f : Nat → ByteArray) (j : Nat) : upd (parL l m f j) (j, restL m f j) = parL l m f (j + 1) := by
  funext i
  unfold upd parL
  simp only
  by_cases e : i = j
  · subst e; rw [if_pos rfl, if_pos (by omega)]
  · rw [if_neg e]
    by_cases h1 : i < j
    · rw [if_pos h1, if_pos (by omega)]
    · rw [if_neg h1, if_neg (by omega)]
theorem upd_upd (f : Nat → ByteArray) (k : Nat) (s t : ByteArray) : upd (upd f (k, s)) (k, t) = upd f (k, t) := by
  funext i
  unfold upd
  simp only
  by_cases e : i = k
  · rw [if_pos e, if_pos e]
  · rw [if_neg e, if_neg e, if_neg e]
end Go.Proofs.Ytfepmafjkgjmmaa
