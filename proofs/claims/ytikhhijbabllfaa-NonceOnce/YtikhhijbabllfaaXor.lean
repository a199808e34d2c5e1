/- What the Go functions that combine two texts answer, for every two texts: the program's own, and the document's. -/
import Derived.Test.YtikhhijbabllfaaRows
import Derived.Test.YtikhhijbabllfaaBytes
import Derived.WalkKit
import Derived.ProofKit
import Derived.OpenShut
import Derived.WalkLawsBesides
import Derived.WalkSpells
import Derived.PlainAid
import Derived.Laws.BytesArg
namespace Go.Proofs.Ytikhhijbabllfaa
open Go.RowKit Go.PlainAid
set_option linter.unusedVariables false

/-- A row of n values, the first k of them f's, the rest z. -/
def filled (n k : Nat) (f : Nat → Value) (z : Value) : List Value := (List.range n).map fun i => if i < k then f i else z
theorem filled_zero (n : Nat) (f : Nat → Value) (z : Value) : filled n 0 f z = List.replicate n z := by
  unfold filled; simp; exact List.eq_replicate_iff.2 ⟨by simp, by simp⟩
theorem filled_full (n : Nat) (f : Nat → Value) (z : Value) : filled n n f z = (List.range n).map f := by
  unfold filled
  apply List.map_congr_left
  intro i hi
  rw [if_pos (by simpa using hi)]
theorem filled_set (n k : Nat) (f : Nat → Value) (z : Value) (h : k < n) : (filled n k f z).set k (f k) = filled n (k + 1) f z := by
  unfold filled
  apply List.ext_getElem
  · simp
  · intro i h1 h2
    simp only [List.length_set, List.length_map, List.length_range] at h1
    rw [List.getElem_set]
    by_cases e : k = i
    · subst e; simp
    · rw [if_neg e]
      simp
      by_cases hi : i < k
      · rw [if_pos hi, if_pos (by omega)]
      · rw [if_neg hi, if_neg (by omega)]


theorem Try.info5 : (Try.prog.info? 5).map (fun i => (i.zero, i.size, i.bytes)) = some (some (.int .u8 0), 1, 1) := by kernel_rfl

end Go.Proofs.Ytikhhijbabllfaa
