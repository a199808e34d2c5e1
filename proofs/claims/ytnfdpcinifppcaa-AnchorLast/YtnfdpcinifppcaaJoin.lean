/- What the Go functions that write words as a text answer, for every list of words. -/
import Derived.Test.YtnfdpcinifppcaaRead
import Derived.Test.YtnfdpcinifppcaaRefXor
namespace Go.Proofs.Ytnfdpcinifppcaa
open Go.RowKit Go.PlainAid
set_option linter.unusedVariables false

/-- The four bytes of a word, the lowest first; the highest first. -/
def four (x : Int) : List Int := [x % 256, x / 256 % 256, x / 65536 % 256, x / 16777216]
def fourB (x : Int) : List Int := [x / 16777216, x / 65536 % 256, x / 256 % 256, x % 256]

def joinF (g : Int → List Int) (f : Nat → Int) (k : Nat) : List Int := (List.range k).flatMap fun i => g (f i)
theorem joinF_succ (g : Int → List Int) (f : Nat → Int) (k : Nat) : joinF g f (k + 1) = joinF g f k ++ g (f k) := by
  unfold joinF; rw [List.range_succ, List.flatMap_append]; simp
theorem joinF_length (g : Int → List Int) (hg : ∀ x, (g x).length = 4) (f : Nat → Int) (k : Nat) : (joinF g f k).length = 4 * k := by
  induction k with
  | zero => rfl
  | succ k ih => rw [joinF_succ, List.length_append, ih, hg]; omega

/-- A cell that is there lies in a block that is there. -/
theorem cell_lt {w : World} {b o : Nat} {v : Value} (h : w.cell? ⟨b, o, none⟩ = some v) : b < w.heap.size := by
  rcases Nat.lt_or_ge b w.heap.size with h' | h'
  · exact h'
  · simp [World.cell?, Array.getElem?_eq_none h'] at h

end Go.Proofs.Ytnfdpcinifppcaa
