/- What the comparison of two lists of words answers, and the words that the document reads out of a text. -/
import Derived.Test.YtikhhijbabllfaaSplit
namespace Go.Proofs.Ytikhhijbabllfaa
open Go.RowKit Go.PlainAid
set_option linter.unusedVariables false

/-- A slice's address leads to n words f. -/
def At (w : World) (a : Option Addr) (n : Nat) (f : Nat → Int) : Prop :=
  n = 0 ∨ ∃ b o, a = some ⟨b, o, none⟩ ∧ ∀ i, i < n → w.cell? ⟨b, o + i, none⟩ = some (.int .u32 (f i))

theorem At_owns {w : World} {base : Nat} {v : Value} {n : Nat} {f : Nat → Int} (h : w.ownsRow base 47 1 v n ((List.range n).map fun i => .int .u32 (f i))) :
    ∃ a cap, v = .slice a n cap ∧ At w a n f := by
  have hc := h
  rcases h.2 with ⟨rfl, h0⟩ | ⟨g, cap, cur, rfl, hb, hg, _⟩
  · subst h0; exact ⟨none, 0, rfl, .inl rfl⟩
  · refine ⟨_, cap, rfl, .inr ⟨g, 0, rfl, fun i hi => ?_⟩⟩
    rw [Nat.zero_add, hc.cellAt i (by omega)]
    simp [hi]

/-- What the document's inner loop has gathered behind k rounds. -/
def acc (s : ByteArray) (g : Nat → Nat) : Nat → Int
  | 0 => 0
  | k + 1 => 256 * acc s g k + bt s (g k)
theorem acc_lo (s : ByteArray) (g : Nat → Nat) (k : Nat) (hk : k < 4) : 0 ≤ acc s g k ∧ acc s g k ≤ 16777215 := by
  have h0 := bt_range s (g 0)
  have h1 := bt_range s (g 1)
  have h2 := bt_range s (g 2)
  have h : k = 0 ∨ k = 1 ∨ k = 2 ∨ k = 3 := by omega
  rcases h with rfl | rfl | rfl | rfl <;> simp only [acc] <;> omega
theorem acc_le (s : ByteArray) (i : Nat) : acc s (fun k => i + 3 - k) 4 = le4 (bt s i) (bt s (i + 1)) (bt s (i + 2)) (bt s (i + 3)) := by
  simp only [acc, le4, show i + 3 - 3 = i by omega, show i + 3 - 2 = i + 1 by omega, show i + 3 - 1 = i + 2 by omega, show i + 3 - 0 = i + 3 by omega]; omega
theorem acc_be (s : ByteArray) (i : Nat) : acc s (fun k => i + k) 4 = be4 (bt s i) (bt s (i + 1)) (bt s (i + 2)) (bt s (i + 3)) := by
  simp only [acc, be4, le4, Nat.add_zero]; omega

def wordsF (f : Int → Int → Int → Int → Int) (s : ByteArray) (k : Nat) : List Value := (List.range k).map fun i => .int .u32 (wordsL f s i)
theorem wordsF_succ (f : Int → Int → Int → Int → Int) (s : ByteArray) (k : Nat) : wordsF f s (k + 1) = wordsF f s k ++ [.int .u32 (wordsL f s k)] := by
  unfold wordsF; rw [List.range_succ, List.map_append]; rfl

end Go.Proofs.Ytikhhijbabllfaa
