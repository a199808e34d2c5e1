/- The text that the document makes of words, for every list of words. -/
import Derived.Test.YtbjmhpbelkndpaaJoin
namespace Go.Proofs.Ytbjmhpbelkndpaa
open Go.RowKit Go.PlainAid
set_option linter.unusedVariables false

theorem four_is (x : Int) (h0 : 0 ≤ x) (h1 : x < 4294967296) : [x % 256, x / 256 % 256, x / 256 / 256 % 256, x / 256 / 256 / 256 % 256] = four x := by
  have e1 : x / 256 / 256 % 256 = x / 65536 % 256 := by omega
  have e2 : x / 256 / 256 / 256 % 256 = x / 16777216 := by omega
  rw [e1, e2]; rfl
theorem At_below {w w' : World} {a : Option Addr} {n : Nat} {f : Nat → Int} (h : At w a n f) (hb : Below w.heap.size w w') : At w' a n f := by
  rcases h with h | ⟨b, o, rfl, h⟩
  · exact .inl h
  · exact .inr ⟨b, o, rfl, fun i hi => (hb.cell (p := ⟨b, o + i, none⟩) (cell_lt (h i hi))).trans (h i hi)⟩
theorem At_congr {w : World} {a : Option Addr} {n : Nat} {f g : Nat → Int} (h : At w a n f) (e : ∀ i, i < n → g i = f i) : At w a n g := by
  rcases h with h | ⟨b, o, rfl, h⟩
  · exact .inl h
  · exact .inr ⟨b, o, rfl, fun i hi => by rw [e i hi]; exact h i hi⟩

/-- An owned row of bytes is no block of arrays. -/
theorem own_ne {w : World} {base : Nat} {v : Value} {n : Nat} {xs : List Value} {G : Nat} {c : Array Value} (h : w.ownsRow base 5 1 v n xs) (hG : w.heap[G]? = some (.cells c 96)) : some G ≠ v.ownBlock := by
  intro e
  rcases h.2 with ⟨rfl, _⟩ | ⟨g, cap, cur, rfl, _, hg, _⟩
  · cases e
  · simp only [Value.ownBlock, Option.some.injEq] at e
    subst e
    rw [hg] at hG
    cases hG
theorem cell_blk {w : World} {G : Nat} {ys : List Int} (hG : w.heap[G]? = some (.cells (ys.map (Value.int .u8)).toArray 96)) (r : Nat) (hr : r < ys.length) : w.cell? ⟨G, r, none⟩ = some (.int .u8 (ys.getD r 0)) := by
  simp [World.cell?, hG, hr]

theorem fourB_is (x : Int) (h0 : 0 ≤ x) (h1 : x < 4294967296) : [x / 256 / 256 / 256 % 256, x / 256 / 256 % 256, x / 256 % 256, x % 256] = fourB x := by
  have e1 : x / 256 / 256 % 256 = x / 65536 % 256 := by omega
  have e2 : x / 256 / 256 / 256 % 256 = x / 16777216 := by omega
  rw [e1, e2]; rfl

end Go.Proofs.Ytbjmhpbelkndpaa
