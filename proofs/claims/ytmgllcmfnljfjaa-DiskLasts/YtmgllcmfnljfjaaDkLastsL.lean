/- What stands in the cells of DiskLasts. -/
import Derived.Test.YtmgllcmfnljfjaaDkMay
namespace Go.Proofs.Ytmgllcmfnljfjaa
open Go.RowKit Go.PlainAid
set_option linter.unusedVariables false

/-- The first writes: each cell once. -/
def firstQ (S : Nat → ByteArray) (j : Nat) : List Wr := (List.range j).map fun i => (i, S i)
theorem firstQ_succ (S : Nat → ByteArray) (j : Nat) : firstQ S (j + 1) = firstQ S j ++ [(j, S j)] := by unfold firstQ; rw [List.range_succ, List.map_append]; rfl
theorem firstQ_length (S : Nat → ByteArray) (j : Nat) : (firstQ S j).length = j := by simp [firstQ]
theorem app_first (S : Nat → ByteArray) (f : Nat → ByteArray) (j i : Nat) : app f (firstQ S j) i = if i < j then S i else f i := by
  induction j with
  | zero => rw [if_neg (by omega)]; rfl
  | succ j ih =>
    rw [firstQ_succ, app_snoc]
    unfold upd
    simp only
    by_cases e : i = j
    · subst e; rw [if_pos rfl, if_pos (by omega)]
    · rw [if_neg e, ih]
      by_cases h : i < j
      · rw [if_pos h, if_pos (by omega)]
      · rw [if_neg h, if_neg (by omega)]
theorem mays_congr {gm k n : Nat} {mb : Nat → Nat} {I J : Nat → ByteArray → Prop} {w : World} {F : Nat → Prop} (h : mays gm k n mb I w F) (e : ∀ i s, i < k → J i s → I i s) : mays gm k n mb J w F := by
  obtain ⟨h1, h2, h3, h4⟩ := h
  refine ⟨h1, h2, fun i hi => ⟨?_, (h3 i hi).2⟩, h4⟩
  obtain ⟨D, d1, d2, d3⟩ := (h3 i hi).1
  exact ⟨D, d1, d2, fun s hs hJ => d3 s hs (e i s hi hJ)⟩
theorem mays_more {gm k n : Nat} {mb : Nat → Nat} {I : Nat → ByteArray → Prop} {w : World} {F : Nat → Prop} (h : mays gm k n mb I w F) : mays gm k (n + 1) mb I w F := by
  obtain ⟨h1, h2, h3, h4⟩ := h
  exact ⟨h1, h2, fun i hi => ⟨(h3 i hi).1.mono (Nat.le_succ n), (h3 i hi).2⟩, h4⟩
theorem Old.cut {W : World} {a : Option Addr} {m c : Nat} {k : Nat → Bool} (h : BoolsAt W (.slice a m c) m k) (j : Nat) (hj : j ≤ m) : Old W.heap.size (.slice a j c) := by
  obtain ⟨⟨a', cap, e, h1⟩, h2⟩ := h
  cases e
  intro x n c' e e0
  cases e
  rcases h1 with h1 | ⟨b, o, e, hl, hc⟩
  · omega
  · cases e; exact hl
/-- Behind a crash a cell has what it had, or was written with. -/
theorem crash_in {I : Nat → ByteArray → Prop} {l : Nat → ByteArray} {q : List Wr} (k : Nat → Bool) (hq : ∀ p ∈ q, I p.1 p.2) (i : Nat) (hl : I i (l i)) : I i (app l (keep k 0 q) i) := by
  rcases app_or (keep k 0 q) i l with h | ⟨p, hp, h1, h2⟩
  · rw [h]; exact hl
  · rw [h2, ← h1]; exact hq p (keep_mem k q 0 p hp)
end Go.Proofs.Ytmgllcmfnljfjaa
