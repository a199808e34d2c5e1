/- The pairs over a leaf that has another digest: the program's own answer. -/
import Derived.Test.YtbbgagpompgagabDoorTrBack
namespace Go.Proofs.YtbbgagpompgagabDoor
open Go.RowKit Go.PlainAid Go.Shelf
set_option linter.unusedVariables false
attribute [local go_sem] Oper.semAt_some

/-- What Put tells: its error, how many pairs, the pairs, the top. -/
def uE (n : Nat) (s : Int) (p : Nat → ByteArray) (x : ByteArray) : Int := if okS n s then (if x.size = 32 ∧ ∀ i, i < n → (p i).size = 64 then 0 else 7) else 2
def uN (n : Nat) (s : Int) (p : Nat → ByteArray) (x : ByteArray) : Nat := if uE n s p x = 0 then n else 0
def uT (n : Nat) (s : Int) (p : Nat → ByteArray) (x : ByteArray) : ByteArray := if uE n s p x = 0 then cur n s.toNat p x n else noB
theorem uE_two {n : Nat} {s : Int} {p : Nat → ByteArray} {x : ByteArray} (h : ¬ okS n s) : uE n s p x = 2 := by unfold uE; rw [if_neg h]
theorem uE_seven {n : Nat} {s : Int} {p : Nat → ByteArray} {x : ByteArray} (h : okS n s) (h2 : ¬ (x.size = 32 ∧ ∀ i, i < n → (p i).size = 64)) : uE n s p x = 7 := by unfold uE; rw [if_pos h, if_neg h2]
theorem uE_zero {n : Nat} {s : Int} {p : Nat → ByteArray} {x : ByteArray} (h : okS n s) (h2 : x.size = 32 ∧ ∀ i, i < n → (p i).size = 64) : uE n s p x = 0 := by unfold uE; rw [if_pos h, if_pos h2]
theorem uN_not {n : Nat} {s : Int} {p : Nat → ByteArray} {x : ByteArray} {z : Int} (h : uE n s p x = z) (hz : z ≠ 0) : uN n s p x = 0 ∧ uT n s p x = noB := by unfold uN uT; rw [h, if_neg hz, if_neg hz]; exact ⟨rfl, rfl⟩
theorem uN_yes {n : Nat} {s : Int} {p : Nat → ByteArray} {x : ByteArray} (h : uE n s p x = 0) : uN n s p x = n ∧ uT n s p x = cur n s.toNat p x n := by unfold uN uT; rw [if_pos h, if_pos h]; exact ⟨rfl, rfl⟩

/-- The pairs changed by then. -/
def cN (n s : Nat) (p : Nat → ByteArray) (x : ByteArray) (j i : Nat) : ByteArray := if n ≤ i + j then neu n s p x i else noB
theorem cN_zero (n s : Nat) (p : Nat → ByteArray) (x : ByteArray) (i : Nat) (h : i < n) : cN n s p x 0 i = noB := by unfold cN; rw [if_neg (by omega)]
theorem cN_succ (n s : Nat) (p : Nat → ByteArray) (x : ByteArray) (j i : Nat) (h : j < n) : upd (cN n s p x j) (n - 1 - j, neu n s p x (n - 1 - j)) i = cN n s p x (j + 1) i := by
  unfold upd cN
  dsimp only
  by_cases e : i = n - 1 - j
  · rw [if_pos e, if_pos (by omega), e]
  · rw [if_neg e]
    by_cases h2 : n ≤ i + j
    · rw [if_pos h2, if_pos (by omega)]
    · rw [if_neg h2, if_neg (by omega)]
theorem cN_all (n s : Nat) (p : Nat → ByteArray) (x : ByteArray) (i : Nat) : cN n s p x n i = neu n s p x i := by unfold cN; rw [if_pos (by omega)]

end Go.Proofs.YtbbgagpompgagabDoor
