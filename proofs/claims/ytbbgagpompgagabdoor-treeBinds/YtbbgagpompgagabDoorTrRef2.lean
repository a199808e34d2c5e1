/- Trees: the document's own digest and Build. -/
import Derived.Test.YtbbgagpompgagabDoorTrRef1
namespace Go.Proofs.YtbbgagpompgagabDoor
open Go.RowKit Go.PlainAid Go.Shelf
set_option linter.unusedVariables false

theorem kind1 (s : ByteArray) : digest (strOfNums [(1 : Int)] ++ s) = nH s := rfl
theorem nt_size (D : Nat → ByteArray) (n : Nat) (hD : ∀ j, j < n → (D j).size = 32) (f i : Nat) (h1 : 1 ≤ i) (hi : i < 2 * n) (hf : n ≤ i * 2 ^ f) : (nt D n f i).size = 32 := by
  cases f with
  | zero => rw [Nat.pow_zero, Nat.mul_one] at hf; exact hD _ (by omega)
  | succ f =>
    simp only [nt]
    split
    · exact hD _ (by omega)
    · exact nH_size _
/-- The pairs written by then. -/
def rM (n : Nat) (D : Nat → ByteArray) (k i : Nat) : ByteArray := if 1 ≤ i ∧ i < k then pr D n i else noB
theorem rM_succ (n : Nat) (D : Nat → ByteArray) (k i : Nat) (hk : 1 ≤ k) : upd (rM n D k) (k, pr D n k) i = rM n D (k + 1) i := by
  unfold upd rM
  dsimp only
  by_cases h : i = k
  · rw [if_pos h, if_pos (by omega), h]
  · rw [if_neg h]
    by_cases h2 : 1 ≤ i ∧ i < k
    · rw [if_pos h2, if_pos (by omega)]
    · rw [if_neg h2, if_neg (by omega)]
theorem depI_tree (n : Nat) : depI (n : Int) ≠ 0 ↔ isTree n := by
  constructor
  · intro h
    refine Classical.byContradiction fun h' => h (depI_no _ ?_)
    unfold isTree at h'
    omega
  · intro h
    obtain ⟨d, h1, h2, rfl⟩ := isTree_pow h
    rw [depI_pow d h1 h2]
    omega

end Go.Proofs.YtbbgagpompgagabDoor
