/- Plain: one column settled by steps on rows. -/
import Derived.Test.YthcbnffhkbbkpaaMat
namespace Go.Proofs.Ythcbnffhkbbkpaa

/-- The rows before k, less their element in column c times row c. -/
def settleK (c : Nat) (X : Mx) (k : Nat) : Mx := fun r j => if r < k ∧ r ≠ c then X r j + X r c * X c j else X r j
theorem settleK_zero (c : Nat) (X : Mx) : settleK c X 0 = X := by funext r j; simp [settleK]
theorem settle_reach {n m c : Nat} {X : Mx} (hc : c < n) : ∀ k, k ≤ n → Reach n m X (settleK c X k) := by
  intro k
  induction k with
  | zero => intro _; rw [settleK_zero]; exact .refl
  | succ k ih =>
    intro hk
    by_cases e : k = c
    · refine (ih (by omega)).same fun r _ j _ => ?_
      simp only [settleK]
      by_cases h : r < k ∧ r ≠ c
      · rw [if_pos h, if_pos ⟨by omega, h.2⟩]
      · rw [if_neg h, if_neg (by omega)]
    · refine ((ih (by omega)).add c k (X k c) hc (by omega) (Ne.symm e)).same fun r _ j _ => ?_
      simp only [settleK, addR]
      by_cases h : r = k
      · subst h
        rw [if_pos ⟨by omega, e⟩, if_pos rfl, if_neg (by omega), if_neg (by omega)]
      · rw [if_neg h]
        by_cases h' : r < k ∧ r ≠ c
        · rw [if_pos h', if_pos ⟨by omega, h'.2⟩]
        · rw [if_neg h', if_neg (by omega)]
def pivotM (c p : Nat) (X : Mx) : Mx := scaleR c (X p c).inv (swapR c p X)
theorem gauss_step {n m c p : Nat} {X : Mx} (hc : c < n) (hcp : c ≤ p) (hp : p < n) (hne : X p c ≠ 0) (hcols : ∀ r, r < n → ∀ j, j < c → X r j = idM r j) :
    Reach n m X (settleK c (pivotM c p X) n) ∧ ∀ r, r < n → ∀ j, j < c + 1 → settleK c (pivotM c p X) n r j = idM r j := by
  have h1 : Reach n m X (pivotM c p X) := (Reach.refl.swap c p hc hp).scale c _ hc (E.inv_ne _ hne)
  refine ⟨h1.trans (settle_reach hc n (Nat.le_refl _)), fun r hr j hj => ?_⟩
  have z1 : ∀ q, c ≤ q → q < n → ∀ j, j < c → X q j = 0 := fun q h1 h2 j hj => by
    rw [hcols q h2 j hj]
    simp [idM]
    omega
  have pc : pivotM c p X c c = 1 := by
    simp only [pivotM, scaleR, swapR, if_true]
    rw [E.mul_comm, E.mul_inv _ hne]
  have pz : ∀ j, j < c → pivotM c p X c j = 0 := fun j hj => by
    simp only [pivotM, scaleR, swapR, if_true]
    rw [z1 p hcp hp j hj, E.mul_zero]
  have pr : ∀ r, r < n → r ≠ c → ∀ j, j < c → pivotM c p X r j = idM r j := fun r hr hrc j hj => by
    simp only [pivotM, scaleR, swapR, if_neg hrc]
    by_cases e : r = p
    · subst e
      rw [if_pos rfl, z1 c (Nat.le_refl _) hc j hj]
      simp [idM]
      omega
    · rw [if_neg e, hcols r hr j hj]
  simp only [settleK]
  by_cases e : r = c
  · subst e
    rw [if_neg (by omega)]
    by_cases h : j = r
    · subst h; rw [pc]; simp [idM]
    · rw [pz j (by omega)]
      simp [idM, Ne.symm h]
  · rw [if_pos ⟨hr, e⟩]
    by_cases h : j = c
    · subst h
      rw [pc, E.mul_one, E.add_self]
      simp [idM, e]
    · rw [pz j (by omega), E.mul_zero, E.add_zero, pr r hr e j (by omega)]
end Go.Proofs.Ythcbnffhkbbkpaa
