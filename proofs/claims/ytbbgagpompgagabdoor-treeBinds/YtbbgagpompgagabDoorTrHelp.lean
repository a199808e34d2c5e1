/- What the laws of layer 12 share: paths whatever they are, rows of texts compared, digests made, the pairs over a leaf. -/
import Derived.Test.YtbbgagpompgagabDoorTrRef4
namespace Go.Proofs.YtbbgagpompgagabDoor
open Go.RowKit Go.PlainAid Go.Shelf
set_option linter.unusedVariables false

def hE (n s : Int) : Int := if hasB n s then 0 else 2
def hN (n s : Int) : Nat := if hasB n s then (depI n).toNat else 0
theorem has_okS {n s : Int} (h : hasB n s = true) : ∃ d k : Nat, n = ((2 ^ d : Nat) : Int) ∧ s = (k : Int) ∧ okS d (k : Int) ∧ depI n = (d : Int) := by
  unfold hasB at h
  obtain ⟨h1, h2, h3⟩ := of_decide_eq_true h
  obtain ⟨d, d1, d2, rfl⟩ := depI_yes n h1
  obtain ⟨k, rfl⟩ := Int.eq_ofNat_of_zero_le h2
  exact ⟨d, k, rfl, rfl, ⟨d1, d2, h2, h3⟩, depI_pow d d1 d2⟩
theorem path_any (n s : Int) (w : World) : Calls Tryd.prog 10 #[.int .i64 n, .int .i64 s] w fun e w' => ∃ v, e = .returned (.tuple #[v, .int .i64 (hE n s)]) ∧ w'.ownsRow w.heap.size 3 1 v (hN n s) (nr .i64 (hN n s) (nd (hN n s) s.toNat)) ∧ Below w.heap.size w w' := by
  unfold hE hN
  by_cases h : hasB n s = true
  · rw [if_pos h, if_pos h]
    obtain ⟨d, k, rfl, rfl, ho, hd⟩ := has_okS h
    rw [hd, Int.toNat_natCast, Int.toNat_natCast]
    exact path_ok d (2 ^ d) k rfl ho w
  · rw [if_neg h, if_neg h]
    refine (path_bad n s (by simpa using h) w).mono ?_
    rintro e w' ⟨rfl, rfl⟩
    exact ⟨_, rfl, World.ownsRow_nil _ _ _ _, Below.refl _ _⟩
theorem hN_le (n s : Int) : hN n s ≤ 4 := by
  unfold hN
  split
  · rename_i h
    obtain ⟨d, k, rfl, rfl, ho, hd⟩ := has_okS h
    rw [hd, Int.toNat_natCast]; exact ho.2.1
  · omega

/-- The depth of the trees that a law makes. -/
def depL (x : Int) : Nat := 1 + ((if 0 < x then x else 0) % 4).toNat
theorem depL_ok (x : Int) : 1 ≤ depL x ∧ depL x ≤ 4 := by
  unfold depL
  have : (if 0 < x then x else 0) % 4 < 4 := Int.emod_lt_of_pos _ (by decide)
  omega
end Go.Proofs.YtbbgagpompgagabDoor
