import Derived.Test.YtokknmkleceooaaGreatDoorSlBegin0
namespace Go.Proofs.YtokknmkleceooaaGreatDoor
open Go.RowKit Go.PlainAid
set_option linter.unusedVariables false
set_option maxRecDepth 20000
theorem newN140 : newN 140 = 140 := by decide
theorem good_yes {w : World} {g N : Nat} {b : Bs} (h : Bk w g N b.D b.s b.p) {i d n : Nat} (hi : i < N) (hn : 2 ^ d = n) (hd : 1 ≤ d ∧ d ≤ 4) {key : ByteArray} (hk : key.size = 32) : GoodIs w (slV (.pointer (some ⟨g, 0, none⟩)) (i : Int) (n : Int) key) true := by
  have h1 := good_bank h (i : Int) (n : Int) key
  rwa [decide_eq_true (show shpS (n : Int) key ∧ ¬ Out N (i : Int) from ⟨⟨by have := pow_isTree hd.1 hd.2; rw [hn] at this; unfold isTree at this; omega, hk⟩, out_not N i hi⟩)] at h1
end Go.Proofs.YtokknmkleceooaaGreatDoor
