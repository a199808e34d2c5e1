/- What the document's own powers, inverses and logarithms of elements answer. -/
import Derived.Test.YtdpcbiccbhlonabGfRef
import Derived.Test.YtdpcbiccbhlonabGfPow
namespace Go.Proofs.Ytdpcbiccbhlonab
open Go.RowKit
set_option linter.unusedVariables false

theorem tmod255 (n : Int) : ∃ K : Nat, n % 255 = (K : Int) ∧ K < 255 ∧ (n.tmod 255 = (K : Int) ∨ n.tmod 255 = (K : Int) - 255 ∧ 0 < K) := by
  refine ⟨(n % 255).toNat, by omega, by omega, ?_⟩
  have e := Int.tmod_eq_emod (a := n) (b := 255)
  have : (255 : Int).natAbs = 255 := rfl
  split at e <;> omega

/-- The document's inverse: 0 of 0. -/
def gi0 (a : Nat) : Nat := if a = 0 then 0 else gi a
end Go.Proofs.Ytdpcbiccbhlonab
