/- Contracts of products and sums with the answer named. -/
import Derived.Test.YthcbnffhkbbkpaaGfWakes
import Derived.Below
namespace Go.Proofs.Ythcbnffhkbbkpaa
open Go.RowKit
set_option linter.unusedVariables false

theorem gfMul_to (A B R : Nat) (ha : A < 256) (hb : B < 256) (h : gm A B = R) (w : World) :
    Calls Try.prog 23 #[.int .u8 (A : Int), .int .u8 (B : Int)] w fun e w' => e = .returned (.int .u8 (R : Int)) ∧ w' = w := by
  rw [← h]; exact gfMul_any A B ha hb w
theorem gfAdd_to (A B R : Nat) (ha : A < 256) (hb : B < 256) (h : A ^^^ B = R) (w : World) :
    Calls Try.prog 24 #[.int .u8 (A : Int), .int .u8 (B : Int)] w fun e w' => e = .returned (.int .u8 (R : Int)) ∧ w' = w := by
  rw [← h]; exact gfAdd_any A B ha hb w
theorem byte_of {a : Int} (h : (Lit.int .u8 a).wf = true) : ∃ A : Nat, a = (A : Int) ∧ A < 256 := by
  have h' := bounds_u8 h
  exact ⟨a.toNat, by omega, by omega⟩

end Go.Proofs.Ythcbnffhkbbkpaa
