/- Rows that came in, read. -/
import Derived.Test.YtdpcbiccbhlonabMatAt
import Derived.Deep.Matrix
namespace Go.Proofs.Ytdpcbiccbhlonab
open Go.ChangeShapes Go.WideShapes Go.RowKit
set_option linter.unusedVariables false

theorem Try.cells28 : Try.prog.cellsOf 28 = 1 := by kernel_rfl
theorem Try.cells5 : Try.prog.cellsOf 5 = 1 := by kernel_rfl
/-- What is told of rows that came in. -/
def RawArg (W : World) (a : Option Addr) (len cap : Nat) : Prop :=
  ∃ L X AR CR, len ≤ maxLen ∧ MatIn W a len L X AR CR ∧ ∀ r, r < len → L r ≤ CR r ∧ CR r ≤ maxLen ∧ (AR r = none → CR r = 0)
end Go.Proofs.Ytdpcbiccbhlonab
