/- The parity chunks of every data chunks: the law's walk. -/
import Derived.Test.YtdpcbiccbhlonabRsCut
import Derived.Test.YtdpcbiccbhlonabRsChk
namespace Go.Proofs.Ytdpcbiccbhlonab
open Go.RowKit Go.PlainAid
set_option linter.unusedVariables false

theorem CutTo.txt {w : World} {base : Nat} {v : Value} {k N : Nat} {ev : Bool} {f : Nat → ByteArray} (h : CutTo w base v k N ev f) (hN : N ≤ 1000) : ∃ a c, v = .slice a k c ∧ k ≤ c ∧ c ≤ 9223372036854775807 ∧ TxtAt w a k (fun i => (f i).size) (fun i => teE (f i)) :=
  txt_of_strs h.1 (fun i hi => by have := h.2.1 i hi; omega)

end Go.Proofs.Ytdpcbiccbhlonab
