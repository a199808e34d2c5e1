/- The law DiskRestores. -/
import Derived.Test.YtmgllcmfnljfjaaDkRestA
import Derived.Test.YtmgllcmfnljfjaaDkRestB
namespace Go.Proofs.Ytmgllcmfnljfjaa
open Go.RowKit Go.PlainAid
theorem diskRestores_law (ia : Option Addr) (ilen icap : Nat) (s : Option Addr) (len cap : Nat) (W : World) (hi : TextsArg W ia ilen icap) (hs : ActsArg W s len cap) : Calls Try.prog 4 #[.slice ia ilen icap, .slice s len cap] W fun e w' => e = .returned (.bool true) ∧ Below W.heap.size W w' := by
  by_cases h1 : 40 < ilen
  · by_cases h2 : 30 < len
    · exact diskRestores_a ia ilen icap s len cap W hi hs h1 h2
    · exact diskRestores_b ia ilen icap s len cap W hi hs h1 (by omega)
  · by_cases h2 : 30 < len
    · exact diskRestores_c ia ilen icap s len cap W hi hs (by omega) h2
    · exact diskRestores_d ia ilen icap s len cap W hi hs (by omega) (by omega)
end Go.Proofs.Ytmgllcmfnljfjaa
