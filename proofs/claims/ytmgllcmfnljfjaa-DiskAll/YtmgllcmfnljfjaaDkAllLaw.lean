/- The law DiskAll. -/
import Derived.Test.YtmgllcmfnljfjaaDkAllA
import Derived.Test.YtmgllcmfnljfjaaDkAllB
import Derived.Test.YtmgllcmfnljfjaaDkAllC
import Derived.Test.YtmgllcmfnljfjaaDkAllD
namespace Go.Proofs.Ytmgllcmfnljfjaa
open Go.RowKit Go.PlainAid
theorem diskAll_law (s1 : Option Addr) (len1 cap1 : Nat) (s2 : Option Addr) (len2 cap2 : Nat) (W : World) (hs1 : ActsArg W s1 len1 cap1) (hs2 : ActsArg W s2 len2 cap2) : Calls Try.prog 7 #[.slice s1 len1 cap1, .slice s2 len2 cap2] W fun e w' => e = .returned (.bool true) ∧ Below W.heap.size W w' := by
  by_cases h1 : 30 < len1
  · by_cases h2 : 30 < len2
    · exact diskAll_a s1 len1 cap1 s2 len2 cap2 W hs1 hs2 h1 h2
    · exact diskAll_b s1 len1 cap1 s2 len2 cap2 W hs1 hs2 h1 (by omega)
  · by_cases h2 : 30 < len2
    · exact diskAll_c s1 len1 cap1 s2 len2 cap2 W hs1 hs2 (by omega) h2
    · exact diskAll_d s1 len1 cap1 s2 len2 cap2 W hs1 hs2 (by omega) (by omega)
end Go.Proofs.Ytmgllcmfnljfjaa
