/- The law SuperBack, walked. -/
import Derived.Test.YtbjmhpbelkndpaaSuBack1
import Derived.Test.YtbjmhpbelkndpaaSuBack2
import Derived.Test.YtbjmhpbelkndpaaSuSame
namespace Go.Proofs.Ytbjmhpbelkndpaa
open Go.RowKit Go.PlainAid
set_option linter.unusedVariables false

theorem superBack_law (x : Raw) (A : Nat → Int) (D : Nat → Dsk) (cut : Int) (W : World) (hx : x.At A D W) (hf : (x.toR A D).Fine) (hcut : -9223372036854775808 ≤ cut ∧ cut ≤ 9223372036854775807) : Calls Try.prog 4 #[.agg x.row.toArray, .int .i64 cut] W fun e w' => e = .returned (.bool true) ∧ Below W.heap.size W w' := by
  cases h : gd (x.toR A D)
  · exact superBack_bad x A D cut W hx hf h
  · refine superBack_good x A D cut W hx hf hcut h fun z ga ha sa mb gc hc sc md h1 h2 => ?_
    have hsame := (back_facts hf h).2.2.2.2.2.2
    have hw := wid_le ((gd_iff _).1 h)
    have := same_any (by rw [hsame.ns]; omega) (by rw [hsame.nm]; omega) h1 h2 (sc := gc) (mc := hc) (sd := sc) (md := md)
    rwa [sameQ_yes hsame] at this
end Go.Proofs.Ytbjmhpbelkndpaa
