/- Is a record the document's? -/
import Derived.Test.YtbjmhpbelkndpaaDoorSuSame1
import Derived.Test.YtbjmhpbelkndpaaDoorSuSame2
import Derived.Test.YtbjmhpbelkndpaaDoorSuSame3
import Derived.Test.YtbjmhpbelkndpaaDoorSuSame4
namespace Go.Proofs.YtbjmhpbelkndpaaDoor
open Go.RowKit Go.PlainAid
set_option linter.unusedVariables false
set_option maxRecDepth 20000
section
variable {R S : Rec} {sa ma sb mb : Option Addr} {sc mc sd md : Nat} {w : World}
theorem same_any (hn : R.ns ≤ 100) (hm : R.nm ≤ 100) (hA : Lies w R sa ma) (hB : Lies w S sb mb) : Calls Tryd.prog 7 #[.agg (supV R sa ma sc mc).toArray, .agg (supV S sb mb sd md).toArray] w fun e w' => e = .returned (.bool (sameQ R S)) ∧ Below w.heap.size w w' := by
  by_cases q0 : R.count = S.count
  · skip
    by_cases q1 : R.epoch = S.epoch
    · skip
      by_cases q2 : R.data = S.data
      · skip
        by_cases q3 : R.slots = S.slots
        · skip
          by_cases q4 : R.mark = S.mark
          · skip
            by_cases q5 : R.built = S.built
            · skip
              by_cases q6 : R.grow = S.grow
              · skip
                by_cases q7 : R.ns = S.ns
                · skip
                  by_cases q8 : R.nm = S.nm
                  · skip
                    exact same_yes q0 q1 q2 q3 q4 q5 q6 q7 q8 hn hm hA hB
                  · exact same_no8 q0 q1 q2 q3 q4 q5 q6 q7 q8 hn hm hA hB
                · exact same_no7 q0 q1 q2 q3 q4 q5 q6 q7 hn hm hA hB
              · exact same_no6 q0 q1 q2 q3 q4 q5 q6 hn hm hA hB
            · exact same_no5 q0 q1 q2 q3 q4 q5 hn hm hA hB
          · exact same_no4 q0 q1 q2 q3 q4 hn hm hA hB
        · exact same_no3 q0 q1 q2 q3 hn hm hA hB
      · exact same_no2 q0 q1 q2 hn hm hA hB
    · exact same_no1 q0 q1 hn hm hA hB
  · exact same_no0 q0 hn hm hA hB
end
end Go.Proofs.YtbjmhpbelkndpaaDoor
