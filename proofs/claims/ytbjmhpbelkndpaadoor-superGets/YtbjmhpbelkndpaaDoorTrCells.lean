/- What a function answers whose two results lie in blocks. -/
import Derived.Test.YtbjmhpbelkndpaaDoorBrow
namespace Go.Proofs.YtbjmhpbelkndpaaDoor
open Go.RowKit Go.PlainAid
set_option linter.unusedVariables false
theorem results_two {P : Program} {fn : Func} {tmps : Array Value} {w : World} {v u : Value} (s1 s2 : Nat) (t1 t2 : TypeId) (a b : Addr) (h : fn.results = #[.cell s1 t1, .cell s2 t2]) (h1 : tmps.getD s1 undef = .pointer (some a)) (h2 : tmps.getD s2 undef = .pointer (some b))
    (l1 : (loadVar t1 a).run P w = .ok v w) (l2 : (loadVar t2 b).run P w = .ok u w) : (results fn tmps).run P w = .ok (.tuple #[v, u]) w := by
  have e1 : (asAddr (tmps.getD s1 undef)).run P w = .ok a w := by rw [h1]; rfl
  have e2 : (asAddr (tmps.getD s2 undef)).run P w = .ok b w := by rw [h2]; rfl
  unfold results
  rw [h]
  simp [e1, e2, l1, l2, -Array.getD_eq_getD_getElem?]
end Go.Proofs.YtbjmhpbelkndpaaDoor
