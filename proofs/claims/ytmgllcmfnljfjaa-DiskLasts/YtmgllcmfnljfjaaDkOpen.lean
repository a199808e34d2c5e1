/- A struct that came in. -/
import Derived.Test.YtmgllcmfnljfjaaDkArg
import Derived.OpenShut
import Derived.ShutString
import Derived.ChangeOld
import Derived.ChangeArms
import Derived.ProofKit
namespace Go.Proofs.Ytmgllcmfnljfjaa
open Go.ChangeShapes Go.WideShapes Go.ChangeAt Go.RowKit Go.PlainAid
theorem dk_struct {W : World} {b0 : Nat} {t : TypeId} {fs : Array Field} {v : Value} (hu : Try.prog.underlying t = some (.struct fs)) (h : Value.okWide Try.prog W .any b0 t v) : ∃ xs : List Value, v = .agg xs.toArray := by
  simp only [Value.okWide, hu] at h
  obtain ⟨cs, h1, _⟩ := h
  exact ⟨cs.toList, by rw [h1]⟩
end Go.Proofs.Ytmgllcmfnljfjaa
