/- Texts that came in, and what is left of them. -/
import Derived.Test.YtmgllcmfnljfjaaDkPlays
namespace Go.Proofs.Ytmgllcmfnljfjaa
open Go.RowKit Go.PlainAid
set_option linter.unusedVariables false

theorem Plays.more {B : Nat} {w0 w : World} {gd gr gi n N : Nat} {dead : Bool} (h : Plays B w0 w gd gr gi n N dead) : Plays B w0 w gd gr gi n (N + 1) dead := by
  obtain ⟨l, q, l', v, m, f, h1, h2, h3, h4⟩ := h
  exact ⟨l, q, l', v, m, f, h1, h2, by omega, h4⟩
end Go.Proofs.Ytmgllcmfnljfjaa
