/- The product of two matrices: the program's own answer. -/
import Derived.Test.YtdpcbiccbhlonaaMatMake
import Derived.Deep.RegionHeld3
namespace Go.Proofs.Ytdpcbiccbhlonaa
open Go.RowKit
set_option linter.unusedVariables false

theorem MatIn.cell {w : World} {a : Option Addr} {n : Nat} {L : Nat → Nat} {X : Mx} {AR : Nat → Option Addr} {CR : Nat → Nat} (h : MatIn w a n L X AR CR) (r c : Nat) (hr : r < n) (hc : c < L r) :
    ∃ b o b' o', a = some ⟨b, o, none⟩ ∧ AR r = some ⟨b', o', none⟩ ∧ w.cell? ⟨b, o + r, none⟩ = some (.slice (some ⟨b', o', none⟩) (L r) (CR r)) ∧ w.cell? ⟨b', o' + c, none⟩ = some (.int .u8 ((X r c).v : Int)) := by
  obtain ⟨h1, h2⟩ := h
  rcases h1 with h0 | ⟨b, o, rfl, h1⟩
  · omega
  · rcases (h2 r hr).2 with h0 | ⟨b', o', e, h3⟩
    · omega
    · refine ⟨b, o, b', o', rfl, e, ?_, h3 c hc⟩
      have := h1 r hr
      simp only [e] at this
      exact this

theorem good_yes {n : Nat} {L : Nat → Nat} (h : Gd n L) : (true = true ↔ Gd n L) := ⟨fun _ => h, fun _ => rfl⟩
theorem good_no {n : Nat} {L : Nat → Nat} (h : ¬ Gd n L) : (false = true ↔ Gd n L) := by simp [h]

end Go.Proofs.Ytdpcbiccbhlonaa
