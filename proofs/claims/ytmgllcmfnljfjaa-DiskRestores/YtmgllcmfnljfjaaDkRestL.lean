/- Texts that came in, and what is left of them. -/
import Derived.Test.YtmgllcmfnljfjaaDkPlays
namespace Go.Proofs.Ytmgllcmfnljfjaa
open Go.RowKit Go.PlainAid
set_option linter.unusedVariables false

theorem Plays.more {B : Nat} {w0 w : World} {gd gr gi n N : Nat} {dead : Bool} (h : Plays B w0 w gd gr gi n N dead) : Plays B w0 w gd gr gi n (N + 1) dead := by
  obtain ⟨l, q, l', v, m, f, h1, h2, h3, h4⟩ := h
  exact ⟨l, q, l', v, m, f, h1, h2, by omega, h4⟩
theorem TextsAt.cut {w : World} {a : Option Addr} {m c : Nat} {f : Nat → ByteArray} (h : TextsAt w (.slice a m c) m f) (j : Nat) (hj : j ≤ m) : TextsAt w (.slice a j c) j f := by
  obtain ⟨a', cap, e, h0, h1⟩ := h
  cases e
  refine ⟨a, c, rfl, by omega, ?_⟩
  rcases h1 with h1 | ⟨b, o, rfl, hl, hc⟩
  · exact .inl (by omega)
  · exact .inr ⟨b, o, rfl, hl, fun i hi => hc i (by omega)⟩
theorem TextsAt.old {w0 w : World} {v : Value} {m : Nat} {f : Nat → ByteArray} (h : TextsAt w0 v m f) (B : Nat) (ho : Apartv B w0.heap.size v) (hb : Below B w0 w) (hB : B ≤ w.heap.size) : TextsAt w v m f := by
  obtain ⟨a, cap, rfl, h0, h1⟩ := h
  refine ⟨a, cap, rfl, h0, ?_⟩
  rcases h1 with h1 | ⟨b, o, rfl, hl, hc⟩
  · exact .inl h1
  · by_cases h0 : m = 0
    · exact .inl h0
    · have hlt : b < B := (ho ⟨b, o, none⟩ m cap rfl h0).resolve_right (by show ¬ w0.heap.size ≤ b; omega)
      exact .inr ⟨b, o, rfl, by omega, fun i hi => (hb.cell (p := ⟨b, o + i, none⟩) hlt).trans (hc i hi)⟩
theorem TextsAt.cellOf {W w : World} {a : Option Addr} {m c : Nat} {f : Nat → ByteArray} (h : TextsAt W (.slice a m c) m f) (ho : Apartv W.heap.size W.heap.size (.slice a m c)) (hb : Below W.heap.size W w) (i : Nat) (hi : i < m) : ∃ b o, a = some ⟨b, o, none⟩ ∧ ∀ z, Below W.heap.size W z → z.cell? ⟨b, o + i, none⟩ = some (.string (f i)) := by
  obtain ⟨a', cap, e, h0, h1⟩ := h
  cases e
  rcases h1 with h1 | ⟨b, o, rfl, hl, hc⟩
  · omega
  · exact ⟨b, o, rfl, fun z hz => (hz.cell (p := ⟨b, o + i, none⟩) hl).trans (hc i hi)⟩
theorem bools_none (w : World) : BoolsAt w (.slice none 0 0) 0 (fun _ => false) := ⟨⟨none, 0, rfl, .inl rfl⟩, fun _ _ => rfl⟩
/-- Texts that came in lie ahead of all that the call makes. -/
theorem texts_apart {W : World} {a : Option Addr} {m c : Nat} {f : Nat → ByteArray} (h : TextsAt W (.slice a m c) m f) (j : Nat) (hj : j ≤ m) (N : Nat) : Apartv W.heap.size N (.slice a j c) := by
  obtain ⟨a', cap, e, h0, h1⟩ := h
  cases e
  intro x n c' e e0
  cases e
  rcases h1 with h1 | ⟨b, o, e, hl, hc⟩
  · omega
  · cases e; exact .inl hl
end Go.Proofs.Ytmgllcmfnljfjaa
