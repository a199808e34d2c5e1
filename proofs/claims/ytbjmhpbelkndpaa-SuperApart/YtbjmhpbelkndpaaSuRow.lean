/- A row of its own: what lies there, and one cell laid over. -/
import Derived.Test.YtbjmhpbelkndpaaSuRec0
namespace Go.Proofs.Ytbjmhpbelkndpaa
open Go.RowKit Go.PlainAid
set_option linter.unusedVariables false

section
variable {B : Nat} {w0 w : World} {T : TypeId} {K : Nat} {a : Option Addr} {n c : Nat} {xs : List Value} {X : Asn}
theorem rowK_addr (h : Hold B w0 w (star (rowK T K (.slice a n c) n xs) X)) (hn : 0 < n) : ∃ g, a = some ⟨g, 0, none⟩ := by
  rcases h.rowK.2 with ⟨h1, h2⟩ | ⟨g, cap, cur, h1, _⟩
  · omega
  · cases h1; exact ⟨g, rfl⟩
theorem rowK_at {g : Nat} (h : Hold B w0 w (star (rowK T K (.slice (some ⟨g, 0, none⟩) n c) n xs) X)) {i : Nat} {u : Value} (hu : xs[i]? = some u) : w.cell? ⟨g, i, none⟩ = some u ∧ w.frozen? ⟨g, i, none⟩ = false := by
  have hl := h.rowK.1
  rcases h.rowK.2 with ⟨h1, h2⟩ | ⟨g', cap, cur, h1, _, h3, _, _, _, h4⟩
  · cases h1
  · cases h1
    have hi : i < n * K := by
      rcases Nat.lt_or_ge i (n * K) with h | h
      · exact h
      · rw [List.getElem?_eq_none (by omega)] at hu; cases hu
    have hb : Blk w g T cur.toList := h3
    refine ⟨hb.cell ?_, hb.frozen i⟩
    rw [← h4, List.getElem?_take, if_pos hi] at hu; exact hu
theorem rowK_set {g : Nat} (hX : Firm X) (h : Hold B w0 w (star (rowK T K (.slice (some ⟨g, 0, none⟩) n c) n xs) X)) (i : Nat) (hi : i < n * K) (v : Value) : Hold B w0 (w.setCell ⟨g, i, none⟩ v) (star (rowK T K (.slice (some ⟨g, 0, none⟩) n c) n (xs.set i v)) X) := by
  have hl := h.rowK.1
  rcases h.rowK.2 with ⟨h1, h2⟩ | ⟨g', cap, cur, h1, hb0, h3, h5, h6, h7, h4⟩
  · cases h1
  · cases h1
    have hk : Hold B w0 w (star (blkA g T cur.toList) X) := h.monoL fun F hF => ⟨h3, fun k => by rw [hF.2 k]; exact ⟨fun e => (Option.some.inj e).symm, fun e => by rw [e]; rfl⟩⟩
    have hs := hk.setBlk hX i v
    have hb : Blk _ g T (cur.toList.set i v) := hs.blk
    refine hs.monoL fun F hF => ⟨⟨by rw [List.length_set]; exact hl, .inr ⟨g, c, (cur.toList.set i v).toArray, rfl, hb0, hb, h5, h6, ?_, ?_⟩⟩, fun k => by rw [hF.2 k]; exact ⟨fun e => by rw [e]; rfl, fun e => (Option.some.inj e).symm⟩⟩
    · simpa using h7
    · rw [← h4, List.take_set]
end
end Go.Proofs.Ytbjmhpbelkndpaa
