/- One column settled: the program's own steps. -/
import Derived.Test.YtdpcbiccbhlonabMatText
import Derived.Test.YtdpcbiccbhlonabMatGauss
import Derived.BigRegion
namespace Go.Proofs.Ytdpcbiccbhlonab
open Go.RowKit Go.PlainAid
set_option linter.unusedVariables false

/-- A matrix of the call's own, its rows in whatever order. -/
structure OwnW (w : World) (base g n m : Nat) (G : Nat → Nat) (X : Mx) : Prop where
  top : w.ownsRow base 28 1 (.slice (some ⟨g, 0, none⟩) n n) n ((List.range n).map (rowV m G))
  rows : ∀ r, r < n → w.ownsRow base 5 1 (.slice (some ⟨G r, 0, none⟩) m m) m (bytesL m (X r))
  inj : ∀ i j, i < n → j < n → G i = G j → i = j
theorem OwnM.wide {w : World} {base g n m : Nat} {G : Nat → Nat} {X : Mx} (h : OwnM w base g n m n G X) : OwnW w base g n m G X :=
  ⟨by have := h.top; rwa [filled_full] at this, fun r hr => (h.rows r hr).2, fun i j hi hj e => by
    rcases Nat.lt_trichotomy i j with h1 | h1 | h1
    · have := h.up i j h1 hj; omega
    · exact h1
    · have := h.up j i h1 hi; omega⟩
theorem OwnW.below {w w' : World} {base g n m : Nat} {G : Nat → Nat} {X : Mx} (h : OwnW w base g n m G X) (hb : Below w.heap.size w w') : OwnW w' base g n m G X :=
  ⟨owns_below h.top hb, fun r hr => owns_below (h.rows r hr) hb, h.inj⟩
theorem OwnW.cellTop {w : World} {base g n m : Nat} {G : Nat → Nat} {X : Mx} (h : OwnW w base g n m G X) (r : Nat) (hr : r < n) : w.cell? ⟨g, r, none⟩ = some (.slice (some ⟨G r, 0, none⟩) m m) := by
  rw [h.top.cellAt r (by omega)]
  simp [hr, rowV]
theorem OwnW.cell {w : World} {base g n m : Nat} {G : Nat → Nat} {X : Mx} (h : OwnW w base g n m G X) (r c : Nat) (hr : r < n) (hc : c < m) : w.cell? ⟨G r, c, none⟩ = some (.int .u8 ((X r c).v : Int)) := by
  rw [(h.rows r hr).cellAt c (by omega), bytesL_at m _ c hc]
  rfl
/-- A row laid anew. -/
theorem OwnW.laid {w : World} {base g n m : Nat} {G : Nat → Nat} {X : Mx} (h : OwnW w base g n m G X) (k : Nat) (hk : k < n) (f : Nat → E) :
    OwnW (w.setRow (G k) (bytesL m f).toArray) base g n m G (fun r => if r = k then f else X r) := by
  have hg := grown_setRow w (G k) (bytesL m f).toArray
  refine ⟨h.top.kept hg ?_, fun r hr => ?_, h.inj⟩
  · have := owns_apart (h.rows k hk) h.top (by decide)
    exact this
  · by_cases e : r = k
    · subst e
      simp only [if_true]
      exact owns_setRow (h.rows r hr)
    · simp only [if_neg e]
      refine (h.rows r hr).kept hg (.inr fun hh => e (h.inj r k hr hk (Option.some.inj hh)))

def sw (c p r : Nat) : Nat := if r = c then p else if r = p then c else r
theorem sw_lt {c p r n : Nat} (hc : c < n) (hp : p < n) (hr : r < n) : sw c p r < n := by unfold sw; split <;> (try split) <;> omega
theorem sw_inj (c p i j : Nat) (h : sw c p i = sw c p j) : i = j := by
  unfold sw at h
  repeat' split at h
  all_goals omega
/-- Two rows exchanged. -/
theorem OwnW.swapped {w : World} {base g n m : Nat} {G : Nat → Nat} {X : Mx} (h : OwnW w base g n m G X) (c p : Nat) (hc : c < n) (hp : p < n) :
    OwnW ((w.setCell ⟨g, c, none⟩ (.slice (some ⟨G p, 0, none⟩) m m)).setCell ⟨g, p, none⟩ (.slice (some ⟨G c, 0, none⟩) m m)) base g n m (fun r => G (sw c p r)) (fun r => X (sw c p r)) := by
  have ne : ∀ r, r < n → (Value.slice (some ⟨G r, 0, none⟩) m m).ownBlock ≠ some g := fun r hr => by
    rcases owns_apart h.top (h.rows r hr) (by decide) with h0 | h0
    · cases h0
    · exact h0
  refine ⟨?_, fun r hr => ?_, fun i j hi hj e => ?_⟩
  · have h1 := (h.top.stored c (.slice (some ⟨G p, 0, none⟩) m m)).1
    have h2 := (h1.stored p (.slice (some ⟨G c, 0, none⟩) m m)).1
    have e : (((List.range n).map (rowV m G)).set c (.slice (some ⟨G p, 0, none⟩) m m)).set p (.slice (some ⟨G c, 0, none⟩) m m) = (List.range n).map (rowV m fun r => G (sw c p r)) := by
      apply List.ext_getElem
      · simp
      · intro i h3 h4
        rw [List.getElem_set, List.getElem_set]
        simp only [List.getElem_map, List.getElem_range, rowV, sw]
        by_cases e1 : p = i
        · subst e1
          by_cases e2 : p = c
          · subst e2; simp
          · simp [e2]
        · by_cases e2 : c = i
          · subst e2; simp [e1]
          · simp [e1, e2, Ne.symm e1, Ne.symm e2]
    rw [e] at h2
    exact h2
  · have hr' := sw_lt hc hp hr
    exact ownsRow_setCell_other (ownsRow_setCell_other (h.rows _ hr') (ne _ hr') _) (ne _ hr') _
  · exact sw_inj c p i j (h.inj _ _ (sw_lt hc hp hi) (sw_lt hc hp hj) e)
theorem OwnW.congr {w : World} {base g n m : Nat} {G : Nat → Nat} {X Y : Mx} (h : OwnW w base g n m G X) (e : ∀ r, r < n → ∀ j, j < m → Y r j = X r j) : OwnW w base g n m G Y :=
  ⟨h.top, fun r hr => by
    have : bytesL m (Y r) = bytesL m (X r) := List.map_congr_left fun j hj => by rw [e r hr j (List.mem_range.1 hj)]
    rw [this]; exact h.rows r hr, h.inj⟩
theorem OwnW.ne_top {w : World} {base g n m : Nat} {G : Nat → Nat} {X : Mx} (h : OwnW w base g n m G X) (r : Nat) (hr : r < n) : G r ≠ g := fun e => by
  rcases owns_apart h.top (h.rows r hr) (by decide) with h0 | h0
  · cases h0
  · exact h0 (by rw [e]; rfl)

end Go.Proofs.Ytdpcbiccbhlonab
