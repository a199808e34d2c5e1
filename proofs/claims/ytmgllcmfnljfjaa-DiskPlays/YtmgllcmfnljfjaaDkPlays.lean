/- Both disks at their beginning; and steps of a region that draws its order behind the one that it waits for. -/
import Derived.Test.YtmgllcmfnljfjaaDkAct
namespace Go.Proofs.Ytmgllcmfnljfjaa
open Go.RowKit Go.PlainAid
set_option linter.unusedVariables false

section
variable {P : Program} {ops : Array Oper} {Q : Exit → Act → World → Prop} {md : Region.Mode} {S S' : World → Prop} {c : Nat}
/-- Behind c nothing is asked of the world any more. -/
theorem wpAnyH_toC : ∀ (fuel : Nat) (L : Array Bool) (a : Act) (w : World), L.getD c true = true → wpAnyH P md ops Q S' fuel L a w → wpAnyC P md ops Q S c fuel L a w
  | 0, _, _, _, _, h => h
  | fuel + 1, L, _, _, hc, h => ⟨h.1, fun i hi => wpOp_mono (fun a' w' h' => by
      have hc' : (L.setIfInBounds i true).getD c true = true := by
        rcases Nat.decEq i c with hne | rfl
        · rw [getD_set_ne true hne]; exact hc
        · rw [Array.getD_eq_getD_getElem?, Array.getElem?_setIfInBounds]
          simp only [if_true]
          split <;> rfl
      exact ⟨fun e => (by rw [hc'] at e; cases e), wpAnyH_toC fuel _ a' w' hc' h'.2⟩) (h.2 i hi)⟩
end
theorem sys_start {B : Nat} {w0 w : World} {gd gr n : Nat} {l : Nat → ByteArray} {q : List Wr} {dead : Bool} {l' : Nat → ByteArray} {q' : List Wr} {dead' : Bool} (h : Hold B w0 w (star (rf gr n l' q' dead') (star (dsk gd n l q dead) nought))) :
    Sys B w0 (w.alloc (.cells #[.slice none 0 0] 27)) gd gr w.heap.size n l q dead l' q' dead' (.slice none 0 0) 0 (fun _ => noB) := by
  have h1 : Hold B w0 (w.alloc (.cells #[.slice none 0 0] 27)) (star (blk w.heap.size 27 [.slice none 0 0]) (star (rf gr n l' q' dead') (star (dsk gd n l q dead) nought))) :=
    Hold.new ((firm_rf _ _ _ _ _).star ((firm_dsk _ _ _ _ _).star firm_nought)) h ((Below.refl _ _).alloc (Nat.le_refl _) _) (G := fun k => k = w.heap.size) ⟨Blk.new w 27 #[.slice none 0 0], fun k => Iff.rfl⟩ (fun k hk => by rw [hk]; exact Nat.le_refl _)
  have h2 : Hold B w0 (w.alloc (.cells #[.slice none 0 0] 27)) (star (txt (.slice none 0 0) 0 (fun _ => noB)) (star (blk w.heap.size 27 [.slice none 0 0]) (star (rf gr n l' q' dead') (star (dsk gd n l q dead) nought)))) :=
    Hold.new ((firm_blk _ _ _).star ((firm_rf _ _ _ _ _).star ((firm_dsk _ _ _ _ _).star firm_nought))) h1 (Below.refl _ _) (G := fun _ => False) ⟨texts_none _ _, (fun a n c e => by cases e), fun _ h => h.elim⟩ (fun _ h => h.elim)
  obtain ⟨k1, k2, F, k3, k4⟩ := h2
  obtain ⟨F1, F2, F3, F4, F5, d1, d2, d3, d4, d5, e1, e2, e3, e4, e5⟩ := unpack k3
  refine ⟨k1, k2, _, pack4 d4 d3 d2 d1 ?_ ?_ ?_, ?_⟩
  · rintro k hk (h | h | h)
    · exact e3 k h (.inl hk)
    · exact e2 k h (.inr (.inl hk))
    · exact e1 k h (.inr (.inr (.inl hk)))
  · rintro k hk (h | h)
    · exact e2 k h (.inl hk)
    · exact e1 k h (.inr (.inl hk))
  · intro k hk h
    exact e1 k h (.inl hk)
  · rintro k (h | h | h | h)
    · exact k4 k ((e5 k).2 (.inr (.inr (.inr (.inl h)))))
    · exact k4 k ((e5 k).2 (.inr (.inr (.inl h))))
    · exact k4 k ((e5 k).2 (.inr (.inl h)))
    · exact k4 k ((e5 k).2 (.inl h))
end Go.Proofs.Ytmgllcmfnljfjaa
