/- Both disks at their beginning; and steps of a region that draws its order behind the one that it waits for. -/
import Derived.Test.YtmgllcmfnljfjaaDkAct
namespace Go.Proofs.Ytmgllcmfnljfjaa
open Go.RowKit Go.PlainAid
set_option linter.unusedVariables false

section
variable {P : Program} {ops : Array Oper} {Q : Exit → Act → World → Prop} {md : Region.Mode} {S S' : World → Prop} {c : Nat}
/-- Behind c nothing is asked of the world any more. -/
theorem wpAnyH_toC : ∀ (fuel : Nat) (L : Array Bool) (a : Act) (w : World), L.getD c true = true → wpAnyH P md ops Q S' fuel L a w → wpAnyC P md ops Q S c fuel L a w
  | 0, _, _, _, _, h => h
  | fuel + 1, L, _, _, hc, h => ⟨h.1, fun i hi => wpOp_mono (fun a' w' h' => by
      have hc' : (L.setIfInBounds i true).getD c true = true := by
        rcases Nat.decEq i c with hne | rfl
        · rw [getD_set_ne true hne]; exact hc
        · rw [Array.getD_eq_getD_getElem?, Array.getElem?_setIfInBounds]
          simp only [if_true]
          split <;> rfl
      exact ⟨fun e => (by rw [hc'] at e; cases e), wpAnyH_toC fuel _ a' w' hc' h'.2⟩) (h.2 i hi)⟩
end
theorem pack4 {D R I T : Asn} {w : World} {F1 F2 F4 F5 : Nat → Prop} (d1 : D w F1) (d2 : R w F2) (d4 : I w F4) (d5 : T w F5) (e1 : ∀ k, F1 k → ¬ (F2 k ∨ F4 k ∨ F5 k)) (e2 : ∀ k, F2 k → ¬ (F4 k ∨ F5 k)) (e4 : ∀ k, F4 k → ¬ F5 k) :
    star D (star R (star I T)) w (fun k => F1 k ∨ F2 k ∨ F4 k ∨ F5 k) :=
  ⟨F1, fun k => F2 k ∨ F4 k ∨ F5 k, d1, ⟨F2, fun k => F4 k ∨ F5 k, d2, ⟨F4, F5, d4, d5, e4, fun k => Iff.rfl⟩, e2, fun k => Iff.rfl⟩, e1, fun k => Iff.rfl⟩
theorem sys_start {B : Nat} {w0 w : World} {gd gr n : Nat} {l : Nat → ByteArray} {q : List Wr} {dead : Bool} {l' : Nat → ByteArray} {q' : List Wr} {dead' : Bool} (h : Hold B w0 w (star (rf gr n l' q' dead') (star (dsk gd n l q dead) nought))) :
    Sys B w0 (w.alloc (.cells #[.slice none 0 0] 27)) gd gr w.heap.size n l q dead l' q' dead' (.slice none 0 0) 0 (fun _ => noB) := by
  have h1 : Hold B w0 (w.alloc (.cells #[.slice none 0 0] 27)) (star (blk w.heap.size 27 [.slice none 0 0]) (star (rf gr n l' q' dead') (star (dsk gd n l q dead) nought))) :=
    Hold.new ((firm_rf _ _ _ _ _).star ((firm_dsk _ _ _ _ _).star firm_nought)) h ((Below.refl _ _).alloc (Nat.le_refl _) _) (G := fun k => k = w.heap.size) ⟨Blk.new w 27 #[.slice none 0 0], fun k => Iff.rfl⟩ (fun k hk => by rw [hk]; exact Nat.le_refl _)
  have h2 : Hold B w0 (w.alloc (.cells #[.slice none 0 0] 27)) (star (txt (.slice none 0 0) 0 (fun _ => noB)) (star (blk w.heap.size 27 [.slice none 0 0]) (star (rf gr n l' q' dead') (star (dsk gd n l q dead) nought)))) :=
    Hold.new ((firm_blk _ _ _).star ((firm_rf _ _ _ _ _).star ((firm_dsk _ _ _ _ _).star firm_nought))) h1 (Below.refl _ _) (G := fun _ => False) ⟨texts_none _ _, (fun a n c e => by cases e), fun _ h => h.elim⟩ (fun _ h => h.elim)
  obtain ⟨k1, k2, F, k3, k4⟩ := h2
  obtain ⟨F1, F2, F3, F4, F5, d1, d2, d3, d4, d5, e1, e2, e3, e4, e5⟩ := unpack k3
  refine ⟨k1, k2, _, pack4 d4 d3 d2 d1 ?_ ?_ ?_, ?_⟩
  · rintro k hk (h | h | h)
    · exact e3 k h (.inl hk)
    · exact e2 k h (.inr (.inl hk))
    · exact e1 k h (.inr (.inr (.inl hk)))
  · rintro k hk (h | h)
    · exact e2 k h (.inl hk)
    · exact e1 k h (.inr (.inl hk))
  · intro k hk h
    exact e1 k h (.inl hk)
  · rintro k (h | h | h | h)
    · exact k4 k ((e5 k).2 (.inr (.inr (.inr (.inl h)))))
    · exact k4 k ((e5 k).2 (.inr (.inr (.inl h))))
    · exact k4 k ((e5 k).2 (.inr (.inl h)))
    · exact k4 k ((e5 k).2 (.inl h))
theorem h_new {B : Nat} {w0 w : World} {R : Asn} (hR : Firm R) (h : Hold B w0 w R) (c : Int) : Calls Try.prog 8 #[.int .i64 c] w fun e w' => ∃ g, e = .returned (.pointer (some ⟨g, 0, none⟩)) ∧ Hold B w0 w' (star (dsk g (newN c) (fun _ => noB) [] false) R) := by
  refine (new_at c w).mono ?_
  rintro e w' ⟨g, rfl, F, h1, h2, h3⟩
  exact ⟨g, rfl, Hold.new hR h h2 (G := F) h1 h3⟩
theorem h_rnew {B : Nat} {w0 w : World} {R : Asn} (hR : Firm R) (h : Hold B w0 w R) (c : Int) : Calls Try.prog 9 #[.int .i64 c] w fun e w' => ∃ g, e = .returned (.pointer (some ⟨g, 0, none⟩)) ∧ Hold B w0 w' (star (rf g (newN c) (fun _ => noB) [] false) R) := by
  refine (refNew_at c w).mono ?_
  rintro e w' ⟨g, rfl, F, h1, h2, h3⟩
  exact ⟨g, rfl, Hold.new hR h h2 (G := F) h1 h3⟩
/-- An act that came in, as it lies there still. -/
theorem acts_at {W w : World} {a : Option Addr} {len cap : Nat} (h : ActsArg W a len cap) (hb : Below W.heap.size W w) (i : Nat) (hi : i < len) : ∃ b o, ∃ A : ActD, a = some ⟨b, o, none⟩ ∧ ActOk W A ∧ Old W.heap.size A.row ∧ w.cell? ⟨b, o + i * 6, none⟩ = some (.int .i64 A.d) ∧ w.cell? ⟨b, o + i * 6 + 1, none⟩ = some (.int .i64 A.a) ∧ w.cell? ⟨b, o + i * 6 + 2, none⟩ = some (.string A.s) ∧ w.cell? ⟨b, o + i * 6 + 3, none⟩ = some (.int .i64 A.n) ∧ w.cell? ⟨b, o + i * 6 + 4, none⟩ = some A.row ∧ w.cell? ⟨b, o + i * 6 + 5, none⟩ = some (.bool A.x) := by
  obtain ⟨h1, h2, A, h3, h4⟩ := h
  rcases h4 with h4 | ⟨b, o, rfl, hb0, hc⟩
  · omega
  · have g : ∀ j, w.cell? ⟨b, j, none⟩ = W.cell? ⟨b, j, none⟩ := fun j => hb.cell (p := ⟨b, j, none⟩) hb0
    obtain ⟨c0, c1, c2, c3, c4, c5⟩ := hc i hi
    refine ⟨b, o, A i, rfl, h3 i hi, ?_, by rw [g]; exact c0, by rw [g]; exact c1, by rw [g]; exact c2, by rw [g]; exact c3, by rw [g]; exact c4, by rw [g]; exact c5⟩
    intro y n c e e0
    obtain ⟨⟨⟨⟨a', cap', e', hx⟩, _⟩, _, _⟩, _⟩ := h3 i hi
    cases e'
    simp only [ActD.row, Value.slice.injEq] at e
    obtain ⟨e1, e2, e3⟩ := e
    rcases hx with hx | ⟨b', o', e4, hl, _⟩
    · omega
    · rw [e4] at e1
      cases e1
      exact hl
end Go.Proofs.Ytmgllcmfnljfjaa
