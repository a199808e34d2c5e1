/- A new image for the variable. -/
import Derived.Test.YtmgllcmfnljfjaaDkAct0
namespace Go.Proofs.Ytmgllcmfnljfjaa
open Go.RowKit Go.PlainAid
set_option linter.unusedVariables false

theorem unpack {D R X I T : Asn} {w : World} {F : Nat → Prop} (h : star D (star R (star X (star I T))) w F) : ∃ F1 F2 F3 F4 F5, D w F1 ∧ R w F2 ∧ X w F3 ∧ I w F4 ∧ T w F5 ∧
    (∀ k, F1 k → ¬ (F2 k ∨ F3 k ∨ F4 k ∨ F5 k)) ∧ (∀ k, F2 k → ¬ (F3 k ∨ F4 k ∨ F5 k)) ∧ (∀ k, F3 k → ¬ (F4 k ∨ F5 k)) ∧ (∀ k, F4 k → ¬ F5 k) ∧ ∀ k, F k ↔ F1 k ∨ F2 k ∨ F3 k ∨ F4 k ∨ F5 k := by
  obtain ⟨F1, H1, d1, ⟨F2, H2, d2, ⟨F3, H3, d3, ⟨F4, F5, d4, d5, e4, f4⟩, e3, f3⟩, e2, f2⟩, e1, f1⟩ := h
  refine ⟨F1, F2, F3, F4, F5, d1, d2, d3, d4, d5, fun k hk h => ?_, fun k hk h => ?_, fun k hk h => ?_, e4, fun k => ?_⟩
  · exact e1 k hk ((f2 k).2 (h.imp id fun h => (f3 k).2 (h.imp id fun h => (f4 k).2 h)))
  · exact e2 k hk ((f3 k).2 (h.imp id fun h => (f4 k).2 h))
  · exact e3 k hk ((f4 k).2 h)
  · rw [f1 k, f2 k, f3 k, f4 k]
theorem pack {D R X I T : Asn} {w : World} {F1 F2 F3 F4 F5 : Nat → Prop} (d1 : D w F1) (d2 : R w F2) (d3 : X w F3) (d4 : I w F4) (d5 : T w F5) (e1 : ∀ k, F1 k → ¬ (F2 k ∨ F3 k ∨ F4 k ∨ F5 k)) (e2 : ∀ k, F2 k → ¬ (F3 k ∨ F4 k ∨ F5 k)) (e3 : ∀ k, F3 k → ¬ (F4 k ∨ F5 k)) (e4 : ∀ k, F4 k → ¬ F5 k) :
    star D (star R (star X (star I T))) w (fun k => F1 k ∨ F2 k ∨ F3 k ∨ F4 k ∨ F5 k) :=
  ⟨F1, fun k => F2 k ∨ F3 k ∨ F4 k ∨ F5 k, d1, ⟨F2, fun k => F3 k ∨ F4 k ∨ F5 k, d2, ⟨F3, fun k => F4 k ∨ F5 k, d3, ⟨F4, F5, d4, d5, e4, fun k => Iff.rfl⟩, e3, fun k => Iff.rfl⟩, e2, fun k => Iff.rfl⟩, e1, fun k => Iff.rfl⟩
section
variable {B : Nat} {w0 w w1 : World} {gd gr gi n : Nat} {l : Nat → ByteArray} {q : List Wr} {dead : Bool} {l' : Nat → ByteArray} {q' : List Wr} {dead' : Bool} {v : Value} {m : Nat} {f : Nat → ByteArray} {bx : Nat} {L : List Value}
theorem SysX.newImg (h : SysX B w0 w gd gr gi n l q dead l' q' dead' v m f bx L) (hb : Below w.heap.size w w1) {v' : Value} {m' : Nat} {f' : Nat → ByteArray} (hv : TextsAt w1 v' m' f') (hnew : ∀ a n c, v' = .slice (some a) n c → n ≠ 0 → w.heap.size ≤ a.block ∧ a.block < w1.heap.size) :
    SysX B w0 (w1.setCell ⟨gi, 0, none⟩ v') gd gr gi n l q dead l' q' dead' v' m' f' bx L := by
  obtain ⟨h1, h2, F, h3, h4⟩ := h
  obtain ⟨F1, F2, F3, F4, F5, d1, d2, d3, d4, d5, e1, e2, e3, e4, e5⟩ := unpack h3
  have K : Kept (fun _ => False) w w1 := Kept.ofBelow hb
  have K2 : Kept (fun k => k = gi) w1 (w1.setCell ⟨gi, 0, none⟩ v') := Kept.one _ _ _ _
  have g4 : F4 gi := (d4.2 gi).2 rfl
  have b1 := (firm_dsk _ _ _ _ _).bound d1
  have b2 := (firm_rf _ _ _ _ _).bound d2
  have b3 := (firm_blk _ _ _).bound d3
  have b4 := (firm_blk _ _ _).bound d4
  have hl : gi < w.heap.size := b4 gi g4
  refine ⟨by simp; exact Nat.le_trans h1 hb.size, (h2.trans (hb.mono h1)).setCell (p := ⟨gi, 0, none⟩) (h4 gi ((e5 gi).2 (.inr (.inr (.inr (.inl g4)))))) _, _, pack (F5 := fun k => w.heap.size ≤ k ∧ k < w1.heap.size) ((firm_dsk _ _ _ _ _).kept ((firm_dsk _ _ _ _ _).kept d1 K (fun _ _ h => h)) K2 (fun k hk e => e1 k hk (.inr (.inr (.inl (e ▸ g4)))))) ((firm_rf _ _ _ _ _).kept ((firm_rf _ _ _ _ _).kept d2 K (fun _ _ h => h)) K2 (fun k hk e => e2 k hk (.inr (.inl (e ▸ g4))))) ((firm_blk _ _ _).kept ((firm_blk _ _ _).kept d3 K (fun _ _ h => h)) K2 (fun k hk e => e3 k hk (.inl (e ▸ g4)))) (show Go.Proofs.Ytmgllcmfnljfjaa.blk gi 27 [v'] _ F4 from ⟨((firm_blk _ _ _).kept d4 K (fun _ _ h => h)).1.setCell 0 v', d4.2⟩) ?_ ?_ ?_ ?_ ?_, ?_⟩
  · refine ⟨hv.kept K2 (fun a n c e e0 e2 => ?_), fun a n c e e0 => hnew a n c e e0, fun k hk => by simp; exact hk.2⟩
    have := (hnew a n c e e0).1
    rw [e2] at this
    omega
  · rintro k hk (h | h | h | h)
    · exact e1 k hk (.inl h)
    · exact e1 k hk (.inr (.inl h))
    · exact e1 k hk (.inr (.inr (.inl h)))
    · have := b1 k hk; omega
  · rintro k hk (h | h | h)
    · exact e2 k hk (.inl h)
    · exact e2 k hk (.inr (.inl h))
    · have := b2 k hk; omega
  · rintro k hk (h | h)
    · exact e3 k hk (.inl h)
    · have := b3 k hk; omega
  · rintro k hk h
    have := b4 k hk; omega
  · rintro k (h | h | h | h | h)
    · exact h4 k ((e5 k).2 (.inl h))
    · exact h4 k ((e5 k).2 (.inr (.inl h)))
    · exact h4 k ((e5 k).2 (.inr (.inr (.inl h))))
    · exact h4 k ((e5 k).2 (.inr (.inr (.inr (.inl h)))))
    · exact Nat.le_trans h1 h.1
end
theorem TextsAt.congr {w : World} {v : Value} {m : Nat} {f f' : Nat → ByteArray} (h : TextsAt w v m f) (e : ∀ i, i < m → f i = f' i) : TextsAt w v m f' := by
  obtain ⟨a, cap, rfl, h0, h1⟩ := h
  refine ⟨a, cap, rfl, h0, ?_⟩
  rcases h1 with h1 | ⟨b, o, rfl, hb, hc⟩
  · exact .inl h1
  · exact .inr ⟨b, o, rfl, hb, fun i hi => by rw [← e i hi]; exact hc i hi⟩
theorem texts_none (w : World) (f : Nat → ByteArray) : TextsAt w (.slice none 0 0) 0 f := ⟨none, 0, rfl, Nat.le_refl _, .inl rfl⟩
theorem texts_blk {w : World} {g n : Nat} {f : Nat → ByteArray} (h : Blk w g 9 (strs n f)) : TextsAt w (.slice (some ⟨g, 0, none⟩) n n) n f := ⟨_, _, rfl, Nat.le_refl _, .inr ⟨g, 0, rfl, h.lt, fun i hi => by rw [Nat.zero_add]; exact h.cell (strs_at n f i hi)⟩⟩
/-- What Image or Restore leaves. -/
def ImgPost (B : Nat) (w0 w : World) (gd gr gi n : Nat) (l : Nat → ByteArray) (q : List Wr) (dead : Bool) (l' : Nat → ByteArray) (v : Value) (m : Nat) (f : Nat → ByteArray) : Prop :=
  (∃ v' m' f', m' ≤ 512 ∧ Sys B w0 w gd gr gi n l q dead l' q dead v' m' f') ∨ Sys B w0 w gd gr gi n (restoreL l dead m f) (flushQ q dead) dead (restoreL l' dead m f) (flushQ q dead) dead v m f
end Go.Proofs.Ytmgllcmfnljfjaa
