/- A new image for the variable. -/
import Derived.Test.YtmgllcmfnljfjaaDkAct0
namespace Go.Proofs.Ytmgllcmfnljfjaa
open Go.RowKit Go.PlainAid
set_option linter.unusedVariables false

section
variable {B : Nat} {w0 w w1 : World} {gd gr gi n : Nat} {l : Nat → ByteArray} {q : List Wr} {dead : Bool} {l' : Nat → ByteArray} {q' : List Wr} {dead' : Bool} {v : Value} {m : Nat} {f : Nat → ByteArray} {bx : Nat} {L : List Value}
theorem SysX.newImg (h : SysX B w0 w gd gr gi n l q dead l' q' dead' v m f bx L) (hb : Below w.heap.size w w1) {v' : Value} {m' : Nat} {f' : Nat → ByteArray} (hv : TextsAt w1 v' m' f') (hnew : ∀ a n c, v' = .slice (some a) n c → n ≠ 0 → w.heap.size ≤ a.block ∧ a.block < w1.heap.size) :
    SysX B w0 (w1.setCell ⟨gi, 0, none⟩ v') gd gr gi n l q dead l' q' dead' v' m' f' bx L := by
  obtain ⟨h1, h2, F, h3, h4⟩ := h
  obtain ⟨F1, F2, F3, F4, F5, d1, d2, d3, d4, d5, e1, e2, e3, e4, e5⟩ := unpack h3
  have K : Kept (fun _ => False) w w1 := Kept.ofBelow hb
  have K2 : Kept (fun k => k = gi) w1 (w1.setCell ⟨gi, 0, none⟩ v') := Kept.one _ _ _ _
  have g4 : F4 gi := (d4.2 gi).2 rfl
  have b1 := (firm_dsk _ _ _ _ _).bound d1
  have b2 := (firm_rf _ _ _ _ _).bound d2
  have b3 := (firm_blk _ _ _).bound d3
  have b4 := (firm_blk _ _ _).bound d4
  have hl : gi < w.heap.size := b4 gi g4
  refine ⟨by simp; exact Nat.le_trans h1 hb.size, (h2.trans (hb.mono h1)).setCell (p := ⟨gi, 0, none⟩) (h4 gi ((e5 gi).2 (.inr (.inr (.inr (.inl g4)))))) _, _, pack (F5 := fun k => w.heap.size ≤ k ∧ k < w1.heap.size) ((firm_dsk _ _ _ _ _).kept ((firm_dsk _ _ _ _ _).kept d1 K (fun _ _ h => h)) K2 (fun k hk e => e1 k hk (.inr (.inr (.inl (e ▸ g4)))))) ((firm_rf _ _ _ _ _).kept ((firm_rf _ _ _ _ _).kept d2 K (fun _ _ h => h)) K2 (fun k hk e => e2 k hk (.inr (.inl (e ▸ g4))))) ((firm_blk _ _ _).kept ((firm_blk _ _ _).kept d3 K (fun _ _ h => h)) K2 (fun k hk e => e3 k hk (.inl (e ▸ g4)))) (show Go.Proofs.Ytmgllcmfnljfjaa.blk gi 27 [v'] _ F4 from ⟨((firm_blk _ _ _).kept d4 K (fun _ _ h => h)).1.setCell 0 v', d4.2⟩) ?_ ?_ ?_ ?_ ?_, ?_⟩
  · refine ⟨hv.kept K2 (fun a n c e e0 e2 => ?_), fun a n c e e0 => hnew a n c e e0, fun k hk => by simp; exact hk.2⟩
    have := (hnew a n c e e0).1
    rw [e2] at this
    omega
  · rintro k hk (h | h | h | h)
    · exact e1 k hk (.inl h)
    · exact e1 k hk (.inr (.inl h))
    · exact e1 k hk (.inr (.inr (.inl h)))
    · have := b1 k hk; omega
  · rintro k hk (h | h | h)
    · exact e2 k hk (.inl h)
    · exact e2 k hk (.inr (.inl h))
    · have := b2 k hk; omega
  · rintro k hk (h | h)
    · exact e3 k hk (.inl h)
    · have := b3 k hk; omega
  · rintro k hk h
    have := b4 k hk; omega
  · rintro k (h | h | h | h | h)
    · exact h4 k ((e5 k).2 (.inl h))
    · exact h4 k ((e5 k).2 (.inr (.inl h)))
    · exact h4 k ((e5 k).2 (.inr (.inr (.inl h))))
    · exact h4 k ((e5 k).2 (.inr (.inr (.inr (.inl h)))))
    · exact Nat.le_trans h1 h.1
end
/-- What Image or Restore leaves. -/
def ImgPost (B : Nat) (w0 w : World) (gd gr gi n : Nat) (l : Nat → ByteArray) (q : List Wr) (dead : Bool) (l' : Nat → ByteArray) (v : Value) (m : Nat) (f : Nat → ByteArray) : Prop :=
  (∃ v' m' f', m' ≤ 512 ∧ Sys B w0 w gd gr gi n l q dead l' q dead v' m' f') ∨ Sys B w0 w gd gr gi n (restoreL l dead m f) (flushQ q dead) dead (restoreL l' dead m f) (flushQ q dead) dead v m f
end Go.Proofs.Ytmgllcmfnljfjaa
