/- What the law fixes: a record that is written and read. -/
import Derived.Test.YtbjmhpbelkndpaaSuRec
import Derived.Test.YtbjmhpbelkndpaaSuPut
import Derived.Test.YtbjmhpbelkndpaaSuGet
namespace Go.Proofs.Ytbjmhpbelkndpaa
open Go.RowKit Go.PlainAid
set_option linter.unusedVariables false

/-- What is made lies there. -/
theorem lies_own {B : Nat} {w0 w : World} {R : Rec} {sa ma : Option Addr} {sc mc : Nat} {T : TypeId} {Y : Asn} (h : Hold B w0 w (star (rowK 3 1 (.slice sa R.ns sc) R.ns (si R.ns R.seat)) (star (rowK T 3 (.slice ma R.nm mc) R.nm (memF R.st R.top R.log R.nm)) Y))) : Lies w R sa ma := ⟨own_sx h.rowK, own_mx h.right.rowK (memF_P _ _ _ _)⟩
theorem lies_own2 {B : Nat} {w0 w : World} {R : Rec} {sa ma : Option Addr} {sc mc : Nat} {T : TypeId} {Y Z : Asn} (h : Hold B w0 w (star (rowK 3 1 (.slice sa R.ns sc) R.ns (si R.ns R.seat)) (star Z (star (rowK T 3 (.slice ma R.nm mc) R.nm (memF R.st R.top R.log R.nm)) Y)))) : Lies w R sa ma := ⟨own_sx h.rowK, own_mx h.right.right.rowK (memF_P _ _ _ _)⟩
theorem Raw.At.fine {x : Raw} {A : Nat → Int} {D : Nat → Dsk} {w : World} (h : x.At A D w) (hc : 0 ≤ x.count ∧ x.count ≤ 18446744073709551615) (he : 0 ≤ x.epoch ∧ x.epoch ≤ 18446744073709551615) (hd : -9223372036854775808 ≤ x.data ∧ x.data ≤ 9223372036854775807) (hs : -9223372036854775808 ≤ x.slots ∧ x.slots ≤ 9223372036854775807) (hm : -9223372036854775808 ≤ x.mark ∧ x.mark ≤ 9223372036854775807) (hb : -9223372036854775808 ≤ x.built ∧ x.built ≤ 9223372036854775807) : (x.toR A D).Fine := by
  refine ⟨hc, he, hd, hs, hm, hb, ?_, ?_, fun i hi => ?_, fun i hi => ?_, fun i hi => ?_, fun i hi => ?_⟩
  · show min x.xn 30 ≤ 100; omega
  · show min x.dn 20 ≤ 100; omega
  · have hi' : i < min x.xn 30 := hi
    obtain ⟨b, o, _, h1, _⟩ := h.sx w (Below.refl _ _) i (by omega)
    exact h1
  · have hi' : i < min x.dn 20 := hi
    obtain ⟨b, o, _, h1, _⟩ := h.dx w (Below.refl _ _) i (by omega)
    exact h1.1
  · show (dgB _ _).size ≤ _; rw [dgB_size]; split <;> omega
  · show (dgB _ _).size ≤ _; rw [dgB_size]; omega
/-- The record of the law's own. -/
def wkA (i : Nat) : Int := (i : Int)
def wkD (i : Nat) : Dsk := ⟨1, 0, 0, false⟩
def wkX (g h : Nat) : Raw := ⟨7, 0, 2, 4, 0, 0, false, some ⟨g, 0, none⟩, 4, 4, some ⟨h, 0, none⟩, 4, 4⟩
def wkR : Rec := ⟨7, 0, 2, 4, 0, 0, false, 4, wkA, 4, fun _ => 1, fun _ => dgB 0 31, fun _ => dgB 0 31⟩
theorem wk_R (g h : Nat) : (wkX g h).toR wkA wkD = wkR := rfl
theorem wk_cnt : ∀ i : Nat, i < 4 → cnt wkR (i : Int) 4 = 1 := fun i hi => by
  rcases (by omega : i = 0 ∨ i = 1 ∨ i = 2 ∨ i = 3) with rfl | rfl | rfl | rfl <;> rfl
theorem wk_good : gd wkR = true := by
  rw [gd_iff]
  refine ⟨⟨by decide, by decide, by decide, .inr (.inl rfl), by decide, by decide, by decide, by decide, ?_, by decide, by decide⟩, fun i hi => ?_, fun j hj => ?_, .inr ⟨rfl, rfl⟩⟩
  · rintro ⟨h1, _⟩; exact absurd h1 (by decide)
  · have hi' : i < 4 := hi
    refine ⟨by show (0 : Int) ≤ 1; decide, by show (1 : Int) ≤ 3; decide, by show (dgB 0 31).size = 32; rw [dgB_size], by show (dgB 0 31).size = 32; rw [dgB_size], ?_, ?_, ?_⟩
    · show cnt _ _ 4 ≤ 1; rw [wk_cnt i hi']; exact Nat.le_refl _
    · rintro ⟨_, h2⟩; exact absurd (show (1 : Int) = 0 from h2) (by decide)
    · rintro ⟨h1, _⟩
      have h1' : cnt wkR (i : Int) 4 = 0 := h1
      rw [wk_cnt i hi'] at h1'; omega
  · have hj' : j < 4 := hj
    show 0 ≤ (j : Int) ∧ (j : Int) < 4
    omega
theorem wk_fine : wkR.Fine := by
  refine ⟨by decide, by decide, by decide, by decide, by decide, by decide, by decide, by decide, fun i hi => ?_, fun i hi => ?_, fun i hi => ?_, fun i hi => ?_⟩
  · have hi' : i < 4 := hi
    show _ ≤ (i : Int) ∧ (i : Int) ≤ _; omega
  · show _ ≤ (1 : Int) ∧ (1 : Int) ≤ _; omega
  · show (dgB 0 31).size ≤ _; rw [dgB_size]; decide
  · show (dgB 0 31).size ≤ _; rw [dgB_size]; decide
theorem wk_rec : IsRec wkR (byB wkR) := ⟨wk_good, by decide, by decide, rfl⟩
theorem wk_size : (byB wkR).size = 456 := by
  rw [byB_size (fun i hi => ⟨by show (dgB 0 31).size = 32; rw [dgB_size], by show (dgB 0 31).size = 32; rw [dgB_size]⟩)]; rfl
theorem wk_get : getE (byB wkR) = 0 ∧ (getR (byB wkR)).count = 7 ∧ (getR (byB wkR)).ns = 4 := by
  have ho := okP_of wk_rec
  have hs := (wk_rec.read0 wayP wayP_fits).1
  unfold getE getR
  rw [ho]
  exact ⟨rfl, hs.c, hs.ns⟩
theorem wk_put : putT wkR = byB wkR ∧ putE wkR = 0 := by unfold putT putE; rw [wk_good]; exact ⟨rfl, rfl⟩
end Go.Proofs.Ytbjmhpbelkndpaa
