import Derived.Test.YtokknmkleceooaaGreatDoorSlRM
import Derived.Test.YtokknmkleceooaaGreatDoorSlWakes
namespace Go.Proofs.YtokknmkleceooaaGreatDoor
open Go.RowKit Go.PlainAid
set_option linter.unusedVariables false
set_option maxRecDepth 20000
def gtE (b : Bs) (i d : Nat) (key top : ByteArray) (k : Int) : Int := if slE17 ((2 ^ d : Nat) : Int) k = 0 then slGE (rdS b.p (b.D i)) (eR b.p (b.D i)) d k.toNat top (opE key (plc i k.toNat)) else 2
def gtT (b : Bs) (i d : Nat) (key top : ByteArray) (k : Int) : ByteArray := if slE17 ((2 ^ d : Nat) : Int) k = 0 then slGT (rdS b.p (b.D i)) (eR b.p (b.D i)) d k.toNat top (opT key (plc i k.toNat)) else noB
def Okn (N : Nat) (b : Bs) : Prop := ∀ j, j < N → (b.D j).n = 140 ∧ (∀ a, ((b.D j).l a).size ≤ 2048) ∧ ∀ w ∈ (b.D j).q, w.2.size ≤ 2048
theorem Okn.rd {N : Nat} {b : Bs} (h : Okn N b) {i : Nat} (hi : i < N) (a : Nat) : (rdS b.p (b.D i) a).size ≤ 2048 := rdS_size (h i hi).2.1 (h i hi).2.2 a
theorem slE_in {n : Nat} {k : Int} (he : slE17 (n : Int) k = 0) : ∃ s : Nat, k = (s : Int) ∧ s < n := by
  unfold slE17 at he
  by_cases e : k < 0 ∨ (n : Int) ≤ k
  · rw [if_pos e] at he; cases he
  · exact ⟨k.toNat, by omega, by omega⟩
theorem slE_two {n : Nat} {k : Int} (he : slE17 (n : Int) k ≠ 0) : slE17 (n : Int) k = 2 := by
  unfold slE17 at he ⊢
  by_cases e : k < 0 ∨ (n : Int) ≤ k
  · rw [if_pos e]
  · rw [if_neg e] at he; exact absurd rfl he
theorem sgetN {N : Nat} {b : Bs} (hO : Okn N b) {i d : Nat} (hi : i < N) (hN : N ≤ 12) (hd : 1 ≤ d ∧ d ≤ 4) {key : ByteArray} (hk : key.size = 32) (top : ByteArray) (k : Int) {z : World} {g : Nat} (hz : Bk z g N b.D b.s b.p) (ht : Tabs z) : Calls Tryz.prog 23 #[slV (.pointer (some ⟨g, 0, none⟩)) (i : Int) ((2 ^ d : Nat) : Int) key, .string top, .int .i64 k] z fun e w' => e = .returned (.tuple #[.string (gtT b i d key top k), .int .i64 (gtE b i d key top k)]) ∧ Below z.heap.size z w' := by
  unfold gtT gtE
  by_cases he : slE17 ((2 ^ d : Nat) : Int) k = 0
  · rw [if_pos he, if_pos he]
    obtain ⟨s, rfl, hs⟩ := slE_in he
    rw [Int.toNat_natCast]
    exact sget_any hz ht hi (by omega) (by rw [(hO i hi).1]; exact Nat.le_refl _) (hO.rd hi) rfl hd hk top hs (by have := faultIs_any (good_yes hz hi rfl hd hk) (s : Int); rwa [he] at this)
  · rw [if_neg he, if_neg he]
    have := faultIs_any (good_yes hz hi rfl hd hk) k
    rw [slE_two he] at this
    exact sget_err this (by decide) top
def Smn (N : Nat) (b b' : Bs) : Prop := b.p = b'.p ∧ ∀ j, j < N → (b.D j).n = (b'.D j).n ∧ (b.D j).l = (b'.D j).l ∧ (b.D j).q = (b'.D j).q ∧ (b.D j).dead = (b'.D j).dead
theorem Smn.rd {N : Nat} {b b' : Bs} (h : Smn N b b') {i : Nat} (hi : i < N) : rdS b'.p (b'.D i) = rdS b.p (b.D i) ∧ eR b'.p (b'.D i) = eR b.p (b.D i) := by
  obtain ⟨h1, h2⟩ := h
  obtain ⟨e1, e2, e3, e4⟩ := h2 i hi
  refine ⟨?_, ?_⟩
  · funext a; unfold rdS; rw [h1, e1, e2, e3, e4]
  · unfold Go.Proofs.YtokknmkleceooaaGreatDoor.eR; rw [h1, e4]
theorem Smn.get {N : Nat} {b b' : Bs} (h : Smn N b b') {i : Nat} (hi : i < N) (d : Nat) (key top : ByteArray) (k : Int) : gtT b' i d key top k = gtT b i d key top k ∧ gtE b' i d key top k = gtE b i d key top k := by
  obtain ⟨h1, h2⟩ := h.rd hi
  unfold gtT gtE
  rw [h1, h2]
  exact ⟨rfl, rfl⟩
theorem Smn.okn {N : Nat} {b b' : Bs} (h : Smn N b b') (ho : Okn N b) : Okn N b' := fun j hj => by
  obtain ⟨e1, e2, e3, e4⟩ := h.2 j hj
  rw [← e1, ← e2, ← e3]
  exact ho j hj
end Go.Proofs.YtokknmkleceooaaGreatDoor
