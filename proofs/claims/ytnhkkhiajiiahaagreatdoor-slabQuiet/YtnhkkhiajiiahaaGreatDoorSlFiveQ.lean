/- What Seal, Get, Prepare, Blank and Bad do to a slab that lives: nothing. -/
import Derived.Test.YtnhkkhiajiiahaaGreatDoorSlWakes2Q
namespace Go.Proofs.YtnhkkhiajiiahaaGreatDoor
open Go.RowKit Go.PlainAid
set_option linter.unusedVariables false
set_option maxRecDepth 20000
section
variable {z : World} {g : Nat} {b : Bs} {i d n : Nat} {key : ByteArray} {l : Nat → ByteArray}
theorem in_of (n : Nat) (k : Int) (h : slE17 (n : Int) k = 0) : ∃ s : Nat, k = (s : Int) ∧ s < n := by
  unfold slE17 at h
  by_cases e : k < 0 ∨ (n : Int) ≤ k
  · rw [if_pos e] at h; cases h
  · exact ⟨k.toNat, by omega, by omega⟩
theorem q_seal (hb : Bk z g 2 b.D b.s b.p) (hi : i < 2) (hn : 2 ^ d = n) (hd : 1 ≤ d ∧ d ≤ 4) (hk : key.size = 32) (k : Int) {nonce plain : ByteArray} (h1 : nonce.size = 12) (h2 : plain.size = 32) :
    Calls Tryz.prog 12 #[slV (.pointer (some ⟨g, 0, none⟩)) (i : Int) (n : Int) key, .int .i64 k, .string nonce, .string plain] z fun e w' => ∃ v, e = .returned v ∧ Below z.heap.size z w' := by
  have h16 : n ≤ 16 := by rw [← hn]; exact pow_le16 d hd.2
  have hf := faultIs_any (good_yes hb hi hn hd hk) k
  by_cases h : slE17 (n : Int) k = 0
  · obtain ⟨s, rfl, hs⟩ := in_of n k h
    rw [h] at hf
    exact (sseal_ok (by omega) (by omega) hk hf h1 h2).mono fun e w' ⟨a, b⟩ => ⟨_, a, b⟩
  · exact (sseal_err hf h nonce plain).mono fun e w' ⟨a, b⟩ => ⟨_, a, b⟩
theorem q_get (hb : Bk z g 2 b.D b.s b.p) (ht : Tabs z) (hL : Liv 2 i b l) (hi : i < 2) (hn : 2 ^ d = n) (hd : 1 ≤ d ∧ d ≤ 4) (hk : key.size = 32) (top : ByteArray) (k : Int) :
    Calls Tryz.prog 15 #[slV (.pointer (some ⟨g, 0, none⟩)) (i : Int) (n : Int) key, .string top, .int .i64 k] z fun e w' => ∃ v, e = .returned v ∧ Below z.heap.size z w' := by
  have hf := faultIs_any (good_yes hb hi hn hd hk) k
  by_cases h : slE17 (n : Int) k = 0
  · obtain ⟨s, rfl, hs⟩ := in_of n k h
    rw [h] at hf
    exact (sget_any hb ht hi (by omega) (by rw [hL.n]; exact Nat.le_refl _) hL.size hn hd hk top hs hf).mono fun e w' ⟨a, b⟩ => ⟨_, a, b⟩
  · exact (sget_err hf h top).mono fun e w' ⟨a, b⟩ => ⟨_, a, b⟩
theorem q_prep (hb : Bk z g 2 b.D b.s b.p) (ht : Tabs z) (hL : Liv 2 i b l) (hi : i < 2) (hn : 2 ^ d = n) (hd : 1 ≤ d ∧ d ≤ 4) (hk : key.size = 32) (top : ByteArray) {a : Option Addr} {c : Nat} {cs : List (Int × ByteArray)} (hcg : Cg z 49 a cs) (hm : cs.length ≤ 100) :
    Calls Tryz.prog 13 #[slV (.pointer (some ⟨g, 0, none⟩)) (i : Int) (n : Int) key, .string top, .slice a cs.length c] z fun e w' => ∃ v, e = .returned v ∧ Below z.heap.size z w' := by
  have hg := good_yes hb hi hn hd hk
  by_cases h : rfE (n : Int) cs = 0
  · refine (sprep_any hb ht hi (by rw [hL.n]; exact Nat.le_refl _) hn hd hg top hcg (c := c) hm h).mono ?_
    rintro e w' ⟨h1, h2, h3⟩
    by_cases e0 : (prR (rdS b.p (b.D i)) (eR b.p (b.D i)) d (sl0 top) cs).1 = 0
    · obtain ⟨v, e1, _⟩ := h2 e0; exact ⟨_, e1, h3⟩
    · exact ⟨_, h1 e0, h3⟩
  · exact (sprep_err h top _ (fun y hy => srefuse_any (hg.below hy) (hcg.below hy) (by omega))).mono fun e w' ⟨a, b⟩ => ⟨_, a, b⟩
theorem q_bad (hb : Bk z g 2 b.D b.s b.p) (ht : Tabs z) (hL : Liv 2 i b l) (hi : i < 2) (hn : 2 ^ d = n) (hd : 1 ≤ d ∧ d ≤ 4) (hk : key.size = 32) (top : ByteArray) :
    Calls Tryz.prog 16 #[slV (.pointer (some ⟨g, 0, none⟩)) (i : Int) (n : Int) key, .string top] z fun e w' => ∃ v, e = .returned v ∧ Below z.heap.size z w' := by
  have h16 : n ≤ 16 := by rw [← hn]; exact pow_le16 d hd.2
  have hg := good_yes hb hi hn hd hk
  refine (sbad_any hg h16 top (fun s => slGT (rdS b.p (b.D i)) (eR b.p (b.D i)) d s top (opT key (plc i s))) (fun s => slGE (rdS b.p (b.D i)) (eR b.p (b.D i)) d s top (opE key (plc i s))) (fun y hy s hs => ?_)).mono fun e w' ⟨v, a, _, b⟩ => ⟨_, a, b⟩
  have hf := faultIs_any (good_yes (hb.below hy) hi hn hd hk) (s : Int)
  rw [show slE17 (n : Int) (s : Int) = 0 from if_neg (by omega)] at hf
  exact sget_any (hb.below hy) (ht.below hy ht.lt) hi (by omega) (by rw [hL.n]; exact Nat.le_refl _) hL.size hn hd hk top hs hf
theorem q_blank (hb : Bk z g 2 b.D b.s b.p) (ht : Tabs z) (hi : i < 2) (hn : 2 ^ d = n) (hd : 1 ≤ d ∧ d ≤ 4) (hk : key.size = 32) :
    Calls Tryz.prog 22 #[slV (.pointer (some ⟨g, 0, none⟩)) (i : Int) (n : Int) key] z fun e w' => ∃ v, e = .returned v ∧ Below z.heap.size z w' :=
  (sblank_any (good_yes hb hi hn hd hk) ht hn hd).mono fun e w' ⟨v, a, _, b⟩ => ⟨_, a, b⟩
end
end Go.Proofs.YtnhkkhiajiiahaaGreatDoor
