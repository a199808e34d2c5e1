/- SlabKeeps: Prepare, Apply, the new top; Get and Bad at the end. -/
import Derived.Test.YtnhkkhiajiiahaaGreatDoorSlKeeps1Q
namespace Go.Proofs.YtnhkkhiajiiahaaGreatDoor
open Go.RowKit Go.PlainAid
set_option linter.unusedVariables false
set_option maxRecDepth 20000
/-- Writes that are prepared. -/
def Kr (W : World) (gx g gr gw d n : Nat) (key : ByteArray) (b b' : Bs) (top : ByteArray) (v : Value) (t : ByteArray) (z : World) : Prop := ∃ (w C l : Nat → ByteArray) (q : List Wr), Bth W.heap.size W z gx g gr 2 b b' 1 (n : Int) key top (star (rowK 104 2 v q.length (pairs q)) (star (blkA gw 9 (strs n w)) nought)) ∧ (apR 2 1 b q).1 = 0 ∧ Liv 2 1 (apR 2 1 b q).2 l ∧ InT l d (sl0 t) C ∧ Kp key 1 n C w ∧ q.length ≤ 32 ∧ ∀ j, (w j).size = 32
/-- .. and applied, while the top is the elder one. -/
def Ks (W : World) (gx g gr gw d n : Nat) (key : ByteArray) (m : Nat) (top t : ByteArray) (z : World) : Prop := ∃ (b b' : Bs) (w C l : Nat → ByteArray), Bth W.heap.size W z gx g gr 2 b b' 1 (n : Int) key top (star (blkA gw 9 (strs n w)) nought) ∧ Liv 2 1 b l ∧ InT l d (sl0 t) C ∧ Kp key 1 n C w ∧ Few17 2 b (100 + 100 * m) ∧ ∀ j, (w j).size = 32
section
variable {W z z' : World} {gx g gr gw d n k m s : Nat} {key top t : ByteArray} {b b' : Bs} {l C : Nat → ByteArray} {v : Value}
theorem Kr.below (h : Kr W gx g gr gw d n key b b' top v t z) (hb : Below z.heap.size z z') : Kr W gx g gr gw d n key b b' top v t z' := by
  obtain ⟨w, C, l, q, h1, h2⟩ := h
  exact ⟨w, C, l, q, h1.below ((firm_rowK _ _ _ _ _).star ((firm_blk _ _ _).star firm_nought)) hb, h2⟩
theorem Kr.sc (h : Kr W gx g gr gw d n key b b' top v t z) : Sc gx g n key top z := by obtain ⟨w, C, l, q, h1, h2⟩ := h; exact h1.sc
theorem Ks.sc (h : Ks W gx g gr gw d n key m top t z) : Sc gx g n key top z := by obtain ⟨b, b', w, C, l, h1, h2⟩ := h; exact h1.sc
theorem Ks.blk (h : Ks W gx g gr gw d n key m top t z) : Blk z gx 46 (btL g gr 1 (n : Int) key top) := by obtain ⟨b, b', w, C, l, h1, h2⟩ := h; exact h1.blk
theorem Kn.prep {a : Option Addr} {c : Nat} (h : Kn W gx g gr gw n key b b' top C (.slice a k c) k z) (ht : Tabs z) (hL : Liv 2 1 b l) (hT : InT l d (sl0 top) C) (hn : 2 ^ d = n) (hd : 1 ≤ d ∧ d ≤ 4) (hk : key.size = 32) (hm : k ≤ 100) :
    Calls Tryz.prog 13 #[slV (.pointer (some ⟨g, 0, none⟩)) 1 (n : Int) key, .string top, .slice a k c] z fun e w' => ∃ v t, e = .returned (.tuple #[v, .string t, .int .i64 0]) ∧ Kr W gx g gr gw d n key b b' top v t w' := by
  obtain ⟨w, q, h1, h2, h3, h4, h5⟩ := h
  have hr : z.ownsRow 0 49 2 (.slice a q.length c) q.length (pairs q) := by
    have := Hold.rowK (Hold.right (Hold.right (Hold.right h2)))
    rw [h1]; exact this
  have hp := lv_prep (i := 1) (c := c) h2.bk ht hL (by decide) hn hd hk hT (Cg.ofRow hr) (by rw [zq_length]; omega) h4
  rw [zq_length, h1] at hp
  refine Calls.mono (P := _) hp ?_
  rintro e w' ⟨v, e1, e2, e3⟩
  obtain ⟨_, c2, l', c3, c4⟩ := hL.change (i := 1) (by decide) hd.2 hT (cs := zq q) (by rw [hn]; exact h4)
  refine ⟨v, _, e1, w, upL C (zq q), l', _, ?_, c2, c3, c4, h3, slW_few _, h5⟩
  have hx : Bth W.heap.size W w' gx g gr 2 b b' 1 (n : Int) key top (star (rowK 104 2 v (slW (pS b 1 d top (zq q))).length (pairs (slW (pS b 1 d top (zq q))))) (star (rowK 49 2 (.slice a k c) k (pairs q)) (star (blkA gw 9 (strs n w)) nought))) := (Hold.newRow (bth_firm (firm_kn _ _)) h2 e3 e2).back4
  exact (Bth.swapR hx).dropR
theorem Kr.apply (h : Kr W gx g gr gw d n key b b' top v t z) (hn : 2 ^ d = n) (hd : 1 ≤ d ∧ d ≤ 4) (hk : key.size = 32) (hf : Few17 2 b (100 + 100 * m)) (hm : m ≤ 100) :
    Calls Tryz.prog 14 #[slV (.pointer (some ⟨g, 0, none⟩)) 1 (n : Int) key, v] z fun e w' => e = .returned (.int .i64 0) ∧ Ks W gx g gr gw d n key (m + 1) top t w' := by
  obtain ⟨w, C, l, q, h1, h2, h3, h4, h5, h6, h7⟩ := h
  refine (Bth.apply (k := 1) (q2 := []) (v2 := .bool true) ((firm_blk _ _ _).star firm_nought) rfl (good_yes (i := 1) h1.bk (by decide) hn hd hk) (by decide) h1 hf (by omega)).mono ?_
  rintro e w' ⟨e1, e2⟩
  rw [h2] at e1
  refine ⟨e1, _, _, w, C, l, e2.dropR, h3, h4, h5, ?_, h7⟩
  have := few_r (i := 1) (by decide) q hf
  exact ⟨by have := this.1; omega, fun j hj => by have := this.2 j hj; omega⟩
theorem Ks.setTop (h : Ks W gx g gr gw d n key m top t z) : Ko W gx g gr gw d n key m (z.setCell ⟨gx, 8, none⟩ (.string t)) := by
  obtain ⟨b, b', w, C, l, h1, h2, h3, h4, h5, h6⟩ := h
  exact ⟨b, b', l, t, C, w, h1.setTop ((firm_blk _ _ _).star firm_nought) t, h2, h3, h4, h5, h6⟩
/-- Get, when all is done. -/
theorem kp_get {R : Asn} {w : Nat → ByteArray} (h : Bth W.heap.size W z gx g gr 2 b b' 1 (n : Int) key top R) (ht : Tabs z) (hL : Liv 2 1 b l) (hT : InT l d (sl0 top) C) (hK : Kp key 1 n C w) (hn : 2 ^ d = n) (hd : 1 ≤ d ∧ d ≤ 4) (hk : key.size = 32) (hs : s < n) :
    Calls Tryz.prog 15 #[slV (.pointer (some ⟨g, 0, none⟩)) 1 (n : Int) key, .string top, .int .i64 (s : Int)] z fun e w' => e = .returned (.tuple #[.string (w s), .int .i64 0]) ∧ Below z.heap.size z w' := by
  have := lv_get (i := 1) h.bk ht hL (by decide) hn hd hk hT hs
  rw [(hK s hs).1, (hK s hs).2] at this
  exact this
theorem kp_bad {R : Asn} {w : Nat → ByteArray} (h : Bth W.heap.size W z gx g gr 2 b b' 1 (n : Int) key top R) (ht : Tabs z) (hL : Liv 2 1 b l) (hT : InT l d (sl0 top) C) (hK : Kp key 1 n C w) (hn : 2 ^ d = n) (hd : 1 ≤ d ∧ d ≤ 4) (hk : key.size = 32) :
    Calls Tryz.prog 16 #[slV (.pointer (some ⟨g, 0, none⟩)) 1 (n : Int) key, .string top] z fun e w' => ∃ a c, e = .returned (.slice a 0 c) ∧ Below z.heap.size z w' := by
  have h16 : n ≤ 16 := by rw [← hn]; exact pow_le16 d hd.2
  have hg := good_yes (i := 1) h.bk (by decide) hn hd hk
  refine (sbad_any hg h16 top w (fun _ => 0) (fun y hy s hs => ?_)).mono ?_
  · have hb : Bk y g 2 b.D b.s b.p := h.bk.below hy
    have := lv_get (i := 1) hb (ht.below hy ht.lt) hL (by decide) hn hd hk hT hs
    rw [(hK s hs).1, (hK s hs).2] at this
    exact this
  · rintro e w' ⟨v, e1, e2, e3⟩
    rw [bdN_none n (fun _ _ => rfl)] at e2
    obtain ⟨a, c, rfl⟩ := owns_form e2
    exact ⟨a, c, e1, e3⟩
end
end Go.Proofs.YtnhkkhiajiiahaaGreatDoor
