/- SlabTells: what holds while all slots are put. -/
import Derived.Test.YtnhkkhiajiiahaaGreatDoorSlTl0Q
namespace Go.Proofs.YtnhkkhiajiiahaaGreatDoor
open Go.RowKit Go.PlainAid
set_option linter.unusedVariables false
set_option maxRecDepth 20000
/-- k changes gathered, the first j wanted. -/
def Tn (W : World) (gx g gr gw n : Nat) (key : ByteArray) (b b' : Bs) (top : ByteArray) (v : Value) (k j : Nat) (z : World) : Prop := Bth W.heap.size W z gx g gr 2 b b' 0 (n : Int) key top (star (rowK 49 2 v k (pairs (wqT key k))) (star (blkA gw 9 (strs n (fT j))) nought))
/-- Prepared. -/
def Tr (W : World) (gx g gr gw d n : Nat) (key : ByteArray) (b b' : Bs) (top : ByteArray) (v : Value) (t : ByteArray) (z : World) : Prop := ∃ (C l : Nat → ByteArray) (q : List Wr), Bth W.heap.size W z gx g gr 2 b b' 0 (n : Int) key top (star (rowK 104 2 v q.length (pairs q)) (star (blkA gw 9 (strs n wtT)) nought)) ∧ (apR 2 0 b q).1 = 0 ∧ Liv 2 0 (apR 2 0 b q).2 l ∧ InT l d (sl0 t) C ∧ (∀ j, j < n → C j = ceT key j) ∧ q.length ≤ 32
/-- Applied. -/
def Ts (W : World) (gx g gr gw d n : Nat) (key top t : ByteArray) (z : World) : Prop := ∃ (b b' : Bs) (C l : Nat → ByteArray), Bth W.heap.size W z gx g gr 2 b b' 0 (n : Int) key top (star (blkA gw 9 (strs n wtT)) nought) ∧ Liv 2 0 b l ∧ InT l d (sl0 t) C ∧ (∀ j, j < n → C j = ceT key j)
/-- The slab and its top, what is wanted of a slot. -/
def Tc (gx g n : Nat) (key top : ByteArray) (z : World) : Prop := z.cell? ⟨gx, 0, none⟩ = some (.pointer (some ⟨g, 0, none⟩)) ∧ z.cell? ⟨gx, 1, none⟩ = some (.int .i64 0) ∧ z.cell? ⟨gx, 2, none⟩ = some (.int .i64 (n : Int)) ∧ z.cell? ⟨gx, 3, none⟩ = some (.string key) ∧ z.cell? ⟨gx, 8, none⟩ = some (.string top)
def Tw (gx g gw n s : Nat) (key t : ByteArray) (z : World) : Prop := z.cell? ⟨gx, 0, none⟩ = some (.pointer (some ⟨g, 0, none⟩)) ∧ z.cell? ⟨gx, 1, none⟩ = some (.int .i64 0) ∧ z.cell? ⟨gx, 2, none⟩ = some (.int .i64 (n : Int)) ∧ z.cell? ⟨gx, 3, none⟩ = some (.string key) ∧ z.cell? ⟨gw, s, none⟩ = some (.string t)
section
variable {W z z' : World} {gx g gr gw d n k j : Nat} {key top t : ByteArray} {b b' : Bs} {l C : Nat → ByteArray} {v : Value}
theorem Bth.tc {R : Asn} (h : Bth W.heap.size W z gx g gr 2 b b' 0 (n : Int) key top R) : Tc gx g n key top z := ⟨h.cells.1, h.cells.2.1, h.cells.2.2.1, h.cells.2.2.2.1, h.blk.cell (i := 8) rfl⟩
theorem Tn.firm : Firm (star (rowK 49 2 v k (pairs (wqT key k))) (star (blkA gw 9 (strs n (fT j))) nought)) := (firm_rowK _ _ _ _ _).star ((firm_blk _ _ _).star firm_nought)
theorem Tn.below (h : Tn W gx g gr gw n key b b' top v k j z) (hb : Below z.heap.size z z') : Tn W gx g gr gw n key b b' top v k j z' := Bth.below Tn.firm h hb
theorem Tn.low (h : Tn W gx g gr gw n key b b' top v k j z) : Below W.heap.size W z := Bth.low h
theorem Tn.blk (h : Tn W gx g gr gw n key b b' top v k j z) : Blk z gw 9 (strs n (fT j)) := Hold.blk (Hold.right (Hold.right (Hold.right (Hold.right h))))
theorem Tn.tw (h : Tn W gx g gr gw n key b b' top v k (j + 1) z) (hj : j < n) : Tw gx g gw n j key (wtT j) z := ⟨(Bth.tc h).1, (Bth.tc h).2.1, (Bth.tc h).2.2.1, (Bth.tc h).2.2.2.1, by
  have := h.blk.cell (strs_at n (fT (j + 1)) j hj)
  rw [show fT (j + 1) j = wtT j from if_pos (by omega)] at this
  exact this⟩
theorem Tn.tc (h : Tn W gx g gr gw n key b b' top v k j z) : Tc gx g n key top z := Bth.tc h
theorem Tn.new (h : Bth W.heap.size W z gx g gr 2 b b' 0 (n : Int) key top nought) : Tn W gx g gr z.heap.size n key b b' top (.slice none 0 0) 0 0 (z.alloc (.cells (strs n fun _ => noB).toArray 9)) := by
  have h1 := Hold.newBlk (bth_firm firm_nought) h 9 (strs n fun _ => noB).toArray
  rw [List.toList_toArray] at h1
  unfold Tn
  rw [strs_eq n (f := fT 0) (h := fun _ => noB) (fun j _ => if_neg (by omega))]
  exact Hold.monoR h1.back4 fun F h => star_monoR h fun F h => star_monoR h fun F h => star_nil17 h
theorem Tn.store (h : Tn W gx g gr gw n key b b' top v k j z) : Tn W gx g gr gw n key b b' top v k (j + 1) (z.setCell ⟨gw, j, none⟩ (.string (wtT j))) := by
  have h4 := Hold.setBlk (((firm_blk _ _ _).star ((firm_bnk _ _ _ _ _).star ((firm_rbk _ _ _ _ _).star ((firm_rowK _ _ _ _ _).star firm_nought))))) (Hold.pull5 h) j (.string (wtT j))
  rw [strs_set, fT_step] at h4
  exact Hold.back5 h4
theorem Tn.seal (h : Tn W gx g gr gw n key b b' top v k j z) (hn : 2 ^ d = n) (hd : 1 ≤ d ∧ d ≤ 4) (hk : key.size = 32) {s : Nat} (hs : s < n) :
    Calls Tryz.prog 12 #[slV (.pointer (some ⟨g, 0, none⟩)) 0 (n : Int) key, .int .i64 (s : Int), .string (noT s), .string (wtT s)] z fun e w' => e = .returned (.tuple #[.string (ceT key s), .int .i64 0]) ∧ Below z.heap.size z w' := by
  have h16 : n ≤ 16 := by rw [← hn]; exact pow_le16 d hd.2
  have hb : Bk z g 2 b.D b.s b.p := Bth.bk h
  exact sseal_ok (i := 0) (k := s) (by decide) (by omega) hk (fault_in (good_yes (i := 0) hb (by decide) hn hd hk) (by omega) (by omega)) (noT_size s) (wtT_size s)
theorem Tn.push (h : Tn W gx g gr gw n key b b' top v k j z) (hk : k ≤ 100) :
    ∃ a c z', (Builtin.append_ #[36, 36] 36 #[v, .slice (some ⟨z.heap.size, 0, none⟩) 1 1]).run Tryz.prog (z.alloc (.cells #[.int .i64 (k : Int), .string (ceT key k)] 49)) = .ok (.slice a (k + 1) c) z' ∧ Tn W gx g gr gw n key b b' top (.slice a (k + 1) c) (k + 1) j z' := by
  obtain ⟨a, c, z', e1, e2⟩ := push_chg ((firm_blk _ _ _).star ((firm_bnk _ _ _ _ _).star ((firm_rbk _ _ _ _ _).star ((firm_blk _ _ _).star firm_nought)))) (Hold.pull4 h) (by omega) (k, ceT key k)
  exact ⟨a, c, z', e1, Hold.back4 e2⟩
theorem Tn.prep {a : Option Addr} {c : Nat} (h : Tn W gx g gr gw n key b b' top (.slice a n c) n n z) (ht : Tabs z) (hL : Liv 2 0 b l) (hT : InT l d (sl0 top) C) (hn : 2 ^ d = n) (hd : 1 ≤ d ∧ d ≤ 4) (hk : key.size = 32) :
    Calls Tryz.prog 13 #[slV (.pointer (some ⟨g, 0, none⟩)) 0 (n : Int) key, .string top, .slice a n c] z fun e w' => ∃ v t, e = .returned (.tuple #[v, .string t, .int .i64 0]) ∧ Tr W gx g gr gw d n key b b' top v t w' := by
  have h16 : n ≤ 16 := by rw [← hn]; exact pow_le16 d hd.2
  have hl := wqT_length key n
  have hr : z.ownsRow 0 49 2 (.slice a (wqT key n).length c) (wqT key n).length (pairs (wqT key n)) := by
    have := Hold.rowK (Hold.right (Hold.right (Hold.right h)))
    rw [hl]; exact this
  have hq := wqT_cok key n n (Nat.le_refl _)
  have hp := lv_prep (i := 0) (c := c) (Bth.bk h) ht hL (by decide) hn hd hk hT (Cg.ofRow hr) (by rw [zq_length]; omega) hq
  rw [zq_length, hl] at hp
  refine Calls.mono (P := _) hp ?_
  rintro e w' ⟨v, e1, e2, e3⟩
  obtain ⟨_, c2, l', c3, c4⟩ := hL.change (i := 0) (by decide) hd.2 hT (cs := zq (wqT key n)) (by rw [hn]; exact hq)
  refine ⟨v, _, e1, upL C (zq (wqT key n)), l', _, ?_, c2, c3, c4, fun j hj => by rw [wqT_up]; exact if_pos hj, slW_few _⟩
  have hx : Bth W.heap.size W w' gx g gr 2 b b' 0 (n : Int) key top (star (rowK 104 2 v (slW (pS b 0 d top (zq (wqT key n)))).length (pairs (slW (pS b 0 d top (zq (wqT key n)))))) (star (rowK 49 2 (.slice a n c) n (pairs (wqT key n))) (star (blkA gw 9 (strs n (fT n))) nought))) := (Hold.newRow (bth_firm Tn.firm) h e3 e2).back4
  rw [fT_all] at hx
  exact (Bth.swapR hx).dropR
theorem Tr.below (h : Tr W gx g gr gw d n key b b' top v t z) (hb : Below z.heap.size z z') : Tr W gx g gr gw d n key b b' top v t z' := by
  obtain ⟨C, l, q, h1, h2⟩ := h
  exact ⟨C, l, q, h1.below ((firm_rowK _ _ _ _ _).star ((firm_blk _ _ _).star firm_nought)) hb, h2⟩
theorem Tr.tc (h : Tr W gx g gr gw d n key b b' top v t z) : Tc gx g n key top z := by obtain ⟨C, l, q, h1, h2⟩ := h; exact h1.tc
theorem Tr.apply (h : Tr W gx g gr gw d n key b b' top v t z) (hn : 2 ^ d = n) (hd : 1 ≤ d ∧ d ≤ 4) (hk : key.size = 32) (hf : Few17 2 b 100) :
    Calls Tryz.prog 14 #[slV (.pointer (some ⟨g, 0, none⟩)) 0 (n : Int) key, v] z fun e w' => e = .returned (.int .i64 0) ∧ Ts W gx g gr gw d n key top t w' := by
  obtain ⟨C, l, q, h1, h2, h3, h4, h5, h6⟩ := h
  refine (Bth.apply (k := 0) (q2 := []) (v2 := .bool true) ((firm_blk _ _ _).star firm_nought) rfl (good_yes (i := 0) h1.bk (by decide) hn hd hk) (by decide) h1 hf (by omega)).mono ?_
  rintro e w' ⟨e1, e2⟩
  rw [h2] at e1
  exact ⟨e1, _, _, C, l, e2.dropR, h3, h4, h5⟩
end
end Go.Proofs.YtnhkkhiajiiahaaGreatDoor
