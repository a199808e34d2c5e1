/- SlabKeeps: what holds from change to change, and from Apply to Apply. -/
import Derived.Test.YtnhkkhiajiiahaaGreatDoorSlKeeps0Q
namespace Go.Proofs.YtnhkkhiajiiahaaGreatDoor
open Go.RowKit Go.PlainAid
set_option linter.unusedVariables false
set_option maxRecDepth 20000
/-- Changes gathered, and what is wanted. -/
def Kn (W : World) (gx g gr gw n : Nat) (key : ByteArray) (b b' : Bs) (top : ByteArray) (C : Nat → ByteArray) (v : Value) (k : Nat) (z : World) : Prop := ∃ (w : Nat → ByteArray) (q : List Wr), q.length = k ∧ Bth W.heap.size W z gx g gr 2 b b' 1 (n : Int) key top (star (rowK 49 2 v k (pairs q)) (star (blkA gw 9 (strs n w)) nought)) ∧ Kp key 1 n (upL C (zq q)) w ∧ Cok n (zq q) ∧ ∀ j, (w j).size = 32
/-- .. while the next one, t of slot s, is wanted already. -/
def Km (W : World) (gx g gr gw n : Nat) (key : ByteArray) (b b' : Bs) (top : ByteArray) (C : Nat → ByteArray) (s : Nat) (t : ByteArray) (v : Value) (k : Nat) (z : World) : Prop := ∃ (w : Nat → ByteArray) (q : List Wr), q.length = k ∧ Bth W.heap.size W z gx g gr 2 b b' 1 (n : Int) key top (star (rowK 49 2 v k (pairs q)) (star (blkA gw 9 (strs n (upd w (s, t)))) nought)) ∧ Kp key 1 n (upL C (zq q)) w ∧ Cok n (zq q) ∧ ∀ j, (w j).size = 32
/-- From Apply to Apply. -/
def Ko (W : World) (gx g gr gw d n : Nat) (key : ByteArray) (m : Nat) (z : World) : Prop := ∃ (b b' : Bs) (l : Nat → ByteArray) (top : ByteArray) (C w : Nat → ByteArray), Bth W.heap.size W z gx g gr 2 b b' 1 (n : Int) key top (star (blkA gw 9 (strs n w)) nought) ∧ Liv 2 1 b l ∧ InT l d (sl0 top) C ∧ Kp key 1 n C w ∧ Few17 2 b (100 + 100 * m) ∧ ∀ j, (w j).size = 32
section
variable {W z z' : World} {gx g gr gw d n k m s : Nat} {key top t : ByteArray} {b b' : Bs} {l C : Nat → ByteArray} {v : Value}
theorem firm_kn (w : Nat → ByteArray) (xs : List Value) : Firm (star (rowK 49 2 v k xs) (star (blkA gw 9 (strs n w)) nought)) := (firm_rowK _ _ _ _ _).star ((firm_blk _ _ _).star firm_nought)
theorem Kn.below (h : Kn W gx g gr gw n key b b' top C v k z) (hb : Below z.heap.size z z') : Kn W gx g gr gw n key b b' top C v k z' := by
  obtain ⟨w, q, h1, h2, h3⟩ := h
  exact ⟨w, q, h1, h2.below (firm_kn _ _) hb, h3⟩
theorem Km.below (h : Km W gx g gr gw n key b b' top C s t v k z) (hb : Below z.heap.size z z') : Km W gx g gr gw n key b b' top C s t v k z' := by
  obtain ⟨w, q, h1, h2, h3⟩ := h
  exact ⟨w, q, h1, h2.below (firm_kn _ _) hb, h3⟩
theorem Ko.below (h : Ko W gx g gr gw d n key m z) (hb : Below z.heap.size z z') : Ko W gx g gr gw d n key m z' := by
  obtain ⟨b, b', l, top, C, w, h1, h2⟩ := h
  exact ⟨b, b', l, top, C, w, h1.below ((firm_blk _ _ _).star firm_nought) hb, h2⟩
theorem Kn.low (h : Kn W gx g gr gw n key b b' top C v k z) : Below W.heap.size W z := by obtain ⟨w, q, h1, h2, h3⟩ := h; exact h2.low
theorem Km.low (h : Km W gx g gr gw n key b b' top C s t v k z) : Below W.heap.size W z := by obtain ⟨w, q, h1, h2, h3⟩ := h; exact h2.low
theorem Ko.low (h : Ko W gx g gr gw d n key m z) : Below W.heap.size W z := by obtain ⟨b, b', l, top, C, w, h1, h2⟩ := h; exact h1.low
/-- The slab and its top, as they lie. -/
def Sc (gx g n : Nat) (key top : ByteArray) (z : World) : Prop := z.cell? ⟨gx, 0, none⟩ = some (.pointer (some ⟨g, 0, none⟩)) ∧ z.cell? ⟨gx, 1, none⟩ = some (.int .i64 1) ∧ z.cell? ⟨gx, 2, none⟩ = some (.int .i64 (n : Int)) ∧ z.cell? ⟨gx, 3, none⟩ = some (.string key) ∧ z.cell? ⟨gx, 8, none⟩ = some (.string top)
theorem Bth.sc {R : Asn} (h : Bth W.heap.size W z gx g gr 2 b b' 1 (n : Int) key top R) : Sc gx g n key top z := ⟨h.cells.1, h.cells.2.1, h.cells.2.2.1, h.cells.2.2.2.1, h.blk.cell (i := 8) rfl⟩
theorem Kn.sc (h : Kn W gx g gr gw n key b b' top C v k z) : Sc gx g n key top z := by obtain ⟨w, q, h1, h2, h3⟩ := h; exact h2.sc
theorem Km.sc (h : Km W gx g gr gw n key b b' top C s t v k z) : Sc gx g n key top z := by obtain ⟨w, q, h1, h2, h3⟩ := h; exact h2.sc
/-- The row of what is wanted. -/
theorem Kn.blk (h : Kn W gx g gr gw n key b b' top C v k z) : ∃ w, Blk z gw 9 (strs n w) := by
  obtain ⟨w, q, h1, h2, h3⟩ := h
  exact ⟨w, Hold.blk (Hold.right (Hold.right (Hold.right (Hold.right h2))))⟩
theorem Km.want (h : Km W gx g gr gw n key b b' top C s t v k z) (hs : s < n) : z.cell? ⟨gw, s, none⟩ = some (.string t) := by
  obtain ⟨w, q, h1, h2, h3⟩ := h
  have h4 : Blk z gw 9 (strs n (upd w (s, t))) := Hold.blk (Hold.right (Hold.right (Hold.right (Hold.right h2))))
  refine h4.cell (i := s) ?_
  rw [strs_at _ _ _ hs]
  simp [upd]
theorem Kn.store (h : Kn W gx g gr gw n key b b' top C v k z) (t : ByteArray) (s : Nat) : Km W gx g gr gw n key b b' top C s t v k (z.setCell ⟨gw, s, none⟩ (.string t)) := by
  obtain ⟨w, q, h1, h2, h3⟩ := h
  refine ⟨w, q, h1, ?_, h3⟩
  have h4 := Hold.setBlk (((firm_blk _ _ _).star ((firm_bnk _ _ _ _ _).star ((firm_rbk _ _ _ _ _).star ((firm_rowK _ _ _ _ _).star firm_nought))))) (Hold.pull5 h2) s (.string t)
  rw [strs_set] at h4
  exact Hold.back5 h4
/-- Seal of it. -/
theorem Km.seal (h : Km W gx g gr gw n key b b' top C s t v k z) (hn : 2 ^ d = n) (hd : 1 ≤ d ∧ d ≤ 4) (hk : key.size = 32) (hs : s < n) (ht : t.size = 32) {nonce : ByteArray} (hno : nonce.size = 12) :
    Calls Tryz.prog 12 #[slV (.pointer (some ⟨g, 0, none⟩)) 1 (n : Int) key, .int .i64 (s : Int), .string nonce, .string t] z fun e w' => e = .returned (.tuple #[.string (clB17 key nonce (plc 1 s) t), .int .i64 0]) ∧ Km W gx g gr gw n key b b' top C s t v k w' := by
  have h16 : n ≤ 16 := by rw [← hn]; exact pow_le16 d hd.2
  have hb : Bk z g 2 b.D b.s b.p := by obtain ⟨w, q, h1, h2, h3⟩ := h; exact h2.bk
  refine (sseal_ok (i := 1) (k := s) (by decide) (by omega) hk (fault_in (good_yes (i := 1) hb (by decide) hn hd hk) (by omega) (by omega)) hno ht).mono ?_
  rintro e w' ⟨e1, e2⟩
  exact ⟨e1, h.below e2⟩
/-- Its change beside the others. -/
theorem Km.push (h : Km W gx g gr gw n key b b' top C s t v k z) (hs : s < n) (hk : k ≤ 100) (ht : t.size = 32) {nonce : ByteArray} (hno : nonce.size = 12) :
    ∃ a c z', (Builtin.append_ #[36, 36] 36 #[v, .slice (some ⟨z.heap.size, 0, none⟩) 1 1]).run Tryz.prog (z.alloc (.cells #[.int .i64 (s : Int), .string (clB17 key nonce (plc 1 s) t)] 49)) = .ok (.slice a (k + 1) c) z' ∧ Kn W gx g gr gw n key b b' top C (.slice a (k + 1) c) (k + 1) z' := by
  obtain ⟨w, q, h1, h2, h3, h4, h5⟩ := h
  obtain ⟨a, c, z', e1, e2⟩ := push_chg ((firm_blk _ _ _).star ((firm_bnk _ _ _ _ _).star ((firm_rbk _ _ _ _ _).star ((firm_blk _ _ _).star firm_nought)))) (Hold.pull4 h2) (by omega) (s, clB17 key nonce (plc 1 s) t)
  have hsz := clB17_size key nonce (plc 1 s) t hno
  refine ⟨a, c, z', e1, upd w (s, t), q ++ [(s, clB17 key nonce (plc 1 s) t)], by rw [List.length_append, h1]; rfl, Hold.back4 e2, ?_, cok_snoc h4 hs (by show (clB17 key nonce (plc 1 s) t).size ≤ 2032; omega), fun j => ?_⟩
  · rw [up_snoc]
    exact (h3.put hno s t).congr (fun j _ => rfl) (fun j _ => rfl)
  · unfold upd
    split
    · exact ht
    · exact h5 j
theorem Ko.start {w : Nat → ByteArray} (h : Bth W.heap.size W z gx g gr 2 b b' 1 (n : Int) key top (star (blkA gw 9 (strs n w)) nought)) (h1 : Kp key 1 n C w) (h2 : ∀ j, (w j).size = 32) : Kn W gx g gr gw n key b b' top C (.slice none 0 0) 0 z := by
  refine ⟨w, [], rfl, ?_, h1, cok_nil n, h2⟩
  exact Hold.monoR h fun F h => star_monoR h fun F h => star_monoR h fun F h => star_nil17 h
end
end Go.Proofs.YtnhkkhiajiiahaaGreatDoor
