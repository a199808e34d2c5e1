/- A slab over a disk of a bank: what lies there, what is read, what a cell opens to. -/
import Derived.Test.YtnhkkhiajiiahaaGreatDoorSlTreeQ
import Derived.Test.YtnhkkhiajiiahaaGreatDoorBkM
import Derived.Test.YtnhkkhiajiiahaaGreatDoorAeMQ
import Derived.Test.YtnhkkhiajiiahaaGreatDoorCdM
namespace Go.Proofs.YtnhkkhiajiiahaaGreatDoor
open Go.RowKit Go.PlainAid
set_option linter.unusedVariables false
set_option maxRecDepth 20000
/-- The bank lies there; the document's bank does. -/
def Bk (w : World) (g N : Nat) (D : Nat → Dk) (s : Nat) (p : Option Nat) : Prop := ∃ F, bnk g N D s p w F
def Rk (w : World) (g N : Nat) (D : Nat → Dk) (s : Nat) (p : Option Nat) : Prop := ∃ F, rbk g N D s p w F
section
variable {w w' w0 : World} {g N B : Nat} {D : Nat → Dk} {s : Nat} {p : Option Nat} {R : Asn}
theorem Bk.hold (h : Bk w g N D s p) : Hold 0 w w (star (bnk g N D s p) nought) := by
  obtain ⟨F, h⟩ := h
  exact ⟨Nat.zero_le _, Below.refl _ _, F, ⟨F, fun _ => False, h, fun _ h => h, fun _ _ h => h, fun k => by simp⟩, fun _ _ => Nat.zero_le _⟩
theorem Rk.hold (h : Rk w g N D s p) : Hold 0 w w (star (rbk g N D s p) nought) := by
  obtain ⟨F, h⟩ := h
  exact ⟨Nat.zero_le _, Below.refl _ _, F, ⟨F, fun _ => False, h, fun _ h => h, fun _ _ h => h, fun k => by simp⟩, fun _ _ => Nat.zero_le _⟩
theorem Bk.below (h : Bk w g N D s p) (hb : Below w.heap.size w w') : Bk w' g N D s p := by
  obtain ⟨F, h⟩ := h
  exact ⟨F, (firm_bnk _ _ _ _ _).kept h (Kept.ofBelow (F := fun _ => False) hb) (fun _ _ h => h)⟩
theorem Rk.below (h : Rk w g N D s p) (hb : Below w.heap.size w w') : Rk w' g N D s p := by
  obtain ⟨F, h⟩ := h
  exact ⟨F, (firm_rbk _ _ _ _ _).kept h (Kept.ofBelow (F := fun _ => False) hb) (fun _ _ h => h)⟩
theorem Hold.bk (h : Hold B w0 w (star (bnk g N D s p) R)) : Bk w g N D s p := by
  obtain ⟨h1, h2, F, ⟨G, H, h3, h4⟩, h5⟩ := h
  exact ⟨G, h3⟩
theorem Hold.rk (h : Hold B w0 w (star (rbk g N D s p) R)) : Rk w g N D s p := by
  obtain ⟨h1, h2, F, ⟨G, H, h3, h4⟩, h5⟩ := h
  exact ⟨G, h3⟩
end
/-- The error of reading a disk's cells, and what is read of one. -/
def eR (p : Option Nat) (d : Dk) : Int := if p = some 0 then 21 else errD d.dead
def rdS (p : Option Nat) (d : Dk) (a : Nat) : ByteArray := if p = some 0 then noB else readB d.l d.q d.dead d.n (a : Int)
theorem eR_ok {p : Option Nat} {d : Dk} (h : eR p d = 0) : p ≠ some 0 ∧ d.dead = false := by
  unfold eR errD at h
  by_cases e : p = some 0
  · rw [if_pos e] at h; cases h
  · rw [if_neg e] at h
    cases hd : d.dead
    · exact ⟨e, rfl⟩
    · rw [hd] at h; cases h
theorem rdS_ok {p : Option Nat} {d : Dk} (h : eR p d = 0) {a : Nat} (ha : a < d.n) : rdS p d a = app d.l d.q a := by
  obtain ⟨h1, h2⟩ := eR_ok h
  unfold rdS readB
  rw [if_neg h1, h2, errA_ok d.n a ha, if_pos rfl]; rfl
theorem stE_at {N : Nat} {p : Option Nat} {i : Nat} (hi : i < N) (d : Dk) {a : Nat} (ha : a < d.n) : stE N p (i : Int) (errA d.dead d.n (a : Int)) = eR p d := by
  unfold stE eR
  rw [if_neg (out_not N i hi)]
  cases hd : d.dead
  · rw [errA_ok d.n a ha]; rfl
  · rw [errA_dead]; rfl
theorem rdB_at {N : Nat} {p : Option Nat} {i : Nat} (hi : i < N) (d : Dk) (a : Nat) : rdB N p (i : Int) (readB d.l d.q d.dead d.n (a : Int)) = rdS p d a := by
  unfold rdB rdS
  rw [if_neg (out_not N i hi)]
section
variable {w : World} {g N : Nat} {D : Nat → Dk} {s : Nat} {p : Option Nat}
theorem bread_at (h : Bk w g N D s p) {i : Nat} (hi : i < N) {a : Nat} (ha : a < (D i).n) : Calls Tryz.prog 51 #[.pointer (some ⟨g, 0, none⟩), .int .i64 (i : Int), .int .i64 (a : Int)] w fun e w' => e = .returned (.tuple #[.string (rdS p (D i) a), .int .i64 (eR p (D i))]) ∧ w' = w := by
  have h1 := bread_any h.hold (i : Int) (a : Int)
  rw [Int.toNat_natCast, stE_at hi _ ha, rdB_at hi] at h1
  exact h1
end
/-- What a chunk is bound to. -/
def plc (i s : Nat) : ByteArray := numB (i : Int) ++ numB (s : Int)
theorem plc_size (i s : Nat) : (plc i s).size = 16 := by unfold plc; rw [ByteArray.size_append, numB_size, numB_size]
/-- The cell of a chunk. -/
def clB17 (key nonce a plain : ByteArray) : ByteArray := nonce ++ slB key nonce a plain
theorem clB17_size (key nonce a plain : ByteArray) (hn : nonce.size = 12) : (clB17 key nonce a plain).size = plain.size + 28 := by
  unfold clB17; rw [ByteArray.size_append, slB_size, hn]; omega
/-- Is the cell's tag right? -/
def opQ (key a c : ByteArray) : Prop := (c.extract 12 c.size).extract (c.size - 28) (c.extract 12 c.size).size = atg key (c.extract 0 12) a ((c.extract 12 c.size).extract 0 (c.size - 28))
instance (key a c : ByteArray) : Decidable (opQ key a c) := by unfold opQ; infer_instance
/-- What a cell opens to. -/
def opE (key a c : ByteArray) : Int := if c.size = 0 then 0 else if c.size < 28 then 3 else if opQ key a c then 0 else 23
def opT (key a c : ByteArray) : ByteArray := if c.size = 0 then zB 32 else if c.size < 28 then noB else if opQ key a c then crB key (c.extract 0 12) ((c.extract 12 c.size).extract 0 (c.size - 28)) else noB
theorem cut12 (c : ByteArray) (h : 12 ≤ c.size) : (c.extract 12 c.size).size = c.size - 12 ∧ (c.extract 0 12).size = 12 := by
  rw [ByteArray.size_extract, ByteArray.size_extract]; omega
theorem op_seal (key nonce a plain : ByteArray) (hn : nonce.size = 12) : opE key a (clB17 key nonce a plain) = 0 ∧ opT key a (clB17 key nonce a plain) = plain := by
  have hs := clB17_size key nonce a plain hn
  have h1 : (clB17 key nonce a plain).extract 0 12 = nonce := cut_left _ _ _ hn
  have h2 : (clB17 key nonce a plain).extract 12 (clB17 key nonce a plain).size = slB key nonce a plain := cut_right _ _ _ _ hn (by rw [hs, slB_size]; omega)
  have h3 : (slB key nonce a plain).extract 0 plain.size = crB key nonce plain := slB_bare _ _ _ _
  have h4 : (slB key nonce a plain).extract plain.size (slB key nonce a plain).size = atg key nonce a (crB key nonce plain) := by rw [slB_size]; exact slB_last _ _ _ _
  have h5 : (clB17 key nonce a plain).size - 28 = plain.size := by omega
  have hq : opQ key a (clB17 key nonce a plain) := by
    unfold opQ
    rw [h2, h1, h5, h3, h4]
  refine ⟨?_, ?_⟩
  · unfold opE
    rw [if_neg (by omega), if_neg (by omega), if_pos hq]
  · unfold opT
    rw [if_neg (by omega), if_neg (by omega), if_pos hq, h2, h1, h5, h3, crB_twice]
theorem op_none (key a : ByteArray) : opE key a noB = 0 ∧ opT key a noB = zB 32 := ⟨if_pos rfl, if_pos rfl⟩
/-- A slab, as a value. -/
abbrev slV (pv : Value) (i n : Int) (key : ByteArray) : Value := .agg #[pv, .int .i64 i, .int .i64 n, .string key]
/-- Is it good, wherever it is asked from here on? -/
def GoodIs (w : World) (sv : Value) (b : Bool) : Prop := ∀ z, Below w.heap.size w z → Calls Tryz.prog 48 #[sv] z fun e w' => e = .returned (.bool b) ∧ Below z.heap.size z w'
theorem GoodIs.below {w w' : World} {sv : Value} {b : Bool} (h : GoodIs w sv b) (hb : Below w.heap.size w w') : GoodIs w' sv b := fun z hz => h z (hb.trans (hz.mono hb.size))
end Go.Proofs.YtnhkkhiajiiahaaGreatDoor
