/- The key stream of a key, a nonce and a counter, on plain words and bytes: quarters, rounds, blocks, and a text combined with it; no Go function is walked here. -/
import Derived.Test.YtnpebabffnjmmaaCut
namespace Go.Proofs.Ytnpebabffnjmmaa
open Go.RowKit Go.PlainAid
set_option linter.unusedVariables false

def W32 (x : Int) : Prop := 0 ≤ x ∧ x < 4294967296
/-- Two words added. -/
def ad (x y : Int) : Int := (x + y) % 4294967296
theorem ad_lo (x y : Int) : W32 (ad x y) := by unfold ad W32; omega
/-- Two words combined, and turned by n places. -/
def xtr (n : Nat) (z x : Int) : Int := turn n (bits .xor .u32 z x)
theorem xtr_lo (n : Nat) (z x : Int) : W32 (xtr n z x) := turn_lo n _ (xor_lo z x).1 (xor_lo z x).2

/-- A quarter of a round. -/
def q1a (a b c d : Int) : Int := ad a b
def q1d (a b c d : Int) : Int := xtr 16 d (q1a a b c d)
def q1c (a b c d : Int) : Int := ad c (q1d a b c d)
def q1b (a b c d : Int) : Int := xtr 12 b (q1c a b c d)
def qa (a b c d : Int) : Int := ad (q1a a b c d) (q1b a b c d)
def qd (a b c d : Int) : Int := xtr 8 (q1d a b c d) (qa a b c d)
def qc (a b c d : Int) : Int := ad (q1c a b c d) (qd a b c d)
def qb (a b c d : Int) : Int := xtr 7 (q1b a b c d) (qc a b c d)
theorem qa_lo (a b c d : Int) : W32 (qa a b c d) := ad_lo _ _
theorem qb_lo (a b c d : Int) : W32 (qb a b c d) := xtr_lo _ _ _
theorem qc_lo (a b c d : Int) : W32 (qc a b c d) := ad_lo _ _
theorem qd_lo (a b c d : Int) : W32 (qd a b c d) := xtr_lo _ _ _

/-- Sixteen words, each a word. -/
def Ok16 (S : Nat → Int) : Prop := ∀ i, i < 16 → 0 ≤ S i ∧ S i < 4294967296
/-- A quarter of the words at four places. -/
def qS (S : Nat → Int) (a b c d : Nat) (i : Nat) : Int :=
  if i = d then qd (S a) (S b) (S c) (S d) else if i = c then qc (S a) (S b) (S c) (S d) else if i = b then qb (S a) (S b) (S c) (S d) else if i = a then qa (S a) (S b) (S c) (S d) else S i
theorem qS_ok (S : Nat → Int) (a b c d : Nat) (h : Ok16 S) : Ok16 (qS S a b c d) := by
  intro i hi
  unfold qS
  split
  · exact qd_lo _ _ _ _
  · split
    · exact qc_lo _ _ _ _
    · split
      · exact qb_lo _ _ _ _
      · split
        · exact qa_lo _ _ _ _
        · exact h i hi
/-- The first k quarters of a round whose columns lean by n. -/
def rq (S : Nat → Int) (n : Nat) : Nat → Nat → Int
  | 0 => S
  | k + 1 => qS (rq S n k) k (4 + (k + n) % 4) (8 + (k + 2 * n) % 4) (12 + (k + 3 * n) % 4)
theorem rq_ok (S : Nat → Int) (n k : Nat) (h : Ok16 S) : Ok16 (rq S n k) := by
  induction k with
  | zero => exact h
  | succ k ih => exact qS_ok _ _ _ _ _ ih
/-- k rounds. -/
def rn (S : Nat → Int) : Nat → Nat → Int
  | 0 => S
  | k + 1 => rq (rn S k) (k % 2) 4
theorem rn_ok (S : Nat → Int) (k : Nat) (h : Ok16 S) : Ok16 (rn S k) := by
  induction k with
  | zero => exact h
  | succ k ih => exact rq_ok _ _ _ ih
theorem rq0 (S : Nat → Int) : rq S 0 4 = qS (qS (qS (qS S 0 4 8 12) 1 5 9 13) 2 6 10 14) 3 7 11 15 := rfl
theorem rq1 (S : Nat → Int) : rq S 1 4 = qS (qS (qS (qS S 0 5 10 15) 1 6 11 12) 2 7 8 13) 3 4 9 14 := rfl
theorem rn_two (S : Nat → Int) (k : Nat) : rn S (2 * (k + 1)) = rq (rq (rn S (2 * k)) 0 4) 1 4 := by
  rw [show 2 * (k + 1) = (2 * k + 1) + 1 by omega, rn, rn, show (2 * k + 1) % 2 = 1 by omega, show 2 * k % 2 = 0 by omega]
/-- A block's words, and its bytes. -/
def out (S : Nat → Int) (i : Nat) : Int := ad (rn S 20 i) (S i)
theorem out_lo (S : Nat → Int) (i : Nat) : 0 ≤ out S i ∧ out S i < 4294967296 := ad_lo _ _
def blkB (S : Nat → Int) : ByteArray := strOfNums (joinF four (out S) 16)
theorem four_length (x : Int) : (four x).length = 4 := rfl
theorem blkB_size (S : Nat → Int) : (blkB S).size = 64 := by unfold blkB; rw [strOfNums_size, joinF_length four four_length]

theorem qS_congr (S R : Nat → Int) (a b c d : Nat) (ha : a < 16) (hb : b < 16) (hc : c < 16) (hd : d < 16) (h : ∀ i, i < 16 → S i = R i) : ∀ i, i < 16 → qS S a b c d i = qS R a b c d i := by
  intro i hi
  unfold qS
  rw [h a ha, h b hb, h c hc, h d hd, h i hi]
theorem rq_congr (S R : Nat → Int) (n k : Nat) (hk : k ≤ 4) (h : ∀ i, i < 16 → S i = R i) : ∀ i, i < 16 → rq S n k i = rq R n k i := by
  induction k with
  | zero => exact h
  | succ k ih => exact qS_congr _ _ _ _ _ _ (by omega) (by omega) (by omega) (by omega) (ih (by omega))
theorem rn_congr (S R : Nat → Int) (k : Nat) (h : ∀ i, i < 16 → S i = R i) : ∀ i, i < 16 → rn S k i = rn R k i := by
  induction k with
  | zero => exact h
  | succ k ih => exact rq_congr _ _ _ 4 (by omega) ih
theorem blkB_congr (S R : Nat → Int) (h : ∀ i, i < 16 → S i = R i) : blkB S = blkB R := by
  unfold blkB
  rw [joinF_congr four (out S) (out R) 16 (fun i hi => by unfold out; rw [rn_congr S R 20 h i hi, h i hi])]

/-- The state that a block is made of. -/
def cst (i : Nat) : Int := if i = 0 then 1634760805 else if i = 1 then 857760878 else if i = 2 then 2036477234 else 1797285236
def stI (key nonce : ByteArray) (c : Int) (i : Nat) : Int :=
  if i < 4 then cst i else if i < 12 then wordsL le4 key (i - 4) else if i < 13 then c else wordsL le4 nonce (i - 13)
theorem words_lo' (b : ByteArray) (i : Nat) : 0 ≤ wordsL le4 b i ∧ wordsL le4 b i < 4294967296 := by
  have h0 := bt_range b (i * 4)
  have h1 := bt_range b (i * 4 + 1)
  have h2 := bt_range b (i * 4 + 2)
  have h3 := bt_range b (i * 4 + 3)
  unfold wordsL le4
  omega
theorem stI_ok (key nonce : ByteArray) (c : Int) (h : W32 c) : Ok16 (stI key nonce c) := by
  intro i hi
  unfold stI
  split
  · unfold cst
    split
    · decide
    · split
      · decide
      · split <;> decide
  · split
    · exact words_lo' _ _
    · split
      · exact h
      · exact words_lo' _ _

/-- The key stream from a counter on, byte by byte. -/
def ks (key nonce : ByteArray) (c : Int) (i : Nat) : Int := bt (blkB (stI key nonce ((c + (i / 64 : Nat)) % 4294967296))) (i % 64)
theorem ks_range (key nonce : ByteArray) (c : Int) (i : Nat) : 0 ≤ ks key nonce c i ∧ ks key nonce c i ≤ 255 := ⟨bt_nonneg _ _, bt_le _ _⟩
theorem ks_on (key nonce : ByteArray) (c : Int) (k i : Nat) : ks key nonce ((c + (k : Int)) % 4294967296) i = ks key nonce c (64 * k + i) := by
  unfold ks
  rw [show ((c + (k : Int)) % 4294967296 + ((i / 64 : Nat) : Int)) % 4294967296 = (c + (((64 * k + i) / 64 : Nat) : Int)) % 4294967296 by omega, show (64 * k + i) % 64 = i % 64 by omega]
/-- The bytes of a text, combined with the key stream. -/
def cryL (f : Nat → Int) (s : ByteArray) (n : Nat) : List Int := (List.range n).map fun i => bits .xor .u8 (bt s i) (f i)
def cryB (f : Nat → Int) (s : ByteArray) : ByteArray := strOfNums (cryL f s s.size)
theorem cryB_size (f : Nat → Int) (s : ByteArray) : (cryB f s).size = s.size := by
  unfold cryB; rw [strOfNums_size]; simp [cryL]
theorem cryL_range (f : Nat → Int) (hf : ∀ i, 0 ≤ f i ∧ f i ≤ 255) (s : ByteArray) (n : Nat) : ∀ x ∈ cryL f s n, 0 ≤ x ∧ x ≤ 255 := by
  intro x hx
  obtain ⟨i, _, rfl⟩ := List.mem_map.1 hx
  exact xor8_range _ _ (bt_nonneg s i) (bt_le s i) (hf i).1 (hf i).2
theorem bt_cryB (f : Nat → Int) (hf : ∀ i, 0 ≤ f i ∧ f i ≤ 255) (s : ByteArray) (i : Nat) (h : i < s.size) : bt (cryB f s) i = (((bt s i).toNat ^^^ (f i).toNat : Nat) : Int) := by
  unfold cryB
  rw [bt_str _ (cryL_range f hf s s.size) i (by simpa [cryL] using h)]
  unfold cryL
  rw [List.getElem_map, List.getElem_range]
  have h1 := bt_nonneg s i
  have h2 := bt_le s i
  have h3 := hf i
  rw [u8_xor _ _ h1 (by omega) h3.1 (by omega)]
theorem cryB_twice (f : Nat → Int) (hf : ∀ i, 0 ≤ f i ∧ f i ≤ 255) (s : ByteArray) : cryB f (cryB f s) = s := by
  apply bt_ext
  · rw [cryB_size, cryB_size]
  · intro i hi
    rw [cryB_size, cryB_size] at hi
    rw [bt_cryB f hf _ i (by rw [cryB_size]; exact hi), bt_cryB f hf s i hi]
    have h1 := bt_nonneg s i
    simp only [Int.toNat_natCast, Nat.xor_assoc, Nat.xor_self, Nat.xor_zero]
    omega
theorem cryB_pair (f : Nat → Int) (hf : ∀ i, 0 ≤ f i ∧ f i ≤ 255) (s t : ByteArray) (h : s.size = t.size) : xorB (cryB f s) (cryB f t) = xorB s t := by
  apply bt_ext
  · simp only [xorB_size, cryB_size]
  · intro i hi
    simp only [xorB_size, cryB_size] at hi
    rw [bt_xorB _ _ i (by simp only [cryB_size]; exact hi), bt_xorB s t i hi, bt_cryB f hf s i (by omega), bt_cryB f hf t i (by omega)]
    simp only [Int.toNat_natCast]
    rw [Nat.xor_assoc, ← Nat.xor_assoc (f i).toNat, Nat.xor_comm (f i).toNat, Nat.xor_assoc (bt t i).toNat, Nat.xor_self, Nat.xor_zero]
end Go.Proofs.Ytnpebabffnjmmaa
