/- What a tag is of, on plain bytes: texts filled up, and their lengths; what is sealed; no Go function is walked here. -/
import Derived.Test.YtnpebabffnjmmaaChPlain
import Derived.Test.YtnpebabffnjmmaaPoText
namespace Go.Proofs.Ytnpebabffnjmmaa
open Go.RowKit Go.PlainAid
set_option linter.unusedVariables false

/-- How many noughts fill n bytes up. -/
def upN (n : Nat) : Nat := (16 - n % 16) % 16
set_option maxRecDepth 20000 in
theorem upN_lt (n : Nat) : upN n < 16 := by unfold upN; omega
set_option maxRecDepth 20000 in
theorem upN_mod (n : Nat) : (n + upN n) % 16 = 0 := by unfold upN; omega
/-- n noughts. -/
def zt (n : Nat) : ByteArray := strOfNums (List.replicate n 0)
set_option maxRecDepth 20000 in
theorem zt_size (n : Nat) : (zt n).size = n := by unfold zt; rw [strOfNums_size, List.length_replicate]
set_option maxRecDepth 20000 in
theorem bt_zt (n i : Nat) : bt (zt n) i = 0 := by
  by_cases h : i < n
  · unfold zt
    rw [bt_str _ (fun x hx => by rw [(List.mem_replicate.1 hx).2]; omega) i (by simpa using h), List.getElem_replicate]
  · exact bt_out _ _ (by rw [zt_size]; omega)
/-- A text filled up. -/
def pdB (s : ByteArray) : ByteArray := s ++ zt (upN s.size)
set_option maxRecDepth 20000 in
theorem pdB_size (s : ByteArray) : (pdB s).size = s.size + upN s.size := by unfold pdB; rw [ByteArray.size_append, zt_size]
set_option maxRecDepth 20000 in
theorem bt_pdB (s : ByteArray) (i : Nat) : bt (pdB s) i = bt s i := by
  unfold pdB
  by_cases h : i < s.size
  · rw [bt_left _ _ _ h]
  · rw [bt_right _ _ _ (by omega), bt_zt, bt_out _ _ (by omega)]
/-- Two lengths, in eight bytes each. -/
def lnB (a b : Nat) : ByteArray := leB a 8 ++ leB b 8
set_option maxRecDepth 20000 in
theorem lnB_size (a b : Nat) : (lnB a b).size = 16 := by unfold lnB; rw [ByteArray.size_append, leB_size, leB_size]
/-- What a tag is of. -/
def mcB (a c : ByteArray) : ByteArray := pdB a ++ pdB c ++ lnB a.size c.size
set_option maxRecDepth 20000 in
theorem mcB_size (a c : ByteArray) : (mcB a c).size = a.size + upN a.size + (c.size + upN c.size) + 16 := by
  unfold mcB; rw [ByteArray.size_append, ByteArray.size_append, pdB_size, pdB_size, lnB_size]
/-- The tag's key. -/
def kyB (key nonce : ByteArray) : ByteArray := (blkB (stI key nonce 0)).extract 0 32
set_option maxRecDepth 20000 in
theorem kyB_size (key nonce : ByteArray) : (kyB key nonce).size = 32 := by unfold kyB; rw [ByteArray.size_extract, blkB_size]; rfl
/-- A text combined with the key stream from the counter 1 on. -/
def crB (key nonce p : ByteArray) : ByteArray := cryB (ks key nonce 1) p
set_option maxRecDepth 20000 in
theorem crB_size (key nonce p : ByteArray) : (crB key nonce p).size = p.size := cryB_size _ _
set_option maxRecDepth 20000 in
theorem crB_twice (key nonce p : ByteArray) : crB key nonce (crB key nonce p) = p := cryB_twice _ (ks_range key nonce 1) p
set_option maxRecDepth 20000 in
theorem cut_left (a b : ByteArray) (n : Nat) (h : a.size = n) : (a ++ b).extract 0 n = a := by
  apply bt_ext
  · rw [ByteArray.size_extract, ByteArray.size_append]; omega
  · intro i hi
    rw [ByteArray.size_extract, ByteArray.size_append] at hi
    rw [bt_cut _ 0 n i (by rw [ByteArray.size_append]; omega) (by omega), Nat.zero_add, bt_left _ _ _ (by omega)]
set_option maxRecDepth 20000 in
theorem cut_right (a b : ByteArray) (n m : Nat) (h : a.size = n) (hm : m = n + b.size) : (a ++ b).extract n m = b := by
  apply bt_ext
  · rw [ByteArray.size_extract, ByteArray.size_append]; omega
  · intro i hi
    rw [ByteArray.size_extract, ByteArray.size_append] at hi
    rw [bt_cut _ n m i (by rw [ByteArray.size_append]; omega) (by omega), bt_right _ _ _ (by omega)]
    congr 1; omega
set_option maxRecDepth 20000 in
theorem strN_append (a b : List Int) : strOfNums (a ++ b) = strOfNums a ++ strOfNums b := by
  apply ByteArray.ext
  rw [ByteArray.data_append]
  unfold strOfNums
  simp
/-- The words of two lengths. -/
def lw4 (a b : Nat) (i : Nat) : Int := ((if i < 2 then dg 32 a i else dg 32 b (i - 2) : Nat) : Int)
set_option maxRecDepth 20000 in
theorem lw4_lo (a b i : Nat) : 0 ≤ lw4 a b i ∧ lw4 a b i < 4294967296 := by
  unfold lw4
  have h1 := dg_lt 32 a i
  have h2 := dg_lt 32 b (i - 2)
  rw [show (2 : Nat) ^ 32 = 4294967296 from rfl] at h1 h2
  split <;> omega
set_option maxRecDepth 20000 in
theorem lw4_text (a b : Nat) : strOfNums (joinF four (lw4 a b) 4) = lnB a b := by
  have ha := join_dg a 2
  have hb := join_dg b 2
  rw [joinF_succ, joinF_succ] at ha hb
  rw [joinF_succ, joinF_succ, joinF_succ, joinF_succ, List.append_assoc, List.append_assoc]
  have e0 : joinF four (lw4 a b) 0 = [] := rfl
  unfold lnB leB
  rw [← strN_append, ← ha, ← hb]
  rfl
end Go.Proofs.Ytnpebabffnjmmaa
