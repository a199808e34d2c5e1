/- The tag of a text, by plain numbers; no Go text is named here. -/
import Derived.Test.YtnpebabffnjmmaaPoText
namespace Go.Proofs.Ytnpebabffnjmmaa
open Go.RowKit Go.PlainAid
set_option linter.unusedVariables false

set_option maxRecDepth 20000 in
theorem nt_append (a b : ByteArray) : nt (a ++ b) = nt a + 2 ^ (8 * a.size) * nt b := by
  unfold nt
  rw [ByteArray.size_append, num_split]
  congr 1
  · apply num_congr
    intro i hi
    unfold bn; rw [bt_left _ _ _ hi]
  · congr 1
    apply num_congr
    intro i hi
    unfold bn; rw [bt_right _ _ _ (by omega)]
    congr 2; omega
/-- A chunk of a text with a byte 1 behind it. -/
def ckB (s : ByteArray) (k : Nat) : ByteArray := s.extract (16 * k) (min (16 * k + 16) s.size)
def ckT (s : ByteArray) (k : Nat) : ByteArray := ckB s k ++ ⟨#[1]⟩
def ckN (s : ByteArray) (k : Nat) : Nat := nt (ckT s k)
set_option maxRecDepth 20000 in
theorem ckB_size (s : ByteArray) (k : Nat) : (ckB s k).size = min (16 * k + 16) s.size - 16 * k := by
  unfold ckB; rw [ByteArray.size_extract]; omega
set_option maxRecDepth 20000 in
theorem ckT_size (s : ByteArray) (k : Nat) : (ckT s k).size = min (16 * k + 16) s.size - 16 * k + 1 := by
  unfold ckT; rw [ByteArray.size_append, ckB_size]; rfl
set_option maxRecDepth 20000 in
theorem nt_one : nt ⟨#[1]⟩ = 1 := by decide +kernel
set_option maxRecDepth 20000 in
theorem ckN_lt (s : ByteArray) (k : Nat) : ckN s k < 2 ^ 129 := by
  unfold ckN ckT
  rw [nt_append, nt_one, Nat.mul_one]
  have h1 := nt_lt (ckB s k)
  have h2 : (ckB s k).size ≤ 16 := by rw [ckB_size]; omega
  have h3 : 2 ^ (8 * (ckB s k).size) ≤ 2 ^ 128 := Nat.pow_le_pow_right (by omega) (by omega)
  have h4 : (2 : Nat) ^ 129 = 2 ^ 128 + 2 ^ 128 := by decide
  omega
set_option maxRecDepth 20000 in
theorem ckN_pP (s : ByteArray) (k : Nat) : ckN s k < pP := Nat.lt_trans (ckN_lt s k) (by decide +kernel)
/-- The accumulator behind k chunks. -/
def pac (r : Nat) (s : ByteArray) : Nat → Nat
  | 0 => 0
  | k + 1 => (pac r s k + ckN s k) * r % pP
set_option maxRecDepth 20000 in
theorem pac_lt (r : Nat) (s : ByteArray) (k : Nat) : pac r s k < pP := by
  cases k with
  | zero => exact pP_pos
  | succ k => exact Nat.mod_lt _ pP_pos
set_option maxRecDepth 20000 in
theorem pac_130 (r : Nat) (s : ByteArray) (k : Nat) : pac r s k < 2 ^ 130 := Nat.lt_trans (pac_lt r s k) (by decide +kernel)
set_option maxRecDepth 20000 in
theorem pac_mod (r : Nat) (s : ByteArray) (k : Nat) : pac r s (k + 1) = ((pac r s k + ckN s k) % pP) * r % pP := by
  rw [pac, Nat.mod_mul_mod]
end Go.Proofs.Ytnpebabffnjmmaa
