/- The bytes of an act. -/
import Derived.Test.YtfepmafjkgjmmaaDkImg
namespace Go.Proofs.Ytfepmafjkgjmmaa
open Go.RowKit Go.PlainAid
set_option linter.unusedVariables false

/-- A text, and so many times more of it. -/
def rep (s : ByteArray) : Nat → ByteArray
  | 0 => s
  | k + 1 => rep s k ++ s
theorem rep_size (s : ByteArray) (k : Nat) : (rep s k).size = s.size * (k + 1) := by
  induction k with
  | zero => simp [rep]
  | succ k ih => simp only [rep, ByteArray.size_append, ih, Nat.mul_add, Nat.mul_one]
def cut100 (s : ByteArray) : ByteArray := s.extract 0 (min s.size 100)
theorem cut100_size (s : ByteArray) : (cut100 s).size ≤ 100 := by unfold cut100; rw [ByteArray.size_extract]; omega
/-- How many times more. -/
def more (n : Int) : Nat := (max 0 n % 30).toNat
theorem more_lt (n : Int) : more n < 30 := by unfold more; omega
def bytesB (s : ByteArray) (n : Int) : ByteArray := rep (cut100 s) (more n)
theorem bytesB_size (s : ByteArray) (n : Int) : (bytesB s n).size ≤ 3000 := by
  unfold bytesB
  rw [rep_size]
  have h1 := cut100_size s
  have h2 := more_lt n
  calc (cut100 s).size * (more n + 1) ≤ 100 * 30 := Nat.mul_le_mul h1 (by omega)
    _ = 3000 := rfl
/-- An act. -/
abbrev actV (d a : Int) (s : ByteArray) (n : Int) (k : Value) (x : Bool) : Value := .agg #[.int .i64 d, .int .i64 a, .string s, .int .i64 n, k, .bool x]
end Go.Proofs.Ytfepmafjkgjmmaa
