/- Two pairs of texts compared. -/
import Derived.Test.YtdpcbiccbhlonabMatApply
import Derived.Laws.StructEq
import Derived.ChangeKeysEq
namespace Go.Proofs.Ytdpcbiccbhlonab
open Go.RowKit
set_option linter.unusedVariables false

theorem Try.guard44 : Try.prog.eqGuardType Try.prog.depth 44 = false := by kernel_rfl
theorem Try.cells19 : Try.prog.cellsOf 9 = 1 := by kernel_rfl
theorem beqB (a b : ByteArray) : (a.toList == b.toList) = decide (a = b) := by
  rw [← beq_toListBytes]
  obtain ⟨x⟩ := a
  obtain ⟨y⟩ := b
  show (x == y) = _
  exact Bool.eq_iff_iff.2 (by simp)
theorem eql_pair (w : World) (p q s0 s1 : ByteArray) : (binOp .eql 44 (.agg #[.string p, .string q]) (.agg #[.string s0, .string s1])).run Try.prog w = .ok (.bool (decide (p = s0 ∧ q = s1))) w := by
  obtain ⟨i0, hi, hz0, hz1, hz2⟩ := info_parts Try.info9
  rw [run_eql_struct, show (10000 : Nat) = 9999 + 1 from rfl, run_equalIn_array w 9999 _ _ Try.underlying44 hi]
  have h1 : ∀ (xs : Array Value) (j : Nat) (s : ByteArray), xs[j]? = some (.string s) → (part 9 xs (j * 1)).run Try.prog w = .ok (.string s) w := fun xs j s h =>
    run_part_plain w (by kernel_rfl) (by rw [Nat.mul_one]; exact h)
  have h2 : ∀ d (a b : ByteArray), (Op.equalIn (d + 1) 9 (.string a) (.string b)).run Try.prog w = .ok (a.toList == b.toList) w := fun d a b => run_equalIn_string w d 9 a b Try.underlying9
  rw [Try.cells19, show List.range 2 = [0, 1] from rfl]
  simp only [Op.eqItems, Sem.run_bind]
  have h2' : ∀ (a b : ByteArray), (Op.equalIn 9999 9 (.string a) (.string b)).run Try.prog w = .ok (decide (a = b)) w := fun a b => by rw [← beqB]; exact h2 9998 a b
  rw [h1 _ 0 p rfl]
  simp only [Result.andThen_ok]
  rw [h1 _ 0 s0 rfl]
  simp only [Result.andThen_ok]
  rw [h2']
  simp only [Result.andThen_ok]
  by_cases e0 : p = s0
  · have t0 : (!decide (p = s0)) = false := by simp [e0]
    rw [t0]
    simp only [Bool.false_eq_true, if_false, Sem.run_bind]
    rw [h1 _ 1 q rfl]
    simp only [Result.andThen_ok]
    rw [h1 _ 1 s1 rfl]
    simp only [Result.andThen_ok]
    rw [h2']
    simp only [Result.andThen_ok]
    by_cases e1 : q = s1
    · simp [e0, e1]
    · simp [e0, e1]
  · simp [e0]
end Go.Proofs.Ytdpcbiccbhlonab
