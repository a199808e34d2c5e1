/- What the document's own product answers, for every two elements: the product by doubling. -/
import Derived.Test.YtdpcbiccbhlonabGfConv
import Derived.Test.YtdpcbiccbhlonabGfMul
import Derived.Below
import Derived.OneCell
import Derived.OwnWalk
import Derived.Laws.OwnMore
namespace Go.Proofs.Ytdpcbiccbhlonab
open Go.RowKit
set_option linter.unusedVariables false

/-- The modulus lies in the block g. -/
def rowM : List Value := (List.range 9).map fun j => .int .i64 (co 285 j : Int)
theorem rowM_is : rowM = [.int .i64 1, .int .i64 0, .int .i64 1, .int .i64 1, .int .i64 1, .int .i64 0, .int .i64 0, .int .i64 0, .int .i64 1] := by rfl
theorem half_nat (a k : Nat) : a / 2 ^ k / 2 = a / 2 ^ (k + 1) := by rw [Nat.div_div_eq_div_mul, ← Nat.pow_succ]

theorem low_bits (M v : Nat) (h : v < 8) : 2 * (M % 256 / 2 ^ (v + 1)) + co M v = M % 256 / 2 ^ v := by
  unfold co
  have : v = 0 ∨ v = 1 ∨ v = 2 ∨ v = 3 ∨ v = 4 ∨ v = 5 ∨ v = 6 ∨ v = 7 := by omega
  rcases this with rfl | rfl | rfl | rfl | rfl | rfl | rfl | rfl <;> simp only [Nat.reducePow, Nat.reduceAdd] <;> omega
theorem rout_one (N t s : Nat) (hs : s + t = 7) (h : co (rout N t) (s + 8) = 1) : rout N (t + 1) = rin s (rout N t) 9 := by
  rw [rin_9, rout, show 15 - t = s + 8 by omega, h, show 7 - t = s by omega, Nat.one_mul]
theorem rout_none (N t s : Nat) (hs : s + t = 7) (h : co (rout N t) (s + 8) = 0) : rout N (t + 1) = rout N t := by
  rw [rout, show 15 - t = s + 8 by omega, h, Nat.zero_mul, Nat.xor_zero]

end Go.Proofs.Ytdpcbiccbhlonab
