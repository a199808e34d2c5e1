/- The inverse of a matrix: the program's own answer. -/
import Derived.Test.YtdpcbiccbhlonabMatWiden
namespace Go.Proofs.Ytdpcbiccbhlonab
open Go.RowKit Go.PlainAid
set_option linter.unusedVariables false

/-- What Invert answers of rows. -/
def InvPost (n : Nat) (L : Nat → Nat) (A : Mx) (e : Ending) (w' : World) : Prop :=
  (¬ Gd n L ∧ e = .returned (.tuple #[.slice none 0 0, .int .i64 4])) ∨
  (Gd n L ∧ n ≠ L 0 ∧ e = .returned (.tuple #[.slice none 0 0, .int .i64 7])) ∨
  (Gd n L ∧ n = L 0 ∧ e = .returned (.tuple #[.slice none 0 0, .int .i64 6]) ∧ ∃ c U, c < n ∧ Reach n (2 * n) (wideM n A) U ∧ (∀ r, r < n → ∀ j, j < c → U r j = idM r j) ∧ ∀ r, c ≤ r → r < n → U r c = 0) ∨
  (Gd n L ∧ n = L 0 ∧ ∃ a' U, e = .returned (.tuple #[.slice a' n n, .int .i64 0]) ∧ MatAt w' a' n (fun _ => n) (rightM n U) ∧ Reach n (2 * n) (wideM n A) U ∧ ∀ r, r < n → ∀ j, j < n → U r j = idM r j)

end Go.Proofs.Ytdpcbiccbhlonab
