/- The unit matrix, the matrix of powers and the product of two matrices: the program's own answers. -/
import Derived.Test.YtocgoafmjggnmabMatAcc
import Derived.Test.YtocgoafmjggnmabDet
import Derived.Test.YtocgoafmjggnmabGfPow
namespace Go.Proofs.Ytocgoafmjggnmab
open Go.RowKit
set_option linter.unusedVariables false

theorem gfAdd_E (a b : E) (w : World) : Calls Try.prog 10 #[.int .u8 (a.v : Int), .int .u8 (b.v : Int)] w fun e w' => e = .returned (.int .u8 ((a + b).v : Int)) ∧ w' = w := gfAdd_any a.v b.v a.h b.h w
theorem gfMul_E (a b : E) (w : World) : Calls Try.prog 11 #[.int .u8 (a.v : Int), .int .u8 (b.v : Int)] w fun e w' => e = .returned (.int .u8 ((a * b).v : Int)) ∧ w' = w := gfMul_any a.v b.v a.h b.h w

def two : E := ⟨2, by decide⟩
def powM : Mx := fun r c => pw two (r * c)
end Go.Proofs.Ytocgoafmjggnmab
