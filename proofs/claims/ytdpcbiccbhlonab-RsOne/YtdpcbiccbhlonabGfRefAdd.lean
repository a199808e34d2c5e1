/- What the document's own sum of two elements answers. -/
import Derived.Test.YtdpcbiccbhlonabRefXor
import Derived.Test.YtdpcbiccbhlonabGfRef
namespace Go.Proofs.Ytdpcbiccbhlonab
open Go.RowKit Go.PlainAid
set_option linter.unusedVariables false

/-- One byte as a text. -/
def oneB (a : Nat) : ByteArray := strOfNums [(a : Int)]
theorem oneB_size (a : Nat) : (oneB a).size = 1 := by unfold oneB; rw [strOfNums_size]; rfl
theorem oneB_get (a : Nat) (ha : a < 256) : bt (oneB a) 0 = (a : Int) := by
  unfold oneB
  rw [bt_str _ _ 0 (by simp)]
  · rfl
  · intro x hx; simp at hx; omega
theorem oneB_conv (w : World) (a : Nat) :
    (convert 28 9 (.slice (some ⟨w.heap.size, 0, none⟩) 1 1)).run Try.prog (w.alloc (.cells #[.int .u8 (a : Int)] 5)) = .ok (.string (oneB a)) (w.alloc (.cells #[.int .u8 (a : Int)] 5)) :=
  convert_owned (base := w.heap.size) (n := 1) (xs := [(a : Int)]) ⟨rfl, .inr ⟨w.heap.size, 1, _, rfl, Nat.le_refl _, heap_alloc_new w _, Nat.le_refl _, by unfold maxLen; omega, rfl, rfl⟩⟩ rfl

end Go.Proofs.Ytdpcbiccbhlonab
