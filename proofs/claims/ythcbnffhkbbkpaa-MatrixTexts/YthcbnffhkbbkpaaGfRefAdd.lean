/- What the document's own sum of two elements answers. -/
import Derived.Test.YthcbnffhkbbkpaaRefXor
import Derived.Test.YthcbnffhkbbkpaaGfRef
namespace Go.Proofs.Ythcbnffhkbbkpaa
open Go.RowKit Go.PlainAid
set_option linter.unusedVariables false

/-- One byte as a text. -/
def oneB (a : Nat) : ByteArray := strOfNums [(a : Int)]
theorem oneB_size (a : Nat) : (oneB a).size = 1 := by unfold oneB; rw [strOfNums_size]; rfl
theorem oneB_get (a : Nat) (ha : a < 256) : bt (oneB a) 0 = (a : Int) := by
  unfold oneB
  rw [bt_str _ _ 0 (by simp)]
  · rfl
  · intro x hx; simp at hx; omega
theorem oneB_conv (w : World) (a : Nat) :
    (convert 48 9 (.slice (some ⟨w.heap.size, 0, none⟩) 1 1)).run Try.prog (w.alloc (.cells #[.int .u8 (a : Int)] 5)) = .ok (.string (oneB a)) (w.alloc (.cells #[.int .u8 (a : Int)] 5)) :=
  convert_owned (base := w.heap.size) (n := 1) (xs := [(a : Int)]) ⟨rfl, .inr ⟨w.heap.size, 1, _, rfl, Nat.le_refl _, heap_alloc_new w _, Nat.le_refl _, by unfold maxLen; omega, rfl, rfl⟩⟩ rfl

theorem refAdd_any (a b : Nat) (ha : a < 256) (hb : b < 256) (w : World) :
    Calls Try.prog 38 #[.int .u8 (a : Int), .int .u8 (b : Int)] w fun e w' => e = .returned (.int .u8 ((a ^^^ b : Nat) : Int)) ∧ Below w.heap.size w w' := by
  have c1 := oneB_conv w a
  have c2 := oneB_conv (w.alloc (.cells #[.int .u8 (a : Int)] 5)) b
  rw [show (w.alloc (.cells #[.int .u8 (a : Int)] 5)).heap.size = w.heap.size + 1 by simp] at c2
  have sa := oneB_size a
  have sb := oneB_size b
  have hx : bt (xorB (oneB a) (oneB b)) 0 = ((a ^^^ b : Nat) : Int) := by
    rw [bt_xorB _ _ 0 (by rw [sa, sb]; decide), oneB_get a ha, oneB_get b hb]; rfl
  have hsz : (xorB (oneB a) (oneB b)).size = 1 := by rw [xorB_size, sa, sb]; rfl
  have hg := get_bt (xorB (oneB a) (oneB b))
  go_enter Try.func38, Try.ntmps38
  go_wp2_with fail
  go_at_call 54
  refine (refXor_any (oneB a) (oneB b) _ (by omega) (by omega)).mono ?_
  rintro e w1 ⟨rfl, hbel⟩
  generalize xorB (oneB a) (oneB b) = S at hx hsz hg ⊢
  go_wp2_with fail
  go_ret
  refine ⟨ret_of ?_, ?_⟩
  · rfl
  · refine Below.trans ?_ (hbel.mono ?_)
    · exact ((Below.refl _ _).alloc (Nat.le_refl _) _).alloc (by simp) _
    · simp; omega
end Go.Proofs.Ythcbnffhkbbkpaa
