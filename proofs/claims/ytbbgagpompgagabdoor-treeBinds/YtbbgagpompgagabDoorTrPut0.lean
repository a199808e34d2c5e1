/- Parts of Put: a pair with another half; pairs of another length; the steps collected, and told backwards. -/
import Derived.Test.YtbbgagpompgagabDoorTrBuild
namespace Go.Proofs.YtbbgagpompgagabDoor
open Go.RowKit Go.PlainAid Go.Shelf
set_option linter.unusedVariables false
attribute [local go_sem] Oper.semAt_some

abbrev notPairV : Value := .func (.func 21) #[] #[]
/-- The steps, one behind the other. -/
def stepsL (d s k : Nat) : List Value := (List.range k).flatMap fun i => (stepV d s i).toList
theorem stepsL_succ (d s k : Nat) : stepsL d s (k + 1) = stepsL d s k ++ (stepV d s k).toList := by unfold stepsL; rw [List.range_succ, List.flatMap_append]; simp
theorem stepsL_length (d s k : Nat) : (stepsL d s k).length = k * 3 := by
  induction k with
  | zero => rfl
  | succ k ih => rw [stepsL_succ, List.length_append, ih]; simp [stepV]; omega
theorem stepsL_at (d s k i j : Nat) (hi : i < k) (v : Value) (hj : j < 3) (hv : (stepV d s i).toList[j]? = some v) : (stepsL d s k)[i * 3 + j]? = some v := by
  induction k with
  | zero => omega
  | succ k ih =>
    rw [stepsL_succ]
    by_cases h : i < k
    · rw [List.getElem?_append_left (by rw [stepsL_length]; omega)]; exact ih h
    · have : i = k := by omega
      subst this
      rw [List.getElem?_append_right (by rw [stepsL_length]; omega), stepsL_length, show i * 3 + j - i * 3 = j by omega]; exact hv
theorem Tryd.infoStep : (Tryd.prog.info? 44).map (fun i => (i.zero, i.size, i.bytes)) = some (some (.agg #[.int .i64 0, .int .i64 0, .int .i64 0]), 3, 24) := by kernel_rfl

theorem cells_new (w : World) (T : TypeId) (L : List Value) : ∀ i u, L[i]? = some u → (w.alloc (.cells L.toArray T)).cell? ((⟨w.heap.size, 0, none⟩ : Addr).add i) = some u := by
  intro i u h
  have hb := Blk.new w T L.toArray
  rw [List.toList_toArray] at hb
  rw [Go.WideShapes.add_plain, Nat.zero_add]
  exact hb.cell h
end Go.Proofs.YtbbgagpompgagabDoor
