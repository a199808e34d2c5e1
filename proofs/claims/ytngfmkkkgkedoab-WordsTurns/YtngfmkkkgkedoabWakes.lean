/- What the law's own opening test answers: true, in whatever memory. -/
import Derived.Test.YtngfmkkkgkedoabSplit
import Derived.Test.YtngfmkkkgkedoabTurn
namespace Go.Proofs.Ytngfmkkkgkedoab
open Go.RowKit Go.PlainAid
set_option linter.unusedVariables false

theorem wake_le : wordsL le4 ⟨#[1, 2, 3, 4]⟩ 0 = 67305985 := by decide
theorem wake_be : wordsL be4 ⟨#[1, 2, 3, 4]⟩ 0 = 16909060 := by decide
theorem wake_turn : turn ((1 : Int) % 32).toNat 2147483649 = 3 := by decide

theorem little_wake (w : World) :
    Calls Try.prog 7 #[.string ⟨#[1, 2, 3, 4]⟩] w fun e w' => e = .returned (.tuple #[.slice (some ⟨w.heap.size, 0, none⟩) 1 1, .int .i64 0]) ∧
      w'.cell? ⟨w.heap.size, 0, none⟩ = some (.int .u32 67305985) ∧ w.heap.size < w'.heap.size ∧ Below w.heap.size w w' := by
  refine (little_even ⟨#[1, 2, 3, 4]⟩ w (by decide) (by decide)).mono fun e w' ⟨he, ho, hb⟩ => ⟨he, ?_, (ho.lt w.heap.size rfl).2, hb⟩
  rw [ho.cellAt 0 (by decide), ← wake_le]
  rfl
theorem big_wake (w : World) :
    Calls Try.prog 8 #[.string ⟨#[1, 2, 3, 4]⟩] w fun e w' => e = .returned (.tuple #[.slice (some ⟨w.heap.size, 0, none⟩) 1 1, .int .i64 0]) ∧
      w'.cell? ⟨w.heap.size, 0, none⟩ = some (.int .u32 16909060) ∧ w.heap.size < w'.heap.size ∧ Below w.heap.size w w' := by
  refine (big_even ⟨#[1, 2, 3, 4]⟩ w (by decide) (by decide)).mono fun e w' ⟨he, ho, hb⟩ => ⟨he, ?_, (ho.lt w.heap.size rfl).2, hb⟩
  rw [ho.cellAt 0 (by decide), ← wake_be]
  rfl

theorem left_wake (w : World) : Calls Try.prog 5 #[.int .u32 2147483649, .int .i64 1] w fun e w' => e = .returned (.int .u32 3) ∧ w' = w :=
  (left_any 2147483649 1 (by decide) (by decide) w).mono fun e w' ⟨he, hw⟩ => ⟨by rw [he, wake_turn], hw⟩

theorem wakes_any (w : World) : Calls Try.prog 4 #[] w fun e w' => e = .returned (.bool true) ∧ Below w.heap.size w w' := by
  go_enter Try.func4, Try.ntmps4
  go_wp2_with fail
  go_at_call 7
  refine (little_wake _).mono ?_
  rintro e w1 ⟨rfl, hc1, hz1, hb1⟩
  go_wp2_with fail
  go_at_call 8
  refine (big_wake _).mono ?_
  rintro e w2 ⟨rfl, hc2, hz2, hb2⟩
  have hc1' : w2.cell? ⟨w.heap.size, 0, none⟩ = some (.int .u32 67305985) := (hb2.cell (p := ⟨w.heap.size, 0, none⟩) hz1).trans hc1
  go_wp2_with (go_at_call 5; refine (left_wake _).mono ?_; rintro e w3 ⟨rfl, rfl⟩)
  go_ret
  exact ⟨rfl, hb1.trans (hb2.mono hb1.size)⟩
end Go.Proofs.Ytngfmkkkgkedoab
