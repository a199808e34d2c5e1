/- What the Go function ChachaQuarter answers: true, for every four words. -/
import Derived.Test.YtajkfjafhigcpaaWakes
import Derived.Laws.StructEq
import Derived.ChangeKeysEq
namespace Go.Proofs.Ytajkfjafhigcpaa
open Go.RowKit Go.PlainAid
set_option linter.unusedVariables false

/-- Four words are the same as themselves. -/
theorem same_four (w : World) (a b c d : Int) : (Op.equalIn 10000 23 (.agg #[.int .u32 a, .int .u32 b, .int .u32 c, .int .u32 d]) (.agg #[.int .u32 a, .int .u32 b, .int .u32 c, .int .u32 d])).run Try.prog w = .ok true w := by
  obtain ⟨i0, hi, hz0, hz1, hz2⟩ := info_parts Try.info22
  rw [show (10000 : Nat) = 9999 + 1 from rfl, run_equalIn_array w 9999 _ _ Try.underlying23 hi]
  have h1 : ∀ (xs : Array Value) (j : Nat) (n : Int), xs[j]? = some (.int .u32 n) → (part 22 xs (j * 1)).run Try.prog w = .ok (.int .u32 n) w := fun xs j n h =>
    run_part_plain w (by kernel_rfl) (by rw [Nat.mul_one]; exact h)
  have h2 : ∀ (n : Int), (Op.equalIn 9999 22 (.int .u32 n) (.int .u32 n)).run Try.prog w = .ok true w := fun n => by
    rw [show (9999 : Nat) = 9998 + 1 from rfl, run_equalIn_int w 9998 22 .u32 .u32 n n Try.underlying22]
    simp
  rw [show Try.prog.cellsOf 22 = 1 by kernel_rfl, show List.range 4 = [0, 1, 2, 3] from rfl]
  simp only [Op.eqItems, Sem.run_bind]
  rw [h1 _ 0 a rfl]
  simp only [Result.andThen_ok]
  rw [h1 _ 0 a rfl]
  simp only [Result.andThen_ok]
  rw [h2]
  simp only [Result.andThen_ok, Bool.not_true, Bool.false_eq_true, if_false, Sem.run_bind]
  rw [h1 _ 1 b rfl]
  simp only [Result.andThen_ok]
  rw [h1 _ 1 b rfl]
  simp only [Result.andThen_ok]
  rw [h2]
  simp only [Result.andThen_ok, Bool.not_true, Bool.false_eq_true, if_false, Sem.run_bind]
  rw [h1 _ 2 c rfl]
  simp only [Result.andThen_ok]
  rw [h1 _ 2 c rfl]
  simp only [Result.andThen_ok]
  rw [h2]
  simp only [Result.andThen_ok, Bool.not_true, Bool.false_eq_true, if_false, Sem.run_bind]
  rw [h1 _ 3 d rfl]
  simp only [Result.andThen_ok]
  rw [h1 _ 3 d rfl]
  simp only [Result.andThen_ok]
  rw [h2]
  simp only [Result.andThen_ok, Bool.not_true, Bool.false_eq_true, if_false]
  rfl

set_option maxHeartbeats 1000000 in
theorem quarterLaw_walk (a b c d : Int) (w : World) :
    Calls Try.prog 3 #[.agg #[.int .u32 a, .int .u32 b, .int .u32 c, .int .u32 d]] w fun e w' => e = .returned (.bool true) ∧ Below w.heap.size w w' := by
  have hB : Blk (w.alloc (.cells #[.int .u32 a, .int .u32 b, .int .u32 c, .int .u32 d] 23)) w.heap.size 23 [.int .u32 a, .int .u32 b, .int .u32 c, .int .u32 d] := Blk.new w 23 #[.int .u32 a, .int .u32 b, .int .u32 c, .int .u32 d]
  have hl : Below w.heap.size w (w.alloc (.cells #[.int .u32 a, .int .u32 b, .int .u32 c, .int .u32 d] 23)) := (Below.refl _ _).alloc (Nat.le_refl _) _
  have hq := fun w => quarter_any a b c d w
  have hr := fun w => refQuarter_any a b c d w
  generalize qa a b c d = A at hq hr
  generalize qb a b c d = B at hq hr
  generalize qc a b c d = C at hq hr
  generalize qd a b c d = D at hq hr
  have hE := fun w => same_four w A B C D
  go_enter Try.func3, Try.ntmps3
  go_wp2_with (go_at_call 9; refine (hq _).mono ?_; rintro e w1 ⟨rfl, hw1⟩; rw [hw1]; clear hw1)
  generalize w.alloc (.cells #[.int .u32 a, .int .u32 b, .int .u32 c, .int .u32 d] 23) = w2 at hB hl ⊢
  refine (wakes_any w2).mono ?_
  rintro e w3 ⟨rfl, hb3⟩
  have hB3 := hB.below hb3 hB.lt
  have hl3 : Below w.heap.size w w3 := hl.trans (hb3.mono hl.size)
  have c0 := hB3.cell (i := 0) rfl
  have c1 := hB3.cell (i := 1) rfl
  have c2 := hB3.cell (i := 2) rfl
  have c3 := hB3.cell (i := 3) rfl
  clear hB hl hb3 hB3
  go_wp2_with (go_at_call 11; refine (hr _).mono ?_; rintro e w4 ⟨rfl, hb4⟩)
  go_ret
  exact ⟨rfl, hl3.trans (hb4.mono hl3.size)⟩
end Go.Proofs.Ytajkfjafhigcpaa
