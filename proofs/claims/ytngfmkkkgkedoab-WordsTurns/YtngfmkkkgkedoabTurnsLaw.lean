/- What the Go function WordsTurns answers: true, for every word and every two numbers of places. -/
import Derived.Test.YtngfmkkkgkedoabWakes
namespace Go.Proofs.Ytngfmkkkgkedoab
open Go.RowKit Go.PlainAid
set_option linter.unusedVariables false

/-- Left by m, then by n: what left by both answers. -/
theorem left_twice (x m n : Int) (h0 : 0 ≤ x) (h1 : x < 4294967296) (w : World) :
    Calls Try.prog 5 #[.int .u32 (turn (m % 32).toNat x), .int .i64 n] w fun e w' => e = .returned (.int .u32 (turn ((m % 32).toNat + (n % 32).toNat) x)) ∧ w' = w := by
  have b := turn_lo (m % 32).toNat x h0 h1
  refine (left_any _ n b.1 b.2 w).mono fun e w' ⟨he, hw⟩ => ⟨?_, hw⟩
  rw [he, turn_add, Nat.add_comm]
theorem left_both (x m n : Int) (h0 : 0 ≤ x) (h1 : x < 4294967296) (w : World) :
    Calls Try.prog 5 #[.int .u32 x, .int .i64 (m % 32 + n % 32)] w fun e w' => e = .returned (.int .u32 (turn ((m % 32).toNat + (n % 32).toNat) x)) ∧ w' = w := by
  refine (left_any x _ h0 h1 w).mono fun e w' ⟨he, hw⟩ => ⟨?_, hw⟩
  have e1 : ((m % 32 + n % 32) % 32).toNat = ((m % 32).toNat + (n % 32).toNat) % 32 := by omega
  rw [he, e1, turn_mod _ x h0 h1]
theorem left_rest (x n : Int) (h0 : 0 ≤ x) (h1 : x < 4294967296) (w : World) :
    Calls Try.prog 5 #[.int .u32 x, .int .i64 (32 - n % 32)] w fun e w' => e = .returned (.int .u32 (turn (32 - (n % 32).toNat) x)) ∧ w' = w := by
  refine (left_any x _ h0 h1 w).mono fun e w' ⟨he, hw⟩ => ⟨?_, hw⟩
  have e1 : ((32 - n % 32) % 32).toNat = (32 - (n % 32).toNat) % 32 := by omega
  rw [he, e1, turn_mod _ x h0 h1]

theorem turnsLaw_walk (a0 : Int) (a1 : Int) (a2 : Int) (w0 : (Lit.int .u32 a0).wf = true) (w1 : (Lit.int .i64 a1).wf = true) (w2 : (Lit.int .i64 a2).wf = true) (w : World) :
    Calls Try.prog 3 #[.int .u32 a0, .int .i64 a1, .int .i64 a2] w fun e w' => e = .returned (.bool true) ∧ Below w.heap.size w w' := by
  have b0 := bounds_u32 w0
  have h0 : 0 ≤ a0 := by omega
  have h1 : a0 < 4294967296 := by omega
  have n1 := and31_i64 a1
  have n2 := and31_i64 a2
  clear b0 w0 w1 w2
  go_enter Try.func3, Try.ntmps3
  go_wp2_with fail
  go_at_call 4
  refine (wakes_any _).mono ?_
  rintro e x1 ⟨rfl, hb⟩
  go_wp2_with fail
  go_at_call 5
  refine (left_any _ _ h0 h1 _).mono ?_
  rintro e x2 ⟨rfl, rfl⟩
  go_wp2_with fail
  go_at_call 5
  refine (left_twice _ _ _ h0 h1 _).mono ?_
  rintro e x3 ⟨rfl, rfl⟩
  go_wp2_with fail
  go_at_call 5
  refine (left_both _ _ _ h0 h1 _).mono ?_
  rintro e x4 ⟨rfl, rfl⟩
  go_wp2_with fail
  go_at_call 6
  refine (right_any _ _ h0 h1 _).mono ?_
  rintro e x5 ⟨rfl, rfl⟩
  go_wp2_with fail
  go_at_call 5
  refine (left_rest _ _ h0 h1 _).mono ?_
  rintro e x6 ⟨rfl, rfl⟩
  go_wp2_with fail
  go_ret
  exact ⟨rfl, hb⟩
end Go.Proofs.Ytngfmkkkgkedoab
