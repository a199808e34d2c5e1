/- What the Go function WordsTurn answers: true, for every word and every number of places. -/
import Derived.Test.YtngfmkkkgkedoaaWakes
namespace Go.Proofs.Ytngfmkkkgkedoaa
open Go.RowKit Go.PlainAid
set_option linter.unusedVariables false

theorem turnR_is (K : Nat) (x : Int) (hK : K ≤ 31) (h0 : 0 ≤ x) (h1 : x < 4294967296) : turnR K x = turn (32 - K) x := by
  have e : x = turn K (turn (32 - K) x) := by
    rw [turn_add, show K + (32 - K) = 32 by omega, turn_32 x h0 h1]
  have b := turn_lo (32 - K) x h0 h1
  conv => lhs; rw [e]
  rw [turnR_turn K _ b.1 b.2]

theorem refRight_is (x n : Int) (h0 : 0 ≤ x) (h1 : x < 4294967296) (hn0 : -9223372036854775808 ≤ n) (hn1 : n ≤ 9223372036854775807) (w : World) :
    Calls Try.prog 13 #[.int .u32 x, .int .i64 n] w fun e w' => e = .returned (.int .u32 (turn (32 - (n % 32).toNat) x)) ∧ w' = w :=
  (refRight_any x n h0 h1 hn0 hn1 w).mono fun e w' ⟨he, hw⟩ => ⟨by rw [he, turnR_is _ x (by omega) h0 h1], hw⟩

theorem turnLaw_walk (a0 : Int) (a1 : Int) (w0 : (Lit.int .u32 a0).wf = true) (w1 : (Lit.int .i64 a1).wf = true) (w : World) :
    Calls Try.prog 3 #[.int .u32 a0, .int .i64 a1] w fun e w' => e = .returned (.bool true) ∧ Below w.heap.size w w' := by
  have b0 := bounds_u32 w0
  have b1 := bounds_i64 w1
  have h0 : 0 ≤ a0 := by omega
  have h1 : a0 < 4294967296 := by omega
  have n0 : -9223372036854775808 ≤ a1 := by omega
  have n1 : a1 ≤ 9223372036854775807 := by omega
  clear b0 b1
  go_enter Try.func3, Try.ntmps3
  go_wp2_with (first | (go_at_call 9; refine (wakes_any _).mono ?_; rintro e x1 ⟨rfl, hb⟩) | (go_at_call 10; refine (left_any _ _ h0 h1 _).mono ?_; rintro e x1 ⟨rfl, rfl⟩) | (go_at_call 11; refine (refLeft_any _ _ h0 h1 n0 n1 _).mono ?_; rintro e x1 ⟨rfl, rfl⟩) | (go_at_call 12; refine (right_any _ _ h0 h1 _).mono ?_; rintro e x1 ⟨rfl, rfl⟩) | (go_at_call 13; refine (refRight_is _ _ h0 h1 n0 n1 _).mono ?_; rintro e x1 ⟨rfl, rfl⟩))
  go_ret
  exact ⟨rfl, by assumption⟩
end Go.Proofs.Ytngfmkkkgkedoaa
