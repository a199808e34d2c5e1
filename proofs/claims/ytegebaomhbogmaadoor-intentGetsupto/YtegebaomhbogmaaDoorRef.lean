/- What the document's own digest does with one block. -/
import Derived.Test.YtegebaomhbogmaaDoorSched
import Derived.Maps.AppendAt
namespace Go.Proofs.YtegebaomhbogmaaDoor
open Go.RowKit Go.PlainAid
set_option linter.unusedVariables false

theorem refRight_to (x : Int) (n : Nat) (hn : n < 32) (h : 0 ≤ x ∧ x < 4294967296) (w : World) :
    Calls Tryd.prog 67 #[.int .u32 x, .int .i64 (n : Int)] w fun e w' => e = .returned (.int .u32 (rr n x)) ∧ w' = w := by
  refine (refRight_any x n h.1 h.2 (by omega) (by omega) w).mono ?_
  rintro e w' ⟨rfl, rfl⟩
  refine ⟨?_, rfl⟩
  rw [show ((n : Int) % 32).toNat = n by omega, turnR_rr n (by omega) x h]
theorem turned_any (x : Int) (a b c : Nat) (ha : a < 32) (hb : b < 32) (hc : c < 32) (h : 0 ≤ x ∧ x < 4294967296) (w : World) :
    Calls Tryd.prog 59 #[.int .u32 x, .int .i64 (a : Int), .int .i64 (b : Int), .int .i64 (c : Int)] w fun e w' => e = .returned (.int .u32 (bits .xor .u32 (bits .xor .u32 (rr a x) (rr b x)) (rr c x))) ∧ w' = w := by
  go_enter Tryd.func59, Tryd.ntmps59
  go_wp2_with fail
  refine (refRight_to x a ha h w).mono ?_
  rintro e w1 ⟨rfl, rfl⟩
  go_wp2_with fail
  refine (refRight_to x b hb h w1).mono ?_
  rintro e w2 ⟨rfl, rfl⟩
  go_wp2_with fail
  refine (refRight_to x c hc h w2).mono ?_
  rintro e w3 ⟨rfl, rfl⟩
  go_wp2_with fail
  go_ret
  exact ⟨rfl, rfl⟩
theorem moved_any (x : Int) (a b : Nat) (d : Int) (ha : a < 32) (hb : b < 32) (hd : 1 ≤ d) (h : 0 ≤ x ∧ x < 4294967296) (w : World) :
    Calls Tryd.prog 58 #[.int .u32 x, .int .i64 (a : Int), .int .i64 (b : Int), .int .u32 d] w fun e w' => e = .returned (.int .u32 (bits .xor .u32 (bits .xor .u32 (rr a x) (rr b x)) (x / d))) ∧ w' = w := by
  have hd0 : ¬ d = 0 := by omega
  obtain ⟨h0, h1⟩ := h
  have hq : x.tdiv d = x / d := Int.tdiv_eq_ediv_of_nonneg h0
  have hq0 : 0 ≤ x / d := Int.ediv_nonneg h0 (by omega)
  have hq1 : x / d ≤ x := Int.ediv_le_self d h0
  have hz : IntKind.u32.wrap (x / d) = x / d := by rw [IntKind.wrap_u32']; omega
  go_enter Tryd.func58, Tryd.ntmps58
  go_wp2_with fail
  refine (refRight_to x a ha ⟨h0, h1⟩ w).mono ?_
  rintro e w1 ⟨rfl, rfl⟩
  go_wp2_with fail
  refine (refRight_to x b hb ⟨h0, h1⟩ w1).mono ?_
  rintro e w2 ⟨rfl, rfl⟩
  go_wp2_with fail
  go_ret
  exact ⟨rfl, rfl⟩
theorem pick_any (x y z : Int) (hx : 0 ≤ x ∧ x < 4294967296) (w : World) :
    Calls Tryd.prog 60 #[.int .u32 x, .int .u32 y, .int .u32 z] w fun e w' => e = .returned (.int .u32 (chF x y z)) ∧ w' = w := by
  obtain ⟨h0, h1⟩ := hx
  have hz : IntKind.u32.wrap (4294967295 - x) = 4294967295 - x := by rw [IntKind.wrap_u32']; omega
  go_enter Tryd.func60, Tryd.ntmps60
  go_wp2_with fail
  go_ret
  exact ⟨rfl, rfl⟩
theorem most_any (x y z : Int) (w : World) :
    Calls Tryd.prog 61 #[.int .u32 x, .int .u32 y, .int .u32 z] w fun e w' => e = .returned (.int .u32 (mjF x y z)) ∧ w' = w := by
  go_enter Tryd.func61, Tryd.ntmps61
  go_wp2_with fail
  go_ret
  exact ⟨rfl, rfl⟩
end Go.Proofs.YtegebaomhbogmaaDoor
