/- What the tables answer: logarithms, powers, products and quotients. -/
import Derived.Test.YtniehkjicdlpeabGfTab
import Derived.Deep.QuietTactic
import Derived.BigQuiet
namespace Go.Proofs.Ytniehkjicdlpeab
open Go.RowKit
set_option linter.unusedVariables false

theorem tabLog_zero (g : Nat) (w : World) :
    Calls Try.prog 8 #[.pointer (some ⟨g, 0, none⟩), .int .u8 0] w fun e w' => e = .returned (.tuple #[.int .i64 0, .int .i64 6]) ∧ w' = w := by
  go_enter Try.func8, Try.ntmps8
  go_wp2_with fail
  go_ret2
  exact ⟨rfl, rfl⟩
theorem tabLog_any (g a : Nat) (ha : a < 256) (hz : a ≠ 0) (w : World) (ht : IsTab w g) :
    Calls Try.prog 8 #[.pointer (some ⟨g, 0, none⟩), .int .u8 (a : Int)] w fun e w' => e = .returned (.tuple #[.int .i64 (lg a : Int), .int .i64 0]) ∧ w' = w := by
  have hzb : ((a : Int) == 0) = false := by simp; omega
  have hc := ht.1 a ha hz
  go_enter Try.func8, Try.ntmps8
  go_wp2_with fail
  go_ret2
  exact ⟨rfl, rfl⟩
theorem tabExp_any (g : Nat) (n : Int) (h0 : -9223372036854775808 ≤ n) (h1 : n ≤ 9223372036854775807) (w : World) (ht : IsTab w g) :
    Calls Try.prog 7 #[.pointer (some ⟨g, 0, none⟩), .int .i64 n] w fun e w' => e = .returned (.int .u8 (gpow 2 n : Int)) ∧ ∃ m, w' = w.drewN m := by
  rw [gpow_ne 2 n (by omega)]
  obtain ⟨K, hK⟩ : ∃ K : Nat, n % 255 = (K : Int) := ⟨(n % 255).toNat, by omega⟩
  have hK255 : K < 255 := by omega
  rw [hK, Int.toNat_natCast]
  have hc := ht.2 K hK255
  have start : ∀ w, Calls Try.prog 15 #[.int .i64 n] w fun e w' => e = .returned (.int .i64 (K : Int)) ∧ w' = w := by
    intro w; rw [← hK]; exact exponent_any n h0 h1 w
  go_enter Try.func7, Try.ntmps7
  go_wp2_with fail
  go_quiet ((go_at_call 15; exact Calls.quiet_of_same (start _)))
  go_wp2_with fail
  go_ret
  exact ⟨rfl, _, rfl⟩
theorem IsTab.drewN {w : World} {g : Nat} (h : IsTab w g) (m : Nat) : IsTab (w.drewN m) g := h
theorem log_mul (a b : Nat) (ha : a < 256) (hb : b < 256) (hza : a ≠ 0) (hzb : b ≠ 0) : gpow 2 ((lg a : Int) + (lg b : Int)) = gm a b := by
  have e : (lg a : Int) + (lg b : Int) = ((lg a + lg b : Nat) : Int) := by simp
  rw [e, gpow_nat 2 _ (by omega), gp_add 2 _ _ (by omega), ex_lg a ha hza, ex_lg b hb hzb]
theorem log_div (a b : Nat) (ha : a < 256) (hb : b < 256) (hza : a ≠ 0) (hzb : b ≠ 0) : gpow 2 ((lg a : Int) - (lg b : Int)) = gm a (gi b) := by
  rw [gpow_ne 2 _ (by omega)]
  obtain ⟨D, hD⟩ : ∃ D : Nat, ((lg a : Int) - (lg b : Int)) % 255 = (D : Int) := ⟨(((lg a : Int) - (lg b : Int)) % 255).toNat, by omega⟩
  rw [hD, Int.toNat_natCast]
  have hla := lg_all a ha hza
  have h1 : gm (gp 2 D) b = a := by
    conv => lhs; rw [← ex_lg b hb hzb]
    rw [← gp_add 2 _ _ (by omega), ← gp_mod 2 _ (by omega) (by omega), show (D + lg b) % 255 = lg a by omega, ex_lg a ha hza]
  conv => rhs; rw [← h1]
  rw [← gm_assoc _ _ _ (gp_lt 2 D (by omega)) hb (gi_lt b hb), gm_gi b hb hzb, gm_one]

theorem tabMul_zero (g a b : Nat) (ha : a < 256) (hb : b < 256) (hz : a = 0 ∨ b = 0) (w : World) :
    Calls Try.prog 13 #[.pointer (some ⟨g, 0, none⟩), .int .u8 (a : Int), .int .u8 (b : Int)] w fun e w' => e = .returned (.int .u8 (gm a b : Int)) ∧ w' = w := by
  rw [(gm_eq_zero a b ha hb).2 hz]
  by_cases hza : a = 0
  · subst hza
    go_enter Try.func13, Try.ntmps13
    go_wp2_with fail
    go_ret
    exact ⟨rfl, rfl⟩
  · have hzb : b = 0 := by omega
    subst hzb
    have hzab : ((a : Int) == 0) = false := by simp; omega
    go_enter Try.func13, Try.ntmps13
    go_wp2_with fail
    go_ret
    exact ⟨rfl, rfl⟩
theorem tabMul_any (g a b : Nat) (ha : a < 256) (hb : b < 256) (w : World) (ht : IsTab w g) :
    Calls Try.prog 13 #[.pointer (some ⟨g, 0, none⟩), .int .u8 (a : Int), .int .u8 (b : Int)] w fun e w' => e = .returned (.int .u8 (gm a b : Int)) ∧ ∃ m, w' = w.drewN m := by
  by_cases hz : a = 0 ∨ b = 0
  · exact (tabMul_zero g a b ha hb hz w).mono fun e w' ⟨he, hw⟩ => ⟨he, 0, hw⟩
  · have hza : a ≠ 0 := fun h => hz (.inl h)
    have hzb : b ≠ 0 := fun h => hz (.inr h)
    have hzab : ((a : Int) == 0) = false := by simp; omega
    have hzbb : ((b : Int) == 0) = false := by simp; omega
    have hc1 := ht.1 a ha hza
    have hc2 := ht.1 b hb hzb
    have hla := lg_all a ha hza
    have hlb := lg_all b hb hzb
    have hE : ∀ m, Calls Try.prog 7 #[.pointer (some ⟨g, 0, none⟩), .int .i64 ((lg a : Int) + (lg b : Int))] (w.drewN m) fun e w' => e = .returned (.int .u8 (gm a b : Int)) ∧ ∃ m', w' = (w.drewN m).drewN m' := by
      intro m; rw [← log_mul a b ha hb hza hzb]; exact tabExp_any g _ (by omega) (by omega) _ (ht.drewN m)
    clear hz
    go_enter Try.func13, Try.ntmps13
    go_wp2_with fail
    go_quiet ((go_at_call 7; exact Calls.quiet_of (hE _)))
    go_wp2_with fail
    go_ret
    exact ⟨rfl, _, rfl⟩
theorem tabDiv_zero (g : Nat) (a : Int) (w : World) :
    Calls Try.prog 11 #[.pointer (some ⟨g, 0, none⟩), .int .u8 a, .int .u8 0] w fun e w' => e = .returned (.tuple #[.int .u8 0, .int .i64 6]) ∧ w' = w := by
  go_enter Try.func11, Try.ntmps11
  go_wp2_with fail
  go_ret2
  exact ⟨rfl, rfl⟩
theorem tabDiv_any (g a b : Nat) (ha : a < 256) (hb : b < 256) (hzb : b ≠ 0) (w : World) (ht : IsTab w g) :
    Calls Try.prog 11 #[.pointer (some ⟨g, 0, none⟩), .int .u8 (a : Int), .int .u8 (b : Int)] w fun e w' => e = .returned (.tuple #[.int .u8 (gm a (gi b) : Int), .int .i64 0]) ∧ ∃ m, w' = w.drewN m := by
  have hzbb : ((b : Int) == 0) = false := by simp; omega
  by_cases hza : a = 0
  · subst hza
    rw [zero_gm _ (gi_lt b hb)]
    go_enter Try.func11, Try.ntmps11
    go_wp2_with fail
    go_ret2
    exact ⟨rfl, 0, rfl⟩
  · have hzab : ((a : Int) == 0) = false := by simp; omega
    have hc1 := ht.1 a ha hza
    have hc2 := ht.1 b hb hzb
    have hla := lg_all a ha hza
    have hlb := lg_all b hb hzb
    have hE : ∀ m, Calls Try.prog 7 #[.pointer (some ⟨g, 0, none⟩), .int .i64 ((lg a : Int) - (lg b : Int))] (w.drewN m) fun e w' => e = .returned (.int .u8 (gm a (gi b) : Int)) ∧ ∃ m', w' = (w.drewN m).drewN m' := by
      intro m; rw [← log_div a b ha hb hza hzb]; exact tabExp_any g _ (by omega) (by omega) _ (ht.drewN m)
    go_enter Try.func11, Try.ntmps11
    go_wp2_with fail
    go_quiet ((go_at_call 7; exact Calls.quiet_of (hE _)))
    go_wp2_with fail
    go_ret2
    exact ⟨rfl, _, rfl⟩
end Go.Proofs.Ytniehkjicdlpeab
