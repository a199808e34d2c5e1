/- What the Go functions GfNil and GfExponents answer: true, for every two elements and every exponents. -/
import Derived.Test.YtniehkjicdlpeabGfTables
import Derived.Test.YtniehkjicdlpeabGfTo
namespace Go.Proofs.Ytniehkjicdlpeab
open Go.RowKit
set_option linter.unusedVariables false

theorem nilLog (a : Int) (w : World) : Calls Try.prog 8 #[.pointer none, .int .u8 a] w fun e w' => e = .returned (.tuple #[.int .i64 0, .int .i64 1]) ∧ w' = w := by
  go_enter Try.func8, Try.ntmps8
  go_wp2_with fail
  go_ret2
  exact ⟨rfl, rfl⟩
theorem nilDiv (a b : Int) (w : World) : Calls Try.prog 11 #[.pointer none, .int .u8 a, .int .u8 b] w fun e w' => e = .returned (.tuple #[.int .u8 0, .int .i64 1]) ∧ w' = w := by
  go_enter Try.func11, Try.ntmps11
  go_wp2_with fail
  go_ret2
  exact ⟨rfl, rfl⟩
theorem nilExp (n : Int) (w : World) : Calls Try.prog 7 #[.pointer none, .int .i64 n] w fun e w' => e = .returned (.int .u8 0) ∧ w' = w := by
  go_enter Try.func7, Try.ntmps7
  go_wp2_with fail
  go_ret
  exact ⟨rfl, rfl⟩
theorem nilMul (a b : Int) (w : World) : Calls Try.prog 13 #[.pointer none, .int .u8 a, .int .u8 b] w fun e w' => e = .returned (.int .u8 0) ∧ w' = w := by
  go_enter Try.func13, Try.ntmps13
  go_wp2_with fail
  go_ret
  exact ⟨rfl, rfl⟩
theorem nil_walk (a0 : Int) (a1 : Int) (a2 : Int) (w0 : (Lit.int .u8 a0).wf = true) (w1 : (Lit.int .u8 a1).wf = true) (w2 : (Lit.int .i64 a2).wf = true) (w : World) :
    Calls Try.prog 5 #[.int .u8 a0, .int .u8 a1, .int .i64 a2] w fun e w' => e = .returned (.bool true) ∧ Below w.heap.size w w' := by
  go_enter Try.func5, Try.ntmps5
  go_wp2_with fail
  go_at_call 8
  refine (nilLog _ _).mono ?_
  rintro e w' ⟨rfl, rfl⟩
  go_wp2_with fail
  go_at_call 11
  refine (nilDiv _ _ _).mono ?_
  rintro e w' ⟨rfl, rfl⟩
  go_wp2_with fail
  go_at_call 12
  refine (gfWakes_any _).mono ?_
  rintro e w' ⟨rfl, rfl⟩
  go_wp2_with fail
  go_at_call 7
  refine (nilExp _ _).mono ?_
  rintro e w' ⟨rfl, rfl⟩
  go_wp2_with fail
  go_at_call 13
  refine (nilMul _ _ _).mono ?_
  rintro e w' ⟨rfl, rfl⟩
  go_wp2_with fail
  go_ret
  exact ⟨rfl, Below.refl _ _⟩

theorem gpow_add (a : Nat) (ha : a < 256) (hz : a ≠ 0) (m n : Int) : gm (gpow a m) (gpow a n) = gpow a (m + n) := by
  rw [gpow_ne a m hz, gpow_ne a n hz, gpow_ne a _ hz, ← gp_add a _ _ ha, ← gp_mod a _ ha hz]
  congr 1
  omega
theorem gp_gp (a : Nat) (ha : a < 256) (m n : Nat) : gp (gp a m) n = gp a (m * n) := by
  induction n with
  | zero => rfl
  | succ n ih => rw [Nat.mul_succ, gp_add a _ _ ha]; simp only [gp]; rw [ih]
theorem gpow_log (a : Nat) (ha : a < 256) (hz : a ≠ 0) (s : Int) : gpow 2 ((lg a : Int) * s) = gpow a s := by
  rw [gpow_ne 2 _ (by omega), gpow_ne a s hz]
  conv => rhs; rw [← ex_lg a ha hz]
  rw [gp_gp 2 (by omega), ← gp_mod 2 (lg a * _) (by omega) (by omega)]
  congr 1
  obtain ⟨S, hS⟩ : ∃ S : Nat, s % 255 = (S : Int) := ⟨(s % 255).toNat, by omega⟩
  have hl : ((lg a : Nat) : Int) % 255 = (lg a : Int) := by have := lg_all a ha hz; omega
  rw [Int.mul_emod, hS, Int.toNat_natCast, hl]
  have e : (lg a : Int) * (S : Int) = ((lg a * S : Nat) : Int) := by simp
  rw [e]
  omega

set_option maxHeartbeats 1000000 in
theorem exponents_walk (a0 : Int) (a1 : Int) (a2 : Int) (w0 : (Lit.int .u8 a0).wf = true) (w1 : (Lit.int .i64 a1).wf = true) (w2 : (Lit.int .i64 a2).wf = true) (w : World) :
    Calls Try.prog 4 #[.int .u8 a0, .int .i64 a1, .int .i64 a2] w fun e w' => e = .returned (.bool true) ∧ Below w.heap.size w w' := by
  obtain ⟨A, rfl, hA⟩ := byte_of w0
  have h1 : bits .and .i64 a1 1023 = a1 % 1024 := andMask_i64 a1 10 (by omega)
  have h2 : bits .and .i64 a2 1023 = a2 % 1024 := andMask_i64 a2 10 (by omega)
  obtain ⟨m, hm⟩ : ∃ m, a1 % 1024 = m := ⟨_, rfl⟩
  obtain ⟨n, hn⟩ : ∃ n, a2 % 1024 = n := ⟨_, rfl⟩
  have hmb : 0 ≤ m ∧ m < 1024 := by omega
  have hnb : 0 ≤ n ∧ n < 1024 := by omega
  obtain ⟨hm0, hm1⟩ := hmb
  obtain ⟨hn0, hn1⟩ := hnb
  rw [hm] at h1
  rw [hn] at h2
  clear hm hn
  by_cases hz : A = 0
  · subst hz
    go_enter Try.func4, Try.ntmps4
    go_wp2_with fail
    go_at_call 6
    refine (gfTables_any _).mono ?_
    rintro e x1 ⟨rfl, ht, hb⟩
    go_wp2_with fail
    go_ret
    exact ⟨rfl, hb⟩
  · have hzb : ((A : Int) == 0) = false := by simp; omega
    have hl := lg_all A hA hz
    have hprod : -300000 ≤ (lg A : Int) * (m - 512 + (n - 512)) ∧ (lg A : Int) * (m - 512 + (n - 512)) ≤ 300000 := by
      constructor
      · have e : (0 : Int) ≤ (lg A : Int) := by omega
        have h3 : (lg A : Int) * (-1024) ≤ (lg A : Int) * (m - 512 + (n - 512)) := Int.mul_le_mul_of_nonneg_left (by omega) e
        omega
      · have e : (0 : Int) ≤ (lg A : Int) := by omega
        have h3 : (lg A : Int) * (m - 512 + (n - 512)) ≤ (lg A : Int) * 1024 := Int.mul_le_mul_of_nonneg_left (by omega) e
        omega
    obtain ⟨hp0, hp1⟩ := hprod
    have f1 := gpow_add A hA hz (m - 512) (n - 512)
    have f2 := gpow_log A hA hz (m - 512 + (n - 512))
    go_enter Try.func4, Try.ntmps4
    go_wp2_with fail
    go_at_call 6
    refine (gfTables_any _).mono ?_
    rintro e x1 ⟨rfl, ht, hb⟩
    obtain ⟨G, hG⟩ : ∃ G, w.heap.size = G := ⟨_, rfl⟩
    rw [hG] at ht ⊢
    go_wp2_with fail
    go_at_call 8
    refine (tabLog_any G A hA hz _ ht).mono ?_
    rintro e w' ⟨rfl, rfl⟩
    go_wp2_with fail
    go_at_call 10
    refine (gfPow_any A hA (m - 512) (by omega) (by omega) _).mono ?_
    rintro e w' ⟨rfl, rfl⟩
    go_wp2_with fail
    go_at_call 10
    refine (gfPow_any A hA (n - 512) (by omega) (by omega) _).mono ?_
    rintro e w' ⟨rfl, rfl⟩
    go_wp2_with fail
    go_at_call 9
    refine (gfMul_any (gpow A (m - 512)) (gpow A (n - 512)) (gpow_lt _ _ hA) (gpow_lt _ _ hA) _).mono ?_
    rw [f1]
    rintro e w' ⟨rfl, rfl⟩
    go_wp2_with fail
    go_at_call 10
    refine (gfPow_any A hA (m - 512 + (n - 512)) (by omega) (by omega) _).mono ?_
    rintro e w' ⟨rfl, rfl⟩
    go_wp2_with fail
    go_at_call 7
    refine (tabExp_any G ((lg A : Int) * (m - 512 + (n - 512))) (by omega) (by omega) _ ht).mono ?_
    rw [f2]
    rintro e w' ⟨rfl, q, rfl⟩
    go_wp2_with fail
    go_at_call 10
    refine (gfPow_any A hA (m - 512 + (n - 512)) (by omega) (by omega) _).mono ?_
    rintro e w' ⟨rfl, rfl⟩
    go_wp2_with fail
    go_ret
    exact ⟨rfl, below_drewN hb q⟩
end Go.Proofs.Ytniehkjicdlpeab
