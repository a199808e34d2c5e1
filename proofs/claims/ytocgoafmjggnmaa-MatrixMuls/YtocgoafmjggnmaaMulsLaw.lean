/- The product of every two matrices: the law's walk. -/
import Derived.Test.YtocgoafmjggnmaaMatRefMul
import Derived.Test.YtocgoafmjggnmaaMakesLaw
namespace Go.Proofs.Ytocgoafmjggnmaa
open Go.RowKit Go.PlainAid
set_option linter.unusedVariables false

set_option maxHeartbeats 1000000 in
theorem refMulM_form (a b : Option Addr) (n m ca cb : Nat) (LA LB : Nat → Nat) (A B : Mx) (w : World) (hA : MatAt w a n LA A) (hB : MatAt w b m LB B) (hn : n ≤ maxLen) (hm : m ≤ maxLen) (hno : ¬ (Gd n LA ∧ Gd m LB)) :
    Calls Try.prog 18 #[.slice a n ca, .slice b m cb] w fun e w' => Below w.heap.size w w' ∧ e = .returned (.tuple #[.slice none 0 0, .int .i64 4]) := by
  by_cases gA : Gd n LA
  · have gB : ¬ Gd m LB := fun h => hno ⟨gA, h⟩
    have hg := fun x h => refGood_any a n ca LA A x hn h true (good_yes gA)
    have hg2 := fun x h => refGood_any b m cb LB B x hm h false (good_no gB)
    clear gA gB hno hn hm
    go_enter Try.func18, Try.ntmps18
    go_wp2_with fail
    go_at_call 15
    refine (hg _ hA).mono ?_
    rintro e w1 ⟨rfl, q1, rfl⟩
    go_wp2_with fail
    go_at_call 15
    refine (hg2 _ (hB.below (below_drewN (Below.refl _ _) q1))).mono ?_
    rintro e w2 ⟨rfl, q2, rfl⟩
    go_wp2_with fail
    go_ret2
    exact ⟨below_drewN (Below.refl _ _) _, rfl⟩
  · have hg := fun x h => refGood_any a n ca LA A x hn h false (good_no gA)
    obtain ⟨g, hgb⟩ : ∃ g : Bool, g = true ↔ Gd m LB := by
      by_cases h : Gd m LB
      · exact ⟨true, good_yes h⟩
      · exact ⟨false, good_no h⟩
    have hg2 := fun x h => refGood_any b m cb LB B x hm h g hgb
    clear gA hgb hno hn hm
    go_enter Try.func18, Try.ntmps18
    go_wp2_with fail
    go_at_call 15
    refine (hg _ hA).mono ?_
    rintro e w1 ⟨rfl, q1, rfl⟩
    go_wp2_with fail
    go_at_call 15
    refine (hg2 _ (hB.below (below_drewN (Below.refl _ _) q1))).mono ?_
    rintro e w2 ⟨rfl, q2, rfl⟩
    go_wp2_with fail
    go_ret2
    exact ⟨below_drewN (Below.refl _ _) _, rfl⟩

set_option maxHeartbeats 1000000 in
theorem refMulM_shape (a b : Option Addr) (n m ca cb : Nat) (LA LB : Nat → Nat) (A B : Mx) (w : World) (hA : MatAt w a n LA A) (hB : MatAt w b m LB B) (hn : n ≤ maxLen) (hm : m ≤ maxLen) (gA : Gd n LA) (gB : Gd m LB) (hs : LA 0 ≠ m) :
    Calls Try.prog 18 #[.slice a n ca, .slice b m cb] w fun e w' => Below w.heap.size w w' ∧ e = .returned (.tuple #[.slice none 0 0, .int .i64 7]) := by
  have hg := fun x h => refGood_any a n ca LA A x hn h true (good_yes gA)
  have hg2 := fun x h => refGood_any b m cb LB B x hm h true (good_yes gB)
  obtain ⟨ba, oa, rfl, hRA⟩ := rows_in hA gA
  obtain ⟨l0, hl0⟩ : ∃ l0, LA 0 = l0 := ⟨_, rfl⟩
  rw [hl0] at hs hRA
  have g1 := gA.1
  have g2 := gA.2.1
  have g4 := gA.2.2.2.1
  have g6 := gB.2.1
  rw [hl0] at g4
  have H0A : Hid (∀ x, Below w.heap.size w x → ∃ b' o' cr, x.cell? ⟨ba, oa, none⟩ = some (.slice (some ⟨b', o', none⟩) l0 cr)) := fun x hx => by
    obtain ⟨b', o', cr, h, _⟩ := hRA x hx 0 (by omega)
    exact ⟨b', o', cr, h⟩
  have n0 : (0 : Int) < (n : Int) := by omega
  have t1 : ((l0 : Int) != (m : Int)) = true := by simp; omega
  clear hRA gA gB hl0 hn hm
  go_enter Try.func18, Try.ntmps18
  go_wp2_with fail
  go_at_call 15
  refine (hg _ hA).mono ?_
  rintro e w1 ⟨rfl, q1, rfl⟩
  go_wp2_with fail
  go_at_call 15
  refine (hg2 _ (hB.below (below_drewN (Below.refl _ _) q1))).mono ?_
  rintro e w2 ⟨rfl, q2, rfl⟩
  have hb2 : Below w.heap.size w (w.drewN (q1 + q2)) := below_drewN (Below.refl _ _) _
  rw [World.drewN_drewN]
  obtain ⟨w3, hw3⟩ : ∃ w3, w.drewN (q1 + q2) = w3 := ⟨_, rfl⟩
  rw [hw3] at hb2 ⊢
  obtain ⟨xb, xo, xc, hc0⟩ := H0A.out w3 hb2
  clear hw3 hg hg2 hA hB
  go_wp2_with fail
  go_ret2
  exact ⟨hb2, rfl⟩

theorem mul_pair (a b : Option Addr) (n m ca cb : Nat) (LA LB : Nat → Nat) (A B : Mx) (w : World) (hA : MatAt w a n LA A) (hB : MatAt w b m LB B) (hn : n ≤ maxLen) (hm : m ≤ maxLen) :
    Calls Try.prog 17 #[.slice a n ca, .slice b m cb] w fun e w' => Below w.heap.size w w' ∧ ∃ v er, e = .returned (.tuple #[v, .int .i64 er]) ∧
      ∀ w2, Below w'.heap.size w' w2 → Calls Try.prog 18 #[.slice a n ca, .slice b m cb] w2 fun e' w3 => Below w2.heap.size w2 w3 ∧ ∃ v' k, e' = .returned (.tuple #[v', .int .i64 er]) ∧ Pair w3 v v' k := by
  refine (mul_any a b n m ca cb LA LB A B w hA hB hn hm).mono ?_
  rintro e w' ⟨hb, ⟨hno, rfl⟩ | ⟨gA, gB, hs, rfl⟩ | ⟨gA, gB, hs, a', rfl, hM⟩⟩
  · refine ⟨hb, _, _, rfl, fun w2 hb2 => (refMulM_form a b n m ca cb LA LB A B w2 ((hA.below hb).below hb2) ((hB.below hb).below hb2) hn hm hno).mono ?_⟩
    rintro e w3 ⟨hb3, rfl⟩
    exact ⟨hb3, _, 0, rfl, by decide, none, none, 0, 0, fun _ => 0, idM, rfl, rfl, MatAt.nilM _ _ _, MatAt.nilM _ _ _⟩
  · refine ⟨hb, _, _, rfl, fun w2 hb2 => (refMulM_shape a b n m ca cb LA LB A B w2 ((hA.below hb).below hb2) ((hB.below hb).below hb2) hn hm gA gB hs).mono ?_⟩
    rintro e w3 ⟨hb3, rfl⟩
    exact ⟨hb3, _, 0, rfl, by decide, none, none, 0, 0, fun _ => 0, idM, rfl, rfl, MatAt.nilM _ _ _, MatAt.nilM _ _ _⟩
  · refine ⟨hb, _, _, rfl, fun w2 hb2 => (refMulM_ok a b n m ca cb LA LB A B w2 ((hA.below hb).below hb2) ((hB.below hb).below hb2) hn hm gA gB hs).mono ?_⟩
    rintro e w3 ⟨hb3, vo, rfl, hAcc⟩
    obtain ⟨a2, c2, rfl, hk, hM2⟩ := hAcc.mat
    exact ⟨hb3, _, n, rfl, hk, _, _, _, _, fun _ => LB 0, mulM m A B, rfl, rfl, (hM.below hb2).below hb3, hM2⟩

set_option maxHeartbeats 1000000 in
theorem mulsLaw_arg (a : Option Addr) (n ca : Nat) (b : Option Addr) (m cb : Nat) (w : World) (hA : RawArg w a n ca) (hB : RawArg w b m cb) :
    Calls Try.prog 4 #[.slice a n ca, .slice b m cb] w fun e w' => e = .returned (.bool true) ∧ Below w.heap.size w w' := by
  obtain ⟨LA, A, AR, CR, hn, hMA, _⟩ := hA
  obtain ⟨LB, B, BR, DR, hm, hMB, _⟩ := hB
  have hp := mul_pair a b n m ca cb LA LB A B w ⟨AR, CR, hMA⟩ ⟨BR, DR, hMB⟩ hn hm
  clear hMA hMB hn hm
  go_enter Try.func4, Try.ntmps4
  go_wp2_with fail
  go_at_call 17
  refine hp.mono ?_
  rintro e w1 ⟨hb1, v1, e1, rfl, hI2⟩
  go_wp2_with fail
  go_at_call 18
  refine (hI2 _ (Below.refl _ _)).mono ?_
  rintro e w2 ⟨hb2, v2, k2, rfl, hP⟩
  have hb02 := hb1.trans (hb2.mono hb1.size)
  clear hI2 hp hb2
  go_wp2_with fail
  go_at_call 13
  refine (wakes_any _).mono ?_
  rintro e w5 ⟨rfl, hb5⟩
  have hb05 := hb02.trans (hb5.mono hb02.size)
  have s1 := (hP.below hb5).same
  have t1 : (e1 == e1) = true := by simp
  clear hP
  go_wp2_with fail
  go_at_call 16
  refine s1.mono ?_
  rintro e w8 ⟨rfl, q2, rfl⟩
  go_wp2_with fail
  go_ret
  exact ⟨by simp, below_drewN hb05 _⟩
end Go.Proofs.Ytocgoafmjggnmaa
