/- A matrix that has an inverse is undone by it: the law's walk. -/
import Derived.Test.YthcbnffhkbbkpaaMatFew
namespace Go.Proofs.Ythcbnffhkbbkpaa
open Go.RowKit Go.PlainAid
set_option linter.unusedVariables false

theorem mul_ok (a b : Option Addr) (n m ca cb : Nat) (LA LB : Nat → Nat) (A B : Mx) (w : World) (hA : MatAt w a n LA A) (hB : MatAt w b m LB B) (gA : Gd n LA) (gB : Gd m LB) (hs : LA 0 = m) :
    Calls Try.prog 21 #[.slice a n ca, .slice b m cb] w fun e w' => Below w.heap.size w w' ∧ ∃ a', e = .returned (.tuple #[.slice a' n n, .int .i64 0]) ∧ MatAt w' a' n (fun _ => LB 0) (mulM m A B) := by
  have h16 : ∀ k, k ≤ 16 → k ≤ maxLen := fun k hk => by unfold maxLen; omega
  refine (mul_any a b n m ca cb LA LB A B w hA hB (h16 _ gA.2.1) (h16 _ gB.2.1)).mono ?_
  rintro e w' ⟨hb, ⟨hno, _⟩ | ⟨_, _, hne, _⟩ | ⟨_, _, _, a', rfl, hM⟩⟩
  · exact absurd ⟨gA, gB⟩ hno
  · exact absurd hs hne
  · exact ⟨hb, a', rfl, hM⟩
theorem identity_ok (n : Nat) (w : World) (h1 : 1 ≤ n) (h2 : n ≤ 16) :
    Calls Try.prog 20 #[.int .i64 (n : Int)] w fun e w' => Below w.heap.size w w' ∧ ∃ a', e = .returned (.tuple #[.slice a' n n, .int .i64 0]) ∧ MatAt w' a' n (fun _ => n) idM := by
  refine (identity_any n w (by omega) (by omega)).mono ?_
  rintro e w' ⟨hb, ⟨hno, _⟩ | ⟨k, g, G, hk, _, _, rfl, hO⟩⟩
  · exact absurd ⟨by omega, by omega⟩ hno
  · obtain rfl : n = k := by omega
    exact ⟨hb, _, rfl, hO.mat (by unfold maxLen; omega)⟩

set_option maxHeartbeats 40000000 in
theorem backLaw_arg (a : Option Addr) (len cap : Nat) (w : World) (hX : RawArg w a len cap) :
    Calls Try.prog 6 #[.slice a len cap] w fun e w' => e = .returned (.bool true) ∧ Below w.heap.size w w' := by
  obtain ⟨L, X, AR, CR, hl, hM, hC⟩ := hX
  have hfew := few_any a len cap 16 true L X AR CR w hl hM hC (by decide) (by decide)
  obtain ⟨n, hn⟩ : ∃ n, min len 16 = n := ⟨_, rfl⟩
  rw [hn] at hfew
  have hn16 : n ≤ 16 := by omega
  obtain ⟨LA, hLA⟩ : ∃ LA, fewL L 16 n true = LA := ⟨_, rfl⟩
  have hLn : ∀ r, LA r = n := fun r => by rw [← hLA]; simp [fewL]
  obtain ⟨A, hA⟩ : ∃ A, fewX L X 16 = A := ⟨_, rfl⟩
  rw [hLA, hA] at hfew
  have HLN : Hid (∀ r, LA r = n) := hLn
  have HG : Hid (1 ≤ n → Gd n LA) := fun h => ⟨h, hn16, by rw [hLn]; exact h, by rw [hLn]; exact hn16, fun r _ => by rw [hLn, hLn]⟩
  clear hl hM hC hn hLA hA hLn
  go_enter Try.func6, Try.ntmps6
  go_wp2_with fail
  go_at_call 12
  refine hfew.mono ?_
  rintro e w1 ⟨vm, rfl, hAcc, hb1⟩
  have hcop := copied_any w1 w.heap.size n vm LA A hAcc hn16 (fun r _ => by rw [HLN.out]; exact hn16)
  obtain ⟨am, cm, rfl, hnm, hMm⟩ := hAcc.mat
  clear hfew hAcc
  go_wp2_with fail
  go_at_call 14
  refine hcop.mono ?_
  rintro e w2 ⟨vw, rfl, hAcc2, hb2⟩
  obtain ⟨aw, cw, rfl, _, hMw⟩ := hAcc2.mat
  have hM2 := hMm.below hb2
  have hb02 := hb1.trans (hb2.mono hb1.size)
  clear hcop hAcc2 hMm hb2
  go_wp2_with fail
  go_at_call 13
  refine (invert_any am n cm LA A w2 hnm hM2).mono ?_
  rintro e w3 ⟨hb3, hI⟩
  have hb03 := hb02.trans (hb3.mono hb02.size)
  have hM3 := hM2.below hb3
  have hW3 := hMw.below hb3
  clear hb3 hM2 hMw hb1 hb02
  have hsame := fun x (h : Below w3.heap.size w3 x) => same_any am aw n cm cw LA LA A A x hnm (hM3.below h) (hW3.below h) (fun _ _ => rfl) (fun _ _ _ _ => rfl)
  unfold maxLen at hnm
  rcases hI with ⟨hno, rfl⟩ | ⟨-, hne, -⟩ | ⟨hG, -, rfl, -⟩ | ⟨hG, -, a', U, rfl, hMU, hR, hu⟩
  · have hn0 : n = 0 := by
      rcases Nat.eq_zero_or_pos n with h | h
      · exact h
      · exact absurd (HG.out h) hno
    subst hn0
    clear hM3 hW3 hno
    go_wp2_with fail
    go_at_call 16
    refine (wakes_any _).mono ?_
    rintro e w4 ⟨rfl, hb4⟩
    go_wp2_with fail
    go_at_call 17
    refine (hsame _ hb4).mono ?_
    rintro e w5 ⟨rfl, q5, rfl⟩
    have hb5 : Below w3.heap.size w3 (w4.drewN q5) := below_drewN hb4 _
    go_wp2_with fail
    go_at_call 16
    refine (wakes_any _).mono ?_
    rintro e w6 ⟨rfl, hb6⟩
    have hb36 := hb5.trans (hb6.mono hb5.size)
    go_wp2_with fail
    go_at_call 17
    refine (hsame _ hb36).mono ?_
    rintro e w7 ⟨rfl, q7, rfl⟩
    go_wp2_with fail
    go_ret
    exact ⟨by simp, below_drewN (hb03.trans (hb36.mono hb03.size)) _⟩
  · exact absurd (HLN.out 0).symm hne
  · have hnp : (0 : Int) < (n : Int) := by have := hG.1; omega
    have hnp' : 0 < n := by omega
    clear hM3 hW3 hG
    go_wp2_with fail
    go_at_call 16
    refine (wakes_any _).mono ?_
    rintro e w4 ⟨rfl, hb4⟩
    go_wp2_with fail
    go_at_call 17
    refine (hsame _ hb4).mono ?_
    rintro e w5 ⟨rfl, q5, rfl⟩
    have hb5 : Below w3.heap.size w3 (w4.drewN q5) := below_drewN hb4 _
    go_wp2_with fail
    go_at_call 16
    refine (wakes_any _).mono ?_
    rintro e w6 ⟨rfl, hb6⟩
    have hb36 := hb5.trans (hb6.mono hb5.size)
    go_wp2_with fail
    go_at_call 17
    refine (hsame _ hb36).mono ?_
    rintro e w7 ⟨rfl, q7, rfl⟩
    go_wp2_with fail
    go_ret
    exact ⟨by simp, below_drewN (hb03.trans (hb36.mono hb03.size)) _⟩
  · obtain ⟨hl, hr⟩ := reach_done hR hu
    have g1 := hG.1
    have gR : Gd n (fun _ => n) := ⟨g1, hn16, g1, hn16, fun _ _ => rfl⟩
    have HL : Hid (∀ r, r < n → ∀ c, c < n → mulM n (rightM n U) A r c = idM r c) := hl
    have HR : Hid (∀ r, r < n → ∀ c, c < n → mulM n A (rightM n U) r c = idM r c) := hr
    have hid := fun x => identity_ok n x g1 hn16
    have hm1 := fun x (h : Below w3.heap.size w3 x) => mul_ok am a' n n cm n LA (fun _ => n) A (rightM n U) x (hM3.below h) (hMU.below h) hG gR (HLN.out 0)
    have hm2 := fun x (h : Below w3.heap.size w3 x) => mul_ok a' am n n n cm (fun _ => n) LA (rightM n U) A x (hMU.below h) (hM3.below h) gR hG rfl
    have HE : Hid (LA 0 = n) := HLN.out 0
    clear hl hr hR hu hM3 hW3 hMU
    go_wp2_with fail
    go_at_call 16
    refine (wakes_any _).mono ?_
    rintro e w4 ⟨rfl, hb4⟩
    go_wp2_with fail
    go_at_call 17
    refine (hsame _ hb4).mono ?_
    rintro e w5 ⟨rfl, q5, rfl⟩
    have hb5 : Below w3.heap.size w3 (w4.drewN q5) := below_drewN hb4 _
    go_wp2_with fail
    go_at_call 20
    refine (hid _).mono ?_
    rintro e w6 ⟨hb6, ai, rfl, hMi⟩
    have hb36 := hb5.trans (hb6.mono hb5.size)
    go_wp2_with fail
    go_at_call 21
    refine (hm1 _ hb36).mono ?_
    rintro e w7 ⟨hb7, ap, rfl, hMp⟩
    have hb37 := hb36.trans (hb7.mono hb36.size)
    have hMi7 := hMi.below hb7
    go_wp2_with fail
    go_at_call 21
    refine (hm2 _ hb37).mono ?_
    rintro e w8 ⟨hb8, aq, rfl, hMq⟩
    have hb38 := hb37.trans (hb8.mono hb37.size)
    have hMi8 := hMi7.below hb8
    have hMp8 := hMp.below hb8
    have hs1 := same_any ap ai n n n (fun _ => n) (fun _ => n) (mulM n A (rightM n U)) idM w8 (by unfold maxLen; omega) hMp8 hMi8 (fun _ _ => rfl) (fun r hr c hc => HR.out r hr c hc)
    have hs2 := fun q => same_any aq ai n n n (fun _ => LA 0) (fun _ => n) (mulM n (rightM n U) A) idM (w8.drewN q) (by unfold maxLen; omega) (hMq.below (below_drewN (Below.refl _ _) q)) (hMi8.below (below_drewN (Below.refl _ _) q)) (fun _ _ => HE.out) (fun r hr c hc => HL.out r hr c (by rw [← HE.out]; exact hc))
    clear hMi hMi7 hMi8 hMp hMp8 hMq hm1 hm2 hid hsame
    go_wp2_with fail
    go_at_call 17
    refine hs1.mono ?_
    rintro e w9 ⟨rfl, q9, rfl⟩
    go_wp2_with fail
    go_at_call 17
    refine (hs2 _).mono ?_
    rintro e w10 ⟨rfl, q10, rfl⟩
    go_wp2_with fail
    go_ret
    exact ⟨by simp, by first | exact below_drewN (hb03.trans (hb38.mono hb03.size)) _ | exact below_drewN (below_drewN (hb03.trans (hb38.mono hb03.size)) _) _⟩
end Go.Proofs.Ythcbnffhkbbkpaa
