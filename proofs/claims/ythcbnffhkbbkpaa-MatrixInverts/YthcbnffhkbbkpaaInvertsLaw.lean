/- The inverse of a matrix of few rows is the document's: the law's walk. -/
import Derived.Test.YthcbnffhkbbkpaaMatFew
import Derived.Test.YthcbnffhkbbkpaaMatRefInv
import Derived.Test.YthcbnffhkbbkpaaMakesLaw
namespace Go.Proofs.Ythcbnffhkbbkpaa
open Go.RowKit Go.PlainAid
set_option linter.unusedVariables false

theorem D_wide (n : Nat) (A : Mx) : D n (wideM n A) = D n A := D_congr fun r hr c hc => by unfold wideM; rw [if_pos hc]
theorem D_stuck {n c : Nat} {A U : Mx} (hc : c < n) (hR : Reach n (2 * n) (wideM n A) U) (hu : ∀ r, r < n → ∀ j, j < c → U r j = idM r j) (hz : ∀ r, c ≤ r → r < n → U r c = 0) : D n A = 0 := by
  obtain ⟨t, ht, hD⟩ := D_reach hR (by omega)
  rw [D_wide] at hD
  have h0 : D n U = 0 := D_low c U hc fun r h1 h2 j hj => by
    by_cases e : j = c
    · rw [e]; exact hz r h1 h2
    · rw [hu r h2 j (by omega)]; unfold idM; rw [if_neg (by omega)]
  by_cases hd : D n A = 0
  · exact hd
  · exact absurd (hD.symm.trans h0) (E.mul_ne _ _ ht hd)
theorem D_done {n : Nat} {A U : Mx} (hR : Reach n (2 * n) (wideM n A) U) (hu : ∀ r, r < n → ∀ j, j < n → U r j = idM r j) : D n A ≠ 0 := by
  obtain ⟨t, ht, hD⟩ := D_reach hR (by omega)
  rw [D_wide, D_congr (N := idM) hu, D_id] at hD
  intro h
  rw [h, E.mul_zero] at hD
  exact E.one_ne hD
theorem adj_right {n : Nat} {A U : Mx} (h1 : 1 ≤ n) (hR : Reach n (2 * n) (wideM n A) U) (hu : ∀ r, r < n → ∀ j, j < n → U r j = idM r j) : ∀ r, r < n → ∀ c, c < n → rightM n U r c = adjM (n - 1) A r c := by
  obtain ⟨N, rfl⟩ : ∃ N, n = N + 1 := ⟨n - 1, by omega⟩
  obtain ⟨hl, _⟩ := reach_done hR hu
  exact inverse_one hl fun r hr c hc => adj_inverse N A (D_done hR hu) r c hr hc
theorem MatAt.elems {w : World} {a : Option Addr} {n : Nat} {L : Nat → Nat} {X Y : Mx} (h : MatAt w a n L X) (he : ∀ r, r < n → ∀ c, c < L r → X r c = Y r c) : MatAt w a n L Y := by
  obtain ⟨AR, CR, h1, h2⟩ := h
  refine ⟨AR, CR, h1, fun r hr => ⟨(h2 r hr).1, ?_⟩⟩
  rcases (h2 r hr).2 with h0 | ⟨b, o, e, h⟩
  · exact .inl h0
  · exact .inr ⟨b, o, e, fun i hi => by show _ = some (byteV (Y r i)); rw [← he r hr i hi]; exact h i hi⟩

/-- Invert's answer of one copy of a matrix, and the document's of the other, are alike. -/
theorem invert_pair (a : Option Addr) (n ca : Nat) (L : Nat → Nat) (A : Mx) (w : World) (hn : n ≤ maxLen) (hA : MatAt w a n L A) (b : Option Addr) (cb : Nat) (hB : MatAt w b n L A) :
    Calls Try.prog 13 #[.slice a n ca] w fun e w' => Below w.heap.size w w' ∧ ∃ v er, e = .returned (.tuple #[v, .int .i64 er]) ∧
      ∀ w2, Below w'.heap.size w' w2 → Calls Try.prog 15 #[.slice b n cb] w2 fun e' w3 => Below w2.heap.size w2 w3 ∧ ∃ v' k, e' = .returned (.tuple #[v', .int .i64 er]) ∧ Pair w3 v v' k := by
  refine (invert_any a n ca L A w hn hA).mono ?_
  rintro e w' ⟨hb, h⟩
  have href := fun w2 (hb2 : Below w'.heap.size w' w2) => refInvert_any b n cb L A w2 hn ((hB.below hb).below hb2)
  rcases h with ⟨hno, rfl⟩ | ⟨hG, hne, rfl⟩ | ⟨hG, hs, rfl, c, U, hc, hR, hu, hz⟩ | ⟨hG, hs, a', U, rfl, hM, hR, hu⟩
  · refine ⟨hb, _, _, rfl, fun w2 hb2 => (href w2 hb2).mono ?_⟩
    rintro e w3 ⟨hb3, ⟨_, rfl⟩ | ⟨hG, _⟩ | ⟨hG, _⟩ | ⟨hG, _⟩⟩
    · exact ⟨hb3, _, 0, rfl, by decide, none, none, 0, 0, fun _ => 0, idM, rfl, rfl, MatAt.nilM _ _ _, MatAt.nilM _ _ _⟩
    all_goals exact absurd hG hno
  · refine ⟨hb, _, _, rfl, fun w2 hb2 => (href w2 hb2).mono ?_⟩
    rintro e w3 ⟨hb3, ⟨hno, _⟩ | ⟨_, _, rfl⟩ | ⟨_, hs, _⟩ | ⟨_, hs, _⟩⟩
    · exact absurd hG hno
    · exact ⟨hb3, _, 0, rfl, by decide, none, none, 0, 0, fun _ => 0, idM, rfl, rfl, MatAt.nilM _ _ _, MatAt.nilM _ _ _⟩
    all_goals exact absurd hs hne
  · refine ⟨hb, _, _, rfl, fun w2 hb2 => (href w2 hb2).mono ?_⟩
    rintro e w3 ⟨hb3, ⟨hno, _⟩ | ⟨_, hne, _⟩ | ⟨_, _, _, rfl⟩ | ⟨_, _, hd, _⟩⟩
    · exact absurd hG hno
    · exact absurd hs hne
    · exact ⟨hb3, _, 0, rfl, by decide, none, none, 0, 0, fun _ => 0, idM, rfl, rfl, MatAt.nilM _ _ _, MatAt.nilM _ _ _⟩
    · exact absurd (D_stuck hc hR hu hz) hd
  · refine ⟨hb, _, _, rfl, fun w2 hb2 => (href w2 hb2).mono ?_⟩
    rintro e w3 ⟨hb3, ⟨hno, _⟩ | ⟨_, hne, _⟩ | ⟨_, _, hd, _⟩ | ⟨_, _, _, vo, rfl, hAcc⟩⟩
    · exact absurd hG hno
    · exact absurd hs hne
    · exact absurd hd (D_done hR hu)
    · obtain ⟨a2, c2, rfl, hk, hM2⟩ := hAcc.mat
      exact ⟨hb3, _, n, rfl, hk, _, _, _, _, fun _ => n, adjM (n - 1) A, rfl, rfl, ((hM.below hb2).below hb3).elems (adj_right hG.1 hR hu), hM2⟩

set_option maxHeartbeats 4000000 in
theorem invertsLaw_arg (a : Option Addr) (len cap : Nat) (sq : Bool) (w : World) (hX : RawArg w a len cap) :
    Calls Try.prog 4 #[.slice a len cap, .bool sq] w fun e w' => e = .returned (.bool true) ∧ Below w.heap.size w w' := by
  obtain ⟨L, X, AR, CR, hl, hM, hC⟩ := hX
  have hfew := few_any a len cap 4 sq L X AR CR w hl hM hC (by decide) (by decide)
  obtain ⟨n, hn⟩ : ∃ n, min len 4 = n := ⟨_, rfl⟩
  rw [hn] at hfew
  have hn4 : n ≤ 4 := by omega
  obtain ⟨LA, hLA⟩ : ∃ LA, fewL L 4 n sq = LA := ⟨_, rfl⟩
  have hL16 : ∀ r, r < n → LA r ≤ 16 := fun r _ => by rw [← hLA]; unfold fewL; split <;> omega
  obtain ⟨A, hA⟩ : ∃ A, fewX L X 4 = A := ⟨_, rfl⟩
  rw [hLA, hA] at hfew
  have HL : Hid (∀ r, r < n → LA r ≤ 16) := hL16
  clear hl hM hC hn hLA hA hL16
  go_enter Try.func4, Try.ntmps4
  go_wp2_with fail
  go_at_call 12
  refine hfew.mono ?_
  rintro e w1 ⟨vm, rfl, hAcc, hb1⟩
  have hcop := copied_any w1 w.heap.size n vm LA A hAcc (by omega) HL.out
  obtain ⟨am, cm, rfl, hnm, hMm⟩ := hAcc.mat
  clear hfew hAcc
  go_wp2_with fail
  go_at_call 14
  refine hcop.mono ?_
  rintro e w2 ⟨vw, rfl, hAcc2, hb2⟩
  obtain ⟨aw, cw, rfl, _, hMw⟩ := hAcc2.mat
  have hp := invert_pair aw n cw LA A w2 hnm hMw am cm (hMm.below hb2)
  have hb02 := hb1.trans (hb2.mono hb1.size)
  clear hcop hAcc2 hMm hMw hb2 hb1 hnm
  go_wp2_with fail
  go_at_call 13
  refine hp.mono ?_
  rintro e w3 ⟨hb3, v1, e1, rfl, hI2⟩
  have hb03 := hb02.trans (hb3.mono hb02.size)
  clear hp hb3 hb02
  go_wp2_with fail
  go_at_call 15
  refine (hI2 _ (Below.refl _ _)).mono ?_
  rintro e w4 ⟨hb4, v2, k2, rfl, hP⟩
  have hb04 := hb03.trans (hb4.mono hb03.size)
  clear hI2 hb4 hb03
  go_wp2_with fail
  go_at_call 16
  refine (wakes_any _).mono ?_
  rintro e w5 ⟨rfl, hb5⟩
  have hb05 := hb04.trans (hb5.mono hb04.size)
  have s1 := (hP.below hb5).same
  have t1 : (e1 == e1) = true := by simp
  clear hP
  go_wp2_with fail
  go_at_call 17
  refine s1.mono ?_
  rintro e w8 ⟨rfl, q2, rfl⟩
  go_wp2_with fail
  go_ret
  exact ⟨by simp, below_drewN hb05 _⟩
end Go.Proofs.Ythcbnffhkbbkpaa
