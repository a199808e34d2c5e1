/- The law BankCut, walked. -/
import Derived.Test.YtfepmafjkgjmmaaBkCut
namespace Go.Proofs.Ytfepmafjkgjmmaa
open Go.RowKit Go.PlainAid
set_option linter.unusedVariables false

abbrev bxt : ByteArray := { data := #[120] }
abbrev byt : ByteArray := { data := #[121] }
theorem cut_max (x : Int) (b : Nat) (hb : 0 < b) : ∃ (y : Int) (k : Nat), (if (0 : Int) < x then x else 0) = y ∧ 0 ≤ y ∧ y % (b : Int) = (k : Int) ∧ k < b := by
  refine ⟨_, ((if (0 : Int) < x then x else 0) % (b : Int)).toNat, rfl, by split <;> omega, ?_, ?_⟩
  · have := Int.emod_nonneg (if (0 : Int) < x then x else 0) (show (b : Int) ≠ 0 by omega); omega
  · have := Int.emod_lt_of_pos (if (0 : Int) < x then x else 0) (show (0 : Int) < (b : Int) by omega)
    have := Int.emod_nonneg (if (0 : Int) < x then x else 0) (show (b : Int) ≠ 0 by omega); omega
set_option maxRecDepth 20000 in
set_option maxHeartbeats 8000000 in
theorem bankCut_law (n : Int) (s : Option Addr) (len cap : Nat) (W : World) (hn : -9223372036854775808 ≤ n ∧ n ≤ 9223372036854775807) (hs : BActsArg W s len cap) : Calls Try.prog 4 #[.int .i64 n, .slice s len cap] W fun e w' => e = .returned (.bool true) ∧ Below W.heap.size W w' := by
  have hl1 := hs.1
  have hl2 := hs.2.1
  have HS : Hid (BActsArg W s len cap) := hs
  have HN : Hid _ := hn.2
  have hnew := ct_new W
  clear hs hn
  obtain ⟨C, hC1, hC2, hC3⟩ : ∃ C : Nat, (if (60 : Int) < (len : Int) then (60 : Int) else (len : Int)) = (C : Int) ∧ C ≤ 60 ∧ C ≤ len := ⟨min len 60, by split <;> omega, by omega, by omega⟩
  have hC4 : C ≤ cap := by omega
  go_enter Try.func4, Try.ntmps4
  go_wp2_with (first
    | (go_at_call 8; refine hnew.mono ?_; rintro e w1 ⟨g, rfl, h1⟩; clear hnew; have h1 : Hid _ := h1)
    | (go_at_call 18; refine (ct_cut n HN.out h1.out).mono ?_; rintro e w2 ⟨rfl, h2⟩; clear h1; have hx : Hid (Ct _ _ _ _ _ _) := h2; clear h2))
  clear hC1
  go_loopw [6, 24] (fun mv i wr => ∃ j m : Nat, j ≤ C ∧ m ≤ j ∧ mv = .int .i64 (m : Int) ∧ i = .int .i64 (j : Int) ∧ Hid (Ct W wr g n.toNat m j)) (fun _ i _ => C - (intOf i).toNat)
  case atStart => exact ⟨0, 0, Nat.zero_le _, Nat.le_refl _, rfl, rfl, hx.out⟩
  case round =>
    clear hx
    obtain ⟨j, m, hj, hmj, rfl, rfl, hrr⟩ := hrel
    by_cases hlt : j < C
    · have hj' : (j : Int) < (C : Int) := by omega
      obtain ⟨sb, so, A, hsa, hA, c0, c1, c2, c3, c4, c5⟩ := bacts_at HS.out hrr.out.low j (by omega)
      subst hsa
      obtain ⟨d, i, a, s, x, kb, km, kc, L⟩ := A
      have hp1 : Hid (Ct _ _ _ _ _ _) := Ct.below hrr.out ((Below.refl _ _).alloc (Nat.le_refl _) (.cells #[.int .i64 d, .int .i64 i, .int .i64 a, .string s, .slice kb km kc, .bool x] 34))
      clear hrr hA
      obtain ⟨y, k, hy, hy0, hk1, hk⟩ := cut_max i 3 (by decide)
      obtain ⟨z, l, hz, hz0, hl1', hl⟩ := cut_max a 8 (by decide)
      replace hk1 : y % 3 = (k : Int) := hk1
      replace hl1' : z % 8 = (l : Int) := hl1'
      by_cases hmn : m < n.toNat
      · have hmI : (m : Int) < n := by omega
        have HE : Hid (mkE n.toNat m = 0) := if_pos hmn
        have HM : Hid (mk1 n.toNat m = m + 1) := if_pos hmn
        by_cases hmn2 : m + 1 < n.toNat
        · have hm2 : ¬ n ≤ (m : Int) + 1 := by omega
          have HRD : Hid (∀ w2, Ct W w2 g n.toNat (m + 1) (j + 1) → Calls Try.prog 22 #[.pointer (some ⟨g, 0, none⟩), .int .i64 (k : Int), .int .i64 0] w2 fun e w' => ∃ t, e = .returned (.tuple #[.string t, .int .i64 0]) ∧ w' = w2) := fun w2 h2 => by have := ct_read h2 k hk; rw [show mkE n.toNat (m + 1) = 0 from if_pos hmn2] at this; exact this
          clear hmn hmn2
          have s19 := ct_spend hp1.out (by omega)
          have s20 := ct_flush hp1.out (by omega) k hk
          have s21 := ct_write hp1.out (by omega) (by omega) k l hk hl bxt (by decide)
          rw [HE.out, HM.out] at s19 s20 s21
          clear hp1
          go_wp2_with (first
            | (go_at_call 19; refine s19.mono ?_; rintro e w2 ⟨rfl, h2⟩; clear s19 s20 s21; have h2 : Hid (Ct _ _ _ _ _ _) := h2; have hrd := HRD.out _ h2.out)
            | (go_at_call 20; refine s20.mono ?_; rintro e w2 ⟨rfl, h2⟩; clear s19 s20 s21; have h2 : Hid (Ct _ _ _ _ _ _) := h2; have hrd := HRD.out _ h2.out)
            | (go_at_call 21; refine s21.mono ?_; rintro e w2 ⟨rfl, h2⟩; clear s19 s20 s21; have h2 : Hid (Ct _ _ _ _ _ _) := h2; have hrd := HRD.out _ h2.out)
            | (go_at_call 22; refine hrd.mono ?_; rintro e w3 ⟨t, rfl, hw'⟩; rw [hw']; clear hw' w3 hrd))
          all_goals
            go_roundw
            case rel => exact ⟨j + 1, m + 1, by omega, by omega, by go_num, by go_num, h2.out⟩
            case measure => simp [intOf]; omega
        · have hm2 : n ≤ (m : Int) + 1 := by omega
          have HRD : Hid (∀ w2, Ct W w2 g n.toNat (m + 1) (j + 1) → Calls Try.prog 22 #[.pointer (some ⟨g, 0, none⟩), .int .i64 (k : Int), .int .i64 0] w2 fun e w' => ∃ t, e = .returned (.tuple #[.string t, .int .i64 21]) ∧ w' = w2) := fun w2 h2 => by have := ct_read h2 k hk; rw [show mkE n.toNat (m + 1) = 21 from if_neg hmn2] at this; exact this
          clear hmn hmn2
          have s19 := ct_spend hp1.out (by omega)
          have s20 := ct_flush hp1.out (by omega) k hk
          have s21 := ct_write hp1.out (by omega) (by omega) k l hk hl bxt (by decide)
          rw [HE.out, HM.out] at s19 s20 s21
          clear hp1
          go_wp2_with (first
            | (go_at_call 19; refine s19.mono ?_; rintro e w2 ⟨rfl, h2⟩; clear s19 s20 s21; have h2 : Hid (Ct _ _ _ _ _ _) := h2; have hrd := HRD.out _ h2.out)
            | (go_at_call 20; refine s20.mono ?_; rintro e w2 ⟨rfl, h2⟩; clear s19 s20 s21; have h2 : Hid (Ct _ _ _ _ _ _) := h2; have hrd := HRD.out _ h2.out)
            | (go_at_call 21; refine s21.mono ?_; rintro e w2 ⟨rfl, h2⟩; clear s19 s20 s21; have h2 : Hid (Ct _ _ _ _ _ _) := h2; have hrd := HRD.out _ h2.out)
            | (go_at_call 22; refine hrd.mono ?_; rintro e w3 ⟨t, rfl, hw'⟩; rw [hw']; clear hw' w3 hrd))
          all_goals
            go_roundw
            case rel => exact ⟨j + 1, m + 1, by omega, by omega, by go_num, by go_num, h2.out⟩
            case measure => simp [intOf]; omega
      · have hmI : ¬ (m : Int) < n := by omega
        have hm2 : n ≤ (m : Int) := by omega
        have HE : Hid (mkE n.toNat m = 21) := if_neg hmn
        have HM : Hid (mk1 n.toNat m = m) := if_neg hmn
        have HRD : Hid (∀ w2, Ct W w2 g n.toNat (m) (j + 1) → Calls Try.prog 22 #[.pointer (some ⟨g, 0, none⟩), .int .i64 (k : Int), .int .i64 0] w2 fun e w' => ∃ t, e = .returned (.tuple #[.string t, .int .i64 21]) ∧ w' = w2) := fun w2 h2 => by have := ct_read h2 k hk; rw [show mkE n.toNat (m) = 21 from if_neg hmn] at this; exact this
        clear hmn
        have s19 := ct_spend hp1.out (by omega)
        have s20 := ct_flush hp1.out (by omega) k hk
        have s21 := ct_write hp1.out (by omega) (by omega) k l hk hl bxt (by decide)
        rw [HE.out, HM.out] at s19 s20 s21
        clear hp1
        go_wp2_with (first
          | (go_at_call 19; refine s19.mono ?_; rintro e w2 ⟨rfl, h2⟩; clear s19 s20 s21; have h2 : Hid (Ct _ _ _ _ _ _) := h2; have hrd := HRD.out _ h2.out)
          | (go_at_call 20; refine s20.mono ?_; rintro e w2 ⟨rfl, h2⟩; clear s19 s20 s21; have h2 : Hid (Ct _ _ _ _ _ _) := h2; have hrd := HRD.out _ h2.out)
          | (go_at_call 21; refine s21.mono ?_; rintro e w2 ⟨rfl, h2⟩; clear s19 s20 s21; have h2 : Hid (Ct _ _ _ _ _ _) := h2; have hrd := HRD.out _ h2.out)
          | (go_at_call 22; refine hrd.mono ?_; rintro e w3 ⟨t, rfl, hw'⟩; rw [hw']; clear hw' w3 hrd))
        all_goals
          go_roundw
          case rel => exact ⟨j + 1, m, by omega, by omega, by go_num, by go_num, h2.out⟩
          case measure => simp [intOf]; omega
    · have hj' : ¬ (j : Int) < (C : Int) := by omega
      obtain rfl : j = C := by omega
      have hst := ct_steps hrr.out
      have hcr := ct_crash hrr.out (by omega)
      have HM : Hid (m ≤ 1000) := by exact (by omega : m ≤ 1000)
      clear hrr
      go_wp2_with (first
        | (go_at_call 13; refine hst.mono ?_; rintro e w2 ⟨rfl, hw'⟩; rw [hw']; clear hw' w2 hst)
        | (go_at_call 23; refine hcr.mono ?_; rintro e w2 ⟨rfl, h2⟩; clear hcr; have h2 : Hid (Cr _ _ _ _) := h2)
        | (go_at_call 10; refine (bwakes_any _).mono ?_; rintro e w3 ⟨rfl, hb3⟩; have h3 : Hid (Cr _ _ _ _) := Cr.below h2.out hb3; clear h2 hb3)
        | (go_at_call 19; refine (cr_spend h3.out HM.out).mono ?_; rintro e w4 ⟨rfl, h4⟩; clear h3; have h4 : Hid (Cr _ _ _ _) := h4)
        | (go_at_call 21; refine (cr_write h4.out (by have := HM.out; omega) byt (by decide)).mono ?_; rintro e w5 ⟨rfl, h5⟩; clear h4; have h5 : Hid _ := h5))
      go_ret
      exact ⟨rfl, h5.out⟩
end Go.Proofs.Ytfepmafjkgjmmaa
