/- A bank whose power fails: what BankCut needs. -/
import Derived.Test.YtfepmafjkgjmmaaBkWakes
namespace Go.Proofs.Ytfepmafjkgjmmaa
open Go.RowKit Go.PlainAid
set_option linter.unusedVariables false

/-- A bank of three disks, all alive; made of n steps were made. -/
def Ct (W w : World) (g n made z : Nat) : Prop := ∃ D : Nat → Dk, (∀ i, i < 3 → (D i).n = 8 ∧ (D i).dead = false ∧ (D i).q.length ≤ z) ∧ Hold W.heap.size W w (star (bnk g 3 D made (some (n - made))) nought)
/-- One more step, if one is left. -/
def mk1 (n made : Nat) : Nat := if made < n then made + 1 else made
def mkE (n made : Nat) : Int := if made < n then 0 else 21
section
variable {W w : World} {g n made z : Nat}
theorem mk_e (n made : Nat) : spendE (some (n - made)) = mkE n made := by
  unfold spendE mkE
  by_cases h : made < n
  · rw [if_neg (fun e => by have := Option.some.inj e; omega), if_pos h]
  · rw [if_pos (by rw [show n - made = 0 by omega]), if_neg h]
theorem mk_s (n made : Nat) : spendS (some (n - made)) made = mk1 n made := by
  unfold spendS mk1
  by_cases h : made < n
  · rw [if_neg (fun e => by have := Option.some.inj e; omega), if_pos h]
  · rw [if_pos (by rw [show n - made = 0 by omega]), if_neg h]
theorem mk_p (n made : Nat) : spendP (some (n - made)) = some (n - mk1 n made) := by
  unfold spendP mk1
  show some (n - made - 1) = _
  by_cases h : made < n
  · rw [if_pos h]; congr 1; 
  · rw [if_neg h]; congr 1; omega
theorem mk1_le (h : made ≤ z) : mk1 n made ≤ z + 1 := by unfold mk1; split <;> omega
theorem ct_new (W : World) : Calls Try.prog 8 #[.int .i64 3, .int .i64 8] W fun e w' => ∃ g, e = .returned (.pointer (some ⟨g, 0, none⟩)) ∧ ∃ D : Nat → Dk, (∀ i, i < 3 → (D i).n = 8 ∧ (D i).dead = false ∧ (D i).q.length ≤ 0) ∧ Hold W.heap.size W w' (star (bnk g 3 D 0 none) nought) := by
  have hnew := bnew_any firm_nought (hold_nought W.heap.size W W (Nat.le_refl _) (Below.refl _ _)) 3 8
  rw [show newB 3 = 3 from rfl] at hnew
  refine hnew.mono ?_
  rintro e w' ⟨g, rfl, D, hD, h⟩
  exact ⟨g, rfl, D, fun i hi => ⟨(hD i hi).1, (hD i hi).2.2.2, by rw [(hD i hi).2.2.1]; exact Nat.le_refl _⟩, h⟩
theorem ct_cut (n : Int) (hn : n ≤ 9223372036854775807) (h : ∃ D : Nat → Dk, (∀ i, i < 3 → (D i).n = 8 ∧ (D i).dead = false ∧ (D i).q.length ≤ 0) ∧ Hold W.heap.size W w (star (bnk g 3 D 0 none) nought)) : Calls Try.prog 18 #[.pointer (some ⟨g, 0, none⟩), .int .i64 n] w fun e w' => e = .returned (.tuple #[]) ∧ Ct W w' g n.toNat 0 0 := by
  obtain ⟨D, hD, h⟩ := h
  exact (bcut_any firm_nought h n hn).mono fun e w' ⟨he, h'⟩ => ⟨he, D, hD, h'⟩
theorem Ct.low (h : Ct W w g n made z) : Below W.heap.size W w := by obtain ⟨D, hD, h⟩ := h; exact h.low
theorem Ct.below {w' : World} (h : Ct W w g n made z) (hb : Below w.heap.size w w') : Ct W w' g n made z := by
  obtain ⟨D, hD, h⟩ := h
  exact ⟨D, hD, h.below ((firm_bnk _ _ _ _ _).star firm_nought) hb⟩
theorem ct_spend (h : Ct W w g n made z) (hs : made ≤ 1000) : Calls Try.prog 19 #[.pointer (some ⟨g, 0, none⟩)] w fun e w' => e = .returned (.int .i64 (mkE n made)) ∧ Ct W w' g n (mk1 n made) (z + 1) := by
  obtain ⟨D, hD, h⟩ := h
  have hw := bspend_any firm_nought h (by omega)
  rw [mk_e, mk_s, mk_p] at hw
  exact hw.mono fun e w' ⟨he, h'⟩ => ⟨he, D, fun i hi => ⟨(hD i hi).1, (hD i hi).2.1, by have := (hD i hi).2.2; omega⟩, h'⟩
theorem ct_flush (h : Ct W w g n made z) (hs : made ≤ 1000) (k : Nat) (hk : k < 3) : Calls Try.prog 20 #[.pointer (some ⟨g, 0, none⟩), .int .i64 (k : Int)] w fun e w' => e = .returned (.int .i64 (mkE n made)) ∧ Ct W w' g n (mk1 n made) (z + 1) := by
  obtain ⟨D, hD, h⟩ := h
  have hw := bflush_any firm_nought h (by omega) (k : Int)
  rw [Int.toNat_natCast, (hD k hk).2.1, stS_in k hk, stP_in k hk, mk_s, mk_p] at hw
  have hE : stE 3 (some (n - made)) (k : Int) (errD false) = mkE n made := by
    by_cases h0 : n - made = 0
    · rw [h0, stE_dark k _ hk]; unfold mkE; rw [if_neg (by omega)]
    · rw [stE_ok k _ hk (fun e => h0 (Option.some.inj e))]; unfold mkE; rw [if_pos (by omega)]; rfl
  rw [hE] at hw
  refine hw.mono ?_
  rintro e w' ⟨he, h'⟩
  refine ⟨he, _, fun i hi => ?_, h'⟩
  have hi' := hD i hi
  have hk' := hD k hk
  by_cases h0 : n - made = 0
  · rw [h0, stD_dark k _ hk]
    exact ⟨hi'.1, hi'.2.1, by omega⟩
  · rw [stD_ok k _ hk (fun e => h0 (Option.some.inj e))]
    by_cases e : i = k
    · subst e
      rw [updD_same]
      exact ⟨hi'.1, hi'.2.1, by show (flushQ (D i).q (D i).dead).length ≤ _; have := flushQ_length (D i).q (D i).dead; omega⟩
    · rw [updD_ne _ _ _ _ e]
      exact ⟨hi'.1, hi'.2.1, by omega⟩
theorem ct_write (h : Ct W w g n made z) (hs : made ≤ 1000) (hz : z ≤ 1000) (k j : Nat) (hk : k < 3) (hj : j < 8) (t : ByteArray) (ht : t.size ≤ 2048) : Calls Try.prog 21 #[.pointer (some ⟨g, 0, none⟩), .int .i64 (k : Int), .int .i64 (j : Int), .string t] w fun e w' => e = .returned (.int .i64 (mkE n made)) ∧ Ct W w' g n (mk1 n made) (z + 1) := by
  obtain ⟨D, hD, h⟩ := h
  have hw := bwrite_in firm_nought h (by omega) (fun i hi => by have := (hD i hi).2.2; omega) k j t (k : Int) (j : Int) rfl rfl hk (by rw [(hD k hk).1]; exact hj) (hD k hk).2.1 ht
  rw [mk_e, mk_s, mk_p] at hw
  refine hw.mono ?_
  rintro e w' ⟨he, h'⟩
  refine ⟨he, _, fun i hi => ?_, h'⟩
  have hi' := hD i hi
  split
  · exact ⟨hi'.1, hi'.2.1, by omega⟩
  · by_cases e : i = k
    · subst e
      rw [updD_same]
      exact ⟨hi'.1, rfl, by show ((D i).q ++ [(j, t)]).length ≤ _; rw [List.length_append]; show (D i).q.length + 1 ≤ _; omega⟩
    · rw [updD_ne _ _ _ _ e]
      exact ⟨hi'.1, hi'.2.1, by omega⟩
theorem ct_read (h : Ct W w g n made z) (k : Nat) (hk : k < 3) : Calls Try.prog 22 #[.pointer (some ⟨g, 0, none⟩), .int .i64 (k : Int), .int .i64 0] w fun e w' => ∃ t, e = .returned (.tuple #[.string t, .int .i64 (mkE n made)]) ∧ w' = w := by
  obtain ⟨D, hD, h⟩ := h
  have hr := bread_in h k 0 (k : Int) 0 rfl rfl hk (by rw [(hD k hk).1]; decide) (hD k hk).2.1
  rw [mk_e] at hr
  exact hr.mono fun e w' ⟨he, hw⟩ => ⟨_, he, hw⟩
theorem ct_steps (h : Ct W w g n made z) : Calls Try.prog 13 #[.pointer (some ⟨g, 0, none⟩)] w fun e w' => e = .returned (.int .i64 (made : Int)) ∧ w' = w := by
  obtain ⟨D, hD, h⟩ := h
  exact bsteps_any h
/-- Behind the crash. -/
def Cr (W w : World) (g made : Nat) : Prop := ∃ D : Nat → Dk, (∀ i, i < 3 → (D i).n = 8 ∧ (D i).dead = false ∧ (D i).q.length ≤ 2000) ∧ Hold W.heap.size W w (star (bnk g 3 D made none) nought)
theorem Cr.low (h : Cr W w g made) : Below W.heap.size W w := by obtain ⟨D, hD, h⟩ := h; exact h.low
theorem Cr.below {w' : World} (h : Cr W w g made) (hb : Below w.heap.size w w') : Cr W w' g made := by
  obtain ⟨D, hD, h⟩ := h
  exact ⟨D, hD, h.below ((firm_bnk _ _ _ _ _).star firm_nought) hb⟩
theorem ct_crash (h : Ct W w g n made z) (hz : z ≤ 1000) : Calls Try.prog 23 #[.pointer (some ⟨g, 0, none⟩), .slice none 0 0] w fun e w' => e = .returned (.tuple #[]) ∧ Cr W w' g made := by
  obtain ⟨D, hD, h⟩ := h
  refine (bcrash_none firm_nought h (fun j hj => by have := (hD j hj).2.2; omega)).mono ?_
  rintro e w' ⟨he, h'⟩
  refine ⟨he, _, fun i hi => ?_, h'⟩
  obtain ⟨h1, h2, h3⟩ := hD i hi
  exact ⟨h1, h2, by show (flushQ (D i).q (D i).dead).length ≤ _; have := flushQ_length (D i).q (D i).dead; omega⟩
theorem cr_spend (h : Cr W w g made) (hs : made ≤ 1000) : Calls Try.prog 19 #[.pointer (some ⟨g, 0, none⟩)] w fun e w' => e = .returned (.int .i64 0) ∧ Cr W w' g (made + 1) := by
  obtain ⟨D, hD, h⟩ := h
  exact (bspend_any firm_nought h (by omega)).mono fun e w' ⟨he, h'⟩ => ⟨he, D, hD, h'⟩
theorem cr_write (h : Cr W w g made) (hs : made ≤ 1000) (t : ByteArray) (ht : t.size ≤ 2048) : Calls Try.prog 21 #[.pointer (some ⟨g, 0, none⟩), .int .i64 2, .int .i64 7, .string t] w fun e w' => e = .returned (.int .i64 0) ∧ Below W.heap.size W w' := by
  obtain ⟨D, hD, h⟩ := h
  have hw := bwrite_in firm_nought h (by omega) (fun i hi => by have := (hD i hi).2.2; omega) 2 7 t 2 7 rfl rfl (by decide) (by rw [(hD 2 (by decide)).1]; decide) (hD 2 (by decide)).2.1 ht
  exact hw.mono fun e w' ⟨he, h'⟩ => ⟨he, h'.low⟩
end
end Go.Proofs.Ytfepmafjkgjmmaa
