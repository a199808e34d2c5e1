/- What the document fixes: wakes. -/
import Derived.Test.YtfepmafjkgjmmaaBkArg
namespace Go.Proofs.Ytfepmafjkgjmmaa
open Go.RowKit Go.PlainAid
set_option linter.unusedVariables false

abbrev bta : ByteArray := { data := #[97] }
abbrev btb : ByteArray := { data := #[98] }
section
variable {B : Nat} {w0 w : World} {g N : Nat} {D : Nat → Dk} {s : Nat} {p : Option Nat} {R : Asn}
/-- A crash of which nothing is kept. -/
theorem bcrash_none (hR : Firm R) (h : Hold B w0 w (star (bnk g N D s p) R)) (hq : ∀ j, j < N → (D j).q.length ≤ 1000000) :
    Calls Try.prog 23 #[.pointer (some ⟨g, 0, none⟩), .slice none 0 0] w fun e w' => e = .returned (.tuple #[]) ∧ Hold B w0 w' (star (bnk g N (fun i => crashD (D i) (fun _ => false)) s none) R) := by
  have h1 : Hold B w0 w (star (bnk g N D s p) (star (rowA 80 (.slice none 0 0) 0 (blV 0 fun _ => noBl)) R)) := (h.addNought.monoL (fun F h => ⟨World.ownsRow_nil _ _ _ _, fun k => ⟨fun hk => absurd hk (h k), fun e => by cases e⟩⟩)).swap
  refine (bcrash_any hR h1 (fun i hi => by omega) (by omega) hq).mono ?_
  rintro e w' ⟨he, h2⟩
  refine ⟨he, h2.swap.right.monoL (fun F h => bnk_congr (fun i hi => ?_) h)⟩
  show crashD (D i) (keptK 0 _ i) = _
  rw [show keptK 0 (fun _ => noBl) i = fun _ => false from if_neg (by omega)]
/-- A step for a disk that there is, with power. -/
theorem stE_ok (k : Nat) (e : Int) (hk : k < N) (hp : p ≠ some 0) : stE N p (k : Int) e = e := by unfold stE; rw [if_neg (out_not N k hk), if_neg hp]
theorem stE_dark (k : Nat) (e : Int) (hk : k < N) : stE N (some 0) (k : Int) e = 21 := by unfold stE; rw [if_neg (out_not N k hk), if_pos rfl]
theorem stD_ok (k : Nat) (d : Dk) (hk : k < N) (hp : p ≠ some 0) : stD N p (k : Int) D d = updD D k d := by unfold stD; rw [if_neg (out_not N k hk), if_neg hp, Int.toNat_natCast]
theorem stD_dark (k : Nat) (d : Dk) (hk : k < N) : stD N (some 0) (k : Int) D d = D := by unfold stD; rw [if_neg (out_not N k hk), if_pos rfl]
theorem stS_in (k : Nat) (hk : k < N) : stS N p (k : Int) s = spendS p s := by unfold stS; rw [if_neg (out_not N k hk)]
theorem stP_in (k : Nat) (hk : k < N) : stP N p (k : Int) = spendP p := by unfold stP; rw [if_neg (out_not N k hk)]
/-- A Write of a cell that there is. -/
theorem bwrite_in (hR : Firm R) (h : Hold B w0 w (star (bnk g N D s p) R)) (hs : s ≤ 1000000000) (hq : ∀ j, j < N → (D j).q.length ≤ 1000000) (k j : Nat) (t : ByteArray) (i at_ : Int) (hi : i = (k : Int)) (ha : at_ = (j : Int)) (hk : k < N) (hj : j < (D k).n) (hd : (D k).dead = false) (ht : t.size ≤ 2048) :
    Calls Try.prog 21 #[.pointer (some ⟨g, 0, none⟩), .int .i64 i, .int .i64 at_, .string t] w fun e w' => e = .returned (.int .i64 (spendE p)) ∧ Hold B w0 w' (star (bnk g N (if p = some 0 then D else updD D k ⟨(D k).g, (D k).n, (D k).l, (D k).q ++ [(j, t)], false⟩) (spendS p s) (spendP p)) R) := by
  subst hi ha
  have h1 := bwrite_any hR h hs hq (k : Int) (j : Int) t
  rw [Int.toNat_natCast, hd, errW_ok _ j t hj ht, stS_in k hk, stP_in k hk] at h1
  by_cases h0 : p = some 0
  · subst h0
    rw [stE_dark k _ hk, stD_dark k _ hk] at h1
    rw [if_pos rfl]
    exact h1
  · rw [stE_ok k _ hk h0, stD_ok k _ hk h0] at h1
    unfold putD at h1
    rw [hd] at h1
    unfold putQ at h1
    rw [errW_ok _ j t hj ht, if_pos rfl, Int.toNat_natCast] at h1
    rw [if_neg h0, show spendE p = 0 from if_neg h0]
    exact h1
theorem bread_in (h : Hold B w0 w (star (bnk g N D s p) R)) (k j : Nat) (i at_ : Int) (hi : i = (k : Int)) (ha : at_ = (j : Int)) (hk : k < N) (hj : j < (D k).n) (hd : (D k).dead = false) :
    Calls Try.prog 22 #[.pointer (some ⟨g, 0, none⟩), .int .i64 i, .int .i64 at_] w fun e w' => e = .returned (.tuple #[.string (if p = some 0 then noB else app (D k).l (D k).q j), .int .i64 (spendE p)]) ∧ w' = w := by
  subst hi ha
  have h1 := bread_any h (k : Int) (j : Int)
  unfold rdB readB at h1
  rw [Int.toNat_natCast, hd, errA_ok _ j hj, if_pos rfl, Int.toNat_natCast, if_neg (out_not N k hk)] at h1
  by_cases h0 : p = some 0
  · subst h0
    rw [stE_dark k _ hk] at h1
    exact h1
  · rw [stE_ok k _ hk h0] at h1
    rw [show spendE p = 0 from if_neg h0]
    exact h1
end
/-- The bank of wakes, with s steps made: no cell lasts; none waits that wasn't written. -/
def Wk (w0 w : World) (g s : Nat) (p : Option Nat) (z : Nat) : Prop := ∃ D : Nat → Dk, (∀ i, i < 2 → (D i).n = 4 ∧ (D i).l = (fun _ => noB) ∧ (D i).dead = false ∧ (D i).q.length ≤ z) ∧ Hold w0.heap.size w0 w (star (bnk g 2 D s p) nought)
theorem wk_new (w : World) : Calls Try.prog 8 #[.int .i64 2, .int .i64 4] w fun e w' => ∃ g, e = .returned (.pointer (some ⟨g, 0, none⟩)) ∧ Wk w w' g 0 none 0 := by
  have hnew := bnew_any firm_nought (hold_nought w.heap.size w w (Nat.le_refl _) (Below.refl _ _)) 2 4
  rw [show newB 2 = 2 from rfl] at hnew
  refine hnew.mono ?_
  rintro e w' ⟨g, rfl, D, hD, h⟩
  exact ⟨g, rfl, D, fun i hi => ⟨(hD i hi).1, (hD i hi).2.1, (hD i hi).2.2.2, by rw [(hD i hi).2.2.1]; exact Nat.le_refl _⟩, h⟩
section
variable {w0 w : World} {g : Nat}
theorem wk_cut (h : Wk w0 w g 0 none 0) : Calls Try.prog 18 #[.pointer (some ⟨g, 0, none⟩), .int .i64 1] w fun e w' => e = .returned (.tuple #[]) ∧ Wk w0 w' g 0 (some 1) 0 := by
  obtain ⟨D, hD, h⟩ := h
  exact (bcut_any firm_nought h 1 (by decide)).mono fun e w' ⟨he, h'⟩ => ⟨he, D, hD, h'⟩
theorem wk_a (h : Wk w0 w g 0 (some 1) 0) : Calls Try.prog 21 #[.pointer (some ⟨g, 0, none⟩), .int .i64 0, .int .i64 0, .string bta] w fun e w' => e = .returned (.int .i64 0) ∧ Wk w0 w' g 1 (some 0) 1 := by
  obtain ⟨D, hD, h⟩ := h
  have h0 := hD 0 (by decide)
  have hw := bwrite_in firm_nought h (by decide) (fun j hj => by have := (hD j hj).2.2.2; omega) 0 0 bta 0 0 rfl rfl (by decide) (by rw [h0.1]; decide) h0.2.2.1 (by decide)
  rw [if_neg (by decide)] at hw
  refine hw.mono ?_
  rintro e w' ⟨rfl, h'⟩
  refine ⟨rfl, _, fun i hi => ?_, h'⟩
  by_cases e : i = 0
  · subst e
    rw [updD_same]
    exact ⟨h0.1, h0.2.1, rfl, by have := h0.2.2.2; show ((D 0).q ++ [(0, bta)]).length ≤ 1; rw [List.length_append]; show (D 0).q.length + 1 ≤ 1; omega⟩
  · rw [updD_ne _ _ _ _ e]
    have := hD i hi
    exact ⟨this.1, this.2.1, this.2.2.1, by omega⟩
theorem wk_b (h : Wk w0 w g 1 (some 0) 1) : Calls Try.prog 21 #[.pointer (some ⟨g, 0, none⟩), .int .i64 1, .int .i64 0, .string btb] w fun e w' => e = .returned (.int .i64 21) ∧ Wk w0 w' g 1 (some 0) 1 := by
  obtain ⟨D, hD, h⟩ := h
  have h0 := hD 1 (by decide)
  have hw := bwrite_in firm_nought h (by decide) (fun j hj => by have := (hD j hj).2.2.2; omega) 1 0 btb 1 0 rfl rfl (by decide) (by rw [h0.1]; decide) h0.2.2.1 (by decide)
  rw [if_pos rfl] at hw
  exact hw.mono fun e w' ⟨he, h'⟩ => ⟨he, D, hD, h'⟩
theorem wk_crash (h : Wk w0 w g 1 (some 0) 1) : Calls Try.prog 23 #[.pointer (some ⟨g, 0, none⟩), .slice none 0 0] w fun e w' => e = .returned (.tuple #[]) ∧ Wk w0 w' g 1 none 0 := by
  obtain ⟨D, hD, h⟩ := h
  refine (bcrash_none firm_nought h (fun j hj => by have := (hD j hj).2.2.2; omega)).mono ?_
  rintro e w' ⟨he, h'⟩
  refine ⟨he, _, fun i hi => ?_, h'⟩
  obtain ⟨h1, h2, h3, h4⟩ := hD i hi
  unfold crashD crashL flushQ
  rw [h3, h2]
  exact ⟨h1, by simp only [Bool.false_eq_true, if_false]; rw [keep_none]; rfl, rfl, by simp⟩
theorem wk_read (h : Wk w0 w g 1 none 0) : Calls Try.prog 22 #[.pointer (some ⟨g, 0, none⟩), .int .i64 0, .int .i64 0] w fun e w' => e = .returned (.tuple #[.string noB, .int .i64 0]) ∧ w' = w := by
  obtain ⟨D, hD, h⟩ := h
  obtain ⟨h1, h2, h3, h4⟩ := hD 0 (by decide)
  have hr := bread_in h 0 0 0 0 rfl rfl (by decide) (by rw [h1]; decide) h3
  have hq : (D 0).q = [] := List.length_eq_zero_iff.1 (by omega)
  rw [if_neg (by decide), hq, h2] at hr
  exact hr
theorem wk_steps (h : Wk w0 w g 1 none 0) : Calls Try.prog 13 #[.pointer (some ⟨g, 0, none⟩)] w fun e w' => e = .returned (.int .i64 1) ∧ w' = w := by
  obtain ⟨D, hD, h⟩ := h
  exact bsteps_any h
theorem wk_size (h : Wk w0 w g 1 none 0) : Calls Try.prog 11 #[.pointer (some ⟨g, 0, none⟩)] w fun e w' => e = .returned (.int .i64 2) ∧ w' = w := by
  obtain ⟨D, hD, h⟩ := h
  exact bsize_any h
theorem wk_low {s z : Nat} {p : Option Nat} (h : Wk w0 w g s p z) : Below w0.heap.size w0 w := by
  obtain ⟨D, hD, h⟩ := h
  exact h.low
end
set_option maxRecDepth 20000 in
set_option maxHeartbeats 1000000 in
theorem bwakes_any (w : World) : Calls Try.prog 10 #[] w fun e w' => e = .returned (.bool true) ∧ Below w.heap.size w w' := by
  have hnew := wk_new w
  go_enter Try.func10, Try.ntmps10
  go_wp2_with (first
    | (go_at_call 8; refine hnew.mono ?_; rintro e w1 ⟨g, rfl, h1⟩; clear hnew; have h1 : Hid (Wk _ _ _ _ _ _) := h1)
    | (go_at_call 18; refine (wk_cut h1.out).mono ?_; rintro e w2 ⟨rfl, h2⟩; clear h1; have h2 : Hid (Wk _ _ _ _ _ _) := h2)
    | (go_at_call 21; refine (wk_a h2.out).mono ?_; rintro e w3 ⟨rfl, h3⟩; clear h2; have h3 : Hid (Wk _ _ _ _ _ _) := h3)
    | (go_at_call 21; refine (wk_b h3.out).mono ?_; rintro e w4 ⟨rfl, h4⟩; clear h3; have h4 : Hid (Wk _ _ _ _ _ _) := h4)
    | (go_at_call 23; refine (wk_crash h4.out).mono ?_; rintro e w5 ⟨rfl, h5⟩; clear h4; have h5 : Hid (Wk _ _ _ _ _ _) := h5)
    | (go_at_call 22; refine (wk_read h5.out).mono ?_; rintro e w6 ⟨rfl, hw'⟩; rw [hw']; clear hw' w6)
    | (go_at_call 13; refine (wk_steps h5.out).mono ?_; rintro e w6 ⟨rfl, hw'⟩; rw [hw']; clear hw' w6)
    | (go_at_call 11; refine (wk_size h5.out).mono ?_; rintro e w6 ⟨rfl, hw'⟩; rw [hw']; clear hw' w6))
  go_ret
  exact ⟨rfl, wk_low h5.out⟩
end Go.Proofs.Ytfepmafjkgjmmaa
