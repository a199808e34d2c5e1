/- A bank one of whose disks is left alone: what BankApart needs. -/
import Derived.Test.YtfepmafjkgjmmaaBkCutLaw
namespace Go.Proofs.Ytfepmafjkgjmmaa
open Go.RowKit Go.PlainAid
set_option linter.unusedVariables false

abbrev mine : ByteArray := { data := #[109, 105, 110, 101] }
/-- Disk k has one write that waits; at most z steps were made. -/
def Ap (R : Asn) (W w : World) (g N k z : Nat) : Prop := ∃ (D : Nat → Dk) (s : Nat), s ≤ z ∧ k < N ∧ (D k).n = 6 ∧ (D k).q = [(3, mine)] ∧ (D k).dead = false ∧ (∀ i, i < N → (D i).q.length ≤ z) ∧ Hold W.heap.size W w (star (bnk g N D s none) R)
/-- A new bank. -/
def An (W w : World) (g N : Nat) : Prop := ∃ D : Nat → Dk, (∀ i, i < N → Fresh (D i) 6) ∧ Hold W.heap.size W w (star (bnk g N D 0 none) nought)
section
variable {W w : World} {g N k z : Nat} {R : Asn}
theorem an_new (W : World) (d : Int) : Calls Try.prog 8 #[.int .i64 d, .int .i64 6] W fun e w' => ∃ g, e = .returned (.pointer (some ⟨g, 0, none⟩)) ∧ An W w' g (newB d) :=
  (bnew_any firm_nought (hold_nought W.heap.size W W (Nat.le_refl _) (Below.refl _ _)) d 6).mono fun e w' ⟨g, he, D, hD, h⟩ => ⟨g, he, D, hD, h⟩
theorem An.below {w' : World} (h : An W w g N) (hb : Below w.heap.size w w') : An W w' g N := by
  obtain ⟨D, hD, h⟩ := h
  exact ⟨D, hD, h.below ((firm_bnk _ _ _ _ _).star firm_nought) hb⟩
theorem an_size (h : An W w g N) : Calls Try.prog 11 #[.pointer (some ⟨g, 0, none⟩)] w fun e w' => e = .returned (.int .i64 (N : Int)) ∧ w' = w := by
  obtain ⟨D, hD, h⟩ := h
  exact bsize_any h
theorem an_write (h : An W w g N) (k : Nat) (hk : k < N) : Calls Try.prog 21 #[.pointer (some ⟨g, 0, none⟩), .int .i64 (k : Int), .int .i64 3, .string mine] w fun e w' => e = .returned (.int .i64 0) ∧ Ap nought W w' g N k 1 := by
  obtain ⟨D, hD, h⟩ := h
  have hw := bwrite_in firm_nought h (by decide) (fun i hi => by rw [(hD i hi).2.2.1]; exact Nat.zero_le _) k 3 mine (k : Int) 3 rfl rfl hk (by rw [(hD k hk).1]; decide) (hD k hk).2.2.2 (by decide)
  refine hw.mono ?_
  rintro e w' ⟨he, h'⟩
  rw [if_neg (by decide)] at h'
  refine ⟨he, _, _, Nat.le_refl _, hk, ?_, ?_, ?_, fun i hi => ?_, h'⟩
  · rw [updD_same]; exact (hD k hk).1
  · rw [updD_same]; show (D k).q ++ [(3, mine)] = _; rw [(hD k hk).2.2.1]; rfl
  · rw [updD_same]
  · by_cases e : i = k
    · subst e; rw [updD_same]; show ((D i).q ++ [(3, mine)]).length ≤ 1; rw [(hD i hi).2.2.1]; exact Nat.le_refl _
    · rw [updD_ne _ _ _ _ e, (hD i hi).2.2.1]; exact Nat.zero_le _
theorem Ap.low (h : Ap R W w g N k z) : Below W.heap.size W w := by obtain ⟨D, s, _, _, _, _, _, _, h⟩ := h; exact h.low
theorem Ap.below {w' : World} (hR : Firm R) (h : Ap R W w g N k z) (hb : Below w.heap.size w w') : Ap R W w' g N k z := by
  obtain ⟨D, s, h1, h2, h3, h4, h5, h6, h⟩ := h
  exact ⟨D, s, h1, h2, h3, h4, h5, h6, h.below ((firm_bnk _ _ _ _ _).star hR) hb⟩
theorem Ap.box (h : Ap nought W w g N k z) (T : TypeId) (A : Array Value) : Ap (star (blkA w.heap.size T A.toList) nought) W (w.alloc (.cells A T)) g N k z := by
  obtain ⟨D, s, h1, h2, h3, h4, h5, h6, h⟩ := h
  exact ⟨D, s, h1, h2, h3, h4, h5, h6, (h.newBlk ((firm_bnk _ _ _ _ _).star firm_nought) T A).swap⟩
theorem Ap.unbox {bx : Nat} {T : TypeId} {L : List Value} (h : Ap (star (blkA bx T L) nought) W w g N k z) : Ap nought W w g N k z := by
  obtain ⟨D, s, h1, h2, h3, h4, h5, h6, h⟩ := h
  exact ⟨D, s, h1, h2, h3, h4, h5, h6, h.swap.right⟩
theorem Ap.blk {bx : Nat} {T : TypeId} {L : List Value} (h : Ap (star (blkA bx T L) nought) W w g N k z) : Blk w bx T L := by
  obtain ⟨D, s, h1, h2, h3, h4, h5, h6, h⟩ := h
  exact h.swap.blk
theorem Ap.more (h : Ap R W w g N k z) : Ap R W w g N k (z + 1) := by
  obtain ⟨D, s, h1, h2, h3, h4, h5, h6, h⟩ := h
  exact ⟨D, s, by omega, h2, h3, h4, h5, fun i hi => Nat.le_succ_of_le (h6 i hi), h⟩
/-- A step for another disk leaves disk k as it was. -/
theorem stD_other (N : Nat) (D : Nat → Dk) (i : Int) (d : Dk) (k : Nat) (hk : k < N) (hi : i ≠ (k : Int)) : stD N none i D d k = D k := by
  unfold stD
  split
  · rfl
  · rename_i ho
    rw [if_neg (by decide), updD_ne]
    unfold Out at ho; omega
theorem stD_q (N : Nat) (D : Nat → Dk) (i : Int) (d : Dk) (z : Nat) (hd : d.q.length ≤ z + 1) (hq : ∀ j, j < N → (D j).q.length ≤ z) : ∀ j, j < N → (stD N none i D d j).q.length ≤ z + 1 := by
  intro j hj
  unfold stD
  split
  · exact Nat.le_succ_of_le (hq j hj)
  · rw [if_neg (by decide)]
    by_cases e : j = i.toNat
    · subst e; rw [updD_same]; exact hd
    · rw [updD_ne _ _ _ _ e]; exact Nat.le_succ_of_le (hq j hj)
theorem stP_none (N : Nat) (i : Int) : stP N none i = none := by unfold stP; split <;> rfl
theorem stD_q' (N : Nat) (D : Nat → Dk) (i : Int) (d : Dk) (z : Nat) (hd : ∀ k : Nat, i = (k : Int) → k < N → d.q.length ≤ z + 1) (hq : ∀ j, j < N → (D j).q.length ≤ z) : ∀ j, j < N → (stD N none i D d j).q.length ≤ z + 1 := by
  rcases out_cases N i with ho | ⟨k, rfl, hk, ho⟩
  · intro j hj; unfold stD; rw [if_pos ho]; exact Nat.le_succ_of_le (hq j hj)
  · exact stD_q N D _ d z (hd k rfl hk) hq
theorem ap_write (hR : Firm R) (h : Ap R W w g N k z) (hz : z ≤ 1000) (i a : Int) (t : ByteArray) (hi : i ≠ (k : Int)) : Calls Try.prog 21 #[.pointer (some ⟨g, 0, none⟩), .int .i64 i, .int .i64 a, .string t] w fun e w' => ∃ E, e = .returned (.int .i64 E) ∧ Ap R W w' g N k (z + 1) := by
  obtain ⟨D, s, h1, h2, h3, h4, h5, h6, h⟩ := h
  refine (bwrite_any hR h (by omega) (fun j hj => by have := h6 j hj; omega) i a t).mono ?_
  rintro e w' ⟨he, h'⟩
  rw [stP_none] at h'
  refine ⟨_, he, _, _, Nat.le_trans (stS_le _ _ _ _) (by omega), h2, ?_, ?_, ?_, stD_q' N D i _ z (fun j e hj => ?_) h6, h'⟩
  · rw [stD_other N D i _ k h2 hi]; exact h3
  · rw [stD_other N D i _ k h2 hi]; exact h4
  · rw [stD_other N D i _ k h2 hi]; exact h5
  · subst e; rw [Int.toNat_natCast]
    have := h6 j hj
    have := putQ_length (D j).q (D j).dead (D j).n a t
    show (putQ (D j).q (D j).dead (D j).n a t).length ≤ _
    omega
theorem ap_flush (hR : Firm R) (h : Ap R W w g N k z) (hz : z ≤ 1000) (i : Int) (hi : i ≠ (k : Int)) : Calls Try.prog 20 #[.pointer (some ⟨g, 0, none⟩), .int .i64 i] w fun e w' => ∃ E, e = .returned (.int .i64 E) ∧ Ap R W w' g N k (z + 1) := by
  obtain ⟨D, s, h1, h2, h3, h4, h5, h6, h⟩ := h
  refine (bflush_any hR h (by omega) i).mono ?_
  rintro e w' ⟨he, h'⟩
  rw [stP_none] at h'
  refine ⟨_, he, _, _, Nat.le_trans (stS_le _ _ _ _) (by omega), h2, ?_, ?_, ?_, stD_q' N D i _ z (fun j e hj => ?_) h6, h'⟩
  · rw [stD_other N D i _ k h2 hi]; exact h3
  · rw [stD_other N D i _ k h2 hi]; exact h4
  · rw [stD_other N D i _ k h2 hi]; exact h5
  · subst e; rw [Int.toNat_natCast]
    have := h6 j hj
    have := flushQ_length (D j).q (D j).dead
    show (flushQ (D j).q (D j).dead).length ≤ _
    omega
theorem ap_read (h : Ap R W w g N k z) : Calls Try.prog 22 #[.pointer (some ⟨g, 0, none⟩), .int .i64 (k : Int), .int .i64 3] w fun e w' => e = .returned (.tuple #[.string mine, .int .i64 0]) ∧ w' = w := by
  obtain ⟨D, s, h1, h2, h3, h4, h5, h6, h⟩ := h
  have hr := bread_in h k 3 (k : Int) 3 rfl rfl h2 (by rw [h3]; decide) h5
  rw [if_neg (by decide), h4, app_last [(3, mine)] 3 (D k).l 0 (3, mine) rfl rfl (fun j x hj hx => by
    cases j with
    | zero => omega
    | succ j => simp at hx)] at hr
  exact hr
theorem ap_disk (h : Ap R W w g N k z) : Calls Try.prog 14 #[.pointer (some ⟨g, 0, none⟩), .int .i64 (k : Int)] w fun e w' => ∃ gx, e = .returned (.pointer (some ⟨gx, 0, none⟩)) ∧ w' = w ∧ Hid (Calls Try.prog 17 #[.pointer (some ⟨gx, 0, none⟩)] w fun e w' => e = .returned (.int .i64 1) ∧ w' = w) := by
  obtain ⟨D, s, h1, h2, h3, h4, h5, h6, h⟩ := h
  obtain ⟨F, hF⟩ := (h.openD k h2).dsk
  have hw := waiting_any hF
  rw [h4] at hw
  exact (bdisk_in h k h2).mono fun e w' ⟨he, hw'⟩ => ⟨_, he, hw', hw⟩
end
end Go.Proofs.Ytfepmafjkgjmmaa
