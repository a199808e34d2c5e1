/- A bank of three disks whose power doesn't fail: what BankSteps needs. -/
import Derived.Test.YtfepmafjkgjmmaaBkApart
namespace Go.Proofs.Ytfepmafjkgjmmaa
open Go.RowKit Go.PlainAid
set_option linter.unusedVariables false

/-- s steps were made; at most z writes wait. -/
def Sp (R : Asn) (W w : World) (g s z : Nat) : Prop := ∃ D : Nat → Dk, (∀ i, i < 3 → (D i).q.length ≤ z) ∧ Hold W.heap.size W w (star (bnk g 3 D s none) R)
section
variable {R : Asn} {W w : World} {g s z : Nat}
theorem sp_new (W : World) : Calls Try.prog 8 #[.int .i64 3, .int .i64 8] W fun e w' => ∃ g, e = .returned (.pointer (some ⟨g, 0, none⟩)) ∧ Sp nought W w' g 0 0 := by
  have hnew := bnew_any firm_nought (hold_nought W.heap.size W W (Nat.le_refl _) (Below.refl _ _)) 3 8
  rw [show newB 3 = 3 from rfl] at hnew
  refine hnew.mono ?_
  rintro e w' ⟨g, rfl, D, hD, h⟩
  exact ⟨g, rfl, D, fun i hi => by rw [(hD i hi).2.2.1]; exact Nat.le_refl _, h⟩
theorem Sp.low (h : Sp R W w g s z) : Below W.heap.size W w := by obtain ⟨D, _, h⟩ := h; exact h.low
theorem Sp.below {w' : World} (hR : Firm R) (h : Sp R W w g s z) (hb : Below w.heap.size w w') : Sp R W w' g s z := by
  obtain ⟨D, h1, h⟩ := h
  exact ⟨D, h1, h.below ((firm_bnk _ _ _ _ _).star hR) hb⟩
theorem below_drewN (w : World) (n : Nat) : Below w.heap.size w (w.drewN n) := ⟨rfl, rfl, rfl, Nat.le_refl _, fun _ _ => rfl⟩
theorem Sp.drewN (hR : Firm R) (h : Sp R W w g s z) (n : Nat) : Sp R W (w.drewN n) g s z := h.below hR (below_drewN w n)
theorem Sp.more (h : Sp R W w g s z) : Sp R W w g s (z + 1) := by
  obtain ⟨D, h1, h⟩ := h
  exact ⟨D, fun i hi => Nat.le_succ_of_le (h1 i hi), h⟩
theorem Sp.box (h : Sp nought W w g s z) (T : TypeId) (A : Array Value) : Sp (star (blkA w.heap.size T A.toList) nought) W (w.alloc (.cells A T)) g s z := by
  obtain ⟨D, h1, h⟩ := h
  exact ⟨D, h1, (h.newBlk ((firm_bnk _ _ _ _ _).star firm_nought) T A).swap⟩
theorem Sp.unbox {bx : Nat} {T : TypeId} {L : List Value} (h : Sp (star (blkA bx T L) nought) W w g s z) : Sp nought W w g s z := by
  obtain ⟨D, h1, h⟩ := h
  exact ⟨D, h1, h.swap.right⟩
theorem Sp.blk {bx : Nat} {T : TypeId} {L : List Value} (h : Sp (star (blkA bx T L) nought) W w g s z) : Blk w bx T L := by
  obtain ⟨D, h1, h⟩ := h
  exact h.swap.blk
theorem Sp.set {bx : Nat} {T : TypeId} {L : List Value} (h : Sp (star (blkA bx T L) nought) W w g s z) (i : Nat) (v : Value) : Sp (star (blkA bx T (L.set i v)) nought) W (w.setCell ⟨bx, i, none⟩ v) g s z := by
  obtain ⟨D, h1, h⟩ := h
  exact ⟨D, h1, (h.swap.setBlk ((firm_bnk _ _ _ _ _).star firm_nought) i v).swap⟩
theorem sp_steps (h : Sp R W w g s z) : Calls Try.prog 13 #[.pointer (some ⟨g, 0, none⟩)] w fun e w' => e = .returned (.int .i64 (s : Int)) ∧ w' = w := by
  obtain ⟨D, h1, h⟩ := h
  exact bsteps_any h
theorem sp_write (hR : Firm R) (h : Sp R W w g s z) (hs : s ≤ 1000) (hz : z ≤ 1000) (i a : Int) (t : ByteArray) : Calls Try.prog 21 #[.pointer (some ⟨g, 0, none⟩), .int .i64 i, .int .i64 a, .string t] w fun e w' => ∃ E, e = .returned (.int .i64 E) ∧ Sp R W w' g (stS 3 none i s) (z + 1) := by
  obtain ⟨D, h1, h⟩ := h
  refine (bwrite_any hR h (by omega) (fun j hj => by have := h1 j hj; omega) i a t).mono ?_
  rintro e w' ⟨he, h'⟩
  rw [stP_none] at h'
  refine ⟨_, he, _, stD_q' 3 D i _ z (fun j e hj => ?_) h1, h'⟩
  subst e; rw [Int.toNat_natCast]
  have := h1 j hj
  have := putQ_length (D j).q (D j).dead (D j).n a t
  show (putQ (D j).q (D j).dead (D j).n a t).length ≤ _
  omega
theorem sp_flush (hR : Firm R) (h : Sp R W w g s z) (hs : s ≤ 1000) (i : Int) : Calls Try.prog 20 #[.pointer (some ⟨g, 0, none⟩), .int .i64 i] w fun e w' => ∃ E, e = .returned (.int .i64 E) ∧ Sp R W w' g (stS 3 none i s) (z + 1) := by
  obtain ⟨D, h1, h⟩ := h
  refine (bflush_any hR h (by omega) i).mono ?_
  rintro e w' ⟨he, h'⟩
  rw [stP_none] at h'
  refine ⟨_, he, _, stD_q' 3 D i _ z (fun j e hj => ?_) h1, h'⟩
  subst e; rw [Int.toNat_natCast]
  have := h1 j hj
  have := flushQ_length (D j).q (D j).dead
  show (flushQ (D j).q (D j).dead).length ≤ _
  omega
theorem sp_spend (hR : Firm R) (h : Sp R W w g s z) (hs : s ≤ 1000) : Calls Try.prog 19 #[.pointer (some ⟨g, 0, none⟩)] w fun e w' => ∃ E, e = .returned (.int .i64 E) ∧ Sp R W w' g (s + 1) (z + 1) := by
  obtain ⟨D, h1, h⟩ := h
  exact (bspend_any hR h (by omega)).mono fun e w' ⟨he, h'⟩ => ⟨_, he, D, fun i hi => Nat.le_succ_of_le (h1 i hi), h'⟩
theorem sp_read (h : Sp R W w g s z) (i a : Int) : Calls Try.prog 22 #[.pointer (some ⟨g, 0, none⟩), .int .i64 i, .int .i64 a] w fun e w' => ∃ t E, e = .returned (.tuple #[.string t, .int .i64 E]) ∧ w' = w := by
  obtain ⟨D, h1, h⟩ := h
  exact (bread_any h i a).mono fun e w' ⟨he, hw⟩ => ⟨_, _, he, hw⟩
theorem sp_lists (hR : Firm R) (h : Sp R W w g s z) (d i at_ : Int) (t : ByteArray) (a : Option Addr) (m c : Nat) (x : Bool) (L : Nat → Bl) (hL : ListsIn W.heap.size W a m c L) :
    Calls Try.prog 24 #[bactV d i at_ t (.slice a m c) x] w fun e w' => ∃ v, e = .returned v ∧ Sp (star (rowA 80 v (min m 20) (blV (min m 20) fun i => cutBl (L i))) R) W w' g s z := by
  obtain ⟨D, h1, h⟩ := h
  refine (lists_any ((firm_bnk _ _ _ _ _).star hR) h d i at_ t a m c x L hL).mono ?_
  rintro e w' ⟨v, he, h'⟩
  exact ⟨v, he, D, h1, h'.swap⟩
theorem lists_ok {B : Nat} {a : Option Addr} {m c : Nat} {L : Nat → Bl} (hL : ListsIn B W a m c L) : ∀ i, i < min m 20 → BlOk B W (cutBl (L i)) := fun i hi => cutBl_ok (hL.2.2.1 i (by omega)).1 (hL.2.2.1 i (by omega)).2
theorem sp_crash (hR : Firm R) {v : Value} {m : Nat} {L : Nat → Bl} (h : Sp (star (rowA 80 v m (blV m L)) R) W w g s z) (hL : ∀ i, i < m → BlOk W.heap.size W (L i)) (hm : m ≤ 1000) (hz : z ≤ 1000) : Calls Try.prog 23 #[.pointer (some ⟨g, 0, none⟩), v] w fun e w' => e = .returned (.tuple #[]) ∧ Sp R W w' g s (z + 1) := by
  obtain ⟨D, h1, h⟩ := h
  refine (bcrash_any hR h hL hm (fun j hj => by have := h1 j hj; omega)).mono ?_
  rintro e w' ⟨he, h'⟩
  refine ⟨he, _, fun i hi => ?_, h'.swap.right⟩
  have := h1 i hi
  have := flushQ_length (D i).q (D i).dead
  show (flushQ (D i).q (D i).dead).length ≤ _
  omega
/-- A disk itself: what it does is no step. -/
theorem sp_diskOut (h : Sp R W w g s z) (i : Int) (hi : Out 3 i) : Calls Try.prog 14 #[.pointer (some ⟨g, 0, none⟩), .int .i64 i] w fun e w' => e = .returned (.pointer none) ∧ w' = w := by
  obtain ⟨D, h1, h⟩ := h
  exact bdisk_out h i hi
theorem sp_diskIn (hR : Firm R) (h : Sp R W w g s z) (hz : z ≤ 1000) (k : Nat) (hk : k < 3) : Calls Try.prog 14 #[.pointer (some ⟨g, 0, none⟩), .int .i64 (k : Int)] w fun e w' => ∃ gx, e = .returned (.pointer (some ⟨gx, 0, none⟩)) ∧ w' = w ∧ Hid (Calls Try.prog 25 #[.pointer (some ⟨gx, 0, none⟩)] w fun e w' => ∃ E, e = .returned (.int .i64 E) ∧ Sp R W w' g s (z + 1)) ∧ Hid (∀ (a : Int) (t : ByteArray), Calls Try.prog 26 #[.pointer (some ⟨gx, 0, none⟩), .int .i64 a, .string t] w fun e w' => ∃ E, e = .returned (.bool E) ∧ Sp R W w' g s (z + 1)) := by
  obtain ⟨D, h1, h⟩ := h
  have hk1 := h1 k hk
  refine (bdisk_in h k hk).mono fun e w' ⟨he, hw'⟩ => ⟨_, he, hw', ?_, fun a t => ?_⟩
  · refine (h_flush ((firm_bnkX k).star hR) (h.openD k hk)).mono fun e w2 ⟨he, h2⟩ => ⟨_, he, _, fun i hi => ?_, Hold.shutD k hk (flushD (D k)) rfl h2⟩
    by_cases e : i = k
    · subst e; rw [updD_same]; have := flushQ_length (D i).q (D i).dead; show (flushQ (D i).q (D i).dead).length ≤ _; omega
    · rw [updD_ne _ _ _ _ e]; exact Nat.le_succ_of_le (h1 i hi)
  · refine (h_tamper ((firm_bnkX k).star hR) (h.openD k hk) a t (by omega)).mono fun e w2 ⟨he, h2⟩ => ⟨_, he, _, fun i hi => ?_, Hold.shutD k hk (tampD (D k) a t) rfl h2⟩
    by_cases e : i = k
    · subst e; rw [updD_same]; have := tampQ_length (D i).q (D i).dead (D i).n a t; show (tampQ (D i).q (D i).dead (D i).n a t).length ≤ _; omega
    · rw [updD_ne _ _ _ _ e]; exact Nat.le_succ_of_le (h1 i hi)
end
end Go.Proofs.Ytfepmafjkgjmmaa
