/- Write, Flush and Read of a bank. -/
import Derived.Test.YtfepmafjkgjmmaaBkLow
namespace Go.Proofs.Ytfepmafjkgjmmaa
open Go.RowKit Go.PlainAid
set_option linter.unusedVariables false

/-- A disk behind a Write, a Flush, a Crash, a Fail, a Tamper. -/
def putD (d : Dk) (at_ : Int) (t : ByteArray) : Dk := ⟨d.g, d.n, d.l, putQ d.q d.dead d.n at_ t, d.dead⟩
def flushD (d : Dk) : Dk := ⟨d.g, d.n, flushL d.l d.q d.dead, flushQ d.q d.dead, d.dead⟩
def crashD (d : Dk) (k : Nat → Bool) : Dk := ⟨d.g, d.n, crashL d.l d.q d.dead k, flushQ d.q d.dead, d.dead⟩
def tampD (d : Dk) (at_ : Int) (t : ByteArray) : Dk := ⟨d.g, d.n, tampL d.l d.dead d.n at_ t, tampQ d.q d.dead d.n at_ t, d.dead⟩
/-- There is no such disk. -/
def Out (N : Nat) (i : Int) : Prop := i < 0 ∨ (N : Int) ≤ i
instance (N : Nat) (i : Int) : Decidable (Out N i) := by unfold Out; infer_instance
theorem out_cases (N : Nat) (i : Int) : Out N i ∨ ∃ k : Nat, i = (k : Int) ∧ k < N ∧ ¬ Out N i := by
  by_cases h : Out N i
  · exact .inl h
  · unfold Out at h
    exact .inr ⟨i.toNat, by omega, by omega, by unfold Out; omega⟩
theorem out_not (N k : Nat) (h : k < N) : ¬ Out N (k : Int) := by unfold Out; omega
/-- What a call that makes a step for a disk answers and leaves, if the disk answers e and is d then. -/
def stE (N : Nat) (p : Option Nat) (i : Int) (e : Int) : Int := if Out N i then 11 else if p = some 0 then 21 else e
def stS (N : Nat) (p : Option Nat) (i : Int) (s : Nat) : Nat := if Out N i then s else spendS p s
def stP (N : Nat) (p : Option Nat) (i : Int) : Option Nat := if Out N i then p else spendP p
def stD (N : Nat) (p : Option Nat) (i : Int) (D : Nat → Dk) (d : Dk) : Nat → Dk := if Out N i then D else if p = some 0 then D else updD D i.toNat d
theorem stS_le (N : Nat) (p : Option Nat) (i : Int) (s : Nat) : stS N p i s ≤ s + 1 := by
  unfold stS spendS; split
  · omega
  · split <;> omega
section
variable {B : Nat} {w0 w : World} {g N : Nat} {D : Nat → Dk} {s : Nat} {p : Option Nat} {R : Asn}
theorem bwrite_nil (i at_ : Int) (t : ByteArray) (w : World) : Calls Try.prog 21 #[.pointer none, .int .i64 i, .int .i64 at_, .string t] w fun e w' => e = .returned (.int .i64 1) ∧ w' = w := by
  go_enter Try.func21, Try.ntmps21
  go_wp2_with (go_at_call 41; refine (buse_nil _ _).mono ?_; rintro e w' ⟨rfl, rfl⟩)
  go_ret
  exact ⟨rfl, rfl⟩
theorem bwrite_any (hR : Firm R) (h : Hold B w0 w (star (bnk g N D s p) R)) (hs : s ≤ 1000000000) (hq : ∀ j, j < N → (D j).q.length ≤ 1000000) (i at_ : Int) (t : ByteArray) :
    Calls Try.prog 21 #[.pointer (some ⟨g, 0, none⟩), .int .i64 i, .int .i64 at_, .string t] w fun e w' => e = .returned (.int .i64 (stE N p i (errW (D i.toNat).dead (D i.toNat).n at_ t))) ∧ Hold B w0 w' (star (bnk g N (stD N p i D (putD (D i.toNat) at_ t)) (stS N p i s) (stP N p i)) R) := by
  rcases out_cases N i with ho | ⟨k, rfl, hk, ho⟩
  · have hf := buse_out h i ho
    simp only [stE, stD, stS, stP, if_pos ho]
    have h : Hid _ := h
    clear hR hq ho
    go_enter Try.func21, Try.ntmps21
    go_wp2_with (go_at_call 41; refine hf.mono ?_; rintro e w' ⟨rfl, rfl⟩)
    go_ret
    exact ⟨rfl, h.out⟩
  · have hf := buse_in hR h hs k hk
    simp only [stE, stD, stS, stP, if_neg ho, Int.toNat_natCast]
    by_cases h0 : p = some 0
    · subst h0
      simp only [if_true]
      rw [spendE_dark] at hf
      clear h hR hq ho hk
      go_enter Try.func21, Try.ntmps21
      go_wp2_with (go_at_call 41; refine hf.mono ?_; rintro e w' ⟨rfl, h1⟩; have h1 : Hid _ := h1)
      go_ret
      exact ⟨rfl, h1.out⟩
    · simp only [if_neg h0]
      rw [show spendE p = 0 from if_neg h0] at hf
      have hw : Hid (∀ w', Hold B w0 w' (star (bnk g N D (spendS p s) (spendP p)) R) → Calls Try.prog 42 #[.pointer (some ⟨(D k).g, 0, none⟩), .int .i64 at_, .string t] w' fun e w' => e = .returned (.int .i64 (errW (D k).dead (D k).n at_ t)) ∧ Hold B w0 w' (star (bnk g N (updD D k (putD (D k) at_ t)) (spendS p s) (spendP p)) R)) := fun w' h' =>
        (h_write ((firm_bnkX k).star hR) (h'.openD k hk) at_ t (hq k hk)).mono fun e w2 ⟨he, h2⟩ => ⟨he, Hold.shutD k hk (putD (D k) at_ t) rfl h2⟩
      obtain ⟨E, hE⟩ : ∃ E, errW (D k).dead (D k).n at_ t = E := ⟨_, rfl⟩
      rw [hE] at hw ⊢
      clear h hR hq ho hk h0 hE
      go_enter Try.func21, Try.ntmps21
      go_wp2_with (first
        | (go_at_call 41; refine hf.mono ?_; rintro e w' ⟨rfl, h1⟩; have h1 : Hid _ := h1)
        | (go_at_call 42; refine (hw.out _ h1.out).mono ?_; rintro e w2 ⟨rfl, h2⟩; have h2 : Hid _ := h2))
      go_ret
      exact ⟨rfl, h2.out⟩
theorem bflush_nil (i : Int) (w : World) : Calls Try.prog 20 #[.pointer none, .int .i64 i] w fun e w' => e = .returned (.int .i64 1) ∧ w' = w := by
  go_enter Try.func20, Try.ntmps20
  go_wp2_with (go_at_call 41; refine (buse_nil _ _).mono ?_; rintro e w' ⟨rfl, rfl⟩)
  go_ret
  exact ⟨rfl, rfl⟩
theorem bflush_any (hR : Firm R) (h : Hold B w0 w (star (bnk g N D s p) R)) (hs : s ≤ 1000000000) (i : Int) :
    Calls Try.prog 20 #[.pointer (some ⟨g, 0, none⟩), .int .i64 i] w fun e w' => e = .returned (.int .i64 (stE N p i (errD (D i.toNat).dead))) ∧ Hold B w0 w' (star (bnk g N (stD N p i D (flushD (D i.toNat))) (stS N p i s) (stP N p i)) R) := by
  rcases out_cases N i with ho | ⟨k, rfl, hk, ho⟩
  · have hf := buse_out h i ho
    simp only [stE, stD, stS, stP, if_pos ho]
    have h : Hid _ := h
    clear hR ho
    go_enter Try.func20, Try.ntmps20
    go_wp2_with (go_at_call 41; refine hf.mono ?_; rintro e w' ⟨rfl, rfl⟩)
    go_ret
    exact ⟨rfl, h.out⟩
  · have hf := buse_in hR h hs k hk
    simp only [stE, stD, stS, stP, if_neg ho, Int.toNat_natCast]
    by_cases h0 : p = some 0
    · subst h0
      simp only [if_true]
      rw [spendE_dark] at hf
      clear h hR ho hk
      go_enter Try.func20, Try.ntmps20
      go_wp2_with (go_at_call 41; refine hf.mono ?_; rintro e w' ⟨rfl, h1⟩; have h1 : Hid _ := h1)
      go_ret
      exact ⟨rfl, h1.out⟩
    · simp only [if_neg h0]
      rw [show spendE p = 0 from if_neg h0] at hf
      have hw : Hid (∀ w', Hold B w0 w' (star (bnk g N D (spendS p s) (spendP p)) R) → Calls Try.prog 25 #[.pointer (some ⟨(D k).g, 0, none⟩)] w' fun e w' => e = .returned (.int .i64 (errD (D k).dead)) ∧ Hold B w0 w' (star (bnk g N (updD D k (flushD (D k))) (spendS p s) (spendP p)) R)) := fun w' h' =>
        (h_flush ((firm_bnkX k).star hR) (h'.openD k hk)).mono fun e w2 ⟨he, h2⟩ => ⟨he, Hold.shutD k hk (flushD (D k)) rfl h2⟩
      obtain ⟨E, hE⟩ : ∃ E, errD (D k).dead = E := ⟨_, rfl⟩
      rw [hE] at hw ⊢
      clear h hR ho hk h0 hE
      go_enter Try.func20, Try.ntmps20
      go_wp2_with (first
        | (go_at_call 41; refine hf.mono ?_; rintro e w' ⟨rfl, h1⟩; have h1 : Hid _ := h1)
        | (go_at_call 25; refine (hw.out _ h1.out).mono ?_; rintro e w2 ⟨rfl, h2⟩; have h2 : Hid _ := h2))
      go_ret
      exact ⟨rfl, h2.out⟩
/-- The bytes that Read tells. -/
def rdB (N : Nat) (p : Option Nat) (i : Int) (t : ByteArray) : ByteArray := if Out N i then noB else if p = some 0 then noB else t
theorem bread_nil (i at_ : Int) (w : World) : Calls Try.prog 22 #[.pointer none, .int .i64 i, .int .i64 at_] w fun e w' => e = .returned (.tuple #[.string noB, .int .i64 1]) ∧ w' = w := by
  go_enter Try.func22, Try.ntmps22
  go_wp2_with (go_at_call 37; refine (bfind_nil _ _).mono ?_; rintro e w' ⟨rfl, rfl⟩)
  go_ret2
  exact ⟨rfl, rfl⟩
theorem bread_any (h : Hold B w0 w (star (bnk g N D s p) R)) (i at_ : Int) :
    Calls Try.prog 22 #[.pointer (some ⟨g, 0, none⟩), .int .i64 i, .int .i64 at_] w fun e w' => e = .returned (.tuple #[.string (rdB N p i (readB (D i.toNat).l (D i.toNat).q (D i.toNat).dead (D i.toNat).n at_)), .int .i64 (stE N p i (errA (D i.toNat).dead (D i.toNat).n at_))]) ∧ w' = w := by
  rcases out_cases N i with ho | ⟨k, rfl, hk, ho⟩
  · have hf := bfind_out h i ho
    simp only [stE, rdB, if_pos ho]
    clear h ho
    go_enter Try.func22, Try.ntmps22
    go_wp2_with (go_at_call 37; refine hf.mono ?_; rintro e w' ⟨rfl, rfl⟩)
    go_ret2
    exact ⟨rfl, rfl⟩
  · have hf := bfind_in h k hk
    have hd := bdark_any h
    simp only [stE, rdB, if_neg ho, Int.toNat_natCast]
    by_cases h0 : p = some 0
    · rw [decide_eq_true h0] at hd
      simp only [if_pos h0]
      clear h ho hk h0
      go_enter Try.func22, Try.ntmps22
      go_wp2_with (first
        | (go_at_call 37; refine hf.mono ?_; rintro e w' ⟨rfl, rfl⟩)
        | (go_at_call 40; refine hd.mono ?_; rintro e w' ⟨rfl, hw'⟩; rw [hw']; clear hw' w'))
      go_ret2
      exact ⟨rfl, rfl⟩
    · rw [decide_eq_false h0] at hd
      simp only [if_neg h0]
      obtain ⟨F, hF⟩ := (h.openD k hk).dsk
      have hr := read_any hF at_
      obtain ⟨E, hE⟩ : ∃ E, errA (D k).dead (D k).n at_ = E := ⟨_, rfl⟩
      obtain ⟨T, hT⟩ : ∃ T, readB (D k).l (D k).q (D k).dead (D k).n at_ = T := ⟨_, rfl⟩
      rw [hE, hT] at hr
      rw [hE, hT]
      clear h ho hk h0 hE hT hF
      go_enter Try.func22, Try.ntmps22
      go_wp2_with (first
        | (go_at_call 37; refine hf.mono ?_; rintro e w' ⟨rfl, rfl⟩)
        | (go_at_call 40; refine hd.mono ?_; rintro e w' ⟨rfl, hw'⟩; rw [hw']; clear hw' w')
        | (go_at_call 43; refine hr.mono ?_; rintro e w' ⟨rfl, hw'⟩; rw [hw']; clear hw' w'))
      go_ret2
      exact ⟨rfl, rfl⟩
end
end Go.Proofs.Ytfepmafjkgjmmaa
