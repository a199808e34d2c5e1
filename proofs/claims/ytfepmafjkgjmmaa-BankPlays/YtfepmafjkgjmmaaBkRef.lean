/- The document's bank: Spend, Cut, Write, Flush, Read. -/
import Derived.Test.YtfepmafjkgjmmaaBkDo
namespace Go.Proofs.Ytfepmafjkgjmmaa
open Go.RowKit Go.PlainAid
set_option linter.unusedVariables false

section
variable {B : Nat} {w0 w : World} {g N : Nat} {D : Nat → Dk} {s : Nat} {p : Option Nat} {R : Asn}
theorem rspend_any (hR : Firm R) (h : Hold B w0 w (star (rbk g N D s p) R)) (hs : s ≤ 1000000000) : Calls Try.prog 31 #[.pointer (some ⟨g, 0, none⟩)] w fun e w' => e = .returned (.int .i64 (spendE p)) ∧ Hold B w0 w' (star (rbk g N D (spendS p s) (spendP p)) R) := by
  have hN := h.rbkFit
  obtain ⟨gd, cap, hb, -, ht⟩ := h.rbkTop
  have c1 := hb.cell (i := 1) rfl
  have c2 := hb.cell (i := 2) rfl
  have f1 := hb.frozen 1
  have f2 := hb.frozen 2
  rcases p with _ | _ | k
  · rw [show pr none = -1 from rfl] at c2
    rw [spendE_none, spendS_none, show spendP none = none from rfl]
    have HT : Hid (Hold B w0 (w.setCell ⟨g, 1, none⟩ (.int .i64 ((s : Int) + 1))) (star (rbk g N D (s + 1) none) R)) := (ht.setBlk (firm_rtop gd cap hR) 1 (.int .i64 ((s : Int) + 1))).ofRTop hN gd cap (by simp [pr])
    clear h hb ht hN
    go_enter Try.func31, Try.ntmps31
    go_wp2
    go_ret
    exact ⟨rfl, HT.out⟩
  · rw [show pr (some 0) = 0 from rfl] at c2
    rw [spendE_dark, spendS_dark, show spendP (some 0) = some 0 from rfl]
    have HT : Hid (Hold B w0 w (star (rbk g N D s (some 0)) R)) := h
    clear h hb ht hN
    go_enter Try.func31, Try.ntmps31
    go_wp2
    go_ret
    exact ⟨rfl, HT.out⟩
  · rw [spendE_more, spendS_more, show spendP (some (k + 1)) = some k from rfl]
    have h3 := ht.setBlk (firm_rtop gd cap hR) 2 (.int .i64 (k : Int))
    have b3 := h3.blk
    have c1' := b3.cell (i := 1) rfl
    have f1' := b3.frozen 1
    have HT : Hid (Hold B w0 ((w.setCell ⟨g, 2, none⟩ (.int .i64 (k : Int))).setCell ⟨g, 1, none⟩ (.int .i64 ((s : Int) + 1))) (star (rbk g N D (s + 1) (some k)) R)) := (h3.setBlk (firm_rtop gd cap hR) 1 (.int .i64 ((s : Int) + 1))).ofRTop ⟨hN.1, fun j e => by cases e; have := hN.2 (k + 1) rfl; omega⟩ gd cap (by simp [pr])
    rw [show pr (some (k + 1)) = (k : Int) + 1 from by simp [pr]] at c2
    have hk : wrap64 (k : Int) = (k : Int) := IntWalk.wrap64_in _ ⟨by omega, by have := hN.2 (k + 1) rfl; omega⟩
    have hk0 : ((k : Int) + 1 == 0) = false := by simp only [beq_eq_false_iff_ne, ne_eq]; omega
    have hk1 : (0 : Int) < (k : Int) + 1 := by omega
    clear h hb ht h3 b3 hN
    go_enter Try.func31, Try.ntmps31
    go_wp2
    go_ret
    exact ⟨rfl, HT.out⟩
theorem rcut_any (hR : Firm R) (h : Hold B w0 w (star (rbk g N D s p) R)) (n : Int) (hn : n ≤ 9223372036854775807) : Calls Try.prog 32 #[.pointer (some ⟨g, 0, none⟩), .int .i64 n] w fun e w' => e = .returned (.tuple #[]) ∧ Hold B w0 w' (star (rbk g N D s (some n.toNat)) R) := by
  have hN := h.rbkFit
  obtain ⟨gd, cap, hb, -, ht⟩ := h.rbkTop
  have c2 := hb.cell (i := 2) rfl
  have f2 := hb.frozen 2
  have HT : Hid (Hold B w0 (w.setCell ⟨g, 2, none⟩ (.int .i64 (n.toNat : Int))) (star (rbk g N D s (some n.toNat)) R)) := (ht.setBlk (firm_rtop gd cap hR) 2 (.int .i64 (n.toNat : Int))).ofRTop ⟨hN.1, fun j e => by cases e; omega⟩ gd cap (by simp [pr])
  clear h hb ht hN hn
  by_cases h0 : n < 0
  · rw [show (n.toNat : Int) = 0 by omega] at HT
    go_enter Try.func32, Try.ntmps32
    go_wp2
    go_end0
    exact ⟨rfl, HT.out⟩
  · rw [show (n.toNat : Int) = n by omega] at HT
    go_enter Try.func32, Try.ntmps32
    go_wp2
    go_end0
    exact ⟨rfl, HT.out⟩
/-- Where the document's bank names a disk. -/
theorem Hold.rbkAt (h : Hold B w0 w (star (rbk g N D s p) R)) (i : Nat) (hi : i < N) : ∃ gd cap, w.cell? ⟨g, 0, none⟩ = some (.slice (some ⟨gd, 0, none⟩) N cap) ∧ w.cell? ⟨gd, i, none⟩ = some (.pointer (some ⟨(D i).g, 0, none⟩)) := by
  obtain ⟨gd, cap, hb, hr, -⟩ := h.rbkTop
  refine ⟨gd, cap, hb.cell (i := 0) rfl, ?_⟩
  rw [World.ownsRow.cellAt hr i (by omega), ptrs_at N D i hi]
theorem rwrite_any (hR : Firm R) (h : Hold B w0 w (star (rbk g N D s p) R)) (hs : s ≤ 1000000000) (hq : ∀ j, j < N → (D j).q.length ≤ 1000000) (i at_ : Int) (t : ByteArray) :
    Calls Try.prog 36 #[.pointer (some ⟨g, 0, none⟩), .int .i64 i, .int .i64 at_, .string t] w fun e w' => e = .returned (.int .i64 (stE N p i (errW (D i.toNat).dead (D i.toNat).n at_ t))) ∧ Hold B w0 w' (star (rbk g N (stD N p i D (putD (D i.toNat) at_ t)) (stS N p i s) (stP N p i)) R) := by
  have hN12 := h.rbkN
  obtain ⟨gd, cap, hb, -, -⟩ := h.rbkTop
  have c0 := hb.cell (i := 0) rfl
  clear hb
  rcases out_cases N i with ho | ⟨k, rfl, hk, ho⟩
  · simp only [stE, stD, stS, stP, if_pos ho]
    have h : Hid _ := h
    have HO : Hid _ := ho
    clear hR hq ho
    by_cases h0 : i < 0
    · go_enter Try.func36, Try.ntmps36
      go_wp2
      go_ret
      exact ⟨rfl, h.out⟩
    · have h1 : (N : Int) ≤ i := HO.out.resolve_left h0
      go_enter Try.func36, Try.ntmps36
      go_wp2
      go_ret
      exact ⟨rfl, h.out⟩
  · have hf := rspend_any hR h hs
    have hk1 : ¬ (N : Int) ≤ (k : Int) := by omega
    have hk2 : ¬ (k : Int) < 0 := by omega
    simp only [stE, stD, stS, stP, if_neg ho, Int.toNat_natCast]
    by_cases h0 : p = some 0
    · subst h0
      simp only [if_true]
      rw [spendE_dark] at hf
      clear h hR hq ho hk
      go_enter Try.func36, Try.ntmps36
      go_wp2_with (go_at_call 31; refine hf.mono ?_; rintro e w' ⟨rfl, h1⟩; have h1 : Hid _ := h1)
      go_ret
      exact ⟨rfl, h1.out⟩
    · simp only [if_neg h0]
      rw [show spendE p = 0 from if_neg h0] at hf
      have hw : Hid (∀ w', Hold B w0 w' (star (rbk g N D (spendS p s) (spendP p)) R) → Calls Try.prog 51 #[.pointer (some ⟨(D k).g, 0, none⟩), .int .i64 at_, .string t] w' fun e w' => e = .returned (.int .i64 (errW (D k).dead (D k).n at_ t)) ∧ Hold B w0 w' (star (rbk g N (updD D k (putD (D k) at_ t)) (spendS p s) (spendP p)) R)) := fun w' h' =>
        (h_put ((firm_rbkX k).star hR) (h'.openR k hk) at_ t (hq k hk)).mono fun e w2 ⟨he, h2⟩ => ⟨he, Hold.shutR k hk (putD (D k) at_ t) rfl h2⟩
      obtain ⟨E, hE⟩ : ∃ E, errW (D k).dead (D k).n at_ t = E := ⟨_, rfl⟩
      rw [hE] at hw ⊢
      have HK : Hid (k < N) := hk
      clear h hR hq ho hk h0 hE
      go_enter Try.func36, Try.ntmps36
      go_wp2_with (first
        | (go_at_call 31; refine hf.mono ?_; rintro e w' ⟨rfl, h1⟩; clear c0; obtain ⟨gd1, cap1, c0, ck⟩ := h1.rbkAt k HK.out; have h1 : Hid _ := h1)
        | (go_at_call 51; refine (hw.out _ h1.out).mono ?_; rintro e w2 ⟨rfl, h2⟩; have h2 : Hid _ := h2))
      go_ret
      exact ⟨rfl, h2.out⟩
theorem rflush_any (hR : Firm R) (h : Hold B w0 w (star (rbk g N D s p) R)) (hs : s ≤ 1000000000) (hq : ∀ j, j < N → (D j).q.length ≤ 1000000) (i : Int) :
    Calls Try.prog 30 #[.pointer (some ⟨g, 0, none⟩), .int .i64 i] w fun e w' => e = .returned (.int .i64 (stE N p i (errD (D i.toNat).dead))) ∧ Hold B w0 w' (star (rbk g N (stD N p i D (flushD (D i.toNat))) (stS N p i s) (stP N p i)) R) := by
  have hN12 := h.rbkN
  obtain ⟨gd, cap, hb, -, -⟩ := h.rbkTop
  have c0 := hb.cell (i := 0) rfl
  clear hb
  rcases out_cases N i with ho | ⟨k, rfl, hk, ho⟩
  · simp only [stE, stD, stS, stP, if_pos ho]
    have h : Hid _ := h
    have HO : Hid _ := ho
    clear hR hq ho
    by_cases h0 : i < 0
    · go_enter Try.func30, Try.ntmps30
      go_wp2
      go_ret
      exact ⟨rfl, h.out⟩
    · have h1 : (N : Int) ≤ i := HO.out.resolve_left h0
      go_enter Try.func30, Try.ntmps30
      go_wp2
      go_ret
      exact ⟨rfl, h.out⟩
  · have hf := rspend_any hR h hs
    have hk1 : ¬ (N : Int) ≤ (k : Int) := by omega
    have hk2 : ¬ (k : Int) < 0 := by omega
    simp only [stE, stD, stS, stP, if_neg ho, Int.toNat_natCast]
    by_cases h0 : p = some 0
    · subst h0
      simp only [if_true]
      rw [spendE_dark] at hf
      clear h hR hq ho hk
      go_enter Try.func30, Try.ntmps30
      go_wp2_with (go_at_call 31; refine hf.mono ?_; rintro e w' ⟨rfl, h1⟩; have h1 : Hid _ := h1)
      go_ret
      exact ⟨rfl, h1.out⟩
    · simp only [if_neg h0]
      rw [show spendE p = 0 from if_neg h0] at hf
      have hw : Hid (∀ w', Hold B w0 w' (star (rbk g N D (spendS p s) (spendP p)) R) → Calls Try.prog 48 #[.pointer (some ⟨(D k).g, 0, none⟩)] w' fun e w' => e = .returned (.int .i64 (errD (D k).dead)) ∧ Hold B w0 w' (star (rbk g N (updD D k (flushD (D k))) (spendS p s) (spendP p)) R)) := fun w' h' =>
        (h_rflush ((firm_rbkX k).star hR) (h'.openR k hk) (hq k hk)).mono fun e w2 ⟨he, h2⟩ => ⟨he, Hold.shutR k hk (flushD (D k)) rfl h2⟩
      obtain ⟨E, hE⟩ : ∃ E, errD (D k).dead = E := ⟨_, rfl⟩
      rw [hE] at hw ⊢
      have HK : Hid (k < N) := hk
      clear h hR hq ho hk h0 hE
      go_enter Try.func30, Try.ntmps30
      go_wp2_with (first
        | (go_at_call 31; refine hf.mono ?_; rintro e w' ⟨rfl, h1⟩; clear c0; obtain ⟨gd1, cap1, c0, ck⟩ := h1.rbkAt k HK.out; have h1 : Hid _ := h1)
        | (go_at_call 48; refine (hw.out _ h1.out).mono ?_; rintro e w2 ⟨rfl, h2⟩; have h2 : Hid _ := h2))
      go_ret
      exact ⟨rfl, h2.out⟩
theorem rread_any (h : Hold B w0 w (star (rbk g N D s p) R)) (hq : ∀ j, j < N → (D j).q.length ≤ 1000000) (i at_ : Int) :
    Calls Try.prog 29 #[.pointer (some ⟨g, 0, none⟩), .int .i64 i, .int .i64 at_] w fun e w' => e = .returned (.tuple #[.string (rdB N p i (readB (D i.toNat).l (D i.toNat).q (D i.toNat).dead (D i.toNat).n at_)), .int .i64 (stE N p i (errA (D i.toNat).dead (D i.toNat).n at_))]) ∧ w' = w := by
  have hN12 := h.rbkN
  obtain ⟨gd, cap, hb, -, -⟩ := h.rbkTop
  have c0 := hb.cell (i := 0) rfl
  have c2 := hb.cell (i := 2) rfl
  rcases out_cases N i with ho | ⟨k, rfl, hk, ho⟩
  · simp only [stE, rdB, if_pos ho]
    have HO : Hid _ := ho
    clear hq ho h hb
    by_cases h0 : i < 0
    · go_enter Try.func29, Try.ntmps29
      go_wp2
      go_ret2
      exact ⟨rfl, rfl⟩
    · have h1 : (N : Int) ≤ i := HO.out.resolve_left h0
      go_enter Try.func29, Try.ntmps29
      go_wp2
      go_ret2
      exact ⟨rfl, rfl⟩
  · have hk1 : ¬ (N : Int) ≤ (k : Int) := by omega
    have hk2 : ¬ (k : Int) < 0 := by omega
    simp only [stE, rdB, if_neg ho, Int.toNat_natCast]
    by_cases h0 : p = some 0
    · subst h0
      simp only [if_true]
      rw [show pr (some 0) = 0 from rfl] at c2
      clear h hq ho hk hb
      go_enter Try.func29, Try.ntmps29
      go_wp2
      go_ret2
      exact ⟨rfl, rfl⟩
    · simp only [if_neg h0]
      clear hb c0
      have hx0 : (pr p == 0) = false := by
        rcases p with _ | _ | j
        · rfl
        · exact absurd rfl h0
        · show (((j + 1 : Nat) : Int) == 0) = false
          simp only [beq_eq_false_iff_ne, ne_eq]; omega
      obtain ⟨x, hx⟩ : ∃ x, pr p = x := ⟨_, rfl⟩
      rw [hx] at c2 hx0
      obtain ⟨gd, cap, c0, ck⟩ := h.rbkAt k hk
      obtain ⟨F, hF⟩ := (h.openR k hk).rf
      have hr := refRead_any hF at_ (hq k hk)
      obtain ⟨E, hE⟩ : ∃ E, errA (D k).dead (D k).n at_ = E := ⟨_, rfl⟩
      obtain ⟨T, hT⟩ : ∃ T, readB (D k).l (D k).q (D k).dead (D k).n at_ = T := ⟨_, rfl⟩
      rw [hE, hT] at hr
      rw [hE, hT]
      clear h ho h0 hE hT hF hx hq
      go_enter Try.func29, Try.ntmps29
      go_wp2_with (go_at_call 39; refine hr.mono ?_; rintro e w' ⟨rfl, hw'⟩; rw [hw']; clear hw' w')
      go_ret2
      exact ⟨rfl, rfl⟩
end
end Go.Proofs.Ytfepmafjkgjmmaa
