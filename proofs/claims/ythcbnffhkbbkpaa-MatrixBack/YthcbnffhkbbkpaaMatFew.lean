/- A few rows and columns of rows that came in. -/
import Derived.Test.YthcbnffhkbbkpaaMatCopied
import Derived.Test.YthcbnffhkbbkpaaMatOpen
import Derived.Deep.RegionHeld3
namespace Go.Proofs.Ythcbnffhkbbkpaa
open Go.RowKit Go.PlainAid
set_option linter.unusedVariables false

def fewL (L : Nat → Nat) (most n : Nat) (sq : Bool) (r : Nat) : Nat := if sq then n else min (L r) most
def fewX (L : Nat → Nat) (X : Mx) (most : Nat) : Mx := fun r c => if c < min (L r) most then X r c else 0

theorem addr_add0 (a : Addr) : a.add 0 = a := by
  cases a with
  | mk b o s => cases s <;> simp [Addr.add]
theorem zeros_take (x n : Nat) (f : Nat → E) : ((bytesL x f) ++ zeros8 n).take n = bytesL n (fun c => if c < x then f c else 0) := by
  apply List.ext_getElem
  · simp [bytesL, zeros8]
  · intro i h1 h2
    have hi : i < n := by simpa [bytesL] using h2
    rw [List.getElem_take]
    by_cases e : i < x
    · rw [List.getElem_append_left (by simp [bytesL]; exact e)]
      simp [bytesL, e]
    · rw [List.getElem_append_right (by simp [bytesL]; omega)]
      simp [bytesL, zeros8, e, byteV, E.zero_v]
theorem owns_cut {w : World} {base g l n cap : Nat} {xs : List Value} (h : w.ownsRow base 5 1 (.slice (some ⟨g, 0, none⟩) l cap) l xs) (hn : n ≤ l) : w.ownsRow base 5 1 (.slice (some ⟨g, 0, none⟩) n cap) n (xs.take n) := by
  have hl := h.1
  rcases h.2 with ⟨h0, _⟩ | ⟨g', cap', cur, hv, h1, h2, h3, h4, h5, h6⟩
  · cases h0
  · cases hv
    refine ⟨by simp; omega, .inr ⟨_, _, cur, rfl, h1, h2, by omega, h4, h5, ?_⟩⟩
    rw [← h6, List.take_take]
    congr 1
    omega

set_option maxHeartbeats 2000000 in
theorem few_small (a : Option Addr) (len cap most : Nat) (sq : Bool) (L : Nat → Nat) (X : Mx) (w : World) (hcmp : len ≤ most) (hlen' : len ≤ 9223372036854775807) (hm1 : 1 ≤ most) (hm2 : most ≤ 16)
    (HV : Hid (∀ k, k < len → ∃ b o lk cr ar, a = some ⟨b, o, none⟩ ∧ L k = lk ∧ lk ≤ cr ∧ cr ≤ 9223372036854775807 ∧ (ar = none → cr = 0) ∧ (∀ x, Below w.heap.size w x → x.cell? ⟨b, o + k, none⟩ = some (.slice ar lk cr) ∧ RowAt x ar lk (X k)))) :
    Calls Try.prog 12 #[.slice a len cap, .int .i64 (most : Int), .bool sq] w fun e w' => ∃ vo, e = .returned vo ∧ AccM w' w.heap.size vo len (fewL L most len sq) (fewX L X most) ∧ Below w.heap.size w w' := by
  have hci : (len : Int) ≤ (most : Int) := by omega
  go_enter Try.func12, Try.ntmps12
  go_wp2_with fail
  go_loopw [8, 17] (fun o i wr => ∃ k : Nat, k ≤ len ∧ i = .int .i64 k ∧ Below w.heap.size w wr ∧ AccM wr w.heap.size o k (fewL L most len sq) (fewX L X most)) (fun _ i _ => (len : Nat) - (intOf i).toNat)
  case atStart => exact ⟨0, Nat.zero_le _, rfl, (Below.refl _ _).alloc (Nat.le_refl _) _, acc_empty _ _ _ _ (Nat.le_refl _)⟩
  case round =>
    obtain ⟨k, hk, rfl, hbk, hAk⟩ := hrel
    by_cases hlt : k < len
    · have hkl : k < len := by omega
      have hkl' : (k : Int) < (len : Int) := by omega
      obtain ⟨b, o, lk, cr, ar, rfl, hlk, hl1, hl2, hno0, hx⟩ := HV.out k hlt
      obtain ⟨hc, hrow0⟩ := hx wr hbk
      have HLK : Hid (L k = lk) := hlk
      clear hlk
      by_cases hlm : lk ≤ most
      · have hlm' : (lk : Int) ≤ (most : Int) := by omega
        have hno : ar = none → cr = 0 ∧ lk = 0 := fun h => by have := hno0 h; omega
        have hrow : RowAt wr.drew ar lk (X k) := hrow0
        cases ar with
        | none =>
          obtain ⟨rfl, rfl⟩ := hno rfl
          have hmn : (if (most : Int) < 0 then (most : Int) else 0) = 0 := if_neg (by omega)
          obtain ⟨v', w', hrun, hown, hb'⟩ := app_src wr.drew none 0 0 (X k) hrow hno (by omega)
          obtain ⟨a2, c2, e2, _, _⟩ := owns_form hown _ (fun j hj => bytesL_at _ _ j hj)
          subst e2
          have hc' : w'.cell? ⟨b, o + k, none⟩ = some (.slice none 0 0) := (hx w' (hbk.drew.trans (hb'.mono hbk.size))).1
          have hbw : Below wr.heap.size wr w' := Below.trans (Below.refl _ _).drew hb'
          have hmk : min (L k) most = 0 := by rw [HLK.out]; omega
          cases sq with
          | false =>
            have hAk' := hAk.below hbw
            have hv : w'.ownsRow w.heap.size 5 1 (.slice a2 0 c2) (fewL L most len false k) (bytesL (fewL L most len false k) (fewX L X most k)) := by
              have e : bytesL 0 (fewX L X most k) = bytesL 0 (X k) := List.map_congr_left fun j hj => by
                have hj' := List.mem_range.1 hj
                simp only [fewX, hmk]
                rw [if_pos hj']
              have e1 : fewL L most len false k = 0 := by simp only [fewL]; exact hmk
              rw [e1, e]
              exact owns_mono hown hbk.size
            clear hown HV
            go_wp2_with fail
            go_region_held3 (fun x => x.cell? ⟨b, o + k, none⟩ = some (.slice none 0 0)) (first | exact hc | exact hc') (first | (refine step_append_run rfl _ _ 48 48 rfl _ _ rfl rfl _ _ hrun ?_))
            go_wp2_with (at_builtin; refine push_row_at rfl _ _ 27 rfl Try.underlying27 w' w.heap.size _ _ k _ _ hAk' hv rfl _ rfl rfl (by omega) (Nat.le_trans hbk.size hbw.size) ?_)
            intro vo' w4 hA4 hb4
            go_wp2_with fail
            go_roundw
            case rel => exact ⟨k + 1, by omega, by go_num, hbk.trans ((hbw.mono hbk.size).trans hb4), hA4⟩
            case measure => simp [intOf]; omega
          | true =>
            obtain ⟨v2, w2, hrun2, hown2, hg2⟩ := run_append_zeros w' wr.heap.size (.slice a2 0 c2) 0 len (bytesL 0 (X k)) hown (by omega) (by omega) hbw.size 48
            rcases hown2.2 with ⟨h0, h00⟩ | ⟨g2, c3, cur2, rfl, hg0, hgc, hn3, hc3, _⟩
            · omega
            have hb2 : Below wr.heap.size w' w2 := (Below.refl _ _).grown hg2 hbw.size (fun g hg => (hown.lt g hg).1)
            have hbw2 : Below wr.heap.size wr w2 := hbw.trans hb2
            have hAk2 := hAk.below hbw2
            have hcut := owns_cut (n := len) hown2 (by omega)
            rw [zeros_take] at hcut
            have hv : w2.ownsRow w.heap.size 5 1 (.slice (some ⟨g2, 0, none⟩) len c3) (fewL L most len true k) (bytesL (fewL L most len true k) (fewX L X most k)) := by
              have e1 : fewL L most len true k = len := by simp only [fewL, if_true]
              have e : fewX L X most k = fun c => if c < 0 then X k c else 0 := by funext c; simp only [fewX, hmk]
              rw [e1, e]
              exact owns_mono hcut hbk.size
            have z1 : (0 : Int) ≤ (len : Int) := by omega
            have z2 : (len : Int) ≤ (c3 : Int) := by omega
            have z3 : len ≤ c3 := by omega
            clear hown HV hcut hown2 hgc hg2
            go_wp2_with fail
            go_region_held3 (fun x => x.cell? ⟨b, o + k, none⟩ = some (.slice none 0 0)) (first | exact hc | exact hc') (first | (refine step_append_run rfl _ _ 48 48 rfl _ _ rfl rfl _ _ hrun ?_))
            go_wp2_with (first | (at_builtin; refine Lib.wpList_append_run _ rfl _ _ 48 3 rfl _ _ rfl rfl _ _ hrun2 ?_) | (at_builtin; refine push_row_at rfl _ _ 27 rfl Try.underlying27 w2 w.heap.size _ _ k _ _ hAk2 hv rfl _ rfl rfl (by omega) (Nat.le_trans hbk.size hbw2.size) ?_))
            intro vo' w4 hA4 hb4
            go_wp2_with fail
            go_roundw
            case rel => exact ⟨k + 1, by omega, by go_num, hbk.trans ((hbw2.mono hbk.size).trans hb4), hA4⟩
            case measure => simp [intOf]; omega
        | some ad =>
          have hadd0 : ad.add 0 = ad := addr_add0 ad
          have hmn : (most < lk) = False := eq_false (by omega)
          have s1 : (0 : Int) ≤ (lk : Int) := by omega
          have s2 : (lk : Int) ≤ (cr : Int) := by omega
          obtain ⟨v', w', hrun, hown, hb'⟩ := app_src wr.drew (some ad) lk cr (X k) hrow hno (by omega)
          obtain ⟨a2, c2, e2, _, _⟩ := owns_form hown _ (fun j hj => bytesL_at _ _ j hj)
          subst e2
          have hc' : w'.cell? ⟨b, o + k, none⟩ = some (.slice (some ad) lk cr) := (hx w' (hbk.drew.trans (hb'.mono hbk.size))).1
          have hbw : Below wr.heap.size wr w' := Below.trans (Below.refl _ _).drew hb'
          have hmk : min (L k) most = lk := by rw [HLK.out]; omega
          cases sq with
          | false =>
            have hAk' := hAk.below hbw
            have hv : w'.ownsRow w.heap.size 5 1 (.slice a2 lk c2) (fewL L most len false k) (bytesL (fewL L most len false k) (fewX L X most k)) := by
              have e : bytesL lk (fewX L X most k) = bytesL lk (X k) := List.map_congr_left fun j hj => by
                have hj' := List.mem_range.1 hj
                simp only [fewX, hmk]
                rw [if_pos hj']
              have e1 : fewL L most len false k = lk := by simp only [fewL]; exact hmk
              rw [e1, e]
              exact owns_mono hown hbk.size
            clear hown HV
            go_wp2_with fail
            go_region_held3 (fun x => x.cell? ⟨b, o + k, none⟩ = some (.slice (some ad) lk cr)) (first | exact hc | exact hc') (first | (refine step_append_run rfl _ _ 48 48 rfl _ _ rfl rfl _ _ hrun ?_))
            go_wp2_with (at_builtin; refine push_row_at rfl _ _ 27 rfl Try.underlying27 w' w.heap.size _ _ k _ _ hAk' hv rfl _ rfl rfl (by omega) (Nat.le_trans hbk.size hbw.size) ?_)
            intro vo' w4 hA4 hb4
            go_wp2_with fail
            go_roundw
            case rel => exact ⟨k + 1, by omega, by go_num, hbk.trans ((hbw.mono hbk.size).trans hb4), hA4⟩
            case measure => simp [intOf]; omega
          | true =>
            obtain ⟨v2, w2, hrun2, hown2, hg2⟩ := run_append_zeros w' wr.heap.size (.slice a2 lk c2) lk len (bytesL lk (X k)) hown (by omega) (by omega) hbw.size 48
            rcases hown2.2 with ⟨h0, h00⟩ | ⟨g2, c3, cur2, rfl, hg0, hgc, hn3, hc3, _⟩
            · omega
            have hb2 : Below wr.heap.size w' w2 := (Below.refl _ _).grown hg2 hbw.size (fun g hg => (hown.lt g hg).1)
            have hbw2 : Below wr.heap.size wr w2 := hbw.trans hb2
            have hAk2 := hAk.below hbw2
            have hcut := owns_cut (n := len) hown2 (by omega)
            rw [zeros_take] at hcut
            have hv : w2.ownsRow w.heap.size 5 1 (.slice (some ⟨g2, 0, none⟩) len c3) (fewL L most len true k) (bytesL (fewL L most len true k) (fewX L X most k)) := by
              have e1 : fewL L most len true k = len := by simp only [fewL, if_true]
              have e : fewX L X most k = fun c => if c < lk then X k c else 0 := by funext c; simp only [fewX, hmk]
              rw [e1, e]
              exact owns_mono hcut hbk.size
            have z1 : (0 : Int) ≤ (len : Int) := by omega
            have z2 : (len : Int) ≤ (c3 : Int) := by omega
            have z3 : len ≤ c3 := by omega
            clear hown HV hcut hown2 hgc hg2
            go_wp2_with fail
            go_region_held3 (fun x => x.cell? ⟨b, o + k, none⟩ = some (.slice (some ad) lk cr)) (first | exact hc | exact hc') (first | (refine step_append_run rfl _ _ 48 48 rfl _ _ rfl rfl _ _ hrun ?_))
            go_wp2_with (first | (at_builtin; refine Lib.wpList_append_run _ rfl _ _ 48 3 rfl _ _ rfl rfl _ _ hrun2 ?_) | (at_builtin; refine push_row_at rfl _ _ 27 rfl Try.underlying27 w2 w.heap.size _ _ k _ _ hAk2 hv rfl _ rfl rfl (by omega) (Nat.le_trans hbk.size hbw2.size) ?_))
            intro vo' w4 hA4 hb4
            go_wp2_with fail
            go_roundw
            case rel => exact ⟨k + 1, by omega, by go_num, hbk.trans ((hbw2.mono hbk.size).trans hb4), hA4⟩
            case measure => simp [intOf]; omega
      · have hlm' : (most : Int) < (lk : Int) := by omega
        cases ar with
        | none => exact absurd (hno0 rfl) (by omega)
        | some ad =>
          have hno : some ad = none → cr = 0 ∧ most = 0 := fun h => by cases h
          have hrow : RowAt wr.drew (some ad) most (X k) := by
            rcases hrow0 with h0 | ⟨b1, o1, e, h⟩
            · omega
            · exact .inr ⟨b1, o1, e, fun i hi => h i (by omega)⟩
          have hadd0 : ad.add 0 = ad := addr_add0 ad
          have hmn : (most < lk) = True := eq_true (by omega)
          have s1 : (0 : Int) ≤ (most : Int) := by omega
          have s2 : (most : Int) ≤ (cr : Int) := by omega
          obtain ⟨v', w', hrun, hown, hb'⟩ := app_src wr.drew (some ad) most cr (X k) hrow hno (by omega)
          obtain ⟨a2, c2, e2, _, _⟩ := owns_form hown _ (fun j hj => bytesL_at _ _ j hj)
          subst e2
          have hc' : w'.cell? ⟨b, o + k, none⟩ = some (.slice (some ad) lk cr) := (hx w' (hbk.drew.trans (hb'.mono hbk.size))).1
          have hbw : Below wr.heap.size wr w' := Below.trans (Below.refl _ _).drew hb'
          have hmk : min (L k) most = most := by rw [HLK.out]; omega
          cases sq with
          | false =>
            have hAk' := hAk.below hbw
            have hv : w'.ownsRow w.heap.size 5 1 (.slice a2 most c2) (fewL L most len false k) (bytesL (fewL L most len false k) (fewX L X most k)) := by
              have e : bytesL most (fewX L X most k) = bytesL most (X k) := List.map_congr_left fun j hj => by
                have hj' := List.mem_range.1 hj
                simp only [fewX, hmk]
                rw [if_pos hj']
              have e1 : fewL L most len false k = most := by simp only [fewL]; exact hmk
              rw [e1, e]
              exact owns_mono hown hbk.size
            clear hown HV
            go_wp2_with fail
            go_region_held3 (fun x => x.cell? ⟨b, o + k, none⟩ = some (.slice (some ad) lk cr)) (first | exact hc | exact hc') (first | (refine step_append_run rfl _ _ 48 48 rfl _ _ rfl rfl _ _ hrun ?_))
            go_wp2_with (at_builtin; refine push_row_at rfl _ _ 27 rfl Try.underlying27 w' w.heap.size _ _ k _ _ hAk' hv rfl _ rfl rfl (by omega) (Nat.le_trans hbk.size hbw.size) ?_)
            intro vo' w4 hA4 hb4
            go_wp2_with fail
            go_roundw
            case rel => exact ⟨k + 1, by omega, by go_num, hbk.trans ((hbw.mono hbk.size).trans hb4), hA4⟩
            case measure => simp [intOf]; omega
          | true =>
            obtain ⟨v2, w2, hrun2, hown2, hg2⟩ := run_append_zeros w' wr.heap.size (.slice a2 most c2) most len (bytesL most (X k)) hown (by omega) (by omega) hbw.size 48
            rcases hown2.2 with ⟨h0, h00⟩ | ⟨g2, c3, cur2, rfl, hg0, hgc, hn3, hc3, _⟩
            · omega
            have hb2 : Below wr.heap.size w' w2 := (Below.refl _ _).grown hg2 hbw.size (fun g hg => (hown.lt g hg).1)
            have hbw2 : Below wr.heap.size wr w2 := hbw.trans hb2
            have hAk2 := hAk.below hbw2
            have hcut := owns_cut (n := len) hown2 (by omega)
            rw [zeros_take] at hcut
            have hv : w2.ownsRow w.heap.size 5 1 (.slice (some ⟨g2, 0, none⟩) len c3) (fewL L most len true k) (bytesL (fewL L most len true k) (fewX L X most k)) := by
              have e1 : fewL L most len true k = len := by simp only [fewL, if_true]
              have e : fewX L X most k = fun c => if c < most then X k c else 0 := by funext c; simp only [fewX, hmk]
              rw [e1, e]
              exact owns_mono hcut hbk.size
            have z1 : (0 : Int) ≤ (len : Int) := by omega
            have z2 : (len : Int) ≤ (c3 : Int) := by omega
            have z3 : len ≤ c3 := by omega
            clear hown HV hcut hown2 hgc hg2
            go_wp2_with fail
            go_region_held3 (fun x => x.cell? ⟨b, o + k, none⟩ = some (.slice (some ad) lk cr)) (first | exact hc | exact hc') (first | (refine step_append_run rfl _ _ 48 48 rfl _ _ rfl rfl _ _ hrun ?_))
            go_wp2_with (first | (at_builtin; refine Lib.wpList_append_run _ rfl _ _ 48 3 rfl _ _ rfl rfl _ _ hrun2 ?_) | (at_builtin; refine push_row_at rfl _ _ 27 rfl Try.underlying27 w2 w.heap.size _ _ k _ _ hAk2 hv rfl _ rfl rfl (by omega) (Nat.le_trans hbk.size hbw2.size) ?_))
            intro vo' w4 hA4 hb4
            go_wp2_with fail
            go_roundw
            case rel => exact ⟨k + 1, by omega, by go_num, hbk.trans ((hbw2.mono hbk.size).trans hb4), hA4⟩
            case measure => simp [intOf]; omega
    · have hkn : k = len := by omega
      subst hkn
      go_wp2_with fail
      go_ret
      exact ⟨_, rfl, hAk, hbk⟩
set_option maxHeartbeats 2000000 in
theorem few_great (a : Option Addr) (len cap most : Nat) (sq : Bool) (L : Nat → Nat) (X : Mx) (w : World) (hcmp : most < len) (hlen' : len ≤ 9223372036854775807) (hm1 : 1 ≤ most) (hm2 : most ≤ 16)
    (HV : Hid (∀ k, k < most → ∃ b o lk cr ar, a = some ⟨b, o, none⟩ ∧ L k = lk ∧ lk ≤ cr ∧ cr ≤ 9223372036854775807 ∧ (ar = none → cr = 0) ∧ (∀ x, Below w.heap.size w x → x.cell? ⟨b, o + k, none⟩ = some (.slice ar lk cr) ∧ RowAt x ar lk (X k)))) :
    Calls Try.prog 12 #[.slice a len cap, .int .i64 (most : Int), .bool sq] w fun e w' => ∃ vo, e = .returned vo ∧ AccM w' w.heap.size vo most (fewL L most most sq) (fewX L X most) ∧ Below w.heap.size w w' := by
  have hci : (most : Int) < (len : Int) := by omega
  go_enter Try.func12, Try.ntmps12
  go_wp2_with fail
  go_loopw [8, 17] (fun o i wr => ∃ k : Nat, k ≤ most ∧ i = .int .i64 k ∧ Below w.heap.size w wr ∧ AccM wr w.heap.size o k (fewL L most most sq) (fewX L X most)) (fun _ i _ => (most : Nat) - (intOf i).toNat)
  case atStart => exact ⟨0, Nat.zero_le _, rfl, (Below.refl _ _).alloc (Nat.le_refl _) _, acc_empty _ _ _ _ (Nat.le_refl _)⟩
  case round =>
    obtain ⟨k, hk, rfl, hbk, hAk⟩ := hrel
    by_cases hlt : k < most
    · have hkl : k < len := by omega
      have hkl' : (k : Int) < (len : Int) := by omega
      obtain ⟨b, o, lk, cr, ar, rfl, hlk, hl1, hl2, hno0, hx⟩ := HV.out k hlt
      obtain ⟨hc, hrow0⟩ := hx wr hbk
      have HLK : Hid (L k = lk) := hlk
      clear hlk
      by_cases hlm : lk ≤ most
      · have hlm' : (lk : Int) ≤ (most : Int) := by omega
        have hno : ar = none → cr = 0 ∧ lk = 0 := fun h => by have := hno0 h; omega
        have hrow : RowAt wr.drew ar lk (X k) := hrow0
        cases ar with
        | none =>
          obtain ⟨rfl, rfl⟩ := hno rfl
          have hmn : (if (most : Int) < 0 then (most : Int) else 0) = 0 := if_neg (by omega)
          obtain ⟨v', w', hrun, hown, hb'⟩ := app_src wr.drew none 0 0 (X k) hrow hno (by omega)
          obtain ⟨a2, c2, e2, _, _⟩ := owns_form hown _ (fun j hj => bytesL_at _ _ j hj)
          subst e2
          have hc' : w'.cell? ⟨b, o + k, none⟩ = some (.slice none 0 0) := (hx w' (hbk.drew.trans (hb'.mono hbk.size))).1
          have hbw : Below wr.heap.size wr w' := Below.trans (Below.refl _ _).drew hb'
          have hmk : min (L k) most = 0 := by rw [HLK.out]; omega
          cases sq with
          | false =>
            have hAk' := hAk.below hbw
            have hv : w'.ownsRow w.heap.size 5 1 (.slice a2 0 c2) (fewL L most most false k) (bytesL (fewL L most most false k) (fewX L X most k)) := by
              have e : bytesL 0 (fewX L X most k) = bytesL 0 (X k) := List.map_congr_left fun j hj => by
                have hj' := List.mem_range.1 hj
                simp only [fewX, hmk]
                rw [if_pos hj']
              have e1 : fewL L most most false k = 0 := by simp only [fewL]; exact hmk
              rw [e1, e]
              exact owns_mono hown hbk.size
            clear hown HV
            go_wp2_with fail
            go_region_held3 (fun x => x.cell? ⟨b, o + k, none⟩ = some (.slice none 0 0)) (first | exact hc | exact hc') (first | (refine step_append_run rfl _ _ 48 48 rfl _ _ rfl rfl _ _ hrun ?_))
            go_wp2_with (at_builtin; refine push_row_at rfl _ _ 27 rfl Try.underlying27 w' w.heap.size _ _ k _ _ hAk' hv rfl _ rfl rfl (by omega) (Nat.le_trans hbk.size hbw.size) ?_)
            intro vo' w4 hA4 hb4
            go_wp2_with fail
            go_roundw
            case rel => exact ⟨k + 1, by omega, by go_num, hbk.trans ((hbw.mono hbk.size).trans hb4), hA4⟩
            case measure => simp [intOf]; omega
          | true =>
            obtain ⟨v2, w2, hrun2, hown2, hg2⟩ := run_append_zeros w' wr.heap.size (.slice a2 0 c2) 0 most (bytesL 0 (X k)) hown (by omega) (by omega) hbw.size 48
            rcases hown2.2 with ⟨h0, h00⟩ | ⟨g2, c3, cur2, rfl, hg0, hgc, hn3, hc3, _⟩
            · omega
            have hb2 : Below wr.heap.size w' w2 := (Below.refl _ _).grown hg2 hbw.size (fun g hg => (hown.lt g hg).1)
            have hbw2 : Below wr.heap.size wr w2 := hbw.trans hb2
            have hAk2 := hAk.below hbw2
            have hcut := owns_cut (n := most) hown2 (by omega)
            rw [zeros_take] at hcut
            have hv : w2.ownsRow w.heap.size 5 1 (.slice (some ⟨g2, 0, none⟩) most c3) (fewL L most most true k) (bytesL (fewL L most most true k) (fewX L X most k)) := by
              have e1 : fewL L most most true k = most := by simp only [fewL, if_true]
              have e : fewX L X most k = fun c => if c < 0 then X k c else 0 := by funext c; simp only [fewX, hmk]
              rw [e1, e]
              exact owns_mono hcut hbk.size
            have z1 : (0 : Int) ≤ (most : Int) := by omega
            have z2 : (most : Int) ≤ (c3 : Int) := by omega
            have z3 : most ≤ c3 := by omega
            clear hown HV hcut hown2 hgc hg2
            go_wp2_with fail
            go_region_held3 (fun x => x.cell? ⟨b, o + k, none⟩ = some (.slice none 0 0)) (first | exact hc | exact hc') (first | (refine step_append_run rfl _ _ 48 48 rfl _ _ rfl rfl _ _ hrun ?_))
            go_wp2_with (first | (at_builtin; refine Lib.wpList_append_run _ rfl _ _ 48 3 rfl _ _ rfl rfl _ _ hrun2 ?_) | (at_builtin; refine push_row_at rfl _ _ 27 rfl Try.underlying27 w2 w.heap.size _ _ k _ _ hAk2 hv rfl _ rfl rfl (by omega) (Nat.le_trans hbk.size hbw2.size) ?_))
            intro vo' w4 hA4 hb4
            go_wp2_with fail
            go_roundw
            case rel => exact ⟨k + 1, by omega, by go_num, hbk.trans ((hbw2.mono hbk.size).trans hb4), hA4⟩
            case measure => simp [intOf]; omega
        | some ad =>
          have hadd0 : ad.add 0 = ad := addr_add0 ad
          have hmn : (most < lk) = False := eq_false (by omega)
          have s1 : (0 : Int) ≤ (lk : Int) := by omega
          have s2 : (lk : Int) ≤ (cr : Int) := by omega
          obtain ⟨v', w', hrun, hown, hb'⟩ := app_src wr.drew (some ad) lk cr (X k) hrow hno (by omega)
          obtain ⟨a2, c2, e2, _, _⟩ := owns_form hown _ (fun j hj => bytesL_at _ _ j hj)
          subst e2
          have hc' : w'.cell? ⟨b, o + k, none⟩ = some (.slice (some ad) lk cr) := (hx w' (hbk.drew.trans (hb'.mono hbk.size))).1
          have hbw : Below wr.heap.size wr w' := Below.trans (Below.refl _ _).drew hb'
          have hmk : min (L k) most = lk := by rw [HLK.out]; omega
          cases sq with
          | false =>
            have hAk' := hAk.below hbw
            have hv : w'.ownsRow w.heap.size 5 1 (.slice a2 lk c2) (fewL L most most false k) (bytesL (fewL L most most false k) (fewX L X most k)) := by
              have e : bytesL lk (fewX L X most k) = bytesL lk (X k) := List.map_congr_left fun j hj => by
                have hj' := List.mem_range.1 hj
                simp only [fewX, hmk]
                rw [if_pos hj']
              have e1 : fewL L most most false k = lk := by simp only [fewL]; exact hmk
              rw [e1, e]
              exact owns_mono hown hbk.size
            clear hown HV
            go_wp2_with fail
            go_region_held3 (fun x => x.cell? ⟨b, o + k, none⟩ = some (.slice (some ad) lk cr)) (first | exact hc | exact hc') (first | (refine step_append_run rfl _ _ 48 48 rfl _ _ rfl rfl _ _ hrun ?_))
            go_wp2_with (at_builtin; refine push_row_at rfl _ _ 27 rfl Try.underlying27 w' w.heap.size _ _ k _ _ hAk' hv rfl _ rfl rfl (by omega) (Nat.le_trans hbk.size hbw.size) ?_)
            intro vo' w4 hA4 hb4
            go_wp2_with fail
            go_roundw
            case rel => exact ⟨k + 1, by omega, by go_num, hbk.trans ((hbw.mono hbk.size).trans hb4), hA4⟩
            case measure => simp [intOf]; omega
          | true =>
            obtain ⟨v2, w2, hrun2, hown2, hg2⟩ := run_append_zeros w' wr.heap.size (.slice a2 lk c2) lk most (bytesL lk (X k)) hown (by omega) (by omega) hbw.size 48
            rcases hown2.2 with ⟨h0, h00⟩ | ⟨g2, c3, cur2, rfl, hg0, hgc, hn3, hc3, _⟩
            · omega
            have hb2 : Below wr.heap.size w' w2 := (Below.refl _ _).grown hg2 hbw.size (fun g hg => (hown.lt g hg).1)
            have hbw2 : Below wr.heap.size wr w2 := hbw.trans hb2
            have hAk2 := hAk.below hbw2
            have hcut := owns_cut (n := most) hown2 (by omega)
            rw [zeros_take] at hcut
            have hv : w2.ownsRow w.heap.size 5 1 (.slice (some ⟨g2, 0, none⟩) most c3) (fewL L most most true k) (bytesL (fewL L most most true k) (fewX L X most k)) := by
              have e1 : fewL L most most true k = most := by simp only [fewL, if_true]
              have e : fewX L X most k = fun c => if c < lk then X k c else 0 := by funext c; simp only [fewX, hmk]
              rw [e1, e]
              exact owns_mono hcut hbk.size
            have z1 : (0 : Int) ≤ (most : Int) := by omega
            have z2 : (most : Int) ≤ (c3 : Int) := by omega
            have z3 : most ≤ c3 := by omega
            clear hown HV hcut hown2 hgc hg2
            go_wp2_with fail
            go_region_held3 (fun x => x.cell? ⟨b, o + k, none⟩ = some (.slice (some ad) lk cr)) (first | exact hc | exact hc') (first | (refine step_append_run rfl _ _ 48 48 rfl _ _ rfl rfl _ _ hrun ?_))
            go_wp2_with (first | (at_builtin; refine Lib.wpList_append_run _ rfl _ _ 48 3 rfl _ _ rfl rfl _ _ hrun2 ?_) | (at_builtin; refine push_row_at rfl _ _ 27 rfl Try.underlying27 w2 w.heap.size _ _ k _ _ hAk2 hv rfl _ rfl rfl (by omega) (Nat.le_trans hbk.size hbw2.size) ?_))
            intro vo' w4 hA4 hb4
            go_wp2_with fail
            go_roundw
            case rel => exact ⟨k + 1, by omega, by go_num, hbk.trans ((hbw2.mono hbk.size).trans hb4), hA4⟩
            case measure => simp [intOf]; omega
      · have hlm' : (most : Int) < (lk : Int) := by omega
        cases ar with
        | none => exact absurd (hno0 rfl) (by omega)
        | some ad =>
          have hno : some ad = none → cr = 0 ∧ most = 0 := fun h => by cases h
          have hrow : RowAt wr.drew (some ad) most (X k) := by
            rcases hrow0 with h0 | ⟨b1, o1, e, h⟩
            · omega
            · exact .inr ⟨b1, o1, e, fun i hi => h i (by omega)⟩
          have hadd0 : ad.add 0 = ad := addr_add0 ad
          have hmn : (most < lk) = True := eq_true (by omega)
          have s1 : (0 : Int) ≤ (most : Int) := by omega
          have s2 : (most : Int) ≤ (cr : Int) := by omega
          obtain ⟨v', w', hrun, hown, hb'⟩ := app_src wr.drew (some ad) most cr (X k) hrow hno (by omega)
          obtain ⟨a2, c2, e2, _, _⟩ := owns_form hown _ (fun j hj => bytesL_at _ _ j hj)
          subst e2
          have hc' : w'.cell? ⟨b, o + k, none⟩ = some (.slice (some ad) lk cr) := (hx w' (hbk.drew.trans (hb'.mono hbk.size))).1
          have hbw : Below wr.heap.size wr w' := Below.trans (Below.refl _ _).drew hb'
          have hmk : min (L k) most = most := by rw [HLK.out]; omega
          cases sq with
          | false =>
            have hAk' := hAk.below hbw
            have hv : w'.ownsRow w.heap.size 5 1 (.slice a2 most c2) (fewL L most most false k) (bytesL (fewL L most most false k) (fewX L X most k)) := by
              have e : bytesL most (fewX L X most k) = bytesL most (X k) := List.map_congr_left fun j hj => by
                have hj' := List.mem_range.1 hj
                simp only [fewX, hmk]
                rw [if_pos hj']
              have e1 : fewL L most most false k = most := by simp only [fewL]; exact hmk
              rw [e1, e]
              exact owns_mono hown hbk.size
            clear hown HV
            go_wp2_with fail
            go_region_held3 (fun x => x.cell? ⟨b, o + k, none⟩ = some (.slice (some ad) lk cr)) (first | exact hc | exact hc') (first | (refine step_append_run rfl _ _ 48 48 rfl _ _ rfl rfl _ _ hrun ?_))
            go_wp2_with (at_builtin; refine push_row_at rfl _ _ 27 rfl Try.underlying27 w' w.heap.size _ _ k _ _ hAk' hv rfl _ rfl rfl (by omega) (Nat.le_trans hbk.size hbw.size) ?_)
            intro vo' w4 hA4 hb4
            go_wp2_with fail
            go_roundw
            case rel => exact ⟨k + 1, by omega, by go_num, hbk.trans ((hbw.mono hbk.size).trans hb4), hA4⟩
            case measure => simp [intOf]; omega
          | true =>
            obtain ⟨v2, w2, hrun2, hown2, hg2⟩ := run_append_zeros w' wr.heap.size (.slice a2 most c2) most most (bytesL most (X k)) hown (by omega) (by omega) hbw.size 48
            rcases hown2.2 with ⟨h0, h00⟩ | ⟨g2, c3, cur2, rfl, hg0, hgc, hn3, hc3, _⟩
            · omega
            have hb2 : Below wr.heap.size w' w2 := (Below.refl _ _).grown hg2 hbw.size (fun g hg => (hown.lt g hg).1)
            have hbw2 : Below wr.heap.size wr w2 := hbw.trans hb2
            have hAk2 := hAk.below hbw2
            have hcut := owns_cut (n := most) hown2 (by omega)
            rw [zeros_take] at hcut
            have hv : w2.ownsRow w.heap.size 5 1 (.slice (some ⟨g2, 0, none⟩) most c3) (fewL L most most true k) (bytesL (fewL L most most true k) (fewX L X most k)) := by
              have e1 : fewL L most most true k = most := by simp only [fewL, if_true]
              have e : fewX L X most k = fun c => if c < most then X k c else 0 := by funext c; simp only [fewX, hmk]
              rw [e1, e]
              exact owns_mono hcut hbk.size
            have z1 : (0 : Int) ≤ (most : Int) := by omega
            have z2 : (most : Int) ≤ (c3 : Int) := by omega
            have z3 : most ≤ c3 := by omega
            clear hown HV hcut hown2 hgc hg2
            go_wp2_with fail
            go_region_held3 (fun x => x.cell? ⟨b, o + k, none⟩ = some (.slice (some ad) lk cr)) (first | exact hc | exact hc') (first | (refine step_append_run rfl _ _ 48 48 rfl _ _ rfl rfl _ _ hrun ?_))
            go_wp2_with (first | (at_builtin; refine Lib.wpList_append_run _ rfl _ _ 48 3 rfl _ _ rfl rfl _ _ hrun2 ?_) | (at_builtin; refine push_row_at rfl _ _ 27 rfl Try.underlying27 w2 w.heap.size _ _ k _ _ hAk2 hv rfl _ rfl rfl (by omega) (Nat.le_trans hbk.size hbw2.size) ?_))
            intro vo' w4 hA4 hb4
            go_wp2_with fail
            go_roundw
            case rel => exact ⟨k + 1, by omega, by go_num, hbk.trans ((hbw2.mono hbk.size).trans hb4), hA4⟩
            case measure => simp [intOf]; omega
    · have hkn : k = most := by omega
      subst hkn
      go_wp2_with fail
      go_ret
      exact ⟨_, rfl, hAk, hbk⟩
theorem few_any (a : Option Addr) (len cap most : Nat) (sq : Bool) (L : Nat → Nat) (X : Mx) (AR : Nat → Option Addr) (CR : Nat → Nat) (w : World) (hlen : len ≤ maxLen) (hM : MatIn w a len L X AR CR)
    (hC : ∀ r, r < len → L r ≤ CR r ∧ CR r ≤ maxLen ∧ (AR r = none → CR r = 0)) (hm1 : 1 ≤ most) (hm2 : most ≤ 16) :
    Calls Try.prog 12 #[.slice a len cap, .int .i64 (most : Int), .bool sq] w fun e w' => ∃ vo, e = .returned vo ∧ AccM w' w.heap.size vo (min len most) (fewL L most (min len most) sq) (fewX L X most) ∧ Below w.heap.size w w' := by
  have HV : ∀ k, k < len → ∃ b o lk cr ar, a = some ⟨b, o, none⟩ ∧ L k = lk ∧ lk ≤ cr ∧ cr ≤ 9223372036854775807 ∧ (ar = none → cr = 0) ∧ (∀ x, Below w.heap.size w x → x.cell? ⟨b, o + k, none⟩ = some (.slice ar lk cr) ∧ RowAt x ar lk (X k)) := fun k hk => by
    obtain ⟨c1, c2, c3⟩ := hC k (by omega)
    rcases hM.1 with h0 | ⟨b, o, rfl, hv⟩
    · omega
    have hc := hv k (by omega)
    exact ⟨b, o, L k, CR k, AR k, rfl, rfl, c1, by unfold maxLen at c2; omega, c3, fun x hx => ⟨(hx.cell (p := ⟨b, o + k, none⟩) (cell_lt hc)).trans hc, ((hM.2 k (by omega)).2).below hx (Nat.le_refl _)⟩⟩
  unfold maxLen at hlen
  by_cases h : len ≤ most
  · rw [Nat.min_eq_left h]
    exact few_small a len cap most sq L X w h (by omega) hm1 hm2 HV
  · rw [Nat.min_eq_right (by omega)]
    exact few_great a len cap most sq L X w (by omega) (by omega) hm1 hm2 fun k hk => HV k (by omega)
end Go.Proofs.Ythcbnffhkbbkpaa
