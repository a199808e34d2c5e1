/- The inverse of a matrix by determinants: the document's answer. -/
import Derived.Test.YthcbnffhkbbkpaaMatDet
namespace Go.Proofs.Ythcbnffhkbbkpaa
open Go.RowKit Go.PlainAid
set_option linter.unusedVariables false

theorem MatAt.lens {w : World} {a : Option Addr} {n : Nat} {L L' : Nat → Nat} {X : Mx} (h : MatAt w a n L X) (hl : ∀ r, r < n → L r = L' r) : MatAt w a n L' X := by
  obtain ⟨AR, CR, h1, h2⟩ := h
  refine ⟨AR, CR, ?_, fun r hr => by rw [← hl r hr]; exact h2 r hr⟩
  rcases h1 with h0 | ⟨b, o, rfl, h⟩
  · exact .inl h0
  · exact .inr ⟨b, o, rfl, fun i hi => by show _ = some (Value.slice (AR i) (L' i) (CR i)); rw [← hl i hi]; exact h i hi⟩
/-- What the document's Invert answers of rows. -/
def RefInvPost (base n : Nat) (L : Nat → Nat) (A : Mx) (e : Ending) (w' : World) : Prop :=
  (¬ Gd n L ∧ e = .returned (.tuple #[.slice none 0 0, .int .i64 4])) ∨
  (Gd n L ∧ n ≠ L 0 ∧ e = .returned (.tuple #[.slice none 0 0, .int .i64 7])) ∨
  (Gd n L ∧ n = L 0 ∧ D n A = 0 ∧ e = .returned (.tuple #[.slice none 0 0, .int .i64 6])) ∨
  (Gd n L ∧ n = L 0 ∧ D n A ≠ 0 ∧ ∃ vo, e = .returned (.tuple #[vo, .int .i64 0]) ∧ AccM w' base vo n (fun _ => n) (adjM (n - 1) A))

set_option maxHeartbeats 2000000 in
theorem refInvert_sq (a : Option Addr) (n N ca : Nat) (A : Mx) (w : World) (hn : n = N + 1) (hN : N ≤ 15) (hA : MatAt w a n (fun _ => n) A) :
    Calls Try.prog 15 #[.slice a n ca] w fun e w' => Below w.heap.size w w' ∧ ((D n A = 0 ∧ e = .returned (.tuple #[.slice none 0 0, .int .i64 6])) ∨
      (D n A ≠ 0 ∧ ∃ vo, e = .returned (.tuple #[vo, .int .i64 0]) ∧ AccM w' w.heap.size vo n (fun _ => n) (adjM N A))) := by
  have hG : Gd n (fun _ => n) := ⟨by omega, by omega, by show 1 ≤ n; omega, by show n ≤ 16; omega, fun _ _ => rfl⟩
  have hg := refGood_any a n ca (fun _ => n) A w (by unfold maxLen; omega) hA true (good_yes hG)
  have hdet := fun q => det_any n a ca A (w.drewN q) (by omega) (hA.below (below_drewN (Below.refl _ _) q))
  have hwo := fun x (h : Below w.heap.size w x) row col hr hc => without_any a n N ca row col A x hn hN (hA.below h) hr hc
  have hdN := fun a c X x h => det_any N a c X x (by omega) h
  obtain ⟨ba, oa, rfl, hR⟩ := rows_in hA hG
  have HR : Hid (RowsIn w ba oa n n A) := hR
  have n0 : (0 : Int) < (n : Int) := by omega
  have n0' : 0 < n := by omega
  have hn16 : n ≤ 16 := by omega
  have t0 : ((n : Int) != (n : Int)) = false := by simp
  have HA : Hid (∀ r c, (D n A).inv * D N (minorM A c r) = adjM N A r c) := (fun r c => by rw [hn]; rfl : ∀ r c, (D n A).inv * D N (minorM A c r) = adjM N A r c)
  clear hR hA hn hG
  go_enter Try.func15, Try.ntmps15
  go_wp2_with fail
  go_at_call 32
  refine hg.mono ?_
  rintro e w1 ⟨rfl, q1, rfl⟩
  have hb1 : Below w.heap.size w (w.drewN q1) := below_drewN (Below.refl _ _) _
  obtain ⟨xb, xo, xc, hc0, _⟩ := HR.out _ hb1 0 n0'
  rw [Nat.add_zero] at hc0
  have hd1 := hdet q1
  generalize w.drewN q1 = w1 at hb1 hc0 hd1 ⊢
  clear hdet hg
  go_wp2_with fail
  go_at_call 33
  refine hd1.mono ?_
  rintro e w2 ⟨rfl, hb2⟩
  have hb02 := hb1.trans (hb2.mono hb1.size)
  by_cases hz : D n A = 0
  · have HZ : Hid (D n A = 0) := hz
    rw [hz, E.zero_v]
    clear hz hwo hdN
    go_wp2_with fail
    go_ret2
    exact ⟨hb02, .inl ⟨HZ.out, rfl⟩⟩
  · have HZ : Hid (D n A ≠ 0) := hz
    have t1 : (((D n A).v : Int) == 0) = false := by simp; exact E.ne_v hz
    have hinv := fun x => refInv_any (D n A).v (D n A).h x
    have hgi : (gi0 (D n A).v : Int) = ((D n A).inv.v : Int) := by unfold gi0 E.inv; rw [if_neg (E.ne_v hz)]
    have HM : Hid (∀ y (x : World), Calls Try.prog 26 #[.int .u8 (gi0 (D n A).v : Int), .int .u8 (E.v y : Int)] x fun e w' => e = .returned (.int .u8 (((D n A).inv * y).v : Int)) ∧ Below x.heap.size x w') := fun y x => by
      rw [hgi]; exact refMul_E _ _ x
    clear hz hgi
    generalize hdv : (D n A).v = dv at hinv t1 HM ⊢
    clear hdv
    go_wp2_with fail
    go_at_call 34
    refine (hinv _).mono ?_
    rintro e w3 ⟨rfl, hb3⟩
    have hb03 := hb02.trans (hb3.mono hb02.size)
    generalize (gi0 dv) = iv at HM
    clear hinv hb02 hb2 hb1 hc0 hd1 hb3
    go_wp2_with fail
    go_loopw [7, 8] (fun o i wr => ∃ k : Nat, k ≤ n ∧ i = .int .i64 k ∧ Below w.heap.size w wr ∧ AccM wr w.heap.size o k (fun _ => n) (adjM N A)) (fun _ i _ => (n : Nat) - (intOf i).toNat)
    case atStart => exact ⟨0, Nat.zero_le _, rfl, hb03, AccM.nil _ _ _ _⟩
    case round =>
      obtain ⟨r, hr, rfl, hbr, hAr⟩ := hrel
      by_cases hlt : r < n
      · clear hb03
        go_wp2_with fail
        obtain ⟨wo, hwoe⟩ : ∃ wo, wo = wr := ⟨_, rfl⟩
        have HWO : Hid (wo = wr) := hwoe
        have hAo := hAr
        rw [← hwoe] at hAo
        have hbo : Below w.heap.size w wo := by rw [hwoe]; exact hbr
        clear hwoe
        go_loopw [9, 10] (fun v i wi => ∃ j : Nat, j ≤ n ∧ i = .int .i64 j ∧ Below wo.heap.size wo wi ∧ wi.ownsRow wo.heap.size 5 1 v j (bytesL j (adjM N A r))) (fun _ i _ => (n : Nat) - (intOf i).toNat)
        case atStart => exact ⟨0, Nat.zero_le _, rfl, by rw [HWO.out]; exact Below.refl _ _, World.ownsRow_nil _ _ _ _⟩
        case round =>
          obtain ⟨j, hj, rfl, hbj, hoj⟩ := hrel
          have hbwj : Below w.heap.size w wr := hbo.trans (hbj.mono hbo.size)
          by_cases hjm : j < n
          · have hw := hwo wr hbwj j r hjm hlt
            go_wp2_with fail
            go_at_call 35
            refine hw.mono ?_
            rintro e w4 ⟨hb4, vo, rfl, hA4⟩
            obtain ⟨a2, c2, rfl, _, hM4⟩ := hA4.mat
            have hd := hdN a2 c2 _ w4 hM4
            have HV : Hid (Value.int .u8 (((D n A).inv * D N (minorM A j r)).v : Int) = byteV (adjM N A r j)) := (by rw [HA.out]; rfl : Value.int .u8 (((D n A).inv * D N (minorM A j r)).v : Int) = byteV (adjM N A r j))
            have hm := fun x => HM.out (D N (minorM A j r)) x
            generalize ((D n A).inv * D N (minorM A j r)).v = pv at hm HV
            generalize (D N (minorM A j r)).v = mv at hm hd
            clear hA4 hM4 hw
            go_wp2_with fail
            go_at_call 33
            refine hd.mono ?_
            rintro e w5 ⟨rfl, hb5⟩
            go_wp2_with fail
            go_at_call 26
            refine (hm _).mono ?_
            rintro e w6 ⟨rfl, hb6⟩
            have hb45 := hb4.trans (hb5.mono hb4.size)
            have hb46 := hb45.trans (hb6.mono hb45.size)
            have ho6 := owns_below hoj hb46
            go_wp2_with (at_builtin; refine push_byte_at rfl _ _ rfl _ wo.heap.size _ j (adjM N A r) ho6 rfl _ HV.out _ rfl rfl (by omega) (Nat.le_trans hbj.size hb46.size) ?_)
            intro v' w7 ho7 hb7
            go_wp2_with fail
            go_roundw
            case rel => exact ⟨j + 1, by omega, by go_num, hbj.trans ((hb46.mono hbj.size).trans hb7), ho7⟩
            case measure => simp [intOf]; omega
          · have hjm' : j = n := by omega
            subst hjm'
            obtain ⟨ar, cr, hv8, _, _⟩ := owns_form hoj _ (fun i hi => bytesL_at _ _ i hi)
            subst hv8
            have hAi := hAo.below hbj
            have hvi := owns_mono hoj hbo.size
            go_wp2_with (at_builtin; refine push_row_at rfl _ _ 25 rfl Try.underlying25 _ w.heap.size _ _ r (fun _ => j) (adjM N A) hAi hvi rfl _ rfl rfl (by omega) (Nat.le_trans hbo.size hbj.size) ?_)
            intro vo' w4 hA4 hb4
            go_wp2_with fail
            go_roundw
            case rel => exact ⟨r + 1, by omega, by go_num, hbo.trans ((hbj.mono hbo.size).trans hb4), hA4⟩
            case measure => simp [intOf]; omega
      · have hrn : r = n := by omega
        subst hrn
        go_wp2_with fail
        go_ret2
        exact ⟨hbr, .inr ⟨HZ.out, _, rfl, hAr⟩⟩

set_option maxHeartbeats 1000000 in
theorem refInvert_any (a : Option Addr) (n ca : Nat) (L : Nat → Nat) (A : Mx) (w : World) (hn : n ≤ maxLen) (hA : MatAt w a n L A) :
    Calls Try.prog 15 #[.slice a n ca] w fun e w' => Below w.heap.size w w' ∧ RefInvPost w.heap.size n L A e w' := by
  by_cases gA : Gd n L
  · by_cases hs : n = L 0
    · have hsq := refInvert_sq a n (n - 1) ca A w (by have := gA.1; omega) (by have := gA.2.1; omega) (hA.lens fun r hr => by rw [gA.2.2.2.2 r hr, ← hs])
      refine hsq.mono ?_
      rintro e w' ⟨hb, ⟨hz, rfl⟩ | ⟨hz, vo, rfl, hv⟩⟩
      · exact ⟨hb, .inr (.inr (.inl ⟨gA, hs, hz, rfl⟩))⟩
      · exact ⟨hb, .inr (.inr (.inr ⟨gA, hs, hz, vo, rfl, hv⟩))⟩
    · have hg := refGood_any a n ca L A w hn hA true (good_yes gA)
      obtain ⟨ba, oa, rfl, hR⟩ := rows_in hA gA
      have HG : Hid (Gd n L) := gA
      have HS : Hid (n ≠ L 0) := hs
      have n0' : 0 < n := by have := gA.1; omega
      have n0 : (0 : Int) < (n : Int) := by omega
      have l16 : L 0 ≤ 16 := gA.2.2.2.1
      obtain ⟨l, hl⟩ : ∃ l, L 0 = l := ⟨_, rfl⟩
      have t0 : ((n : Int) != (l : Int)) = true := by rw [← hl]; simp; omega
      rw [hl] at hR l16
      have HR : Hid (RowsIn w ba oa n l A) := hR
      clear gA hs hA hR hl hn
      go_enter Try.func15, Try.ntmps15
      go_wp2_with fail
      go_at_call 32
      refine hg.mono ?_
      rintro e w1 ⟨rfl, q1, rfl⟩
      have hb1 : Below w.heap.size w (w.drewN q1) := below_drewN (Below.refl _ _) _
      obtain ⟨xb, xo, xc, hc0, _⟩ := HR.out _ hb1 0 n0'
      rw [Nat.add_zero] at hc0
      generalize w.drewN q1 = w1 at hb1 hc0 ⊢
      clear hg
      go_wp2_with fail
      go_ret2
      exact ⟨hb1, .inr (.inl ⟨HG.out, HS.out, rfl⟩)⟩
  · have hg := refGood_any a n ca L A w hn hA false (good_no gA)
    have GA : Hid (¬ Gd n L) := gA
    clear gA
    go_enter Try.func15, Try.ntmps15
    go_wp2_with fail
    go_at_call 32
    refine hg.mono ?_
    rintro e w1 ⟨rfl, q1, rfl⟩
    go_wp2_with fail
    go_ret2
    exact ⟨below_drewN (Below.refl _ _) _, .inl ⟨GA.out, rfl⟩⟩
end Go.Proofs.Ythcbnffhkbbkpaa
