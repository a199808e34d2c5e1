/- The document's product of two matrices. -/
import Derived.Test.YtocgoafmjggnmaaMatRef
namespace Go.Proofs.Ytocgoafmjggnmaa
open Go.RowKit Go.PlainAid
set_option linter.unusedVariables false

theorem refMul_E (a b : E) (w : World) : Calls Try.prog 36 #[.int .u8 (a.v : Int), .int .u8 (b.v : Int)] w fun e w' => e = .returned (.int .u8 ((a * b).v : Int)) ∧ Below w.heap.size w w' := refMul_any a.v b.v a.h b.h w
theorem refAdd_E (a b : E) (w : World) : Calls Try.prog 37 #[.int .u8 (a.v : Int), .int .u8 (b.v : Int)] w fun e w' => e = .returned (.int .u8 ((a + b).v : Int)) ∧ Below w.heap.size w w' := refAdd_any a.v b.v a.h b.h w

/-- The rows of a matrix that lies in older memory, whatever has been laid since. -/
def RowsIn (w : World) (b o n l : Nat) (X : Mx) : Prop := ∀ x, Below w.heap.size w x → ∀ r, r < n → ∃ b' o' cr, x.cell? ⟨b, o + r, none⟩ = some (.slice (some ⟨b', o', none⟩) l cr) ∧ ∀ k, k < l → x.cell? ⟨b', o' + k, none⟩ = some (.int .u8 ((X r k).v : Int))
theorem rows_in {w : World} {a : Option Addr} {n : Nat} {L : Nat → Nat} {X : Mx} (h : MatAt w a n L X) (g : Gd n L) : ∃ b o, a = some ⟨b, o, none⟩ ∧ RowsIn w b o n (L 0) X := by
  obtain ⟨AR, CR, hi⟩ := h
  obtain ⟨b, o, _, _, rfl, _, _, _⟩ := hi.cell 0 0 (by have := g.1; omega) (by have := g.2.2.1; omega)
  refine ⟨b, o, rfl, fun x hx r hr => ?_⟩
  have hl := g.2.2.2.2 r hr
  obtain ⟨b1, o1, b', o', e1, e2, e3, _⟩ := (hi.below hx).cell r 0 hr (by rw [hl]; have := g.2.2.1; omega)
  cases e1
  rw [hl] at e3
  refine ⟨b', o', _, e3, fun k hk => ?_⟩
  obtain ⟨_, _, b2, o2, _, f2, _, f4⟩ := (hi.below hx).cell r k hr (by rw [hl]; exact hk)
  rw [e2] at f2
  cases f2
  exact f4

set_option maxHeartbeats 2000000 in
theorem refMulM_ok (a b : Option Addr) (n m ca cb : Nat) (LA LB : Nat → Nat) (A B : Mx) (w : World) (hA : MatAt w a n LA A) (hB : MatAt w b m LB B) (hn : n ≤ maxLen) (hm : m ≤ maxLen) (gA : Gd n LA) (gB : Gd m LB) (hs : LA 0 = m) :
    Calls Try.prog 18 #[.slice a n ca, .slice b m cb] w fun e w' => Below w.heap.size w w' ∧ ∃ vo, e = .returned (.tuple #[vo, .int .i64 0]) ∧ AccM w' w.heap.size vo n (fun _ => LB 0) (mulM m A B) := by
  have hg := fun x h => refGood_any a n ca LA A x hn h true (good_yes gA)
  have hg2 := fun x h => refGood_any b m cb LB B x hm h true (good_yes gB)
  obtain ⟨ba, oa, rfl, hRA⟩ := rows_in hA gA
  obtain ⟨bb, ob, rfl, hRB⟩ := rows_in hB gB
  rw [hs] at hRA
  obtain ⟨mb, hmb⟩ : ∃ mb, LB 0 = mb := ⟨_, rfl⟩
  rw [hmb] at hRB ⊢
  have g1 := gA.1
  have g2 := gA.2.1
  have g5 := gB.1
  have g6 := gB.2.1
  have g7 := gB.2.2.1
  have g8 := gB.2.2.2.1
  rw [hmb] at g7 g8
  have HRA : Hid (RowsIn w ba oa n m A) := hRA
  have HRB : Hid (RowsIn w bb ob m mb B) := hRB
  have H0A : Hid (∀ x, Below w.heap.size w x → ∃ b' o' cr, x.cell? ⟨ba, oa, none⟩ = some (.slice (some ⟨b', o', none⟩) m cr)) := fun x hx => by
    obtain ⟨b', o', cr, h, _⟩ := HRA.out x hx 0 (by omega)
    exact ⟨b', o', cr, h⟩
  have H0B : Hid (∀ x, Below w.heap.size w x → ∃ b' o' cr, x.cell? ⟨bb, ob, none⟩ = some (.slice (some ⟨b', o', none⟩) mb cr)) := fun x hx => by
    obtain ⟨b', o', cr, h, _⟩ := HRB.out x hx 0 (by omega)
    exact ⟨b', o', cr, h⟩
  have n0 : (0 : Int) < (n : Int) := by omega
  have m0 : (0 : Int) < (m : Int) := by omega
  have n0' : 0 < n := by omega
  have m0' : 0 < m := by omega
  have t1 : ((m : Int) != (m : Int)) = false := by simp
  clear hRA hRB gA gB hmb hs hn hm
  go_enter Try.func18, Try.ntmps18
  go_wp2_with fail
  go_at_call 15
  refine (hg _ hA).mono ?_
  rintro e w1 ⟨rfl, q1, rfl⟩
  go_wp2_with fail
  go_at_call 15
  refine (hg2 _ (hB.below (below_drewN (Below.refl _ _) q1))).mono ?_
  rintro e w2 ⟨rfl, q2, rfl⟩
  have hb2 : Below w.heap.size w (w.drewN (q1 + q2)) := below_drewN (Below.refl _ _) _
  rw [World.drewN_drewN]
  obtain ⟨w3, hw3⟩ : ∃ w3, w.drewN (q1 + q2) = w3 := ⟨_, rfl⟩
  rw [hw3] at hb2 ⊢
  obtain ⟨xb, xo, xc, hc0⟩ := H0A.out w3 hb2
  clear hw3 hg hg2 hA hB
  go_wp2_with fail
  go_loopw [8, 9] (fun o i wr => ∃ k : Nat, k ≤ n ∧ i = .int .i64 k ∧ Below w.heap.size w wr ∧ AccM wr w.heap.size o k (fun _ => mb) (mulM m A B)) (fun _ i _ => (n : Nat) - (intOf i).toNat)
  case atStart => exact ⟨0, Nat.zero_le _, rfl, hb2, AccM.nil _ _ _ _⟩
  case round =>
    obtain ⟨r, hr, rfl, hbr, hAr⟩ := hrel
    by_cases hlt : r < n
    · clear hc0 hb2
      go_wp2_with fail
      obtain ⟨wo, hwo⟩ : ∃ wo, wo = wr := ⟨_, rfl⟩
      have HWO : Hid (wo = wr) := hwo
      have hAo := hAr
      rw [← hwo] at hAo
      have hbo : Below w.heap.size w wo := by rw [hwo]; exact hbr
      clear hwo
      go_loopw [10, 11] (fun v i wi => ∃ j : Nat, j ≤ mb ∧ i = .int .i64 j ∧ Below wo.heap.size wo wi ∧ wi.ownsRow wo.heap.size 5 1 v j (bytesL j (mulM m A B r))) (fun _ i _ => (mb : Nat) - (intOf i).toNat)
      case atStart => exact ⟨0, Nat.zero_le _, rfl, by rw [HWO.out]; exact Below.refl _ _, World.ownsRow_nil _ _ _ _⟩
      case round =>
        obtain ⟨j, hj, rfl, hbj, hoj⟩ := hrel
        have hbwj : Below w.heap.size w wr := hbo.trans (hbj.mono hbo.size)
        obtain ⟨yb, yo, yc, hy0⟩ := H0B.out wr hbwj
        by_cases hjm : j < mb
        · go_wp2_with fail
          obtain ⟨wm, hwm⟩ : ∃ wm, wm = wr := ⟨_, rfl⟩
          have HWM : Hid (wm = wr) := hwm
          have hom := hoj
          rw [← hwm] at hom
          have hbm : Below wo.heap.size wo wm := by rw [hwm]; exact hbj
          clear hwm
          go_loopw [12, 13] (fun s i wk => ∃ k : Nat, k ≤ m ∧ i = .int .i64 k ∧ s = .int .u8 ((S k (fun k => A r k * B k j)).v : Int) ∧ Below wm.heap.size wm wk) (fun _ i _ => (m : Nat) - (intOf i).toNat)
          case atStart => exact ⟨0, Nat.zero_le _, rfl, rfl, by rw [HWM.out]; exact Below.refl _ _⟩
          case round =>
            obtain ⟨k, hk, rfl, rfl, hbk⟩ := hrel
            have hbwk : Below w.heap.size w wr := (hbo.trans (hbm.mono hbo.size)).trans (hbk.mono (Nat.le_trans hbo.size hbm.size))
            by_cases hkm : k < m
            · obtain ⟨b1, o1, c1, e1, f1⟩ := HRA.out wr hbwk r hlt
              obtain ⟨b2, o2, c2, e2, f2⟩ := HRB.out wr hbwk k hkm
              have f1' := f1 k hkm
              have f2' := f2 j hjm
              have HS : Hid (∀ x, Below wr.heap.size wr x → x.cell? ⟨ba, oa + r, none⟩ = some (.slice (some ⟨b1, o1, none⟩) m c1) ∧ x.cell? ⟨b1, o1 + k, none⟩ = some (.int .u8 ((A r k).v : Int)) ∧ x.cell? ⟨bb, ob + k, none⟩ = some (.slice (some ⟨b2, o2, none⟩) mb c2) ∧ x.cell? ⟨b2, o2 + j, none⟩ = some (.int .u8 ((B k j).v : Int))) := fun x hx =>
                ⟨(hx.cell (p := ⟨ba, oa + r, none⟩) (cell_lt e1)).trans e1, (hx.cell (p := ⟨b1, o1 + k, none⟩) (cell_lt f1')).trans f1', (hx.cell (p := ⟨bb, ob + k, none⟩) (cell_lt e2)).trans e2, (hx.cell (p := ⟨b2, o2 + j, none⟩) (cell_lt f2')).trans f2'⟩
              have hd : Below wr.heap.size wr wr.drew := (Below.refl _ _).drew
              have hmul := fun x => refMul_E (A r k) (B k j) x
              have hadd := fun x => refAdd_E (S k (fun k => A r k * B k j)) (A r k * B k j) x
              have rn : (r : Int) < (n : Int) := by omega
              have km : (k : Int) < (m : Int) := by omega
              have jm : (j : Int) < (mb : Int) := by omega
              generalize (A r k).v = x1 at f1' hmul HS
              generalize (B k j).v = x2 at f2' hmul HS
              generalize hx3 : (A r k * B k j) = x3 at hmul hadd
              have HSS : Hid (S (k + 1) (fun k => A r k * B k j) = S k (fun k => A r k * B k j) + x3) := (by rw [← hx3]; rfl : S (k + 1) (fun k => A r k * B k j) = S k (fun k => A r k * B k j) + x3)
              clear hx3 f1 f2
              go_wp2_with fail
              go_region_held3 (fun x => x.cell? ⟨ba, oa + r, none⟩ = some (.slice (some ⟨b1, o1, none⟩) m c1) ∧ x.cell? ⟨b1, o1 + k, none⟩ = some (.int .u8 (x1 : Int)) ∧ x.cell? ⟨bb, ob + k, none⟩ = some (.slice (some ⟨b2, o2, none⟩) mb c2) ∧ x.cell? ⟨b2, o2 + j, none⟩ = some (.int .u8 (x2 : Int))) (first | exact HS.out _ hd | exact HS.out _ (by assumption)) (first | (go_at_call 36; refine (hmul _).mono ?_; rintro e w5 ⟨rfl, hb5⟩; have hx5 : Below wr.heap.size wr w5 := hd.trans hb5))
              go_wp2_with fail
              go_at_call 37
              refine (hadd _).mono ?_
              rintro e w6 ⟨rfl, hb6⟩
              go_wp2_with fail
              go_roundw
              case rel => exact ⟨k + 1, by omega, by go_num, by rw [HSS.out], hbk.trans ((hx5.mono hbk.size).trans (hb6.mono (Nat.le_trans hbk.size hx5.size)))⟩
              case measure => simp [intOf]; omega
            · have hkm' : k = m := by omega
              subst hkm'
              have hok := owns_below hom hbk
              have HE : Hid (Value.int .u8 ((S k (fun k => A r k * B k j)).v : Int) = byteV (mulM k A B r j)) := (rfl : Value.int .u8 ((S k (fun k => A r k * B k j)).v : Int) = byteV (mulM k A B r j))
              go_wp2_with (at_builtin; refine push_byte_at rfl _ _ rfl _ wo.heap.size _ j (mulM k A B r) hok rfl _ HE.out _ rfl rfl (by omega) (Nat.le_trans hbm.size hbk.size) ?_)
              intro v' w6 ho6 hb6
              go_wp2_with fail
              go_roundw
              case rel => exact ⟨j + 1, by omega, by go_num, hbm.trans ((hbk.mono hbm.size).trans hb6), ho6⟩
              case measure => simp [intOf]; omega
        · have hjm' : j = mb := by omega
          subst hjm'
          obtain ⟨ar, cr, hv8, _, _⟩ := owns_form hoj _ (fun i hi => bytesL_at _ _ i hi)
          subst hv8
          have hAi := hAo.below hbj
          have hvi := owns_mono hoj hbo.size
          go_wp2_with (at_builtin; refine push_row_at rfl _ _ 22 rfl Try.underlying22 _ w.heap.size _ _ r (fun _ => j) (mulM m A B) hAi hvi rfl _ rfl rfl (by omega) (Nat.le_trans hbo.size hbj.size) ?_)
          intro vo' w4 hA4 hb4
          go_wp2_with fail
          go_roundw
          case rel => exact ⟨r + 1, by omega, by go_num, hbo.trans ((hbj.mono hbo.size).trans hb4), hA4⟩
          case measure => simp [intOf]; omega
    · have hrn : r = n := by omega
      subst hrn
      go_wp2_with fail
      go_ret2
      exact ⟨hbr, _, rfl, hAr⟩
end Go.Proofs.Ytocgoafmjggnmaa
