/- Whichever two chunks of a stripe are lost, all are told: the law's walk. -/
import Derived.Test.YtdpcbiccbhlonaaRsAll
import Derived.Test.YtdpcbiccbhlonaaRsBack
import Derived.BigRegion
namespace Go.Proofs.Ytdpcbiccbhlonaa
open Go.RowKit Go.PlainAid
set_option linter.unusedVariables false

theorem Try.info4 : (Try.prog.info? 4).map (fun i => (i.zero, i.size, i.bytes)) = some (some (.bool false), 1, 1) := by kernel_rfl
def notTwo (r s x : Nat) : Bool := ((x : Int) != (r : Int)) && ((x : Int) != (s : Int))
set_option maxHeartbeats 4000000 in
theorem anyTwoLaw_arg (l : Option Addr) (len cap : Nat) (noise : ByteArray) (w : World) (hL : StrsArg w l len cap) (hz : noise.size ≤ maxLen) :
    Calls Try.prog 7 #[.slice l len cap, .string noise] w fun e w' => e = .returned (.bool true) ∧ Below w.heap.size w w' := by
  have hcut := cut_any l len cap 60 true w hL (by decide)
  have hz' : noise.size ≤ 9223372036854775807 := by unfold maxLen at hz; omega
  have hwk := fun x => wakes_any x
  obtain ⟨i0, hi, hz0, hz1, hz2⟩ := info_parts Try.info4
  clear hL hz
  go_enter Try.func7, Try.ntmps7
  go_wp2_with fail
  go_at_call 9
  refine hcut.mono ?_
  rintro e w1 ⟨hb1, v, f, rfl, hC⟩
  have k12 : min len 12 ≤ 12 := by omega
  generalize min len 12 = k at hC k12 ⊢
  obtain ⟨a, c, rfl, hc1, hc2, hT⟩ := hC.txt (by decide)
  clear hcut
  by_cases hk : 1 ≤ k ∧ k ≤ 8
  · obtain ⟨m, D, hmN, hm, hE, hf, hp, hq, hm0⟩ := hC.elems (by decide) hk.1 hk.2
    have henc := encode_any a k c _ _ w1 hc1 hc2 hT
    rw [hE, hp, hq] at henc
    have HV : Hid (∀ x, Below w1.heap.size w1 x → Vals x a k fun i => .string (strE m (St k D i))) := fun x hx => by
      rcases (hT.below hx).1 with h0 | ⟨b, o, e, h⟩
      · omega
      · exact .inr ⟨b, o, e, fun i hi => by
          have := h i hi
          simp only [strE_te] at this
          rw [this, hf i hi]⟩
    have HN : Hid (a = none → c = 0 ∧ k = 0) := fun ha => by
      subst ha
      rcases hC.1.2 with ⟨h0, h1⟩ | ⟨g, cap', cur, e, _⟩
      · injection h0 with _ _ h4; exact ⟨h4, h1⟩
      · cases e
    have HK : Hid (1 ≤ k ∧ k ≤ 8) := hk
    have HM : Hid (m ≤ 65536) := hm
    have t0 : ((k : Int) == 0) = false := by simp; omega
    have t1 : ¬ (8 : Int) < (k : Int) := by omega
    have HPQ : Hid (strE m (St k D k) = (fun i => strE m (St k D i)) k ∧ strE m (St k D (k + 1)) = (fun i => strE m (St k D i)) (k + 1)) := ⟨rfl, rfl⟩
    generalize strE m (St k D k) = p at henc HPQ
    generalize strE m (St k D (k + 1)) = q at henc HPQ
    clear hE hf hp hq hm0 hC hT hk hm hmN
    go_wp2_with fail
    go_at_call 10
    refine henc.mono ?_
    rintro e w2 ⟨hb2, rfl⟩
    have hb02 := hb1.trans (hb2.mono hb1.size)
    obtain ⟨v3, w3, hrun, hown3, hb3⟩ := app_strs w2 a k c (fun i => strE m (St k D i)) (HV.out w2 hb2) HN.out (by omega)
    have hb03 := hb02.trans (hb3.mono hb02.size)
    clear henc
    go_wp2_with (at_builtin; first | refine Lib.wpList_append_run _ rfl _ _ 22 22 rfl _ _ rfl rfl _ _ (hrun _) ?_ | refine push_strs_two rfl _ _ rfl _ w2.heap.size _ k (fun i => strE m (St k D i)) hown3 rfl _ _ HPQ.out.1 HPQ.out.2 _ rfl rfl (by omega) hb3.size ?_)
    intro v4 w4 hown4 hb4
    obtain ⟨aa, ac, rfl, -, hva⟩ := owns_form hown4 _ (fun i hi => strsL_at _ _ i hi)
    have hac : k + 2 ≤ ac ∧ ac ≤ 9223372036854775807 ∧ (aa = none → False) := by
      rcases hown4.2 with ⟨h0, h1⟩ | ⟨g, cap', cur, e, _, _, h1, h2, _⟩
      · omega
      · cases e; unfold maxLen at h2; exact ⟨h1, by omega, fun h => by cases h⟩
    have hTa : TxtAt w4 aa (k + 2) (fun _ => m) (St k D) := ⟨hva, fun c hc => by show m ≤ _; have := HM.out; omega⟩
    have hb04 : Below w.heap.size w w4 := hb02.trans ((hb3.trans hb4).mono hb02.size)
    have hchk := fun x (hx : Below w4.heap.size w4 x) => check_any aa (k + 2) ac (fun _ => m) (St k D) x hac.1 hac.2.1 (hTa.below hx)
    rw [chk_stripe HK.out.1 HK.out.2 HM.out D] at hchk
    have HVA : Hid (∀ x, Below w4.heap.size w4 x → Vals x aa (k + 2) fun i => .string (strE m (St k D i))) := fun x hx => hva.below hx (Nat.le_refl _)
    have HAC : Hid (k + 2 ≤ ac ∧ ac ≤ 9223372036854775807 ∧ (aa = none → False)) := hac
    clear hrun hown3 hb3 hb03 hown4 hb4 hb02 hb2 hva hac hTa HPQ
    go_wp2_with fail
    go_at_call 12
    refine (hwk _).mono ?_
    rintro e w5 ⟨rfl, hb5⟩
    have hchk5 := hchk w5 hb5
    clear hchk
    go_wp2_with fail
    go_at_call 18
    refine hchk5.mono ?_
    rintro e w6 ⟨hb6, rfl⟩
    have hb46 : Below w4.heap.size w4 w6 := hb5.trans (hb6.mono hb5.size)
    clear hchk5 hb5 hb6
    go_wp2_with fail
    go_loopw [53] (fun i wr => ∃ r : Nat, r ≤ k + 2 ∧ i = .int .i64 r ∧ Below w4.heap.size w4 wr) (fun i _ => (k + 2 : Nat) - (intOf i).toNat)
    case atStart => exact ⟨0, Nat.zero_le _, rfl, hb46⟩
    case round =>
      obtain ⟨r, hr, rfl, hbr⟩ := hrel
      clear hb46
      by_cases hlt : r < k + 2
      · have rk : (r : Int) < (k : Int) + 2 := by omega
        go_wp2_with fail
        go_loopw [58] (fun i wr => ∃ s : Nat, s ≤ r + 1 ∧ i = .int .i64 s ∧ Below w4.heap.size w4 wr) (fun i _ => (r + 1 : Nat) - (intOf i).toNat)
        case atStart => exact ⟨0, Nat.zero_le _, rfl, hbr⟩
        case round =>
          obtain ⟨s, hs, rfl, hbs⟩ := hrel
          clear hbr
          by_cases hsl : s < r + 1
          · have sr : (s : Int) < (r : Int) + 1 := by omega
            obtain ⟨vl, wl, hrun, hownl, hbl⟩ := app_strs wr aa (k + 2) ac (fun i => strE m (St k D i)) (HVA.out wr hbs) (fun h => (HAC.out.2.2 h).elim) (by omega)
            rcases hownl.2 with ⟨-, h1⟩ | ⟨g, cl, cur, hg0, -⟩
            · omega
            subst hg0
            have hgl := hownl.lt g rfl
            go_wp2_with (first | (at_builtin; refine Lib.wpList_append_run _ rfl _ _ 22 22 rfl _ _ rfl rfl _ _ (hrun _) ?_) | (at_make; refine wpList_make_full _ rfl _ _ 35 rfl wl.heap.size 4 i0 (.bool false) 1 Try.underlying35 hi hz0 hz1 _ _ _ _ (k + 2) rfl rfl ?c0 ?c1 ?c2 ?c3 ?c4 ?_))
            case c0 => first | rfl | omega
            case c1 => first | rfl | omega
            case c2 => rw [hz2]; omega
            case c3 => unfold maxLen; omega
            case c4 => exact Nat.le_refl _
            intro wm hownm hgrowm
            have hbelm : Below wl.heap.size wl wm := (Below.refl _ _).grown hgrowm (Nat.le_refl _) (fun k h => by cases h)
            rw [toList_madeCells_one, ← filled_zero (k + 2) (fun x => .bool (notTwo r s x))] at hownm
            clear hgrowm
            go_wp2_with fail
            go_loopw [68] (fun i wx => ∃ x : Nat, x ≤ k + 2 ∧ i = .int .i64 x ∧ Below wl.heap.size wl wx ∧ wx.ownsRow wl.heap.size 4 1 (.slice (some ⟨wl.heap.size, 0, none⟩) (k + 2) (k + 2)) (k + 2) (filled (k + 2) x (fun x => .bool (notTwo r s x)) (.bool false))) (fun i _ => (k + 2 : Nat) - (intOf i).toNat)
            case atStart => exact ⟨0, Nat.zero_le _, rfl, hbelm, hownm⟩
            case round =>
              obtain ⟨x, hx, rfl, hbx, hownx⟩ := hrel
              clear hbelm hownm
              by_cases hxl : x < k + 2
              · obtain ⟨v0, hcell⟩ : ∃ v0, wr.cell? ⟨wl.heap.size, x, none⟩ = some v0 := by
                  rw [hownx.cellAt x (by omega)]; exact ⟨_, List.getElem?_eq_getElem (by simp [filled]; exact hxl)⟩
                have hfr := hownx.frozenAt x
                have hst := (hownx.stored x (.bool (notTwo r s x))).1
                rw [filled_set (k + 2) x (fun x => .bool (notTwo r s x)) _ hxl] at hst
                have xk : (x : Int) < (k : Int) + 2 := by omega
                have hbx' := fun v => hbx.setCell (p := ⟨wl.heap.size, x, none⟩) (Nat.le_refl _) v
                obtain ⟨b1, hB1⟩ : ∃ b, ((x : Int) != (r : Int)) = b := ⟨_, rfl⟩
                obtain ⟨b2, hB2⟩ : ∃ b, ((x : Int) != (s : Int)) = b := ⟨_, rfl⟩
                have hnt : notTwo r s x = (b1 && b2) := by unfold notTwo; rw [hB1, hB2]
                rw [hnt] at hst
                clear hownx hbs hnt
                cases b1 <;> cases b2
                all_goals
                  have HST := hst
                  clear hst
                  go_wp2_with fail
                  go_roundw
                  case rel => exact ⟨x + 1, by omega, by go_num, hbx' _, HST⟩
                  case measure => simp [intOf]; omega
              · have hxk : x = k + 2 := by omega
                subst hxk
                rw [filled_full] at hownx
                have hll := owns_below hownl hbx
                have c1 : wr.cell? ⟨g, r, none⟩ = some (.string (strE m (St k D r))) := by rw [hll.cellAt r (by omega), strsL_at _ _ r (by omega)]
                have f1 := hll.frozenAt r
                have h2 := (hll.stored r (.string noise)).1
                rw [strsL_set _ _ r noise (by omega)] at h2
                obtain ⟨sx, hsx⟩ : ∃ sx, (if s = r then noise else strE m (St k D s)) = sx := ⟨_, rfl⟩
                have c2 : (wr.setCell ⟨g, r, none⟩ (.string noise)).cell? ⟨g, s, none⟩ = some (.string sx) := by rw [h2.cellAt s (by omega), strsL_at _ _ s (by omega), hsx]
                have f2 := h2.frozenAt s
                have h3 := (h2.stored s (.string noise)).1
                rw [strsL_set _ _ s noise (by omega)] at h3
                have hbo3 : ((wr.setCell ⟨g, r, none⟩ (.string noise)).setCell ⟨g, s, none⟩ (.string noise)).ownsRow wl.heap.size 4 1 (.slice (some ⟨wl.heap.size, 0, none⟩) (k + 2) (k + 2)) (k + 2) _ := ownsRow_setCell_below (ownsRow_setCell_below hownx hgl.2 _) hgl.2 _
                have hb43 : Below w4.heap.size w4 ((wr.setCell ⟨g, r, none⟩ (.string noise)).setCell ⟨g, s, none⟩ (.string noise)) := by
                  have h0 : Below w4.heap.size w4 wr := (hbs.trans (hbl.mono hbs.size)).trans (hbx.mono (Nat.le_trans hbs.size hbl.size))
                  have hg4 : w4.heap.size ≤ g := Nat.le_trans hbs.size hgl.1
                  exact (h0.setCell (p := ⟨g, r, none⟩) hg4 _).setCell (p := ⟨g, s, none⟩) hg4 _
                have rk : (r : Int) < (k : Int) + 2 := by omega
                have sk : (s : Int) < (k : Int) + 2 := by omega
                obtain ⟨F, hF⟩ : ∃ F : Nat → ByteArray, F = fun j => if j = s then noise else if j = r then noise else strE m (St k D j) := ⟨_, rfl⟩
                rw [← hF] at h3
                have hFs : ∀ i, i < k + 2 → (F i).size ≤ 9223372036854775807 := fun i hi => by
                  rw [hF]; simp only []
                  split
                  · exact hz'
                  · split
                    · exact hz'
                    · rw [strE_size]; have := HM.out; omega
                obtain ⟨x3, y3, e3, -, -, hT3⟩ := txt_of_any h3 hFs
                cases e3
                have hv3 : Vals ((wr.setCell ⟨g, r, none⟩ (.string noise)).setCell ⟨g, s, none⟩ (.string noise)) (some ⟨wl.heap.size, 0, none⟩) (k + 2) fun i => .bool (notTwo r s i) := by
                  obtain ⟨x4, y4, e4, -, hv⟩ := owns_form hbo3 (fun i => .bool (notTwo r s i)) (fun i hi => by simp [hi])
                  cases e4; exact hv
                have hdec := fun (cl' cb' : Nat) => decode_back (some ⟨g, 0, none⟩) (some ⟨wl.heap.size, 0, none⟩) k m cl' cb' _ _ D (notTwo r s) _ HK.out.1 HK.out.2 HM.out hT3 hv3 (by
                    have := cnt_but_two (notTwo r s) r s (k + 2) (fun x hx h => by
                      unfold notTwo at h
                      simp at h
                      by_cases e : x = r
                      · exact .inl e
                      · exact .inr (by have := h (by omega); omega))
                    omega) (fun i hi hti => by
                    have hne : i ≠ s ∧ i ≠ r := by
                      unfold notTwo at hti
                      simp at hti
                      exact ⟨by have := hti.2; omega, by have := hti.1; omega⟩
                    have hFi : F i = strE m (St k D i) := by rw [hF]; simp only [if_neg hne.1, if_neg hne.2]
                    refine ⟨by show (F i).size = m; rw [hFi, strE_size], fun c hc => by show teE (F i) c = _; rw [hFi, teE_strE m _ c hc]⟩)
                have hs3 := h3
                clear hF hFs hT3 hv3 hownx hll h2 h3 hbo3 hownl hsx hs3
                go_wp2_with fail
                go_at_call 15
                refine (hdec _ _).mono ?_
                rintro e wd ⟨hbd, vd, rfl, hownd⟩
                have hb4d := hb43.trans (hbd.mono hb43.size)
                obtain ⟨ad, cd, rfl, -, hvd⟩ := owns_form hownd _ (fun i hi => strsL_at _ _ i hi)
                have heq := equal_yes ad aa (k + 2) cd ac (fun i => strE m (St k D i)) wd (by omega) hvd (HVA.out wd hb4d)
                clear hdec hownd hvd c1 c2 f1 f2 hbx hb43 hbd
                go_wp2_with fail
                go_at_call 17
                refine heq.mono ?_
                rintro e we ⟨rfl, hbe⟩
                go_wp2_with fail
                go_roundw
                case rel => exact ⟨s + 1, by omega, by go_num, hb4d.trans (hbe.mono hb4d.size)⟩
                case measure => simp [intOf]; omega
          · have hsr : s = r + 1 := by omega
            subst hsr
            go_wp2_with fail
            go_roundw
            case rel => exact ⟨r + 1, by omega, by go_num, hbs⟩
            case measure => simp [intOf]; omega
      · have hrk : r = k + 2 := by omega
        subst hrk
        go_wp2_with fail
        go_ret
        exact ⟨rfl, hb04.trans (hbr.mono hb04.size)⟩
  · by_cases h0 : k = 0
    · subst h0
      clear hC hT hk
      go_wp2_with fail
      go_at_call 12
      refine (hwk _).mono ?_
      rintro e w5 ⟨rfl, hb5⟩
      go_wp2_with fail
      go_ret
      exact ⟨rfl, hb1.trans (hb5.mono hb1.size)⟩
    · have t0 : ((k : Int) == 0) = false := by simp; omega
      have t1 : (8 : Int) < (k : Int) := by omega
      clear hC hT hk h0
      go_wp2_with fail
      go_at_call 12
      refine (hwk _).mono ?_
      rintro e w5 ⟨rfl, hb5⟩
      go_wp2_with fail
      go_ret
      exact ⟨rfl, hb1.trans (hb5.mono hb1.size)⟩
end Go.Proofs.Ytdpcbiccbhlonaa
