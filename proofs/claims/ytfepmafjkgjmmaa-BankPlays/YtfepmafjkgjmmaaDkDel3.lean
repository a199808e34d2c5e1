/- slices.DeleteFunc, walked. -/
import Derived.Test.YtfepmafjkgjmmaaDkDel2
namespace Go.Proofs.Ytfepmafjkgjmmaa
open Go.RowKit Go.PlainAid
set_option linter.unusedVariables false

theorem others_lt (a : Nat) (q : List Wr) (p : Wr) (h : p ∈ q) (hp : p.1 = a) : (others a q).length < q.length := by
  unfold others
  rw [List.length_filter_lt_length_iff_exists]
  exact ⟨p, h, by simp [hp]⟩
set_option maxRecDepth 20000 in
set_option maxHeartbeats 1000000 in
theorem deleteFunc_any (a : Nat) (ga : Nat) (q : List Wr) (v : Value) (w : World) (h : Blk w ga 3 [.int .i64 (a : Int)]) (hw : Waits w 84 v q) (hq : q.length ≤ 1000000) :
    Calls Try.prog 46 #[v, .func (.func 47) #[] #[.pointer (some ⟨ga, 0, none⟩)]] w fun e w' => ∃ b c, e = .returned (.slice b (others a q).length c) ∧ Waits w' 84 (.slice b (others a q).length c) (others a q) ∧ Kept (fun k => v.ownBlock = some k) w w' ∧ (Value.slice b (others a q).length c).ownBlock = v.ownBlock := by
  have hidx := dkIndex_any a ga q v w h hw hq
  have HW : Hid (Waits w 84 v q) := hw
  have HG : Hid (Blk w ga 3 [.int .i64 (a : Int)]) := h
  obtain ⟨av, cap, hv⟩ := hw.form
  subst hv
  clear hw h
  go_enter Try.func46, Try.ntmps46
  go_wp2_with (go_at_call 52; refine hidx.mono ?_; rintro e w1 ⟨r, rfl, hb1, hr⟩; clear hidx; rcases hr with ⟨rfl, hall⟩ | ⟨j0, rfl, hj0, hp0, hno⟩)
  · go_wp2_with fail
    go_ret
    refine ⟨av, cap, ?_, ?_, Kept.ofBelow hb1, by cases av <;> rfl⟩
    · rw [others_all a q hall]; rfl
    · rw [others_all a q hall]; exact HW.out.kept (Kept.ofBelow (F := fun _ => False) hb1) (fun _ _ h => h)
  · have hlt0 : (others a q).length < q.length := by
      obtain ⟨p, hp, hpa⟩ := hp0
      exact others_lt a q p (List.mem_of_getElem? hp) hpa
    obtain ⟨gw, cap2, hvv, -, -⟩ := (HW.out.at (List.getElem?_eq_getElem hj0))
    cases hvv
    have W1 : Waits w1 84 (.slice (some ⟨gw, 0, none⟩) q.length cap) q := HW.out.kept (Kept.ofBelow (F := fun _ => False) hb1) (fun _ _ h => h)
    have G1 := HG.out.below hb1 HG.out.lt
    have hst := MidRow.start W1 hp0 hno
    have hcap : q.length ≤ cap ∧ cap ≤ maxLen := by
      rcases HW.out.2 with ⟨h0, _⟩ | ⟨g', cap', cur, hv, _, hg, hnc, hcm, _⟩
      · cases h0
      · cases hv; exact ⟨hnc, hcm⟩
    have hne : ga ≠ gw := fun e => HG.out.owns_ne HW.out (by decide) (by rw [e]; rfl)
    have hj0' : (j0 : Int) ≠ -1 := by omega
    have hj0b : (((j0 : Int)) == -1) = false := by rw [beq_eq_false_iff_ne]; omega
    have hlen0 : (others a (q.take (j0 + 1))).length = j0 := by rw [hst.1, List.length_take]; omega
    have HS : Hid (Kept (fun k => k = gw) w1 w1 ∧ MidRow w1 gw cap q a (j0 + 1)) := ⟨Kept.refl _ _, hst.2⟩
    have HK1 : Hid (Kept (fun k => (Value.slice (some ⟨gw, 0, none⟩) q.length cap).ownBlock = some k) w w1) := Kept.ofBelow hb1
    have HG1 : Hid (Blk w1 ga 3 [.int .i64 (a : Int)]) := G1
    have HL0 : Hid ((others a q).length < q.length) := hlt0
    have HC : Hid (q.length ≤ cap ∧ cap ≤ maxLen) := hcap
    have HL : Hid ((others a (q.take (j0 + 1))).length = j0) := hlen0
    clear hlt0 hcap hlen0 W1 G1 hst hp0 hno hb1
    go_wp2_with fail
    go_loopw [5, 6] (fun ci jv wr => ∃ j : Nat, j0 + 1 ≤ j ∧ j ≤ q.length ∧ ci = .int .i64 ((others a (q.take j)).length : Int) ∧ jv = .int .i64 (j : Int) ∧ Hid (Kept (fun k => k = gw) w1 wr ∧ MidRow wr gw cap q a j)) (fun _ i _ => q.length - (intOf i).toNat)
    case atStart => exact ⟨j0 + 1, Nat.le_refl _, by omega, by rw [HL.out], by go_num, HS⟩
    case round =>
      obtain ⟨j, hj1, hj, rfl, rfl, hrr⟩ := hrel
      obtain ⟨c, hc⟩ : ∃ c, (others a (q.take j)).length = c := ⟨_, rfl⟩
      have hcj : c ≤ j := by rw [← hc]; exact others_le a j q
      by_cases hlt : j < q.length
      · obtain ⟨p, hp⟩ : ∃ p, q[j]? = some p := ⟨_, List.getElem?_eq_getElem hlt⟩
        obtain ⟨ca, cb⟩ := hrr.out.2.at hp
        have hcl := closure_any a p ga (wr.alloc (.cells #[.int .i64 (p.1 : Int), .string p.2] 84)) ((HG1.out.kept hrr.out.1 hne).alloc _)
        have hlen : j * 2 + 1 < q.length * 2 := by omega
        have hj' : (j : Int) < (q.length : Int) := by omega
        have M2 := (hrr.out.2.alloc (.cells #[.int .i64 (p.1 : Int), .string p.2] 84)).alloc (.cells #[.int .i64 (p.1 : Int), .string p.2] 84)
        have K2 := (hrr.out.1.alloc (.cells #[.int .i64 (p.1 : Int), .string p.2] 84)).alloc (.cells #[.int .i64 (p.1 : Int), .string p.2] 84)
        have hcap := HC.out
        by_cases hpa : p.1 = a
        · rw [decide_eq_true hpa] at hcl
          have HF : Hid (Kept (fun k => k = gw) w1 ((wr.alloc (.cells #[.int .i64 (p.1 : Int), .string p.2] 84)).alloc (.cells #[.int .i64 (p.1 : Int), .string p.2] 84)) ∧ MidRow ((wr.alloc (.cells #[.int .i64 (p.1 : Int), .string p.2] 84)).alloc (.cells #[.int .i64 (p.1 : Int), .string p.2] 84)) gw cap q a (j + 1)) := ⟨K2, M2.skip hp hpa⟩
          have HE : Hid ((others a (q.take (j + 1))).length = c) := by rw [others_skip a j q p hp hpa]; exact hc
          rw [hc]
          obtain ⟨pa, ps⟩ := p
          clear hrr hp M2 K2 hpa hc hcap
          go_wp2_with (go_at_call 47; refine hcl.mono ?_; rintro e w' ⟨rfl, hw'⟩; rw [hw']; clear hw' w')
          refine ⟨?_, ?measure⟩
          · (repeat apply Exists.intro)
            refine ⟨?rel, rfl⟩
            case rel => exact ⟨j + 1, by omega, by omega, by rw [HE.out], by go_num, HF⟩
          case measure => simp [intOf]; omega
        · rw [decide_eq_false hpa] at hcl
          have M3 := M2.put hp hpa hcap.1
          have HE : Hid ((others a (q.take (j + 1))).length = c + 1) := by
            have e : (others a (q.take (j + 1))).length = c + 1 := by rw [others_put a j q p hp hpa, List.length_append, hc]; rfl
            exact e
          rw [hc] at M3 ⊢
          obtain ⟨⟨ua, e0⟩, f0⟩ := M2.cells (c * 2) (by omega)
          obtain ⟨⟨ub, e1⟩, f1⟩ := M2.cells (c * 2 + 1) (by omega)
          have HF : Hid (Kept (fun k => k = gw) w1 ((((wr.alloc (.cells #[.int .i64 (p.1 : Int), .string p.2] 84)).alloc (.cells #[.int .i64 (p.1 : Int), .string p.2] 84)).setCell ⟨gw, c * 2, none⟩ (.int .i64 (p.1 : Int))).setCell ⟨gw, c * 2 + 1, none⟩ (.string p.2)) ∧ MidRow ((((wr.alloc (.cells #[.int .i64 (p.1 : Int), .string p.2] 84)).alloc (.cells #[.int .i64 (p.1 : Int), .string p.2] 84)).setCell ⟨gw, c * 2, none⟩ (.int .i64 (p.1 : Int))).setCell ⟨gw, c * 2 + 1, none⟩ (.string p.2)) gw cap q a (j + 1)) :=
            ⟨(K2.setCell (.inl rfl) _ _).setCell (.inl rfl) _ _, M3⟩
          have hcq : (c : Int) < (q.length : Int) := by omega
          obtain ⟨pa, ps⟩ := p
          clear hrr hp M2 K2 M3 hpa hc hcap
          go_wp2_with (go_at_call 47; refine hcl.mono ?_; rintro e w' ⟨rfl, hw'⟩; rw [hw']; clear hw' w')
          refine ⟨?_, ?measure⟩
          · (repeat apply Exists.intro)
            refine ⟨?rel, rfl⟩
            case rel => exact ⟨j + 1, by omega, by omega, by rw [HE.out]; go_num, by go_num, HF⟩
          case measure => simp [intOf]; omega
      · obtain rfl : j = q.length := by omega
        rw [List.take_length] at hc ⊢
        obtain ⟨Z, hrun, hW⟩ := hrr.out.2.clear HC.out.1 HC.out.2 HL0.out
        have hltc : c < q.length := by rw [← hc]; exact HL0.out
        have hcap := HC.out
        rw [hc] at hrun hW ⊢
        have HF : Hid (Waits (wr.setRow gw Z) 84 (.slice (some ⟨gw, 0, none⟩) c cap) (others a q) ∧ Kept (fun k => (Value.slice (some ⟨gw, 0, none⟩) q.length cap).ownBlock = some k) w (wr.setRow gw Z)) :=
          ⟨hW, HK1.out.trans (hrr.out.1.setRow (.inl rfl) Z) (fun i e => .inl (by rw [e]; rfl))⟩
        have HCC : Hid ((others a q).length = c) := hc
        have hcc1 : (cap = c) = False := eq_false (by omega)
        have hcc2 : (c : Int) ≤ (q.length : Int) := by omega
        have hcc3 : (c : Int) ≤ (cap : Int) := by omega
        clear hc hrr hW
        go_wp2_with fail
        go_ret
        rw [HCC.out]
        exact ⟨some ⟨gw, 0, none⟩, cap, rfl, HF.out.1, HF.out.2, rfl⟩
end Go.Proofs.Ytfepmafjkgjmmaa
