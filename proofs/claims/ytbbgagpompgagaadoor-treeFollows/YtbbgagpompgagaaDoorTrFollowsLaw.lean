/- What the Go function TreeFollows answers: true, for every texts, numbers and other pairs. -/
import Derived.Test.YtbbgagpompgagaaDoorTrOpensLaw
import Derived.Test.YtbbgagpompgagaaDoorTrBuildsLaw
namespace Go.Proofs.YtbbgagpompgagaaDoor
open Go.RowKit Go.PlainAid Go.Shelf
set_option linter.unusedVariables false

set_option maxRecDepth 20000 in
set_option maxHeartbeats 4000000 in
theorem treeFollows_walk (a : Option Addr) (len cap : Nat) (x y : Int) (b : Option Addr) (lenb capb : Nat) (w : World) (hA : TsArg w a len cap) (hB : TsArg w b lenb capb) (hT : Tabs w) (hR : RTabs w) : Calls Tryd.prog 5 #[.slice a len cap, .agg #[.int .i64 x, .int .i64 y], .slice b lenb capb] w fun e w' => e = .returned (.bool true) ∧ Below w.heap.size w w' := by
  obtain ⟨T, h1, h2, h3, h4, h5⟩ := hA
  obtain ⟨Q, g1, g2, g3, g4, g5⟩ := hB
  have bx := Blk.new w 22 #[.int .i64 x, .int .i64 y]
  have hBx : Below w.heap.size w (w.alloc (.cells #[.int .i64 x, .int .i64 y] 22)) := (Below.refl _ w).alloc (Nat.le_refl _) _
  have c0 := bx.cell (i := 0) rfl
  have hdg := ldigests_any x a len cap (by omega) T _ (h4.later hBx) (hT.below hBx hT.lt)
  obtain ⟨d1, d2⟩ := depL_ok x
  generalize depL x = d at hdg d1 d2
  obtain ⟨N, hN⟩ : ∃ N, 2 ^ d = N := ⟨_, rfl⟩
  have h16 := pow_le16 d d2
  rw [hN] at hdg h16
  have hN2 : 1 ≤ N := by rw [← hN]; exact pow_pos' d
  have HN : Hid (2 ^ d = N) := hN
  have HDG : Hid _ := hdg
  obtain ⟨z, hz⟩ : ∃ z, (if 0 < y then y else 0) = z := ⟨_, rfl⟩
  have hz0 : 0 ≤ z := by rw [← hz]; split <;> omega
  have hmx : max 0 y = z := by rw [← hz]; split <;> omega
  have hNi : (0 : Int) < (N : Int) := by omega
  obtain ⟨s, hs⟩ := Int.eq_ofNat_of_zero_le (show 0 ≤ z % (N : Int) from Int.emod_nonneg _ (by omega))
  have hsN : s < N := by
    have := Int.emod_lt_of_pos z hNi
    omega
  have HB4 : Hid (Sa w b lenb Q) := g4
  obtain ⟨m, hm, hm1, hm2⟩ : ∃ m : Nat, (if (8 : Int) < (lenb : Int) then (8 : Int) else (lenb : Int)) = (m : Int) ∧ m ≤ lenb ∧ m ≤ 8 := ⟨min lenb 8, by split <;> omega, by omega, by omega⟩
  have hm' : min (lenb : Int) 8 = (m : Int) := by rw [← hm]; split <;> omega
  have hmc : (m : Int) ≤ (capb : Int) := by omega
  have HSb0 : Hid (Sa w b m Q) := g4.cut hm1
  clear hdg h5 h4 h3 h2 h1 hN g5 g4
  cases b with
  | none =>
    have hc0 := g3 rfl
    have hl0 : lenb = 0 := by omega
    have hm0 : m = 0 := by omega
    subst hc0
    subst hl0
    subst hm0
    have HSb : Hid (Sa w none 0 Q) := HSb0
    have hmn : (min (0 : Int) 8).toNat = 0 := by decide
    clear g3 hm hm' hmc hm1 hm2 HSb0 HB4 g1 g2
    go_enter Tryd.func5, Tryd.ntmps5
    go_wp2_with fail
    refine Calls.mono HDG.out ?_
    rintro e w1 ⟨v1, D, rfl, hv1, hD, hb1⟩
    clear HDG c0
    have bx1 := bx.below hb1 bx.lt
    have hB1 := hBx.trans (hb1.mono hBx.size)
    clear bx hBx hb1
    obtain ⟨a1, k1, rfl, hs1⟩ := Sa.owns hv1
    have hT1 := hT.below hB1 hT.lt
    have hR1 := hR.below hB1 hR.lt
    have hbu := rBuild_any a1 N k1 (by omega) D w1 hs1 hR1
    obtain ⟨z1, z2, z3, z4⟩ := built d N D HN.out d1 d2 hD
    obtain ⟨ho, -⟩ := z4 s hsN
    rw [z1, z2, z3] at hbu
    have HBU : Hid _ := hbu
    have HO : Hid (okS d (s : Int)) := ho
    clear hbu hs1 hv1 z1 z2 z3 z4 hD ho
    generalize dg D N 1 = t at HBU
    generalize bP N D = P at HBU
    go_wp2_with fail
    refine Calls.mono HBU.out ?_
    rintro e w2 ⟨v2, rfl, hv2, hb2⟩
    clear HBU
    obtain ⟨a2, k2, rfl, hs2⟩ := Sa.owns hv2
    have hT2 := hT1.below hb2 hT1.lt
    have hR2 := hR1.below hb2 hR1.lt
    have hB2 := hB1.trans (hb2.mono hB1.size)
    have bx2 := bx1.below hb2 bx1.lt
    have HP2 : Hid (Sa w2 a2 N P) := hs2
    clear hs2 hv2 hb2 bx1 hB1 hT1 hR1
    go_wp2_with fail
    refine (lwakes_any w2 hT2).mono ?_
    rintro e w3 ⟨rfl, hb3⟩
    have hT3 := hT2.below hb3 hT2.lt
    have hR3 := hR2.below hb3 hR2.lt
    have hB3 := hB2.trans (hb3.mono hB2.size)
    have bx3 := bx2.below hb3 bx2.lt
    have HP3 : Hid (Sa w3 a2 N P) := HP2.out.later hb3
    have c1 := bx3.cell (i := 1) rfl
    clear HP2 hb3 bx2 hB2 hT2 hR2
    have hov := lover_any a2 d N k2 s HN.out HO.out P w3 HP3.out
    have HOV : Hid _ := hov
    clear hov
    go_wp2_with fail
    rw [hs]
    refine Calls.mono HOV.out ?_
    rintro e w4 ⟨v4, rfl, hv4, hb4⟩
    clear HOV
    rcases hv4.2 with ⟨_, h0⟩ | ⟨g4, k4, cu4, rfl, hg40, hgg4, _⟩
    · omega
    clear hgg4
    have hRow : Hid (∃ f, w4.ownsRow w3.heap.size 9 1 (.slice (some ⟨g4, 0, none⟩) d k4) d (strs d f)) := ⟨_, hv4⟩
    have hB4 : Below w3.heap.size w3 w4 := hb4
    clear hv4 hb4
    go_wp2_with fail
    go_loopw [56] (fun i wr => ∃ k : Nat, k ≤ 0 ∧ i = .int .i64 (k : Int) ∧ Hid (∃ f, wr.ownsRow w3.heap.size 9 1 (.slice (some ⟨g4, 0, none⟩) d k4) d (strs d f)) ∧ Below w3.heap.size w3 wr) (fun i _ => 0 - (intOf i).toNat)
    case atStart => exact ⟨0, Nat.zero_le _, rfl, hRow, hB4⟩
    case round =>
      clear hRow hB4
      obtain ⟨k, hk, rfl, hRow, hB4⟩ := hrel
      by_cases hlt : k < 0
      · exact absurd hlt (by omega)
      · have hkm : k = 0 := by omega
        rw [hkm]
        clear hkm hlt hk
        obtain ⟨f, hr⟩ := hRow.out
        have hov := lover_any a2 d N k2 s HN.out HO.out P wr (HP3.out.later hB4)
        have HOV : Hid _ := hov
        have HR4 : Hid (wr.ownsRow w3.heap.size 9 1 (.slice (some ⟨g4, 0, none⟩) d k4) d (strs d f)) := hr
        clear hov hRow hr
        go_wp2_with fail
        refine Calls.mono HOV.out ?_
        rintro e w6 ⟨v6, rfl, hv6, hb6⟩
        clear HOV
        obtain ⟨a6, k6, rfl, hs6⟩ := Sa.owns hv6
        obtain ⟨aw, kw, hwe, hsw⟩ := Sa.owns HR4.out
        have hsw6 := hsw.later hb6
        obtain ⟨rfl, rfl⟩ : aw = some ⟨g4, 0, none⟩ ∧ kw = k4 := by cases hwe; exact ⟨rfl, rfl⟩
        have hB6 := hB4.trans (hb6.mono hB4.size)
        have bG := Blk.new w6 32 #[.slice (some ⟨g4, 0, none⟩) d kw, .slice none 0 0, .slice a6 d k6]
        have hB7 := hB6.alloc hB6.size (.cells #[.slice (some ⟨g4, 0, none⟩) d kw, .slice none 0 0, .slice a6 d k6] 32)
        have hlB : Below w6.heap.size w6 (w6.alloc (.cells #[.slice (some ⟨g4, 0, none⟩) d kw, .slice none 0 0, .slice a6 d k6] 32)) := (Below.refl _ _).alloc (Nat.le_refl _) _
        have hBw7 : Below w.heap.size w (w6.alloc (.cells #[.slice (some ⟨g4, 0, none⟩) d kw, .slice none 0 0, .slice a6 d k6] 32)) := hB3.trans (hB7.mono hB3.size)
        have HK : Hid (∀ j, j < 3 → ∃ ap np cp pp, (w6.alloc (.cells #[.slice (some ⟨g4, 0, none⟩) d kw, .slice none 0 0, .slice a6 d k6] 32)).cell? ⟨w6.heap.size, j, none⟩ = some (.slice ap np cp) ∧ np ≤ 8 ∧ Sa (w6.alloc (.cells #[.slice (some ⟨g4, 0, none⟩) d kw, .slice none 0 0, .slice a6 d k6] 32)) ap np pp) := fun j hj => by
          have : j = 0 ∨ j = 1 ∨ j = 2 := by omega
          rcases this with rfl | rfl | rfl
          · exact ⟨_, _, _, f, bG.cell rfl, by omega, hsw6.later hlB⟩
          · exact ⟨_, _, _, Q, bG.cell rfl, by omega, HSb.out.later hBw7⟩
          · exact ⟨_, _, _, _, bG.cell rfl, by omega, hs6.later hlB⟩
        have hlt6 : w6.heap.size < (w6.alloc (.cells #[.slice (some ⟨g4, 0, none⟩) d kw, .slice none 0 0, .slice a6 d k6] 32)).heap.size := by simp
        clear hs6 hv6 HR4 hsw hsw6 hb6 hB4 hB6 bG hlB hwe
        go_wp2_with fail
        generalize w6.alloc (.cells #[.slice (some ⟨g4, 0, none⟩) d kw, .slice none 0 0, .slice a6 d k6] 32) = w7 at hB7 hBw7 HK hlt6 ⊢
        generalize w6.heap.size = G at HK hlt6 ⊢
        have bx7 := bx3.below hB7 bx3.lt
        go_loopw [86] (fun i wr => ∃ j : Nat, j ≤ 3 ∧ i = .int .i64 (j : Int) ∧ Below w7.heap.size w7 wr) (fun i _ => 3 - (intOf i).toNat)
        case atStart => exact ⟨0, Nat.zero_le _, rfl, Below.refl _ _⟩
        case round =>
          obtain ⟨j, hj, rfl, hBj⟩ := hrel
          by_cases hj3 : j < 3
          · obtain ⟨ap, np, cp, pp, hcj, hnp, hsp⟩ := HK.out j hj3
            have cj : wr.cell? ⟨G, j, none⟩ = some (.slice ap np cp) := (hBj.cell (p := ⟨G, j, none⟩) hlt6).trans hcj
            have hji : (j : Int) < 3 := by omega
            have hS8 := hsp.later hBj
            have hBw8 := hBw7.trans (hBj.mono hBw7.size)
            have hT8 := hT.below hBw8 hT.lt
            have hR8 := hR.below hBw8 hR.lt
            have bx8 := bx7.below hBj bx7.lt
            have f1 := follow_any t (s : Int) ap np cp (by omega) pp wr hS8 hT8
            have F1 : Hid _ := f1
            have HS8 : Hid (Sa wr ap np pp) := hS8
            clear f1 hcj hsp hS8
            go_wp2_with fail
            refine Calls.mono F1.out ?_
            rintro e w9 ⟨rfl, hb9⟩
            have hB9 := hBj.trans (hb9.mono hBj.size)
            have hBw9 := hBw8.trans (hb9.mono hBw8.size)
            have HS9 : Hid (Sa w9 ap np pp) := HS8.out.later hb9
            have f2 := rFollow_any t (s : Int) ap np cp (by omega) pp w9 HS9.out (hR.below hBw9 hR.lt)
            generalize folS np (s : Int) pp t = S1 at f2 ⊢
            generalize folE np (s : Int) pp t = E1 at f2 ⊢
            have F2 : Hid _ := f2
            have bx9 := bx8.below hb9 bx8.lt
            clear f2 F1 HS8 hb9 bx8 hBw8 hT8 hR8 hBj cj
            go_wp2_with fail
            refine Calls.mono F2.out ?_
            rintro e w10 ⟨rfl, hb10⟩
            have hB10 := hB9.trans (hb10.mono hB9.size)
            have hBw10 := hBw9.trans (hb10.mono hBw9.size)
            have HS10 : Hid (Sa w10 ap np pp) := HS9.out.later hb10
            have bx10 := bx9.below hb10 bx9.lt
            have c10 := bx10.cell (i := 1) rfl
            have f3 := follow_any t y ap np cp (by omega) pp w10 HS10.out (hT.below hBw10 hT.lt)
            have F3 : Hid _ := f3
            clear f3 F2 HS9 hb10 bx9 hBw9 hB9
            go_wp2_with fail
            refine Calls.mono F3.out ?_
            rintro e w11 ⟨rfl, hb11⟩
            have hB11 := hB10.trans (hb11.mono hB10.size)
            have hBw11 := hBw10.trans (hb11.mono hBw10.size)
            have HS11 : Hid (Sa w11 ap np pp) := HS10.out.later hb11
            have bx11 := bx10.below hb11 bx10.lt
            have c11 := bx11.cell (i := 1) rfl
            have f4 := rFollow_any t y ap np cp (by omega) pp w11 HS11.out (hR.below hBw11 hR.lt)
            generalize folS np y pp t = S2 at f4 ⊢
            generalize folE np y pp t = E2 at f4 ⊢
            have F4 : Hid _ := f4
            clear f4 F3 HS10 hb11 bx10 c10 hBw10 hB10
            go_wp2_with fail
            refine Calls.mono F4.out ?_
            rintro e w12 ⟨rfl, hb12⟩
            have hB12 := hB11.trans (hb12.mono hB11.size)
            clear F4 HS11 c11 bx11
            go_wp2_with fail
            go_roundw
            case rel => exact ⟨j + 1, hj3, by go_num, hB12⟩
            case measure => simp [intOf]; omega
          · have hj33 : j = 3 := by omega
            subst hj33
            go_wp2_with fail
            go_ret
            exact ⟨rfl, hBw7.trans (hBj.mono hBw7.size)⟩
  | some q =>
    have HSb : Hid (Sa w (some q) m Q) := HSb0
    clear g3 HSb0 HB4
    go_enter Tryd.func5, Tryd.ntmps5
    go_wp2_with fail
    refine Calls.mono HDG.out ?_
    rintro e w1 ⟨v1, D, rfl, hv1, hD, hb1⟩
    clear HDG c0
    have bx1 := bx.below hb1 bx.lt
    have hB1 := hBx.trans (hb1.mono hBx.size)
    clear bx hBx hb1
    obtain ⟨a1, k1, rfl, hs1⟩ := Sa.owns hv1
    have hT1 := hT.below hB1 hT.lt
    have hR1 := hR.below hB1 hR.lt
    have hbu := rBuild_any a1 N k1 (by omega) D w1 hs1 hR1
    obtain ⟨z1, z2, z3, z4⟩ := built d N D HN.out d1 d2 hD
    obtain ⟨ho, -⟩ := z4 s hsN
    rw [z1, z2, z3] at hbu
    have HBU : Hid _ := hbu
    have HO : Hid (okS d (s : Int)) := ho
    clear hbu hs1 hv1 z1 z2 z3 z4 hD ho
    generalize dg D N 1 = t at HBU
    generalize bP N D = P at HBU
    go_wp2_with fail
    refine Calls.mono HBU.out ?_
    rintro e w2 ⟨v2, rfl, hv2, hb2⟩
    clear HBU
    obtain ⟨a2, k2, rfl, hs2⟩ := Sa.owns hv2
    have hT2 := hT1.below hb2 hT1.lt
    have hR2 := hR1.below hb2 hR1.lt
    have hB2 := hB1.trans (hb2.mono hB1.size)
    have bx2 := bx1.below hb2 bx1.lt
    have HP2 : Hid (Sa w2 a2 N P) := hs2
    clear hs2 hv2 hb2 bx1 hB1 hT1 hR1
    go_wp2_with fail
    refine (lwakes_any w2 hT2).mono ?_
    rintro e w3 ⟨rfl, hb3⟩
    have hT3 := hT2.below hb3 hT2.lt
    have hR3 := hR2.below hb3 hR2.lt
    have hB3 := hB2.trans (hb3.mono hB2.size)
    have bx3 := bx2.below hb3 bx2.lt
    have HP3 : Hid (Sa w3 a2 N P) := HP2.out.later hb3
    have c1 := bx3.cell (i := 1) rfl
    clear HP2 hb3 bx2 hB2 hT2 hR2
    have hov := lover_any a2 d N k2 s HN.out HO.out P w3 HP3.out
    have HOV : Hid _ := hov
    clear hov
    go_wp2_with fail
    rw [hs]
    refine Calls.mono HOV.out ?_
    rintro e w4 ⟨v4, rfl, hv4, hb4⟩
    clear HOV
    rcases hv4.2 with ⟨_, h0⟩ | ⟨g4, k4, cu4, rfl, hg40, hgg4, _⟩
    · omega
    clear hgg4
    have hRow : Hid (∃ f, w4.ownsRow w3.heap.size 9 1 (.slice (some ⟨g4, 0, none⟩) d k4) d (strs d f)) := ⟨_, hv4⟩
    have hB4 : Below w3.heap.size w3 w4 := hb4
    clear hv4 hb4
    go_wp2_with fail
    go_loopw [56] (fun i wr => ∃ k : Nat, k ≤ m ∧ i = .int .i64 (k : Int) ∧ Hid (∃ f, wr.ownsRow w3.heap.size 9 1 (.slice (some ⟨g4, 0, none⟩) d k4) d (strs d f)) ∧ Below w3.heap.size w3 wr) (fun i _ => m - (intOf i).toNat)
    case atStart => exact ⟨0, Nat.zero_le _, rfl, hRow, hB4⟩
    case round =>
      clear hRow hB4
      obtain ⟨k, hk, rfl, hRow, hB4⟩ := hrel
      by_cases hlt : k < m
      · obtain ⟨f, hr⟩ := hRow.out
        have hBw : Below w.heap.size w wr := hB3.trans (hB4.mono hB3.size)
        obtain ⟨bb, bo, hbe, hc⟩ := (HSb.out.later hBw).cells (by omega)
        obtain rfl : q = ⟨bb, bo, none⟩ := Option.some.inj hbe
        have ca := hc k hlt
        have hki : (k : Int) < (m : Int) := by omega
        generalize Q k = X at ca
        clear hc hBw
        by_cases hc2 : X.size = 64 ∧ k < d
        · obtain ⟨hX, hkd⟩ := hc2
          have hkd2 : (k : Int) < (d : Int) := by omega
          have cw := (hr.cellAt k (by omega)).trans (strs_at d f k hkd)
          have fw := hr.frozenAt k
          obtain ⟨hr2, hg2⟩ := hr.stored k (.string X)
          rw [strs_set] at hr2
          have hB5 : Below w3.heap.size w3 (wr.setCell ⟨g4, k, none⟩ (.string X)) := hB4.setCell (p := ⟨g4, k, none⟩) hg40 _
          have hR2 : Hid (∃ f, (wr.setCell ⟨g4, k, none⟩ (.string X)).ownsRow w3.heap.size 9 1 (.slice (some ⟨g4, 0, none⟩) d k4) d (strs d f)) := ⟨_, hr2⟩
          clear hr hr2 hg2 hRow hB4
          go_wp2_with fail
          go_roundw
          case rel => exact ⟨k + 1, hlt, by go_num, hR2, hB5⟩
          case measure => simp [intOf]; omega
        · by_cases hX : X.size = 64
          · have hkd2 : (d : Int) ≤ (k : Int) := by omega
            clear hr
            go_wp2_with fail
            go_roundw
            case rel => exact ⟨k + 1, hlt, by go_num, hRow, hB4⟩
            case measure => simp [intOf]; omega
          · have hX2 : ((X.size : Int) == 64) = false := beq_eq_false_iff_ne.2 (by omega)
            have hX3 : (X.size : Int) ≠ 64 := by omega
            clear hr
            go_wp2_with fail
            go_roundw
            case rel => exact ⟨k + 1, hlt, by go_num, hRow, hB4⟩
            case measure => simp [intOf]; omega
      · have hkm : k = m := by omega
        rw [hkm]
        clear hkm hlt hk
        obtain ⟨f, hr⟩ := hRow.out
        have hov := lover_any a2 d N k2 s HN.out HO.out P wr (HP3.out.later hB4)
        have HOV : Hid _ := hov
        have HR4 : Hid (wr.ownsRow w3.heap.size 9 1 (.slice (some ⟨g4, 0, none⟩) d k4) d (strs d f)) := hr
        clear hov hRow hr
        go_wp2_with fail
        refine Calls.mono HOV.out ?_
        rintro e w6 ⟨v6, rfl, hv6, hb6⟩
        clear HOV
        obtain ⟨a6, k6, rfl, hs6⟩ := Sa.owns hv6
        obtain ⟨aw, kw, hwe, hsw⟩ := Sa.owns HR4.out
        have hsw6 := hsw.later hb6
        obtain ⟨rfl, rfl⟩ : aw = some ⟨g4, 0, none⟩ ∧ kw = k4 := by cases hwe; exact ⟨rfl, rfl⟩
        have hB6 := hB4.trans (hb6.mono hB4.size)
        have bG := Blk.new w6 32 #[.slice (some ⟨g4, 0, none⟩) d kw, .slice (some q) m capb, .slice a6 d k6]
        have hB7 := hB6.alloc hB6.size (.cells #[.slice (some ⟨g4, 0, none⟩) d kw, .slice (some q) m capb, .slice a6 d k6] 32)
        have hlB : Below w6.heap.size w6 (w6.alloc (.cells #[.slice (some ⟨g4, 0, none⟩) d kw, .slice (some q) m capb, .slice a6 d k6] 32)) := (Below.refl _ _).alloc (Nat.le_refl _) _
        have hBw7 : Below w.heap.size w (w6.alloc (.cells #[.slice (some ⟨g4, 0, none⟩) d kw, .slice (some q) m capb, .slice a6 d k6] 32)) := hB3.trans (hB7.mono hB3.size)
        have HK : Hid (∀ j, j < 3 → ∃ ap np cp pp, (w6.alloc (.cells #[.slice (some ⟨g4, 0, none⟩) d kw, .slice (some q) m capb, .slice a6 d k6] 32)).cell? ⟨w6.heap.size, j, none⟩ = some (.slice ap np cp) ∧ np ≤ 8 ∧ Sa (w6.alloc (.cells #[.slice (some ⟨g4, 0, none⟩) d kw, .slice (some q) m capb, .slice a6 d k6] 32)) ap np pp) := fun j hj => by
          have : j = 0 ∨ j = 1 ∨ j = 2 := by omega
          rcases this with rfl | rfl | rfl
          · exact ⟨_, _, _, f, bG.cell rfl, by omega, hsw6.later hlB⟩
          · exact ⟨_, _, _, Q, bG.cell rfl, by omega, HSb.out.later hBw7⟩
          · exact ⟨_, _, _, _, bG.cell rfl, by omega, hs6.later hlB⟩
        have hlt6 : w6.heap.size < (w6.alloc (.cells #[.slice (some ⟨g4, 0, none⟩) d kw, .slice (some q) m capb, .slice a6 d k6] 32)).heap.size := by simp
        clear hs6 hv6 HR4 hsw hsw6 hb6 hB4 hB6 bG hlB hwe
        go_wp2_with fail
        generalize w6.alloc (.cells #[.slice (some ⟨g4, 0, none⟩) d kw, .slice (some q) m capb, .slice a6 d k6] 32) = w7 at hB7 hBw7 HK hlt6 ⊢
        generalize w6.heap.size = G at HK hlt6 ⊢
        have bx7 := bx3.below hB7 bx3.lt
        go_loopw [86] (fun i wr => ∃ j : Nat, j ≤ 3 ∧ i = .int .i64 (j : Int) ∧ Below w7.heap.size w7 wr) (fun i _ => 3 - (intOf i).toNat)
        case atStart => exact ⟨0, Nat.zero_le _, rfl, Below.refl _ _⟩
        case round =>
          obtain ⟨j, hj, rfl, hBj⟩ := hrel
          by_cases hj3 : j < 3
          · obtain ⟨ap, np, cp, pp, hcj, hnp, hsp⟩ := HK.out j hj3
            have cj : wr.cell? ⟨G, j, none⟩ = some (.slice ap np cp) := (hBj.cell (p := ⟨G, j, none⟩) hlt6).trans hcj
            have hji : (j : Int) < 3 := by omega
            have hS8 := hsp.later hBj
            have hBw8 := hBw7.trans (hBj.mono hBw7.size)
            have hT8 := hT.below hBw8 hT.lt
            have hR8 := hR.below hBw8 hR.lt
            have bx8 := bx7.below hBj bx7.lt
            have f1 := follow_any t (s : Int) ap np cp (by omega) pp wr hS8 hT8
            have F1 : Hid _ := f1
            have HS8 : Hid (Sa wr ap np pp) := hS8
            clear f1 hcj hsp hS8
            go_wp2_with fail
            refine Calls.mono F1.out ?_
            rintro e w9 ⟨rfl, hb9⟩
            have hB9 := hBj.trans (hb9.mono hBj.size)
            have hBw9 := hBw8.trans (hb9.mono hBw8.size)
            have HS9 : Hid (Sa w9 ap np pp) := HS8.out.later hb9
            have f2 := rFollow_any t (s : Int) ap np cp (by omega) pp w9 HS9.out (hR.below hBw9 hR.lt)
            generalize folS np (s : Int) pp t = S1 at f2 ⊢
            generalize folE np (s : Int) pp t = E1 at f2 ⊢
            have F2 : Hid _ := f2
            have bx9 := bx8.below hb9 bx8.lt
            clear f2 F1 HS8 hb9 bx8 hBw8 hT8 hR8 hBj cj
            go_wp2_with fail
            refine Calls.mono F2.out ?_
            rintro e w10 ⟨rfl, hb10⟩
            have hB10 := hB9.trans (hb10.mono hB9.size)
            have hBw10 := hBw9.trans (hb10.mono hBw9.size)
            have HS10 : Hid (Sa w10 ap np pp) := HS9.out.later hb10
            have bx10 := bx9.below hb10 bx9.lt
            have c10 := bx10.cell (i := 1) rfl
            have f3 := follow_any t y ap np cp (by omega) pp w10 HS10.out (hT.below hBw10 hT.lt)
            have F3 : Hid _ := f3
            clear f3 F2 HS9 hb10 bx9 hBw9 hB9
            go_wp2_with fail
            refine Calls.mono F3.out ?_
            rintro e w11 ⟨rfl, hb11⟩
            have hB11 := hB10.trans (hb11.mono hB10.size)
            have hBw11 := hBw10.trans (hb11.mono hBw10.size)
            have HS11 : Hid (Sa w11 ap np pp) := HS10.out.later hb11
            have bx11 := bx10.below hb11 bx10.lt
            have c11 := bx11.cell (i := 1) rfl
            have f4 := rFollow_any t y ap np cp (by omega) pp w11 HS11.out (hR.below hBw11 hR.lt)
            generalize folS np y pp t = S2 at f4 ⊢
            generalize folE np y pp t = E2 at f4 ⊢
            have F4 : Hid _ := f4
            clear f4 F3 HS10 hb11 bx10 c10 hBw10 hB10
            go_wp2_with fail
            refine Calls.mono F4.out ?_
            rintro e w12 ⟨rfl, hb12⟩
            have hB12 := hB11.trans (hb12.mono hB11.size)
            clear F4 HS11 c11 bx11
            go_wp2_with fail
            go_roundw
            case rel => exact ⟨j + 1, hj3, by go_num, hB12⟩
            case measure => simp [intOf]; omega
          · have hj33 : j = 3 := by omega
            subst hj33
            go_wp2_with fail
            go_ret
            exact ⟨rfl, hBw7.trans (hBj.mono hBw7.size)⟩
end Go.Proofs.YtbbgagpompgagaaDoor
