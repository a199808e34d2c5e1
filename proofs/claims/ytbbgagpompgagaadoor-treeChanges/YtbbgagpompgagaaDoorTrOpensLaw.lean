/- What the Go function TreeOpens answers: true, for every texts, depth and top. -/
import Derived.Test.YtbbgagpompgagaaDoorTrArg
namespace Go.Proofs.YtbbgagpompgagaaDoor
open Go.RowKit Go.PlainAid Go.Shelf
set_option linter.unusedVariables false

/-- A tree made by a law: its leaves, pairs and top. -/
theorem built (d N : Nat) (D : Nat → ByteArray) (hN : 2 ^ d = N) (h1 : 1 ≤ d) (h2 : d ≤ 4) (hD : ∀ i, i < N → (D i).size = 32) : bE N D = 0 ∧ bN N D = N ∧ bT N D = dg D N 1 ∧ ∀ s, s < N → okS d (s : Int) ∧ ∀ k, k < d → bP N D (nd d s k) = pr D (2 ^ d) (nd d s k) := by
  have hz : bE N D = 0 := bE_zero (by rw [← hN]; exact pow_isTree h1 h2) hD
  obtain ⟨h3, h4⟩ := bN_yes hz
  refine ⟨hz, h3, h4, fun s hs => ⟨⟨h1, h2, by omega, by rw [hN]; omega⟩, fun k hk => ?_⟩⟩
  have := (nd_inner d s k hk (by rw [hN]; exact hs)).1
  unfold bP
  rw [if_neg (by omega), hN]

set_option maxRecDepth 20000 in
set_option maxHeartbeats 4000000 in
theorem treeOpens_walk (a : Option Addr) (len cap : Nat) (x : Int) (top : ByteArray) (w : World) (hA : TsArg w a len cap) (hT : Tabs w) : Calls Tryd.prog 7 #[.slice a len cap, .int .i64 x, .string top] w fun e w' => e = .returned (.bool true) ∧ Below w.heap.size w w' := by
  obtain ⟨T, h1, h2, h3, h4, h5⟩ := hA
  have hdg := ldigests_any x a len cap (by omega) T w h4 hT
  obtain ⟨d1, d2⟩ := depL_ok x
  generalize depL x = d at hdg d1 d2
  obtain ⟨N, hN⟩ : ∃ N, 2 ^ d = N := ⟨_, rfl⟩
  have h16 := pow_le16 d d2
  rw [hN] at hdg h16
  have hN2 : 1 ≤ N := by rw [← hN]; exact pow_pos' d
  have HN : Hid (2 ^ d = N) := hN
  have HDG : Hid _ := hdg
  clear hdg h5 h4 h3 h2 h1 hN
  go_enter Tryd.func7, Tryd.ntmps7
  go_wp2_with fail
  refine Calls.mono HDG.out ?_
  rintro e w1 ⟨v1, D, rfl, hv1, hD, hb1⟩
  clear HDG
  obtain ⟨a1, k1, rfl, hs1⟩ := Sa.owns hv1
  have hT1 := hT.below hb1 hT.lt
  have hbu := build_any a1 N k1 (by omega) D w1 hs1 hT1
  obtain ⟨z1, z2, z3, z4⟩ := built d N D HN.out d1 d2 hD
  rw [z1, z2, z3] at hbu
  have HBU : Hid _ := hbu
  have HS1 : Hid (Sa w1 a1 N D) := hs1
  have HZ : Hid _ := z4
  have HD : Hid (∀ i, i < N → (D i).size = 32) := hD
  clear hbu hs1 hv1 z1 z2 z3 z4 hD
  generalize hTop : dg D N 1 = t at HBU
  go_wp2_with fail
  refine Calls.mono HBU.out ?_
  rintro e w2 ⟨v2, rfl, hv2, hb2⟩
  clear HBU
  obtain ⟨a2, k2, rfl, hs2⟩ := Sa.owns hv2
  have hT2 := hT1.below hb2 hT1.lt
  have hB2 := hb1.trans (hb2.mono hb1.size)
  have HS2 : Hid (Sa w2 a1 N D) := HS1.out.later hb2
  have HP2 : Hid (Sa w2 a2 N (bP N D)) := hs2
  clear hs2 hv2 HS1 hb2
  go_wp2_with fail
  refine (lwakes_any w2 hT2).mono ?_
  rintro e w3 ⟨rfl, hb3⟩
  have hT3 := hT2.below hb3 hT2.lt
  have hB3 := hB2.trans (hb3.mono hB2.size)
  have HS3 : Hid (Sa w3 a1 N D) := HS2.out.later hb3
  have HP3 : Hid (Sa w3 a2 N (bP N D)) := HP2.out.later hb3
  clear HS2 HP2 hb3
  go_wp2_with fail
  go_loopw [33] (fun i wr => ∃ j : Nat, j ≤ N ∧ i = .int .i64 (j : Int) ∧ Below w3.heap.size w3 wr) (fun i _ => N - (intOf i).toNat)
  case atStart => exact ⟨0, Nat.zero_le _, rfl, Below.refl _ _⟩
  case round =>
    obtain ⟨s, hs, rfl, hB⟩ := hrel
    by_cases hlt : s < N
    · have hsi : (s : Int) < (N : Int) := by omega
      obtain ⟨ho, hp⟩ := HZ.out s hlt
      have hs2 : s < 2 ^ d := by rw [HN.out]; exact hlt
      have hD2 : ∀ j, j < 2 ^ d → (D j).size = 32 := fun j hj => HD.out j (by rw [← HN.out]; exact hj)
      have hfl := fol_leaf D d s (fun k => bP N D (nd d s k)) d2 hs2 hD2 hp
      rw [HN.out, hTop] at hfl
      have hfS : folS d (s : Int) (fun k => bP N D (nd d s k)) t = D s := by unfold folS; rw [if_pos ho, Int.toNat_natCast, hfl]; rfl
      have hfE : folE d (s : Int) (fun k => bP N D (nd d s k)) t = 0 := by unfold folE; rw [if_pos ho, Int.toNat_natCast, hfl]; rfl
      have hfE2 : top ≠ t → folE d (s : Int) (fun k => bP N D (nd d s k)) top = 22 := fun hne => by unfold folE; rw [if_pos ho, Int.toNat_natCast, fol_top d s _ t top _ d1 hfl hne]; rfl
      have HF : Hid _ := hfE2
      have hP := HP3.out.later hB
      have hT4 := hT3.below hB hT3.lt
      have hov := lover_any a2 d N k2 s HN.out ho (bP N D) wr hP
      have HOV : Hid _ := hov
      have HPw : Hid (Sa wr a2 N (bP N D)) := hP
      have HOK : Hid (okS d (s : Int)) := ho
      clear hov hP hp hfl hfE2 ho
      go_wp2_with fail
      refine Calls.mono HOV.out ?_
      rintro e w5 ⟨v5, rfl, hv5, hb5⟩
      obtain ⟨a5, k5, rfl, hs5⟩ := Sa.owns hv5
      have hT5 := hT4.below hb5 hT4.lt
      have hB5 := hB.trans (hb5.mono hB.size)
      have HPw5 : Hid (Sa w5 a2 N (bP N D)) := HPw.out.later hb5
      have hfo := follow_any t (s : Int) a5 d k5 (by omega) _ w5 hs5 hT5
      rw [hfS, hfE] at hfo
      have HFO : Hid _ := hfo
      clear HOV hfo hs5 hv5 hfS hfE HPw hb5 hB
      go_wp2_with fail
      refine Calls.mono HFO.out ?_
      rintro e w6 ⟨rfl, hb6⟩
      have hT6 := hT5.below hb6 hT5.lt
      have hB6 := hB5.trans (hb6.mono hB5.size)
      have HPw6 : Sa w6 a2 N (bP N D) := HPw5.out.later hb6
      have hov := lover_any a2 d N k2 s HN.out HOK.out (bP N D) w6 HPw6
      have HOV : Hid _ := hov
      clear hov HPw6 HPw5 HFO hb6 hB5
      go_wp2_with fail
      refine Calls.mono HOV.out ?_
      rintro e w7 ⟨v7, rfl, hv7, hb7⟩
      obtain ⟨a7, k7, rfl, hs7⟩ := Sa.owns hv7
      have hT7 := hT6.below hb7 hT6.lt
      have hB7 := hB6.trans (hb7.mono hB6.size)
      have hfo := follow_any top (s : Int) a7 d k7 (by omega) _ w7 hs7 hT7
      by_cases hq : top = t
      · have hE0 : folE d (s : Int) (fun k => bP N D (nd d s k)) top = 0 := by
          rw [hq]
          unfold folE
          rw [if_pos HOK.out, Int.toNat_natCast]
          have hfl := fol_leaf D d s (fun k => bP N D (nd d s k)) d2 hs2 hD2 (HZ.out s hlt).2
          rw [HN.out, hTop] at hfl
          rw [hfl]; rfl
        rw [hE0] at hfo
        generalize folS d (s : Int) (fun k => bP N D (nd d s k)) top = S7 at hfo
        have HFO : Hid _ := hfo
        have hqb : (top.toList == t.toList) = true := by rw [teq, decide_eq_true hq]
        have HQ : Hid _ := hq
        clear HOV hfo hs7 hv7 hb7 hB6 hE0 hq
        go_wp2_with fail
        refine Calls.mono HFO.out ?_
        rintro e w8 ⟨rfl, hb8⟩
        have hB8 := hB7.trans (hb8.mono hB7.size)
        obtain ⟨ab, ao, rfl, ha⟩ := (HS3.out.later hB8).cells hN2
        have ca := ha s hlt
        generalize D s = X at ca ⊢
        clear HFO ha
        go_wp2_with fail
        go_roundw
        case rel => exact ⟨s + 1, hlt, by go_num, hB8⟩
        case measure => simp [intOf]; omega
      · rw [HF.out hq] at hfo
        generalize folS d (s : Int) (fun k => bP N D (nd d s k)) top = S7 at hfo
        have HFO : Hid _ := hfo
        have hqb : (top.toList == t.toList) = false := by rw [teq, decide_eq_false hq]
        clear HOV hfo hs7 hv7 hb7 hB6
        go_wp2_with fail
        refine Calls.mono HFO.out ?_
        rintro e w8 ⟨rfl, hb8⟩
        have hB8 := hB7.trans (hb8.mono hB7.size)
        obtain ⟨ab, ao, rfl, ha⟩ := (HS3.out.later hB8).cells hN2
        have ca := ha s hlt
        generalize D s = X at ca ⊢
        clear HFO ha
        go_wp2_with fail
        go_roundw
        case rel => exact ⟨s + 1, hlt, by go_num, hB8⟩
        case measure => simp [intOf]; omega
    · have hsN : s = N := by omega
      subst hsN
      go_wp2_with fail
      go_ret
      exact ⟨rfl, hB3.trans (hB.mono hB3.size)⟩
end Go.Proofs.YtbbgagpompgagaaDoor
