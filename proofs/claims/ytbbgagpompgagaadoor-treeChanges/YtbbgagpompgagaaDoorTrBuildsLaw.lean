/- What the Go function TreeBuilds answers: true, for every texts, number and bool. -/
import Derived.Test.YtbbgagpompgagaaDoorTrArg
namespace Go.Proofs.YtbbgagpompgagaaDoor
open Go.RowKit Go.PlainAid Go.Shelf
set_option linter.unusedVariables false

theorem Sa.cut {w : World} {a : Option Addr} {n m : Nat} {p : Nat → ByteArray} (h : Sa w a n p) (hm : m ≤ n) : Sa w a m p := by
  rcases h with h | ⟨b, o, rfl, h⟩
  · exact .inl (by omega)
  · exact .inr ⟨b, o, rfl, fun i hi => h i (by omega)⟩
set_option maxRecDepth 20000 in
set_option maxHeartbeats 4000000 in
theorem treeBuilds_walk (a : Option Addr) (len cap : Nat) (x : Int) (b : Bool) (w : World) (hA : TsArg w a len cap) (hT : Tabs w) (hR : RTabs w) : Calls Tryd.prog 4 #[.slice a len cap, .int .i64 x, .bool b] w fun e w' => e = .returned (.bool true) ∧ Below w.heap.size w w' := by
  obtain ⟨T, h1, h2, h3, h4, h5⟩ := hA
  obtain ⟨m, hm, hm1, hm2⟩ : ∃ m : Nat, (if (20 : Int) < (len : Int) then (20 : Int) else (len : Int)) = (m : Int) ∧ m ≤ len ∧ m ≤ 20 := ⟨min len 20, by split <;> omega, by omega, by omega⟩
  have hm' : min (len : Int) 20 = (m : Int) := by rw [← hm]; split <;> omega
  have hmc : (m : Int) ≤ (cap : Int) := by omega
  have h4' := h4.cut hm1
  have HS : Hid (Sa w a m T) := h4'
  have hBr : Below w.heap.size w w := Below.refl _ _
  have hdl := (depL_ok x).2
  have h16 := pow_le16 _ hdl
  clear h5 h4 h4'
  cases a with
  | none =>
    have hc0 := h3 rfl
    have hl0 : len = 0 := by omega
    have hm0 : m = 0 := by omega
    subst hc0
    subst hl0
    subst hm0
    clear h3 hm hm' hmc h1 h2 hm1 hm2
    cases b with
    | false =>
      go_enter Tryd.func4, Tryd.ntmps4
      go_wp2_with fail
      refine (build_any none 0 0 (by omega) T w HS.out hT).mono ?_
      rintro e w2 ⟨v2, rfl, hv2, hb2⟩
      have hS2 := Sa.later HS.out hb2
      have hR2 := RTabs.below hR hb2 hR.lt
      have hT2 := Tabs.below hT hb2 hT.lt
      have hB2 : Below w.heap.size w w2 := Below.trans hBr (hb2.mono hBr.size)
      obtain ⟨a2, k2, rfl, hs2⟩ := Sa.owns hv2
      have hrb := rBuild_any none 0 0 (by omega) T w2 hS2 hR2
      have hn2 : bN 0 T ≤ 20 := by unfold bN; split <;> omega
      generalize bT 0 T = T2 at hrb ⊢
      generalize bE 0 T = E2 at hrb ⊢
      generalize bN 0 T = N2 at hrb hs2 hv2 hn2 ⊢
      generalize bP 0 T = P2 at hrb hs2 hv2
      have HRB : Hid _ := hrb
      have HS2 : Hid (Sa w2 a2 N2 P2) := hs2
      clear hrb hs2 hv2 hS2 hb2
      go_wp2_with fail
      refine Calls.mono HRB.out ?_
      rintro e w3 ⟨v3, rfl, hv3, hb3⟩
      obtain ⟨a3, k3, rfl, hs3⟩ := Sa.owns hv3
      have HS3 : Hid (Sa w3 a2 N2 P2) := HS2.out.later hb3
      have HS3' : Hid (Sa w3 a3 N2 P2) := hs3
      have hT3 := hT2.below hb3 hT2.lt
      have hB3 := hB2.trans (hb3.mono hB2.size)
      clear HRB HS2 hs3 hv3 hb3
      go_wp2_with fail
      refine (lwakes_any w3 hT3).mono ?_
      rintro e w4 ⟨rfl, hb4⟩
      have hB4 := hB3.trans (hb4.mono hB3.size)
      go_wp2_with fail
      refine (lequal_same a2 a3 N2 k2 k3 P2 w4 (by omega) (HS3.out.later hb4) (HS3'.out.later hb4)).mono ?_
      rintro e w5 ⟨rfl, hb5⟩
      go_wp2_with fail
      go_ret
      exact ⟨rfl, hB4.trans (hb5.mono hB4.size)⟩
    | true =>
      have hdg := ldigests_any x none 0 0 (by decide) T w HS.out hT
      have HDG : Hid _ := hdg
      clear hdg
      go_enter Tryd.func4, Tryd.ntmps4
      go_wp2_with fail
      refine Calls.mono HDG.out ?_
      rintro e w1 ⟨v1, D, rfl, hv1, hD, hb1⟩
      obtain ⟨a1, k1, rfl, hs1⟩ := Sa.owns hv1
      have hT1 := hT.below hb1 hT.lt
      have hR1 := hR.below hb1 hR.lt
      generalize 2 ^ depL x = n at hs1 hv1 hD h16 ⊢
      have HS1 : Hid (Sa w1 a1 n D) := hs1
      clear HDG hs1 hv1 hD HS
      go_wp2_with fail
      refine (build_any a1 n k1 (by omega) D w1 HS1.out hT1).mono ?_
      rintro e w2 ⟨v2, rfl, hv2, hb2⟩
      have hS2 := Sa.later HS1.out hb2
      have hR2 := RTabs.below hR1 hb2 hR1.lt
      have hT2 := Tabs.below hT1 hb2 hT1.lt
      have hB2 : Below w.heap.size w w2 := Below.trans hb1 (hb2.mono hb1.size)
      obtain ⟨a2, k2, rfl, hs2⟩ := Sa.owns hv2
      have hrb := rBuild_any a1 n k1 (by omega) D w2 hS2 hR2
      have hn2 : bN n D ≤ 20 := by unfold bN; split <;> omega
      generalize bT n D = T2 at hrb ⊢
      generalize bE n D = E2 at hrb ⊢
      generalize bN n D = N2 at hrb hs2 hv2 hn2 ⊢
      generalize bP n D = P2 at hrb hs2 hv2
      have HRB : Hid _ := hrb
      have HS2 : Hid (Sa w2 a2 N2 P2) := hs2
      clear hrb hs2 hv2 hS2 hb2
      go_wp2_with fail
      refine Calls.mono HRB.out ?_
      rintro e w3 ⟨v3, rfl, hv3, hb3⟩
      obtain ⟨a3, k3, rfl, hs3⟩ := Sa.owns hv3
      have HS3 : Hid (Sa w3 a2 N2 P2) := HS2.out.later hb3
      have HS3' : Hid (Sa w3 a3 N2 P2) := hs3
      have hT3 := hT2.below hb3 hT2.lt
      have hB3 := hB2.trans (hb3.mono hB2.size)
      clear HRB HS2 hs3 hv3 hb3
      go_wp2_with fail
      refine (lwakes_any w3 hT3).mono ?_
      rintro e w4 ⟨rfl, hb4⟩
      have hB4 := hB3.trans (hb4.mono hB3.size)
      go_wp2_with fail
      refine (lequal_same a2 a3 N2 k2 k3 P2 w4 (by omega) (HS3.out.later hb4) (HS3'.out.later hb4)).mono ?_
      rintro e w5 ⟨rfl, hb5⟩
      go_wp2_with fail
      go_ret
      exact ⟨rfl, hB4.trans (hb5.mono hB4.size)⟩
  | some q =>
    clear h3
    cases b with
    | false =>
      go_enter Tryd.func4, Tryd.ntmps4
      go_wp2_with fail
      refine (build_any (some q) m cap (by omega) T w HS.out hT).mono ?_
      rintro e w2 ⟨v2, rfl, hv2, hb2⟩
      have hS2 := Sa.later HS.out hb2
      have hR2 := RTabs.below hR hb2 hR.lt
      have hT2 := Tabs.below hT hb2 hT.lt
      have hB2 : Below w.heap.size w w2 := Below.trans hBr (hb2.mono hBr.size)
      obtain ⟨a2, k2, rfl, hs2⟩ := Sa.owns hv2
      have hrb := rBuild_any (some q) m cap (by omega) T w2 hS2 hR2
      have hn2 : bN m T ≤ 20 := by unfold bN; split <;> omega
      generalize bT m T = T2 at hrb ⊢
      generalize bE m T = E2 at hrb ⊢
      generalize bN m T = N2 at hrb hs2 hv2 hn2 ⊢
      generalize bP m T = P2 at hrb hs2 hv2
      have HRB : Hid _ := hrb
      have HS2 : Hid (Sa w2 a2 N2 P2) := hs2
      clear hrb hs2 hv2 hS2 hb2
      go_wp2_with fail
      refine Calls.mono HRB.out ?_
      rintro e w3 ⟨v3, rfl, hv3, hb3⟩
      obtain ⟨a3, k3, rfl, hs3⟩ := Sa.owns hv3
      have HS3 : Hid (Sa w3 a2 N2 P2) := HS2.out.later hb3
      have HS3' : Hid (Sa w3 a3 N2 P2) := hs3
      have hT3 := hT2.below hb3 hT2.lt
      have hB3 := hB2.trans (hb3.mono hB2.size)
      clear HRB HS2 hs3 hv3 hb3
      go_wp2_with fail
      refine (lwakes_any w3 hT3).mono ?_
      rintro e w4 ⟨rfl, hb4⟩
      have hB4 := hB3.trans (hb4.mono hB3.size)
      go_wp2_with fail
      refine (lequal_same a2 a3 N2 k2 k3 P2 w4 (by omega) (HS3.out.later hb4) (HS3'.out.later hb4)).mono ?_
      rintro e w5 ⟨rfl, hb5⟩
      go_wp2_with fail
      go_ret
      exact ⟨rfl, hB4.trans (hb5.mono hB4.size)⟩
    | true =>
      have hdg := ldigests_any x (some q) m cap (by omega) T w HS.out hT
      have HDG : Hid _ := hdg
      clear hdg
      go_enter Tryd.func4, Tryd.ntmps4
      go_wp2_with fail
      refine Calls.mono HDG.out ?_
      rintro e w1 ⟨v1, D, rfl, hv1, hD, hb1⟩
      obtain ⟨a1, k1, rfl, hs1⟩ := Sa.owns hv1
      have hT1 := hT.below hb1 hT.lt
      have hR1 := hR.below hb1 hR.lt
      generalize 2 ^ depL x = n at hs1 hv1 hD h16 ⊢
      have HS1 : Hid (Sa w1 a1 n D) := hs1
      clear HDG hs1 hv1 hD HS
      go_wp2_with fail
      refine (build_any a1 n k1 (by omega) D w1 HS1.out hT1).mono ?_
      rintro e w2 ⟨v2, rfl, hv2, hb2⟩
      have hS2 := Sa.later HS1.out hb2
      have hR2 := RTabs.below hR1 hb2 hR1.lt
      have hT2 := Tabs.below hT1 hb2 hT1.lt
      have hB2 : Below w.heap.size w w2 := Below.trans hb1 (hb2.mono hb1.size)
      obtain ⟨a2, k2, rfl, hs2⟩ := Sa.owns hv2
      have hrb := rBuild_any a1 n k1 (by omega) D w2 hS2 hR2
      have hn2 : bN n D ≤ 20 := by unfold bN; split <;> omega
      generalize bT n D = T2 at hrb ⊢
      generalize bE n D = E2 at hrb ⊢
      generalize bN n D = N2 at hrb hs2 hv2 hn2 ⊢
      generalize bP n D = P2 at hrb hs2 hv2
      have HRB : Hid _ := hrb
      have HS2 : Hid (Sa w2 a2 N2 P2) := hs2
      clear hrb hs2 hv2 hS2 hb2
      go_wp2_with fail
      refine Calls.mono HRB.out ?_
      rintro e w3 ⟨v3, rfl, hv3, hb3⟩
      obtain ⟨a3, k3, rfl, hs3⟩ := Sa.owns hv3
      have HS3 : Hid (Sa w3 a2 N2 P2) := HS2.out.later hb3
      have HS3' : Hid (Sa w3 a3 N2 P2) := hs3
      have hT3 := hT2.below hb3 hT2.lt
      have hB3 := hB2.trans (hb3.mono hB2.size)
      clear HRB HS2 hs3 hv3 hb3
      go_wp2_with fail
      refine (lwakes_any w3 hT3).mono ?_
      rintro e w4 ⟨rfl, hb4⟩
      have hB4 := hB3.trans (hb4.mono hB3.size)
      go_wp2_with fail
      refine (lequal_same a2 a3 N2 k2 k3 P2 w4 (by omega) (HS3.out.later hb4) (HS3'.out.later hb4)).mono ?_
      rintro e w5 ⟨rfl, hb5⟩
      go_wp2_with fail
      go_ret
      exact ⟨rfl, hB4.trans (hb5.mono hB4.size)⟩
end Go.Proofs.YtbbgagpompgagaaDoor
