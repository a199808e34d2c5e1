/- The law SuperApart, walked. -/
import Derived.Test.YtbjmhpbelkndpaaSuApart0
import Derived.Test.YtbjmhpbelkndpaaSuSame
import Derived.Deep.DeepCutAuto
import Derived.Deep.CutBlock
namespace Go.Proofs.Ytbjmhpbelkndpaa
open Go.RowKit Go.PlainAid
set_option linter.unusedVariables false

set_option maxRecDepth 20000 in
set_option maxHeartbeats 4000000 in
theorem superApart_law (x : Raw) (A : Nat → Int) (D : Nat → Dsk) (by_ : Int) (W : World) (hx : x.At A D W) (hf : (x.toR A D).Fine) (hby : -9223372036854775808 ≤ by_ ∧ by_ ≤ 9223372036854775807) : Calls Try.prog 6 #[.agg x.row.toArray, .int .i64 by_] W fun e w' => e = .returned (.bool true) ∧ Below W.heap.size W w' := by
  have hz1 := zeroSup
  have hz2 := zeroRSup
  obtain ⟨HS, hHS⟩ : ∃ HS, W.heap.size = HS := ⟨_, rfl⟩
  have hlow : Below W.heap.size W (W.alloc (.cells x.row.toArray 26)) := (Below.refl _ _).alloc (Nat.le_refl _) _
  have hbk := Blk.box W 26 x.row
  have HREC : Hid (∀ z, Below W.heap.size W z → Calls Try.prog 7 #[.agg x.row.toArray] z fun e w' => ∃ sa sc ma mc mb md, e = .returned (.tuple #[.agg (supV (x.toR A D) sa ma sc mc).toArray, .agg (supV (x.toR A D) sa mb sc md).toArray]) ∧ Hold z.heap.size z w' (star (rowK 3 1 (.slice sa (x.toR A D).ns sc) (x.toR A D).ns (si (x.toR A D).ns (x.toR A D).seat)) (star (rowK 50 3 (.slice ma (x.toR A D).nm mc) (x.toR A D).nm (memF (x.toR A D).st (x.toR A D).top (x.toR A D).log (x.toR A D).nm)) (star (rowK 55 3 (.slice mb (x.toR A D).nm md) (x.toR A D).nm (memF (x.toR A D).st (x.toR A D).top (x.toR A D).log (x.toR A D).nm)) nought)))) := fun z hz => records_any x A D z (hx.below hz)
  have hl9 : x.row.length = 9 := rfl
  have HL9 : Hid ((Try.prog.info? 26).map (·.size) = some x.row.length) := Try.size26
  generalize x.row = XR at *
  generalize x.toR A D = R at *
  rw [hHS] at hlow hbk HREC ⊢
  have HLOW : Hid (Below HS W _) := hlow
  have HBK : Hid (Blk _ HS 26 XR) := hbk
  have HRF : Hid R.Fine := hf
  have HSZ : Hid (W.heap.size = HS) := hHS
  clear hx hf hl9 hlow hbk
  go_enter Try.func6, Try.ntmps6
  go_upto_region 2 with (first
    | (refine wpList_load_blk rfl 26 _ rfl HS rfl 26 XR _ HBK.out Try.underlying26 rfl HL9.out ?_)
    | (go_at_call 7; refine (HREC.out _ HLOW.out).mono ?_; rintro e w1 ⟨sa, sc, ma, mc, mb, md, rfl, h1⟩; obtain ⟨L1, L2, w2, pk⟩ := rec_pack h1; rw [pk.e1, pk.e2]; have PK : Hid (Pk _ w1 R sa ma mb sc mc md L1 L2 w2) := pk; have ST : Hid (St HS W R sa ma mb L1 L2 w1.heap.size w2) := pk.st HLOW.out (by have := HSZ.out; simp; omega); have hw2 := pk.ew; have hbk := HBK.out.below pk.low HBK.out.lt; have HBK2 : Hid (Blk w2 HS 26 XR) := hbk; clear h1 pk HLOW HBK hbk)
    | (refine wpList_store_blk rfl 29 _ _ rfl w1.heap.size zS L1 rfl rfl 29 PK.out.z1 PK.out.s1 PK.out.n1 PK.out.o1 ?_)
    | (refine wpList_store_blk rfl 32 _ _ rfl (w1.heap.size + 1) zS L2 rfl rfl 32 PK.out.z2 PK.out.s2 PK.out.n2 PK.out.o2 ?_; rw [hw2]; clear hw2))
  go_upto_block 0 with (first
    | (refine wpList_load_blk rfl 26 _ rfl HS rfl 26 XR _ HBK2.out Try.underlying26 rfl HL9.out ?_)
    | (go_at_call 7; refine (HREC.out _ ST.out.low).mono ?_; rintro e w3 ⟨sa2, sc2, ma2, mc2, mb2, md2, rfl, h3⟩; obtain ⟨L3, L4, w4, pk⟩ := rec_pack h3; have AP : Hid (Ap w2 w3.heap.size sa2 ma2 sc2 mc2 R w4) := apart_pack h3 pk; rw [pk.e1, pk.e2]; have PK2 : Hid (Pk _ w3 R sa2 ma2 mb2 sc2 mc2 md2 L3 L4 w4) := pk; have hw4 := pk.ew; clear h3 pk HBK2 HREC)
    | (refine wpList_store_blk rfl 29 _ _ rfl w3.heap.size zS L3 rfl rfl 29 PK2.out.z1 PK2.out.s1 PK2.out.n1 PK2.out.o1 ?_)
    | (refine wpList_store_blk rfl 32 _ _ rfl (w3.heap.size + 1) zS L4 rfl rfl 32 PK2.out.z2 PK2.out.s2 PK2.out.n2 PK2.out.o2 ?_; rw [hw4]; clear hw4))
  go_cut [24] (fun _ wx => ∃ S : Rec, Hid (S.Fine ∧ Ap w2 w3.heap.size sa2 ma2 sc2 mc2 S wx))
  case first =>
    as_aux_lemma =>
      have ap := AP.out
      have c0 := ap.blk.cell (i := 0) rfl
      have c1 := ap.blk.cell (i := 1) rfl
      have c4 := ap.blk.cell (i := 4) rfl
      have c5 := ap.blk.cell (i := 5) rfl
      have c7 := ap.blk.cell (i := 7) rfl
      have c8 := ap.blk.cell (i := 8) rfl
      have f0 := ap.blk.frozen 0
      have f1 := ap.blk.frozen 1
      have f4 := ap.blk.frozen 4
      have f5 := ap.blk.frozen 5
      clear ap
      generalize bits BinOp.and IntKind.i64 by_ 7 = Q
      by_cases q0 : Q = 0
      · subst q0
        go_wp2
        go_meet
        case rel => exact ⟨{ R with count := _ }, Fine.count HRF.out _ (wrap_u64r _), AP.out.field 0 _ _ rfl rfl rfl rfl rfl rfl rfl⟩
      have q0b : (Q == 0) = false := by simpa using q0
      by_cases q1 : Q = 1
      · subst q1
        go_wp2
        go_meet
        case rel => exact ⟨{ R with epoch := _ }, Fine.epoch HRF.out _ (wrap_u64r _), AP.out.field 1 _ _ rfl rfl rfl rfl rfl rfl rfl⟩
      have q1b : (Q == 1) = false := by simpa using q1
      by_cases q2 : Q = 2
      · subst q2
        go_wp2
        go_meet
        case rel => exact ⟨{ R with built := _ }, Fine.built HRF.out _ (bits_i64r .xor R.built 1), AP.out.field 5 _ _ rfl rfl rfl rfl rfl rfl rfl⟩
      have q2b : (Q == 2) = false := by simpa using q2
      by_cases q3 : Q = 3
      · subst q3
        go_wp2
        go_meet
        case rel => exact ⟨{ R with mark := _ }, Fine.mark HRF.out _ (bits_i64r .xor R.mark 1), AP.out.field 4 _ _ rfl rfl rfl rfl rfl rfl rfl⟩
      have q3b : (Q == 3) = false := by simpa using q3
      clear f0 f1 f4 f5 c0 c1 c4 c5
      by_cases q4 : Q = 4
      · subst q4
        by_cases hn : 1 < R.ns
        · have hn' : (1 : Int) < (R.ns : Int) := by omega
          have hn0 : (0 : Int) < (R.ns : Int) := by omega
          obtain ⟨q, rfl, d0, d1, e0, e1, hne, apA, apB⟩ := AP.out.seats hn
          have APA : Hid (Ap w2 w3.heap.size (some ⟨q, 0, none⟩) ma2 sc2 mc2 (swS R) _) := apA
          have APB : Hid (Ap w2 w3.heap.size (some ⟨q, 0, none⟩) ma2 sc2 mc2 (swS R) _) := apB
          clear apA apB
          go_wp2
          go_region
          go_wp2
          go_meet
          case rel => first | exact ⟨swS R, Fine.sw HRF.out hn, APA.out.below (Below.refl _ _).drew⟩ | exact ⟨swS R, Fine.sw HRF.out hn, APB.out.below (Below.refl _ _).drew⟩ | exact ⟨swS R, Fine.sw HRF.out hn, APA.out⟩
        · have hn' : ¬ (1 : Int) < (R.ns : Int) := by omega
          go_wp2
          go_meet
          case rel => exact ⟨R, HRF.out, AP.out⟩
      have q4b : (Q == 4) = false := by simpa using q4
      by_cases q5 : Q = 5
      · subst q5
        by_cases hn : 0 < R.nm
        · have hn' : (0 : Int) < (R.nm : Int) := by omega
          obtain ⟨k, hk⟩ : ∃ k, R.nm = k + 1 := ⟨R.nm - 1, by omega⟩
          have hk1 : (R.nm : Int) - 1 = (k : Int) := by omega
          have hk2 : (k : Int) < (R.nm : Int) := by omega
          have hk4 : (R.nm : Int) ≤ 100 := by have := HRF.out.nm; omega
          obtain ⟨q, rfl, e0, hne, hc, ap⟩ := AP.out.mem hn (k * 3) (by omega) (.int .i64 (bits .xor .i64 (R.st k) 2)) (stR R k (bits .xor .i64 (R.st k) 2)) (fun ys h => memP_st h k (by omega) _) rfl rfl rfl (fun _ _ _ _ => rfl)
          have d0 := (hc k (by omega)).1
          have AP2 : Hid (Ap w2 w3.heap.size sa2 (some ⟨q, 0, none⟩) sc2 mc2 (stR R k (bits .xor .i64 (R.st k) 2)) _) := ap
          clear ap hc hk
          go_wp2
          go_meet
          case rel => exact ⟨_, Fine.stR HRF.out k _ (bits_i64r _ _ _), AP2.out⟩
        · have hn' : ¬ (0 : Int) < (R.nm : Int) := by omega
          go_wp2
          go_meet
          case rel => exact ⟨R, HRF.out, AP.out⟩
      have q5b : (Q == 5) = false := by simpa using q5
      by_cases q6 : Q = 6
      · subst q6
        by_cases hn : 0 < R.nm
        · have hn' : (0 : Int) < (R.nm : Int) := by omega
          obtain ⟨q, rfl, e0, hne, hc, ap⟩ := AP.out.mem hn (0 * 3 + 2) (by omega) (.string (R.top 0)) (logR R) (fun ys h => memP_log h 0 hn _) rfl rfl rfl (fun _ _ _ _ => rfl)
          have d0 : w4.cell? ⟨q, 1, none⟩ = _ := (hc 0 hn).2.1
          have d1 : w4.cell? ⟨q, 2, none⟩ = _ := (hc 0 hn).2.2
          have e1 : w4.frozen? ⟨q, 2, none⟩ = false := e0
          have AP2 : Hid (Ap w2 w3.heap.size sa2 (some ⟨q, 0, none⟩) sc2 mc2 (logR R) (w4.setCell ⟨q, 2, none⟩ (.string (R.top 0)))) := ap
          clear ap hc e0
          go_wp2
          go_region
          go_wp2
          go_meet
          case rel => first | exact ⟨logR R, Fine.logR HRF.out hn, AP2.out.below (Below.refl _ _).drew⟩ | exact ⟨logR R, Fine.logR HRF.out hn, AP2.out⟩
        · have hn' : ¬ (0 : Int) < (R.nm : Int) := by omega
          go_wp2
          go_meet
          case rel => exact ⟨R, HRF.out, AP.out⟩
      have q6b : (Q == 6) = false := by simpa using q6
      go_wp2
      go_meet
      case rel => exact ⟨R, HRF.out, AP.out⟩
  case rest =>
    obtain ⟨S, hS⟩ := hcut
    have AP2 : Hid (Ap w2 w3.heap.size sa2 ma2 sc2 mc2 S wc) := hS.out.2
    have ST2 : Hid (St HS W R sa ma mb L1 L2 w1.heap.size wc) := ST.out.below hS.out.2.low
    have HPA : Hid (∀ z, Lies z R sa ma → Calls Try.prog 8 #[.agg L1.toArray] z fun e w' => e = .returned (.tuple #[.string (putT R), .int .i64 (putE R)]) ∧ Below z.heap.size z w') := fun z hl => by
      have := sput_any HRF.out hl (sc := sc) (mc := mc)
      rwa [PK.out.e1] at this
    have HPC : Hid (∀ z, Lies z S sa2 ma2 → Calls Try.prog 8 #[.agg (supV S sa2 ma2 sc2 mc2).toArray] z fun e w' => e = .returned (.tuple #[.string (putT S), .int .i64 (putE S)]) ∧ Below z.heap.size z w') := fun z hl => sput_any hS.out.1 hl
    have HE : Hid (∀ z, Lies z S sa2 ma2 → Lies z R sa mb → Calls Try.prog 14 #[.agg (supV S sa2 ma2 sc2 mc2).toArray, .agg L2.toArray] z fun e w' => e = .returned (.bool (sameQ S R)) ∧ Below z.heap.size z w') := fun z h1 h2 => by
      have := same_any hS.out.1.ns hS.out.1.nm h1 h2 (sc := sc2) (mc := mc2) (sd := sc) (md := md)
      rwa [PK.out.e2] at this
    have HQ : Hid (gd R = true → gd S = true → ((putT R).toList == (putT S).toList) = sameQ S R) := fun h1 h2 => by
      unfold putT
      rw [if_pos h1, if_pos h2, teqS]
      by_cases e : byB R = byB S
      · rw [decide_eq_true e]
        have a1 : IsRec R (byB R) := ⟨h1, HRF.out.c, HRF.out.e, rfl⟩
        have a2 : IsRec S (byB R) := ⟨h2, hS.out.1.c, hS.out.1.e, e.symm⟩
        exact (sameQ_yes (a2.inj a1)).symm
      · rw [decide_eq_false e]
        exact (sameQ_no (fun h => e (by_congr h).symm)).symm
    have HG : Hid (putE R = (if gd R then 0 else 4) ∧ putE S = (if gd S then 0 else 4)) := ⟨rfl, rfl⟩
    have HLS : Hid ((Try.prog.info? 29).map (·.size) = some (supV S sa2 ma2 sc2 mc2).length) := Try.size29
    have AS : Hid (St HS W R sa ma mb L1 L2 w1.heap.size wc ∧ Ap w2 w3.heap.size sa2 ma2 sc2 mc2 S wc) := ⟨ST2.out, AP2.out⟩
    obtain ⟨L5, hL5⟩ : ∃ L5, supV S sa2 ma2 sc2 mc2 = L5 := ⟨_, rfl⟩
    have HBL : Hid (∀ z, Ap w2 w3.heap.size sa2 ma2 sc2 mc2 S z → Blk z w3.heap.size 29 L5) := fun z h => by
      have := h.blk
      rwa [hL5] at this
    rw [hL5] at HPC HE HLS
    clear hL5 ST2 AP2 hS ST AP HRF
    generalize putT R = PT at *
    generalize putT S = CT at *
    cases hr : gd R
    · have pe := HG.out.1
      rw [hr, if_neg (by decide)] at pe
      rw [pe] at HPA
      clear pe HG HQ hr
      generalize putE S = CE at *
      go_wp2_with (first
        | (refine wpList_load_blk rfl 29 _ rfl w1.heap.size rfl 29 L1 _ AS.out.1.a Try.underlying29 rfl PK.out.s1 ?_)
        | (refine wpList_load_blk rfl 29 _ rfl w3.heap.size rfl 29 L5 _ (HBL.out _ AS.out.2) Try.underlying29 rfl HLS.out ?_)
        | (go_at_call 8; refine (HPA.out _ AS.out.1.la).mono ?_; rintro e w5 ⟨rfl, hb5⟩; have ast := (⟨AS.out.1.below hb5, AS.out.2.below hb5⟩ : St HS W R sa ma mb L1 L2 w1.heap.size w5 ∧ Ap w2 w3.heap.size sa2 ma2 sc2 mc2 S w5); clear AS hb5; have AS : Hid (St HS W R sa ma mb L1 L2 w1.heap.size w5 ∧ Ap w2 w3.heap.size sa2 ma2 sc2 mc2 S w5) := ast; clear ast; clear HPA)
        | (go_at_call 8; refine (HPC.out _ AS.out.2.lies).mono ?_; rintro e w6 ⟨rfl, hb6⟩; have ast := (⟨AS.out.1.below hb6, AS.out.2.below hb6⟩ : St HS W R sa ma mb L1 L2 w1.heap.size w6 ∧ Ap w2 w3.heap.size sa2 ma2 sc2 mc2 S w6); clear AS hb6; have AS : Hid (St HS W R sa ma mb L1 L2 w1.heap.size w6 ∧ Ap w2 w3.heap.size sa2 ma2 sc2 mc2 S w6) := ast; clear ast; clear HPC)
        | (go_at_call 10; refine (wakes14_any _).mono ?_; rintro e w7 ⟨rfl, hb7⟩; have ast := (⟨AS.out.1.below hb7, AS.out.2.below hb7⟩ : St HS W R sa ma mb L1 L2 w1.heap.size w7 ∧ Ap w2 w3.heap.size sa2 ma2 sc2 mc2 S w7); clear AS hb7; have AS : Hid (St HS W R sa ma mb L1 L2 w1.heap.size w7 ∧ Ap w2 w3.heap.size sa2 ma2 sc2 mc2 S w7) := ast; clear ast)
        | (refine wpList_load_blkG rfl 29 _ rfl w3.heap.size rfl 29 L5 _ (HBL.out _ AS.out.2) Try.underlying29 rfl HLS.out ?_)
        | (refine wpList_load_blkG rfl 32 _ rfl (w1.heap.size + 1) rfl 32 L2 _ AS.out.1.b Try.underlying32 rfl PK.out.s2 ?_)
        | (go_at_call 14; refine (HE.out _ AS.out.2.lies AS.out.1.lb).mono ?_; rintro e w8 ⟨rfl, hb8⟩; have ast := (⟨AS.out.1.below hb8, AS.out.2.below hb8⟩ : St HS W R sa ma mb L1 L2 w1.heap.size w8 ∧ Ap w2 w3.heap.size sa2 ma2 sc2 mc2 S w8); clear AS hb8; have AS : Hid (St HS W R sa ma mb L1 L2 w1.heap.size w8 ∧ Ap w2 w3.heap.size sa2 ma2 sc2 mc2 S w8) := ast; clear ast))
      go_ret
      exact ⟨rfl, AS.out.1.low⟩
    · cases hs : gd S
      · have pe := HG.out
        rw [hr, hs, if_pos rfl, if_neg (by decide)] at pe
        rw [pe.1] at HPA
        rw [pe.2] at HPC
        clear pe HG HQ hr hs
        go_wp2_with (first
          | (refine wpList_load_blk rfl 29 _ rfl w1.heap.size rfl 29 L1 _ AS.out.1.a Try.underlying29 rfl PK.out.s1 ?_)
          | (refine wpList_load_blk rfl 29 _ rfl w3.heap.size rfl 29 L5 _ (HBL.out _ AS.out.2) Try.underlying29 rfl HLS.out ?_)
          | (go_at_call 8; refine (HPA.out _ AS.out.1.la).mono ?_; rintro e w5 ⟨rfl, hb5⟩; have ast := (⟨AS.out.1.below hb5, AS.out.2.below hb5⟩ : St HS W R sa ma mb L1 L2 w1.heap.size w5 ∧ Ap w2 w3.heap.size sa2 ma2 sc2 mc2 S w5); clear AS hb5; have AS : Hid (St HS W R sa ma mb L1 L2 w1.heap.size w5 ∧ Ap w2 w3.heap.size sa2 ma2 sc2 mc2 S w5) := ast; clear ast; clear HPA)
          | (go_at_call 8; refine (HPC.out _ AS.out.2.lies).mono ?_; rintro e w6 ⟨rfl, hb6⟩; have ast := (⟨AS.out.1.below hb6, AS.out.2.below hb6⟩ : St HS W R sa ma mb L1 L2 w1.heap.size w6 ∧ Ap w2 w3.heap.size sa2 ma2 sc2 mc2 S w6); clear AS hb6; have AS : Hid (St HS W R sa ma mb L1 L2 w1.heap.size w6 ∧ Ap w2 w3.heap.size sa2 ma2 sc2 mc2 S w6) := ast; clear ast; clear HPC)
          | (go_at_call 10; refine (wakes14_any _).mono ?_; rintro e w7 ⟨rfl, hb7⟩; have ast := (⟨AS.out.1.below hb7, AS.out.2.below hb7⟩ : St HS W R sa ma mb L1 L2 w1.heap.size w7 ∧ Ap w2 w3.heap.size sa2 ma2 sc2 mc2 S w7); clear AS hb7; have AS : Hid (St HS W R sa ma mb L1 L2 w1.heap.size w7 ∧ Ap w2 w3.heap.size sa2 ma2 sc2 mc2 S w7) := ast; clear ast)
          | (refine wpList_load_blkG rfl 29 _ rfl w3.heap.size rfl 29 L5 _ (HBL.out _ AS.out.2) Try.underlying29 rfl HLS.out ?_)
          | (refine wpList_load_blkG rfl 32 _ rfl (w1.heap.size + 1) rfl 32 L2 _ AS.out.1.b Try.underlying32 rfl PK.out.s2 ?_)
          | (go_at_call 14; refine (HE.out _ AS.out.2.lies AS.out.1.lb).mono ?_; rintro e w8 ⟨rfl, hb8⟩; have ast := (⟨AS.out.1.below hb8, AS.out.2.below hb8⟩ : St HS W R sa ma mb L1 L2 w1.heap.size w8 ∧ Ap w2 w3.heap.size sa2 ma2 sc2 mc2 S w8); clear AS hb8; have AS : Hid (St HS W R sa ma mb L1 L2 w1.heap.size w8 ∧ Ap w2 w3.heap.size sa2 ma2 sc2 mc2 S w8) := ast; clear ast))
        go_ret
        exact ⟨rfl, AS.out.1.low⟩
      · have pe := HG.out
        rw [hr, hs, if_pos rfl] at pe
        rw [pe.1] at HPA
        rw [pe.2] at HPC
        have hq := HQ.out hr hs
        clear pe HG HQ hr hs
        generalize sameQ S R = qq at *
        go_wp2_with (first
          | (refine wpList_load_blk rfl 29 _ rfl w1.heap.size rfl 29 L1 _ AS.out.1.a Try.underlying29 rfl PK.out.s1 ?_)
          | (refine wpList_load_blk rfl 29 _ rfl w3.heap.size rfl 29 L5 _ (HBL.out _ AS.out.2) Try.underlying29 rfl HLS.out ?_)
          | (go_at_call 8; refine (HPA.out _ AS.out.1.la).mono ?_; rintro e w5 ⟨rfl, hb5⟩; have ast := (⟨AS.out.1.below hb5, AS.out.2.below hb5⟩ : St HS W R sa ma mb L1 L2 w1.heap.size w5 ∧ Ap w2 w3.heap.size sa2 ma2 sc2 mc2 S w5); clear AS hb5; have AS : Hid (St HS W R sa ma mb L1 L2 w1.heap.size w5 ∧ Ap w2 w3.heap.size sa2 ma2 sc2 mc2 S w5) := ast; clear ast; clear HPA)
          | (go_at_call 8; refine (HPC.out _ AS.out.2.lies).mono ?_; rintro e w6 ⟨rfl, hb6⟩; have ast := (⟨AS.out.1.below hb6, AS.out.2.below hb6⟩ : St HS W R sa ma mb L1 L2 w1.heap.size w6 ∧ Ap w2 w3.heap.size sa2 ma2 sc2 mc2 S w6); clear AS hb6; have AS : Hid (St HS W R sa ma mb L1 L2 w1.heap.size w6 ∧ Ap w2 w3.heap.size sa2 ma2 sc2 mc2 S w6) := ast; clear ast; clear HPC)
          | (go_at_call 10; refine (wakes14_any _).mono ?_; rintro e w7 ⟨rfl, hb7⟩; have ast := (⟨AS.out.1.below hb7, AS.out.2.below hb7⟩ : St HS W R sa ma mb L1 L2 w1.heap.size w7 ∧ Ap w2 w3.heap.size sa2 ma2 sc2 mc2 S w7); clear AS hb7; have AS : Hid (St HS W R sa ma mb L1 L2 w1.heap.size w7 ∧ Ap w2 w3.heap.size sa2 ma2 sc2 mc2 S w7) := ast; clear ast)
          | (refine wpList_load_blkG rfl 29 _ rfl w3.heap.size rfl 29 L5 _ (HBL.out _ AS.out.2) Try.underlying29 rfl HLS.out ?_)
          | (refine wpList_load_blkG rfl 32 _ rfl (w1.heap.size + 1) rfl 32 L2 _ AS.out.1.b Try.underlying32 rfl PK.out.s2 ?_)
          | (go_at_call 14; refine (HE.out _ AS.out.2.lies AS.out.1.lb).mono ?_; rintro e w8 ⟨rfl, hb8⟩; have ast := (⟨AS.out.1.below hb8, AS.out.2.below hb8⟩ : St HS W R sa ma mb L1 L2 w1.heap.size w8 ∧ Ap w2 w3.heap.size sa2 ma2 sc2 mc2 S w8); clear AS hb8; have AS : Hid (St HS W R sa ma mb L1 L2 w1.heap.size w8 ∧ Ap w2 w3.heap.size sa2 ma2 sc2 mc2 S w8) := ast; clear ast))
        go_ret
        exact ⟨rfl, AS.out.1.low⟩
end Go.Proofs.Ytbjmhpbelkndpaa
