/- Is a record the document's? Where its numbers are. -/
import Derived.Test.YtbjmhpbelkndpaaDoorSuSame0
namespace Go.Proofs.YtbjmhpbelkndpaaDoor
open Go.RowKit Go.PlainAid
set_option linter.unusedVariables false
set_option maxRecDepth 20000
section
variable {R S : Rec} {sa ma sb mb : Option Addr} {sc mc sd md : Nat} {w : World}
set_option maxRecDepth 20000 in
set_option maxHeartbeats 4000000 in
theorem same_yes (q0 : R.count = S.count) (q1 : R.epoch = S.epoch) (q2 : R.data = S.data) (q3 : R.slots = S.slots) (q4 : R.mark = S.mark) (q5 : R.built = S.built) (q6 : R.grow = S.grow) (q7 : R.ns = S.ns) (q8 : R.nm = S.nm) (hn : R.ns ≤ 100) (hm : R.nm ≤ 100) (hA : Lies w R sa ma) (hB : Lies w S sb mb) : Calls Tryd.prog 7 #[.agg (supV R sa ma sc mc).toArray, .agg (supV S sb mb sd md).toArray] w fun e w' => e = .returned (.bool (sameQ R S)) ∧ Below w.heap.size w w' := by
  have hLow : Hid (Below w.heap.size w ((w.alloc (.cells (supV R sa ma sc mc).toArray 26)).alloc (.cells (supV S sb mb sd md).toArray 32))) := (Below.refl w.heap.size w |>.alloc (Nat.le_refl _) (.cells (supV R sa ma sc mc).toArray 26)).alloc (by simp) (.cells (supV S sb mb sd md).toArray 32)
  have hKA := (Blk.box w 26 (supV R sa ma sc mc)).alloc (.cells (supV S sb mb sd md).toArray 32)
  have hKB := Blk.box (w.alloc (.cells (supV R sa ma sc mc).toArray 26)) 32 (supV S sb mb sd md)
  rw [World.size_alloc] at hKB
  obtain ⟨HS, hHS⟩ : ∃ HS, w.heap.size = HS := ⟨_, rfl⟩
  rw [hHS] at hLow hKA hKB ⊢
  obtain ⟨LA, hLA⟩ : ∃ L, supV R sa ma sc mc = L := ⟨_, rfl⟩
  obtain ⟨LB, hLB⟩ : ∃ L, supV S sb mb sd md = L := ⟨_, rfl⟩
  have a0 : LA[0]? = some (.int .u64 R.count) := by rw [← hLA]; rfl
  have b0 : LB[0]? = some (.int .u64 S.count) := by rw [← hLB]; rfl
  have a1 : LA[1]? = some (.int .u64 R.epoch) := by rw [← hLA]; rfl
  have b1 : LB[1]? = some (.int .u64 S.epoch) := by rw [← hLB]; rfl
  have a2 : LA[2]? = some (.int .i64 R.data) := by rw [← hLA]; rfl
  have b2 : LB[2]? = some (.int .i64 S.data) := by rw [← hLB]; rfl
  have a3 : LA[3]? = some (.int .i64 R.slots) := by rw [← hLA]; rfl
  have b3 : LB[3]? = some (.int .i64 S.slots) := by rw [← hLB]; rfl
  have a4 : LA[4]? = some (.int .i64 R.mark) := by rw [← hLA]; rfl
  have b4 : LB[4]? = some (.int .i64 S.mark) := by rw [← hLB]; rfl
  have a5 : LA[5]? = some (.int .i64 R.built) := by rw [← hLA]; rfl
  have b5 : LB[5]? = some (.int .i64 S.built) := by rw [← hLB]; rfl
  have a6 : LA[6]? = some (.bool R.grow) := by rw [← hLA]; rfl
  have b6 : LB[6]? = some (.bool S.grow) := by rw [← hLB]; rfl
  have a7 : LA[7]? = some (.slice sa R.ns sc) := by rw [← hLA]; rfl
  have b7 : LB[7]? = some (.slice sb S.ns sd) := by rw [← hLB]; rfl
  have a8 : LA[8]? = some (.slice ma R.nm mc) := by rw [← hLA]; rfl
  have b8 : LB[8]? = some (.slice mb S.nm md) := by rw [← hLB]; rfl
  rw [hLA, hLB] at hLow hKA hKB ⊢
  obtain ⟨W2, hW2⟩ : ∃ W2, (w.alloc (.cells LA.toArray 26)).alloc (.cells LB.toArray 32) = W2 := ⟨_, rfl⟩
  rw [hW2] at hLow hKA hKB
  have d0 := hKA.cell a0
  have e0 := hKB.cell b0
  have d1 := hKA.cell a1
  have e1 := hKB.cell b1
  have d2 := hKA.cell a2
  have e2 := hKB.cell b2
  have d3 := hKA.cell a3
  have e3 := hKB.cell b3
  have d4 := hKA.cell a4
  have e4 := hKB.cell b4
  have d5 := hKA.cell a5
  have e5 := hKB.cell b5
  have d6 := hKA.cell a6
  have e6 := hKB.cell b6
  have d7 := hKA.cell a7
  have e7 := hKB.cell b7
  have d8 := hKA.cell a8
  have e8 := hKB.cell b8
  have HC : Hid (∀ z : World, Blk z HS 26 LA → Blk z (HS + 1) 32 LB → z.cell? ⟨HS, 7, none⟩ = some (.slice sa R.ns sc) ∧ z.cell? ⟨HS + 1, 7, none⟩ = some (.slice sb S.ns sd) ∧ z.cell? ⟨HS, 8, none⟩ = some (.slice ma R.nm mc) ∧ z.cell? ⟨HS + 1, 8, none⟩ = some (.slice mb S.nm md)) := fun z h1 h2 => ⟨h1.cell a7, h2.cell b7, h1.cell a8, h2.cell b8⟩
  have HA : Hid (Lies w R sa ma) := hA
  have HB : Hid (Lies w S sb mb) := hB
  have HKA : Hid (Blk W2 HS 26 LA) := hKA
  have HKB : Hid (Blk W2 (HS + 1) 32 LB) := hKB
  clear hA hB hKA hKB hLA hLB a0 b0 a1 b1 a2 b2 a3 b3 a4 b4 a5 b5 a6 b6 a7 b7 a8 b8
  rw [← q0] at e0
  rw [← q1] at e1
  rw [← q2] at e2
  rw [← q3] at e3
  rw [← q4] at e4
  rw [← q5] at e5
  rw [← q6] at e6
  rw [← q7] at e7
  rw [← q8] at e8
  rw [← q7, ← q8] at HC
  have Q0 : Hid (R.count = S.count) := q0
  have Q1 : Hid (R.epoch = S.epoch) := q1
  have Q2 : Hid (R.data = S.data) := q2
  have Q3 : Hid (R.slots = S.slots) := q3
  have Q4 : Hid (R.mark = S.mark) := q4
  have Q5 : Hid (R.built = S.built) := q5
  have Q6 : Hid (R.grow = S.grow) := q6
  have Q7 : Hid (R.ns = S.ns) := q7
  have Q8 : Hid (R.nm = S.nm) := q8
  clear q0 q1 q2 q3 q4 q5 q6 q7 q8
  go_enter Tryd.func7, Tryd.ntmps7
  go_wp2
  clear hW2 d0 d1 d2 d3 d4 d5 d6 d7 d8 e0 e1 e2 e3 e4 e5 e6 e7 e8
  go_loopw [77] (fun i wr => ∃ k : Nat, k ≤ R.ns ∧ i = .int .i64 (k : Int) ∧ Hid (∀ j, j < k → R.seat j = S.seat j) ∧ Hid (Below HS w wr) ∧ Hid (Blk wr HS 26 LA) ∧ Hid (Blk wr (HS + 1) 32 LB)) (fun i _ => R.ns - (intOf i).toNat)
  case atStart => exact ⟨0, Nat.zero_le _, rfl, fun j hj => by omega, hLow.out, HKA.out, HKB.out⟩
  case round =>
    clear hLow HKA HKB
    obtain ⟨k, hk, rfl, hse, hlow, hka, hkb⟩ := hrel
    obtain ⟨c7, f7, c8, f8⟩ := HC.out _ hka.out hkb.out
    by_cases hlt : k < R.ns
    · have hk' : (k : Int) < (R.ns : Int) := by omega
      have hk0 : (0 : Int) ≤ (k : Int) := by omega
      obtain ⟨b, o, rfl, hr⟩ := HA.out.1.at (by rw [hHS]; exact hlow.out) k hlt
      obtain ⟨b2, o2, rfl, hr2⟩ := HB.out.1.at (by rw [hHS]; exact hlow.out) k (by rw [← Q7.out]; exact hlt)
      have L2 : Hid (∀ n, Below HS w (wr.drewN n)) := fun n => ⟨hlow.out.os, hlow.out.tape, hlow.out.output, hlow.out.size, hlow.out.block⟩
      have K2 : Hid (∀ n, Blk (wr.drewN n) HS 26 LA) := fun n => hka.out.drewN n
      have J2 : Hid (∀ n, Blk (wr.drewN n) (HS + 1) 32 LB) := fun n => hkb.out.drewN n
      by_cases s1 : R.seat k = S.seat k
      · have S1 : Hid (R.seat k = S.seat k) := s1
        rw [← s1] at hr2
        clear s1
        go_wp2
        go_quiet (fail)
        go_wp2
        go_roundw
        case rel => exact ⟨k + 1, by omega, by go_num, fun j hj => by
          by_cases e : j = k
          · rw [e]; exact S1.out
          · exact hse.out j (by omega), L2.out _, K2.out _, J2.out _⟩
        case measure => simp [intOf]; omega
      · have s1b : (R.seat k != S.seat k) = true := by simpa using s1
        have HX : Hid (sameQ R S = false) := sameQ_no (fun h => s1 (h.seat k hlt))
        clear s1
        go_wp2
        go_quiet (fail)
        go_wp2
        go_ret
        exact ⟨by rw [HX.out]; rfl, L2.out _⟩
    · obtain rfl : k = R.ns := by omega
      have hk' : ¬ (R.ns : Int) < (R.ns : Int) := by omega
      go_wp2
      clear c7 f7 c8 f8 hk' hlt hk
      obtain ⟨Z, hZl, hZ⟩ := zeroMem
      have HZ : Hid (Z.length = 3) := hZl
      obtain ⟨Y, hYl, hY⟩ := zeroRMem
      have HY : Hid (Y.length = 3) := hYl
      clear hZl hYl
      obtain ⟨ws, hws⟩ : ∃ ws, ws = wr := ⟨_, rfl⟩
      subst hws
      go_loopw [95] (fun i wr => ∃ k : Nat, k ≤ R.nm ∧ i = .int .i64 (k : Int) ∧ Hid (∀ j, j < k → R.st j = S.st j ∧ R.top j = S.top j ∧ R.log j = S.log j) ∧ Hid (Below HS w wr) ∧ Hid (Blk wr HS 26 LA) ∧ Hid (Blk wr (HS + 1) 32 LB)) (fun i _ => R.nm - (intOf i).toNat)
      case atStart => exact ⟨0, Nat.zero_le _, rfl, fun j hj => by omega, hlow.out, hka.out, hkb.out⟩
      case round =>
        clear hlow hka hkb
        obtain ⟨k, hk, rfl, hme, hlow, hka, hkb⟩ := hrel
        by_cases hlt : k < R.nm
        · have hk' : (k : Int) < (R.nm : Int) := by omega
          have hk0 : (0 : Int) ≤ (k : Int) := by omega
          obtain ⟨b, o, rfl, hr⟩ := HA.out.2.at (by rw [hHS]; exact hlow.out) k hlt
          obtain ⟨wx, hwx⟩ : ∃ wx, (wr.alloc (.cells Z.toArray 64)).setRow wr.heap.size (mrow (R.st k) (R.top k) (R.log k)).toArray = wx := ⟨_, rfl⟩
          have hxx := Below.boxed wr 64 Z (mrow (R.st k) (R.top k) (R.log k))
          have hxb := Blk.boxed wr 64 Z (mrow (R.st k) (R.top k) (R.log k))
          rw [hwx] at hxx hxb
          have lx : Below HS w wx := hlow.out.trans (hxx.mono (by have := hlow.out.size; omega))
          obtain ⟨b2, o2, rfl, hr2⟩ := HB.out.2.at (by rw [hHS]; exact lx) k (by rw [← Q8.out]; exact hlt)
          obtain ⟨wy, hwy⟩ : ∃ wy, (wx.alloc (.cells Y.toArray 49)).setRow wx.heap.size (mrow (S.st k) (S.top k) (S.log k)).toArray = wy := ⟨_, rfl⟩
          have hyy := Below.boxed wx 49 Y (mrow (S.st k) (S.top k) (S.log k))
          have hyb := Blk.boxed wx 49 Y (mrow (S.st k) (S.top k) (S.log k))
          rw [hwy] at hyy hyb
          obtain ⟨c7, f7, c8, f8⟩ := HC.out wx (hka.out.below hxx hka.out.lt) (hkb.out.below hxx hkb.out.lt)
          have HR : Hid (wr.rangeAt b (o + k * 3) (mrow (R.st k) (R.top k) (R.log k))) := hr
          have HR2 : Hid (wx.rangeAt b2 (o2 + k * 3) (mrow (S.st k) (S.top k) (S.log k))) := hr2
          have hxb2 := hxb.below hyy hxb.lt
          have p0 := hxb2.cell (i := 0) rfl
          have p1 := hxb2.cell (i := 1) rfl
          have p2 := hxb2.cell (i := 2) rfl
          have r0 := hyb.cell (i := 0) rfl
          have r1 := hyb.cell (i := 1) rfl
          have r2 := hyb.cell (i := 2) rfl
          have L2 : Hid (Below HS w wy) := lx.trans (hyy.mono (by have := lx.size; omega))
          have K2 : Hid (Blk wy HS 26 LA) := (hka.out.below hxx hka.out.lt).below hyy (hka.out.below hxx hka.out.lt).lt
          have J2 : Hid (Blk wy (HS + 1) 32 LB) := (hkb.out.below hxx hkb.out.lt).below hyy (hkb.out.below hxx hkb.out.lt).lt
          clear hr hr2 hxx hxb hyy hyb hxb2 lx c7 f7 c8 hka hkb hlow
          by_cases m0 : R.st k = S.st k
          · rw [← m0] at r0
            have M0 : Hid (R.st k = S.st k) := m0
            clear m0
            by_cases m1 : R.top k = S.top k
            · rw [← m1] at r1
              have M1 : Hid (R.top k = S.top k) := m1
              clear m1
              by_cases m2 : R.log k = S.log k
              · rw [← m2] at r2
                have M2 : Hid (R.log k = S.log k) := m2
                clear m2
                go_wp2_with (first
                  | (refine wpList_load_mid rfl 64 _ rfl b (o + k * 3) rfl _ _ HR.out Tryd.underlying64 rfl Tryd.size64 ?_)
                  | (refine wpList_store_blk rfl 64 _ _ rfl wr.heap.size Z (mrow (R.st k) (R.top k) (R.log k)) rfl rfl 64 (Blk.box _ _ _) Tryd.size64 (by rw [HZ.out]; rfl) (mrow_one _ _ _) ?_; rw [hwx]; clear hwx)
                  | (refine wpList_load_mid rfl 49 _ rfl b2 (o2 + k * 3) rfl _ _ HR2.out Tryd.underlying49 rfl Tryd.size49 ?_)
                  | (refine wpList_store_blk rfl 49 _ _ rfl wx.heap.size Y (mrow (S.st k) (S.top k) (S.log k)) rfl rfl 49 (Blk.box _ _ _) Tryd.size49 (by rw [HY.out]; rfl) (mrow_one _ _ _) ?_; rw [hwy]; clear hwy))
                go_roundw
                case rel => exact ⟨k + 1, by omega, by go_num, fun j hj => by
                  by_cases e : j = k
                  · rw [e]; exact ⟨M0.out, M1.out, M2.out⟩
                  · exact hme.out j (by omega), L2.out, K2.out, J2.out⟩
                case measure => simp [intOf]; omega
              · have tb : ((R.log k).toList == (S.log k).toList) = false := by rw [teqS]; exact decide_eq_false m2
                have tc : ((R.log k).toList != (S.log k).toList) = true := by simp [bne, tb]
                have HX : Hid (sameQ R S = false) := sameQ_no (fun h => m2 (h.log k hlt))
                clear m2
                go_wp2_with (first
                  | (refine wpList_load_mid rfl 64 _ rfl b (o + k * 3) rfl _ _ HR.out Tryd.underlying64 rfl Tryd.size64 ?_)
                  | (refine wpList_store_blk rfl 64 _ _ rfl wr.heap.size Z (mrow (R.st k) (R.top k) (R.log k)) rfl rfl 64 (Blk.box _ _ _) Tryd.size64 (by rw [HZ.out]; rfl) (mrow_one _ _ _) ?_; rw [hwx]; clear hwx)
                  | (refine wpList_load_mid rfl 49 _ rfl b2 (o2 + k * 3) rfl _ _ HR2.out Tryd.underlying49 rfl Tryd.size49 ?_)
                  | (refine wpList_store_blk rfl 49 _ _ rfl wx.heap.size Y (mrow (S.st k) (S.top k) (S.log k)) rfl rfl 49 (Blk.box _ _ _) Tryd.size49 (by rw [HY.out]; rfl) (mrow_one _ _ _) ?_; rw [hwy]; clear hwy))
                go_ret
                exact ⟨by rw [HX.out]; rfl, L2.out⟩
            · have tb : ((R.top k).toList == (S.top k).toList) = false := by rw [teqS]; exact decide_eq_false m1
              have tc : ((R.top k).toList != (S.top k).toList) = true := by simp [bne, tb]
              have HX : Hid (sameQ R S = false) := sameQ_no (fun h => m1 (h.top k hlt))
              clear m1
              go_wp2_with (first
                | (refine wpList_load_mid rfl 64 _ rfl b (o + k * 3) rfl _ _ HR.out Tryd.underlying64 rfl Tryd.size64 ?_)
                | (refine wpList_store_blk rfl 64 _ _ rfl wr.heap.size Z (mrow (R.st k) (R.top k) (R.log k)) rfl rfl 64 (Blk.box _ _ _) Tryd.size64 (by rw [HZ.out]; rfl) (mrow_one _ _ _) ?_; rw [hwx]; clear hwx)
                | (refine wpList_load_mid rfl 49 _ rfl b2 (o2 + k * 3) rfl _ _ HR2.out Tryd.underlying49 rfl Tryd.size49 ?_)
                | (refine wpList_store_blk rfl 49 _ _ rfl wx.heap.size Y (mrow (S.st k) (S.top k) (S.log k)) rfl rfl 49 (Blk.box _ _ _) Tryd.size49 (by rw [HY.out]; rfl) (mrow_one _ _ _) ?_; rw [hwy]; clear hwy))
              go_ret
              exact ⟨by rw [HX.out]; rfl, L2.out⟩
          · have tb : (R.st k != S.st k) = true := by simpa using m0
            have HX : Hid (sameQ R S = false) := sameQ_no (fun h => m0 (h.st k hlt))
            clear m0
            go_wp2_with (first
              | (refine wpList_load_mid rfl 64 _ rfl b (o + k * 3) rfl _ _ HR.out Tryd.underlying64 rfl Tryd.size64 ?_)
              | (refine wpList_store_blk rfl 64 _ _ rfl wr.heap.size Z (mrow (R.st k) (R.top k) (R.log k)) rfl rfl 64 (Blk.box _ _ _) Tryd.size64 (by rw [HZ.out]; rfl) (mrow_one _ _ _) ?_; rw [hwx]; clear hwx)
              | (refine wpList_load_mid rfl 49 _ rfl b2 (o2 + k * 3) rfl _ _ HR2.out Tryd.underlying49 rfl Tryd.size49 ?_)
              | (refine wpList_store_blk rfl 49 _ _ rfl wx.heap.size Y (mrow (S.st k) (S.top k) (S.log k)) rfl rfl 49 (Blk.box _ _ _) Tryd.size49 (by rw [HY.out]; rfl) (mrow_one _ _ _) ?_; rw [hwy]; clear hwy))
            go_ret
            exact ⟨by rw [HX.out]; rfl, L2.out⟩
        · obtain rfl : k = R.nm := by omega
          have hk' : ¬ (R.nm : Int) < (R.nm : Int) := by omega
          have HX : Hid (sameQ R S = true) := sameQ_yes ⟨Q0.out, Q1.out, Q2.out, Q3.out, Q4.out, Q5.out, Q6.out, Q7.out, hse.out, Q8.out, fun i hi => (hme.out i hi).1, fun i hi => (hme.out i hi).2.1, fun i hi => (hme.out i hi).2.2⟩
          go_wp2
          go_ret
          exact ⟨by rw [HX.out]; rfl, hlow.out⟩
end
end Go.Proofs.YtbjmhpbelkndpaaDoor
