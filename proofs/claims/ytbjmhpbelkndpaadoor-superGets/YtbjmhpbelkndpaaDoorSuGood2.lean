/- What the program asks of a record: sizes, members, marks. -/
import Derived.Test.YtbjmhpbelkndpaaDoorSuGood
namespace Go.Proofs.YtbjmhpbelkndpaaDoor
open Go.RowKit Go.PlainAid
set_option linter.unusedVariables false

theorem zeroMem : ∃ Z : List Value, Z.length = 3 ∧ ∀ w, (zeroValue 64).run Tryd.prog w = .ok (.agg Z.toArray) w := by
  refine ⟨mrow 0 noB noB, rfl, fun w => ?_⟩
  obtain ⟨i, hi, hz⟩ := Option.map_eq_some_iff.1 (show (Tryd.prog.info? 64).map (fun i => i.zero) = some (some (.agg (mrow 0 noB noB).toArray)) by kernel_rfl)
  simp [zeroValue, typeInfo, hi, hz]
def slotF (i : Nat) : Int := if i = 0 then 2 else if i = 1 then 4 else if i = 2 then 8 else 16
theorem slot_any (x : Int) : decide (0 < nOf (fun i => slotF i == x) 4) = (x == 2 || x == 4 || x == 8 || x == 16) := by
  rw [Bool.eq_iff_iff, decide_eq_true_eq, ← exis_pos]
  simp only [Bool.or_eq_true, beq_iff_eq]
  constructor
  · rintro ⟨i, hi, rfl⟩
    rcases (by omega : i = 0 ∨ i = 1 ∨ i = 2 ∨ i = 3) with rfl | rfl | rfl | rfl <;> decide
  · rintro (((rfl | rfl) | rfl) | rfl)
    · exact ⟨0, by decide, rfl⟩
    · exact ⟨1, by decide, rfl⟩
    · exact ⟨2, by decide, rfl⟩
    · exact ⟨3, by decide, rfl⟩
section
variable {R : Rec} {sa ma : Option Addr} {sc mc : Nat} {w : World}
set_option maxRecDepth 20000 in
theorem sgoodSizes_any (w : World) : Calls Tryd.prog 25 #[.agg (supV R sa ma sc mc).toArray] w fun e w' => e = .returned (.bool (gdA R)) ∧ Below w.heap.size w w' := by
  have hB := Below.refl w.heap.size w |>.alloc (Nat.le_refl _) (.cells (supV R sa ma sc mc).toArray 26)
  have hB2 := hB.alloc (by simp) (.cells #[.int .i64 2, .int .i64 4, .int .i64 8, .int .i64 16] 3)
  have hS : ∀ z : World, Sx (z.alloc (.cells #[.int .i64 2, .int .i64 4, .int .i64 8, .int .i64 16] 3)) (some ⟨z.heap.size, 0, none⟩) 4 slotF := fun z => .inr ⟨z.heap.size, 0, rfl, by simp, fun i hi => by
    have h := Blk.new z 3 #[.int .i64 2, .int .i64 4, .int .i64 8, .int .i64 16]
    rw [Nat.zero_add]
    rcases (by omega : i = 0 ∨ i = 1 ∨ i = 2 ∨ i = 3) with rfl | rfl | rfl | rfl
    · exact h.cell rfl
    · exact h.cell rfl
    · exact h.cell rfl
    · exact h.cell rfl⟩
  have h := hS (w.alloc (.cells (supV R sa ma sc mc).toArray 26))
  rw [World.size_alloc] at h
  have hC := slContains_any _ 4 4 slotF R.slots _ (by decide) h
  rw [slot_any] at hC
  clear h
  have HB2 : Hid (Below _ _ _) := hB2
  clear hS hB2
  unfold gdA mst
  generalize (R.slots == 2 || R.slots == 4 || R.slots == 8 || R.slots == 16) = q at *
  unfold supV at *
  cases hg : R.grow <;> rw [hg] at hB HB2 hC <;> simp only [if_true, if_false, Bool.false_eq_true]
  · by_cases h2 : 2 ≤ R.data
    · by_cases h8 : R.data ≤ 8
      · rw [decide_eq_true h2, decide_eq_true h8]
        go_enter Tryd.func25, Tryd.ntmps25
        go_wp2_with (go_at_call 43; refine hC.mono ?_; rintro e w' ⟨rfl, rfl⟩)
        go_ret
        exact ⟨rfl, HB2.out⟩
      · rw [decide_eq_true h2, decide_eq_false h8]
        go_enter Tryd.func25, Tryd.ntmps25
        go_wp2
        go_ret
        exact ⟨rfl, hB⟩
    · rw [decide_eq_false h2]
      go_enter Tryd.func25, Tryd.ntmps25
      go_wp2
      go_ret
      exact ⟨rfl, hB⟩
  · by_cases h2 : 2 ≤ R.data
    · by_cases h8 : R.data ≤ 7
      · rw [decide_eq_true h2, decide_eq_true h8]
        go_enter Tryd.func25, Tryd.ntmps25
        go_wp2_with (go_at_call 43; refine hC.mono ?_; rintro e w' ⟨rfl, rfl⟩)
        go_ret
        exact ⟨rfl, HB2.out⟩
      · rw [decide_eq_true h2, decide_eq_false h8]
        go_enter Tryd.func25, Tryd.ntmps25
        go_wp2
        go_ret
        exact ⟨rfl, hB⟩
    · rw [decide_eq_false h2]
      go_enter Tryd.func25, Tryd.ntmps25
      go_wp2
      go_ret
      exact ⟨rfl, hB⟩
set_option maxRecDepth 20000 in
set_option maxHeartbeats 400000 in
theorem sbuilding_any (hn : R.nm ≤ 100) (hL : Lies w R sa ma) : Calls Tryd.prog 44 #[.agg (supV R sa ma sc mc).toArray] w fun e w' => e = .returned (.int .i64 ((bld R R.nm : Nat) : Int)) ∧ Below w.heap.size w w' := by
  have hB : Hid (Below _ _ _) := Below.refl w.heap.size w |>.alloc (Nat.le_refl _) (.cells (supV R sa ma sc mc).toArray 26)
  obtain ⟨Z, hZl, hZ⟩ := zeroMem
  have HZ : Hid (Z.length = 3) := hZl
  have HL : Hid (Lies w R sa ma) := hL
  clear hZl hL
  unfold supV at *
  go_enter Tryd.func44, Tryd.ntmps44
  go_wp2
  go_loopw [3, 9] (fun n i wr => ∃ k : Nat, k ≤ R.nm ∧ i = .int .i64 (k : Int) ∧ n = .int .i64 ((bld R k : Nat) : Int) ∧ Hid (Below w.heap.size w wr)) (fun _ i _ => R.nm - (intOf i).toNat)
  case atStart => exact ⟨0, Nat.zero_le _, rfl, rfl, hB.out⟩
  case round =>
    clear hB
    obtain ⟨k, hk, rfl, rfl, hb⟩ := hrel
    by_cases hlt : k < R.nm
    · have hk' : (k : Int) < (R.nm : Int) := by omega
      obtain ⟨b, o, rfl, hr⟩ := HL.out.2.at hb.out k hlt
      have HR : Hid (wr.rangeAt b (o + k * 3) _) := hr
      have hx : Hid (Below _ _ _) := hb.out.trans ((Below.boxed wr 64 Z (mrow (R.st k) (R.top k) (R.log k))).mono hb.out.size)
      have c0 := (Blk.boxed wr 64 Z (mrow (R.st k) (R.top k) (R.log k))).cell (i := 0) rfl
      have hbn := nOf_le (fun i => R.st i == 3) k
      have hbl : bld R (k + 1) = bld R k + (if R.st k == 3 then 1 else 0) := rfl
      have hbk : bld R k ≤ 100 := by unfold bld; omega
      clear hr hb hbn
      by_cases h3 : R.st k = 3
      · have h3' : (R.st k == 3) = true := by simpa using h3
        rw [h3', if_pos rfl] at hbl
        have HB : Hid _ := hbl
        clear hbl h3
        go_wp2_with (first
          | (refine wpList_load_mid rfl 64 _ rfl b (o + k * 3) rfl _ _ HR.out Tryd.underlying64 rfl Tryd.size64 ?_)
          | (refine wpList_store_blk rfl 64 _ _ rfl wr.heap.size Z (mrow (R.st k) (R.top k) (R.log k)) rfl rfl 64 (Blk.box _ _ _) Tryd.size64 (by rw [HZ.out]; rfl) (mrow_one _ _ _) ?_))
        go_roundw
        case rel => exact ⟨k + 1, by omega, by go_num, by rw [HB.out]; go_num, hx.out⟩
        case measure => simp [intOf]; omega
      · have h3' : (R.st k == 3) = false := by simpa using h3
        rw [h3', if_neg (by decide), Nat.add_zero] at hbl
        have HB : Hid _ := hbl
        clear hbl
        go_wp2_with (first
          | (refine wpList_load_mid rfl 64 _ rfl b (o + k * 3) rfl _ _ HR.out Tryd.underlying64 rfl Tryd.size64 ?_)
          | (refine wpList_store_blk rfl 64 _ _ rfl wr.heap.size Z (mrow (R.st k) (R.top k) (R.log k)) rfl rfl 64 (Blk.box _ _ _) Tryd.size64 (by rw [HZ.out]; rfl) (mrow_one _ _ _) ?_))
        go_roundw
        case rel => exact ⟨k + 1, by omega, by go_num, by rw [HB.out]; rfl, hx.out⟩
        case measure => simp [intOf]; omega
    · obtain rfl : k = R.nm := by omega
      have hk' : ¬ (R.nm : Int) < (R.nm : Int) := by omega
      go_wp2
      go_ret
      exact ⟨rfl, hb.out⟩
set_option maxRecDepth 20000 in
set_option maxHeartbeats 400000 in
theorem sgoodMembers_any (hn : R.nm ≤ 100) (hL : Lies w R sa ma) : Calls Tryd.prog 26 #[.agg (supV R sa ma sc mc).toArray] w fun e w' => e = .returned (.bool (gdB R)) ∧ Below w.heap.size w w' := by
  have hB : Hid (Below _ _ _) := Below.refl w.heap.size w |>.alloc (Nat.le_refl _) (.cells (supV R sa ma sc mc).toArray 26)
  have hK : Hid (Blk _ w.heap.size 26 (supV R sa ma sc mc)) := Blk.box w 26 (supV R sa ma sc mc)
  obtain ⟨Z, hZl, hZ⟩ := zeroMem
  have HZ : Hid (Z.length = 3) := hZl
  have HL : Hid (Lies w R sa ma) := hL
  have HU : Hid (∀ wr, Below w.heap.size w wr → Calls Tryd.prog 44 #[.agg (supV R sa ma sc mc).toArray] wr fun e w' => e = .returned (.int .i64 ((bld R R.nm : Nat) : Int)) ∧ Below wr.heap.size wr w') := fun wr hb => sbuilding_any hn (hL.below hb)
  clear hZl hL
  unfold gdB
  by_cases h1 : 1 ≤ R.nm
  · by_cases h12 : R.nm ≤ 12
    · rw [decide_eq_true h1, decide_eq_true h12, Bool.true_and, Bool.true_and]
      have h1' : ¬ (R.nm : Int) < 1 := by omega
      have h12' : ¬ (12 : Int) < (R.nm : Int) := by omega
      obtain ⟨L, hLL⟩ : ∃ L, supV R sa ma sc mc = L := ⟨_, rfl⟩
      have c8 : L[8]? = some (.slice ma R.nm mc) := by rw [← hLL]; rfl
      have hl9 : L.length = 9 := by rw [← hLL]; rfl
      have HL9 : Hid ((Tryd.prog.info? 26).map (·.size) = some L.length) := by rw [hl9]; exact Tryd.size26
      rw [hLL] at hB hK HU ⊢
      have c8' := hK.out.cell c8
      clear hLL h1 h12 c8 hl9
      go_enter Tryd.func26, Tryd.ntmps26
      go_wp2
      clear c8'
      go_loopw [18] (fun i wr => ∃ k : Nat, k ≤ R.nm ∧ i = .int .i64 (k : Int) ∧ Hid (∀ j, j < k → (R.top j).size = 32 ∧ (R.log j).size = 32) ∧ Hid (Below w.heap.size w wr) ∧ Hid (Blk wr w.heap.size 26 L)) (fun i _ => R.nm - (intOf i).toNat)
      case atStart => exact ⟨0, Nat.zero_le _, rfl, fun j hj => by omega, hB.out, hK.out⟩
      case round =>
        clear hB hK
        obtain ⟨k, hk, rfl, ht, hb, hbx⟩ := hrel
        by_cases hlt : k < R.nm
        · have hk' : (k : Int) < (R.nm : Int) := by omega
          obtain ⟨b, o, rfl, hr⟩ := HL.out.2.at hb.out k hlt
          have HR : Hid (wr.rangeAt b (o + k * 3) _) := hr
          have hx : Hid (Below _ _ _) := hb.out.trans ((Below.boxed wr 64 Z (mrow (R.st k) (R.top k) (R.log k))).mono hb.out.size)
          have hxk : Hid (Blk _ w.heap.size 26 L) := hbx.out.below (Below.boxed wr 64 Z (mrow (R.st k) (R.top k) (R.log k))) hbx.out.lt
          have c1 := (Blk.boxed wr 64 Z (mrow (R.st k) (R.top k) (R.log k))).cell (i := 1) rfl
          have c2 := (Blk.boxed wr 64 Z (mrow (R.st k) (R.top k) (R.log k))).cell (i := 2) rfl
          clear hr hb hbx
          by_cases ht1 : (R.top k).size = 32
          · by_cases ht2 : (R.log k).size = 32
            · have t1 : ((R.top k).size : Int) = 32 := by omega
              have t2 : ((R.log k).size : Int) = 32 := by omega
              have HT : Hid ((R.top k).size = 32 ∧ (R.log k).size = 32) := ⟨ht1, ht2⟩
              clear ht1 ht2
              go_wp2_with (first
                | (refine wpList_load_mid rfl 64 _ rfl b (o + k * 3) rfl _ _ HR.out Tryd.underlying64 rfl Tryd.size64 ?_)
                | (refine wpList_store_blk rfl 64 _ _ rfl wr.heap.size Z (mrow (R.st k) (R.top k) (R.log k)) rfl rfl 64 (Blk.box _ _ _) Tryd.size64 (by rw [HZ.out]; rfl) (mrow_one _ _ _) ?_))
              go_roundw
              case rel => exact ⟨k + 1, by omega, by go_num, fun j hj => by
                by_cases e : j = k
                · rw [e]; exact HT.out
                · exact ht.out j (by omega), hx.out, hxk.out⟩
              case measure => simp [intOf]; omega
            · have t1 : ((R.top k).size : Int) = 32 := by omega
              have t2 : ¬ ((R.log k).size : Int) = 32 := by omega
              have t3 : (((R.log k).size : Int) != 32) = true := by simpa using t2
              have hno : ¬ gdT R := fun h => ht2 (h k hlt).2
              have HN : Hid ((decide (gdT R) && decide (bld R R.nm ≤ 1)) = false) := by rw [decide_eq_false hno]; rfl
              clear ht1 ht2 t2 hno
              go_wp2_with (first
                | (refine wpList_load_mid rfl 64 _ rfl b (o + k * 3) rfl _ _ HR.out Tryd.underlying64 rfl Tryd.size64 ?_)
                | (refine wpList_store_blk rfl 64 _ _ rfl wr.heap.size Z (mrow (R.st k) (R.top k) (R.log k)) rfl rfl 64 (Blk.box _ _ _) Tryd.size64 (by rw [HZ.out]; rfl) (mrow_one _ _ _) ?_))
              go_ret
              exact ⟨by rw [HN.out]; rfl, hx.out⟩
          · have t1 : ¬ ((R.top k).size : Int) = 32 := by omega
            have t3 : (((R.top k).size : Int) != 32) = true := by simpa using t1
            have hno : ¬ gdT R := fun h => ht1 (h k hlt).1
            have HN : Hid ((decide (gdT R) && decide (bld R R.nm ≤ 1)) = false) := by rw [decide_eq_false hno]; rfl
            clear ht1 t1 hno
            go_wp2_with (first
              | (refine wpList_load_mid rfl 64 _ rfl b (o + k * 3) rfl _ _ HR.out Tryd.underlying64 rfl Tryd.size64 ?_)
              | (refine wpList_store_blk rfl 64 _ _ rfl wr.heap.size Z (mrow (R.st k) (R.top k) (R.log k)) rfl rfl 64 (Blk.box _ _ _) Tryd.size64 (by rw [HZ.out]; rfl) (mrow_one _ _ _) ?_))
            go_ret
            exact ⟨by rw [HN.out]; rfl, hx.out⟩
        · obtain rfl : k = R.nm := by omega
          have hk' : ¬ (R.nm : Int) < (R.nm : Int) := by omega
          have hyes : gdT R := ht.out
          have hu := HU.out _ hb.out
          have HN : Hid ((decide (gdT R) && decide (bld R R.nm ≤ 1)) = decide ((bld R R.nm : Int) ≤ 1)) := by rw [decide_eq_true hyes, Bool.true_and]; exact decide_eq_decide.2 (by omega)
          clear hyes
          go_wp2_with (first
            | (refine wpList_load_blk rfl 26 _ rfl w.heap.size rfl 26 L _ hbx.out Tryd.underlying26 rfl HL9.out ?_)
            | (go_at_call 44; refine hu.mono ?_; rintro e w' ⟨rfl, hb2⟩))
          go_ret
          exact ⟨by rw [HN.out]; rfl, hb.out.trans (hb2.mono hb.out.size)⟩
    · rw [decide_eq_true h1, decide_eq_false h12]
      have h1' : ¬ (R.nm : Int) < 1 := by omega
      have h12' : (12 : Int) < (R.nm : Int) := by omega
      unfold supV at *
      go_enter Tryd.func26, Tryd.ntmps26
      go_wp2
      go_ret
      exact ⟨rfl, hB.out⟩
  · rw [decide_eq_false h1]
    have h1' : (R.nm : Int) < 1 := by omega
    unfold supV at *
    go_enter Tryd.func26, Tryd.ntmps26
    go_wp2
    go_ret
    exact ⟨rfl, hB.out⟩
end
end Go.Proofs.YtbjmhpbelkndpaaDoor
