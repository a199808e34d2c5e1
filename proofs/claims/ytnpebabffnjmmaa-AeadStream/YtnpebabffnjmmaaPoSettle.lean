/- What settling answers: the remainder of a number by the modulus, carried. -/
import Derived.Test.YtnpebabffnjmmaaPoTimes
namespace Go.Proofs.Ytnpebabffnjmmaa
open Go.RowKit Go.PlainAid
set_option linter.unusedVariables false

set_option maxRecDepth 20000 in
theorem dg_mod (X i : Nat) (hi : i < 5) : dg 26 (X % 2 ^ 130) i = dg 26 X i := by
  apply Nat.eq_of_testBit_eq
  intro b
  rw [dg_test, dg_test, Nat.testBit_mod_two_pow]
  by_cases h : b < 26
  · rw [show decide (26 * i + b < 130) = true by simp; omega]; simp
  · simp [h]
set_option maxRecDepth 20000 in
theorem V5_first (N x : Nat) (h : ∀ i, i < 5 → True) : V5 (fun i => if i = 0 then dg 26 N i + x else dg 26 N i) = N % 2 ^ 130 + x := by
  rw [V5_set _ 0 x (by omega), V5, num_dg]; simp

set_option maxRecDepth 20000 in
set_option maxHeartbeats 1000000 in
theorem settled_any (S : Nat → Nat) (hS : ∀ i, i < 5 → S i ≤ 1801439850948198400) (w : World) :
    Calls Try.prog 43 #[.agg (nr .u64 5 S).toArray] w fun e w' => e = .returned (.agg (nr .u64 5 (dg 26 (V5 S % pP))).toArray) ∧ Below w.heap.size w w' := by
  have hzr := zero74_run
  obtain ⟨Z, hZ⟩ : ∃ Z, nr .u64 5 (fun _ => 0) = Z := ⟨_, rfl⟩
  obtain ⟨F, hF⟩ : ∃ F, nr .u64 5 (fun i => if i = 0 then 5 else 0) = F := ⟨_, rfl⟩
  obtain ⟨V, hV⟩ : ∃ V, V5 S = V := ⟨_, rfl⟩
  have hVb : V < 2 ^ 170 := by
    have := V5_lt S 1801439850948198400 hS
    rw [hV] at this
    exact Nat.lt_of_le_of_lt this (by decide)
  -- the number ahead of the last choice
  obtain ⟨o1, ho1⟩ : ∃ o1, V / 2 ^ 130 = o1 := ⟨_, rfl⟩
  have ho1b : o1 < 2 ^ 40 := by
    rw [← ho1, Nat.div_lt_iff_lt_mul (by decide), ← Nat.pow_add]; exact hVb
  obtain ⟨T2, hT2⟩ : ∃ T2 : Nat → Nat, (fun i => if i = 0 then dg 26 V i + o1 * 5 else dg 26 V i) = T2 := ⟨_, rfl⟩
  have hT2b : ∀ i, i < 5 → T2 i < 9007199254740992 := by
    intro i hi
    have h1 := dg_lt 26 V i
    rw [← hT2]
    show (if i = 0 then dg 26 V i + o1 * 5 else dg 26 V i) < _
    split <;> omega
  have hV2 : V5 T2 = V % 2 ^ 130 + V / 2 ^ 130 * 5 := by
    rw [← hT2, V5_first V _ (fun _ _ => trivial), ho1]
  obtain ⟨o2, ho2⟩ : ∃ o2, (V5 T2 + 5) / 2 ^ 130 = o2 := ⟨_, rfl⟩
  have hset := settle V (V5 T2) o2 hV2 hVb ho2.symm
  have hV2b : V5 T2 < 2 ^ 160 := by
    have := V5_lt T2 9007199254740992 (fun i hi => Nat.le_of_lt (hT2b i hi))
    exact Nat.lt_of_le_of_lt this (by decide)
  have ho2b : o2 < 2 ^ 40 := by
    rw [← ho2, Nat.div_lt_iff_lt_mul (by decide), ← Nat.pow_add]
    exact Nat.lt_of_lt_of_le (Nat.add_lt_add_right hV2b 5) (by decide)
  obtain ⟨T3, hT3⟩ : ∃ T3 : Nat → Nat, (fun i => if i = 0 then T2 i + o2 * 5 else T2 i) = T3 := ⟨_, rfl⟩
  have hT3b : ∀ i, i < 5 → T3 i < 9223372036854775808 := by
    intro i hi
    have h1 := hT2b i hi
    rw [← hT3]
    show (if i = 0 then T2 i + o2 * 5 else T2 i) < _
    split <;> omega
  have hV3 : V5 T3 = V5 T2 + o2 * 5 := by rw [← hT3, V5_set _ 0 _ (by omega)]; simp
  have c1 := fun w => carried_any S (fun i hi => Nat.lt_of_le_of_lt (hS i hi) (by decide)) w
  rw [hV, show ov S 5 = o1 from by rw [← ho1, ← hV]; rfl] at c1
  have c2 := fun w => plus_any T2 (fun i => if i = 0 then 5 else 0) (fun i hi => by have := hT2b i hi; show T2 i + (if i = 0 then 5 else 0) < _; split <;> omega) w
  have c3 := fun w => carried_any (fun i => T2 i + (if i = 0 then 5 else 0)) (fun i hi => by have := hT2b i hi; show T2 i + (if i = 0 then 5 else 0) < _; split <;> omega) w
  have hV4 : V5 (fun i => T2 i + (if i = 0 then 5 else 0)) = V5 T2 + 5 := by
    rw [V5_add]; congr 1
  rw [hV4, show ov (fun i => T2 i + (if i = 0 then 5 else 0)) 5 = o2 from by rw [← ho2, ← hV4]; rfl] at c3
  have c4 := fun w => carried_any T3 hT3b w
  have hlast : nr .u64 5 (dg 26 (V5 T3)) = nr .u64 5 (dg 26 (V % pP)) := by
    apply nr_congr
    intro i hi
    rw [← dg_mod (V5 T3) i hi, hV3, hset]
  rw [hlast] at c4
  rw [hF] at c2
  rw [hV]
  -- the rows
  obtain ⟨Y, hY⟩ : ∃ Y, nr .u64 5 S = Y := ⟨_, rfl⟩
  obtain ⟨Y1, hY1⟩ : ∃ Y1, nr .u64 5 (dg 26 V) = Y1 := ⟨_, rfl⟩
  obtain ⟨Y2, hY2⟩ : ∃ Y2, nr .u64 5 T2 = Y2 := ⟨_, rfl⟩
  obtain ⟨Y3, hY3⟩ : ∃ Y3, nr .u64 5 T3 = Y3 := ⟨_, rfl⟩
  obtain ⟨X, hX⟩ : ∃ X, nr .u64 5 (fun i => T2 i + (if i = 0 then 5 else 0)) = X := ⟨_, rfl⟩
  obtain ⟨X1, hX1⟩ : ∃ X1, nr .u64 5 (dg 26 (V5 T2 + 5)) = X1 := ⟨_, rfl⟩
  obtain ⟨U, hU⟩ : ∃ U, nr .u64 5 (dg 26 (V % pP)) = U := ⟨_, rfl⟩
  rw [hY] at c1
  rw [hY1] at c1
  rw [hY2, hX] at c2
  rw [hX, hX1] at c3
  rw [hY3, hU] at c4
  rw [hY, hU]
  rw [hZ] at hzr
  have lY1 : Y1.length = 5 := by rw [← hY1, nr_length]
  have lY : Y.length = 5 := by rw [← hY, nr_length]
  have lY2 : Y2.length = 5 := by rw [← hY2, nr_length]
  have lY3 : Y3.length = 5 := by rw [← hY3, nr_length]
  have lU : U.length = 5 := by rw [← hU, nr_length]
  have lZ : Z.length = 5 := by rw [← hZ, nr_length]
  have oY1 : ∀ v ∈ Y1, v.oneCell' = true := by rw [← hY1]; exact nr_one _ _ _
  have oU : ∀ v ∈ U, v.oneCell' = true := by rw [← hU]; exact nr_one _ _ _
  have hZn : (Z = []) = False := by
    apply eq_false
    intro e
    rw [e] at lZ
    cases lZ
  have hZF : Z.set 0 (.int .u64 5) = F := by
    rw [← hZ, ← hF]; exact nr_set .u64 5 _ 0 5
  have s1 : Y1.set 0 (.int .u64 ((dg 26 V 0 + o1 * 5 : Nat) : Int)) = Y2 := by
    rw [← hY1, nr_set, ← hY2, ← hT2]
    exact nr_congr _ _ _ _ (fun i _ => by
      show (if i = 0 then dg 26 V 0 + o1 * 5 else dg 26 V i) = if i = 0 then dg 26 V i + o1 * 5 else dg 26 V i
      split
      · rename_i h; rw [h]
      · rfl)
  have s2 : Y2.set 0 (.int .u64 ((T2 0 + o2 * 5 : Nat) : Int)) = Y3 := by
    rw [← hY2, nr_set, ← hY3, ← hT3]
    exact nr_congr _ _ _ _ (fun i _ => by
      show (if i = 0 then T2 0 + o2 * 5 else T2 i) = if i = 0 then T2 i + o2 * 5 else T2 i
      split
      · rename_i h; rw [h]
      · rfl)
  have g1 : Y1[0]? = some (.int .u64 ((dg 26 V 0 : Nat) : Int)) := by rw [← hY1]; exact nr_at _ _ _ 0 (by omega)
  have g2 : Y2[0]? = some (.int .u64 ((T2 0 : Nat) : Int)) := by rw [← hY2]; exact nr_at _ _ _ 0 (by omega)
  have b1 := dg_lt 26 V 0
  have b2 := hT2b 0 (by omega)
  clear hZ hF hY hY1 hY2 hY3 hX hX1 hU hT2 hT3 hset hV2 hV3 hV4 hlast hV2b hT2b hT3b hS hVb ho1 ho2 hV
  generalize dg 26 V 0 = x1 at *
  generalize T2 0 = x2 at *
  generalize ov T3 5 = o3 at *
  have p1 : x1 < 67108864 := b1
  have p2 : o1 < 1099511627776 := ho1b
  have p3 : o2 < 1099511627776 := ho2b
  clear b1 ho1b ho2b
  have hA0 : Blk ((w.alloc (.cells Y.toArray 74)).alloc (.cells Z.toArray 74)) w.heap.size 74 Y := (Blk.box w 74 Y).alloc _
  have hB0 : Blk ((w.alloc (.cells Y.toArray 74)).alloc (.cells Z.toArray 74)) (w.heap.size + 1) 74 Z := by
    have := Blk.box (w.alloc (.cells Y.toArray 74)) 74 Z
    simpa using this
  have hl0 : Below w.heap.size w ((w.alloc (.cells Y.toArray 74)).alloc (.cells Z.toArray 74)) := ((Below.refl _ w).alloc (Nat.le_refl _) _).alloc (by simp) _
  go_enter Try.func43, Try.ntmps43
  go_wp2_with (refine wpList_load_blk rfl 74 _ rfl w.heap.size rfl 74 Y _ hA0 Try.underlying74 rfl (by rw [Try.size74, lY]) ?_)
  generalize (w.alloc (.cells Y.toArray 74)).alloc (.cells Z.toArray 74) = w0 at hA0 hB0 hl0 ⊢
  obtain ⟨g, hgd⟩ : ∃ g, w.heap.size = g := ⟨_, rfl⟩
  rw [hgd] at hA0 hB0 hl0 ⊢
  have HG : Hid (w.heap.size = g) := hgd
  clear hgd
  have hg0 : g ≤ w0.heap.size := Nat.le_of_lt hA0.lt
  have HC : Hid (∀ w, Calls Try.prog 61 #[Value.agg Y3.toArray] w fun e w' => e = Ending.returned (Value.tuple #[Value.agg U.toArray, Value.int IntKind.u64 ((o3 : Nat) : Int)]) ∧ Below w.heap.size w w') := c4
  have HC3 : Hid (∀ w, Calls Try.prog 61 #[Value.agg X.toArray] w fun e w' => e = Ending.returned (Value.tuple #[Value.agg X1.toArray, Value.int IntKind.u64 ((o2 : Nat) : Int)]) ∧ Below w.heap.size w w') := c3
  clear c4 c3
  refine (c1 w0).mono ?_
  rintro e w1 ⟨rfl, hb1⟩
  have hA1 : Blk w1 g 74 Y := hA0.below hb1 hA0.lt
  have hB1 : Blk w1 (g + 1) 74 Z := hB0.below hb1 hB0.lt
  have hl1 : Below g w w1 := hl0.trans (hb1.mono hg0)
  clear hA0 hB0 hl0 hb1 c1
  have hA2 : Blk (w1.setRow g Y1.toArray) g 74 Y1 := hA1.setRow
  have cA2 := hA2.cell g1
  have fA2 := hA2.frozen 0
  have hA3 : Blk ((w1.setRow g Y1.toArray).setCell ⟨g, 0, none⟩ (.int .u64 ((x1 : Int) + (o1 : Int) * 5))) g 74 Y2 := by rw [← s1]; exact hA2.setCell 0 _
  have hB3 : Blk ((w1.setRow g Y1.toArray).setCell ⟨g, 0, none⟩ (.int .u64 ((x1 : Int) + (o1 : Int) * 5))) (g + 1) 74 Z := (hB1.setRowOther (by omega) _).setOther (by omega) _ _
  have hl3 : Below g w ((w1.setRow g Y1.toArray).setCell ⟨g, 0, none⟩ (.int .u64 ((x1 : Int) + (o1 : Int) * 5))) := (below_setRow hl1 (Nat.le_refl _) _).setCell (Nat.le_refl _) _
  go_wp2_with (first | (refine wpList_store_blk rfl 74 _ _ rfl g Y Y1 rfl rfl 74 hA1 (by rw [Try.size74, lY1]) (by rw [lY, lY1]) oY1 ?_) | (refine wpList_load_blk rfl 74 _ rfl g rfl 74 Y2 _ hA3 Try.underlying74 rfl (by rw [Try.size74, lY2]) ?_))
  clear hA2 cA2 fA2 hA1 hB1 hl1
  generalize ((w1.setRow g Y1.toArray).setCell ⟨g, 0, none⟩ (.int .u64 ((x1 : Int) + (o1 : Int) * 5))) = w2 at hA3 hB3 hl3 ⊢
  have hg2 : g ≤ w2.heap.size := Nat.le_of_lt hA3.lt
  refine (c2 w2).mono ?_
  rintro e w3 ⟨rfl, hb3⟩
  have hA4 : Blk w3 g 74 Y2 := hA3.below hb3 hA3.lt
  have hB4 : Blk w3 (g + 1) 74 Z := hB3.below hb3 hB3.lt
  have hl4 : Below g w w3 := hl3.trans (hb3.mono hg2)
  have hg3 : g ≤ w3.heap.size := Nat.le_of_lt hA4.lt
  clear hA3 hB3 hl3 hb3 c2
  go_wp2_with fail
  refine (HC3.out w3).mono ?_
  rintro e w4 ⟨rfl, hb4⟩
  have hA5 : Blk w4 g 74 Y2 := hA4.below hb4 hA4.lt
  have hB5 : Blk w4 (g + 1) 74 Z := hB4.below hb4 hB4.lt
  have hl5 : Below g w w4 := hl4.trans (hb4.mono hg3)
  clear hA4 hB4 hl4 hb4 HC3
  have cA5 := hA5.cell g2
  have fA5 := hA5.frozen 0
  have hA6 : Blk (w4.setCell ⟨g, 0, none⟩ (.int .u64 ((x2 : Int) + (o2 : Int) * 5))) g 74 Y3 := by rw [← s2]; exact hA5.setCell 0 _
  have hB6 : Blk (w4.setCell ⟨g, 0, none⟩ (.int .u64 ((x2 : Int) + (o2 : Int) * 5))) (g + 1) 74 Z := hB5.setOther (by omega) _ _
  have hl6 : Below g w (w4.setCell ⟨g, 0, none⟩ (.int .u64 ((x2 : Int) + (o2 : Int) * 5))) := hl5.setCell (Nat.le_refl _) _
  go_wp2_with (refine wpList_load_blk rfl 74 _ rfl g rfl 74 Y3 _ hA6 Try.underlying74 rfl (by rw [Try.size74, lY3]) ?_)
  clear hA5 cA5 fA5 hB5 hl5
  generalize (w4.setCell ⟨g, 0, none⟩ (.int .u64 ((x2 : Int) + (o2 : Int) * 5))) = w5 at hA6 hB6 hl6 ⊢
  have hg5 : g ≤ w5.heap.size := Nat.le_of_lt hA6.lt
  refine (HC.out w5).mono ?_
  rintro e w6 ⟨rfl, hb6⟩
  have hA7 : Blk w6 g 74 Y3 := hA6.below hb6 hA6.lt
  have hB7 : Blk w6 (g + 1) 74 Z := hB6.below hb6 hB6.lt
  have hl7 : Below g w w6 := hl6.trans (hb6.mono hg5)
  clear hA6 hB6 hl6 hb6 HC
  have hA8 : Blk (w6.setRow g U.toArray) g 74 U := hA7.setRow
  have hB8 : Blk (w6.setRow g U.toArray) (g + 1) 74 Z := hB7.setRowOther (by omega) _
  have hR := load74 (hB8.setRow (M := U)) lU
  have hl9 : Below g w ((w6.setRow g U.toArray).setRow (g + 1) U.toArray) := below_setRow (below_setRow hl7 (Nat.le_refl _) _) (by omega) _
  go_wp2_with (first | (refine wpList_store_blk rfl 74 _ _ rfl g Y3 U rfl rfl 74 hA7 (by rw [Try.size74, lU]) (by rw [lY3, lU]) oU ?_) | (refine wpList_load_blk rfl 74 _ rfl g rfl 74 U _ hA8 Try.underlying74 rfl (by rw [Try.size74, lU]) ?_) | (refine wpList_store_blk rfl 74 _ _ rfl (g + 1) Z U rfl rfl 74 hB8 (by rw [Try.size74, lU]) (by rw [lZ, lU]) oU ?_))
  refine bodyPost_ret_by (v := .agg U.toArray) (results_cell 2 74 ⟨g + 1, 0, none⟩ Try.results43 rfl hR) rfl ⟨rfl, ?_⟩
  rw [HG.out]; exact hl9
end Go.Proofs.Ytnpebabffnjmmaa
