/- Is a record the document's? Where it isn't. -/
import Derived.Test.YtbjmhpbelkndpaaDoorSuSame0
namespace Go.Proofs.YtbjmhpbelkndpaaDoor
open Go.RowKit Go.PlainAid
set_option linter.unusedVariables false
set_option maxRecDepth 20000
section
variable {R S : Rec} {sa ma sb mb : Option Addr} {sc mc sd md : Nat} {w : World}
set_option maxRecDepth 20000 in
set_option maxHeartbeats 4000000 in
theorem same_no5 (q0 : R.count = S.count) (q1 : R.epoch = S.epoch) (q2 : R.data = S.data) (q3 : R.slots = S.slots) (q4 : R.mark = S.mark) (q5 : ¬ R.built = S.built) (hn : R.ns ≤ 100) (hm : R.nm ≤ 100) (hA : Lies w R sa ma) (hB : Lies w S sb mb) : Calls Tryd.prog 7 #[.agg (supV R sa ma sc mc).toArray, .agg (supV S sb mb sd md).toArray] w fun e w' => e = .returned (.bool (sameQ R S)) ∧ Below w.heap.size w w' := by
  have hLow : Hid (Below w.heap.size w ((w.alloc (.cells (supV R sa ma sc mc).toArray 26)).alloc (.cells (supV S sb mb sd md).toArray 32))) := (Below.refl w.heap.size w |>.alloc (Nat.le_refl _) (.cells (supV R sa ma sc mc).toArray 26)).alloc (by simp) (.cells (supV S sb mb sd md).toArray 32)
  have hKA := (Blk.box w 26 (supV R sa ma sc mc)).alloc (.cells (supV S sb mb sd md).toArray 32)
  have hKB := Blk.box (w.alloc (.cells (supV R sa ma sc mc).toArray 26)) 32 (supV S sb mb sd md)
  rw [World.size_alloc] at hKB
  obtain ⟨HS, hHS⟩ : ∃ HS, w.heap.size = HS := ⟨_, rfl⟩
  rw [hHS] at hLow hKA hKB ⊢
  obtain ⟨LA, hLA⟩ : ∃ L, supV R sa ma sc mc = L := ⟨_, rfl⟩
  obtain ⟨LB, hLB⟩ : ∃ L, supV S sb mb sd md = L := ⟨_, rfl⟩
  have a0 : LA[0]? = some (.int .u64 R.count) := by rw [← hLA]; rfl
  have b0 : LB[0]? = some (.int .u64 S.count) := by rw [← hLB]; rfl
  have a1 : LA[1]? = some (.int .u64 R.epoch) := by rw [← hLA]; rfl
  have b1 : LB[1]? = some (.int .u64 S.epoch) := by rw [← hLB]; rfl
  have a2 : LA[2]? = some (.int .i64 R.data) := by rw [← hLA]; rfl
  have b2 : LB[2]? = some (.int .i64 S.data) := by rw [← hLB]; rfl
  have a3 : LA[3]? = some (.int .i64 R.slots) := by rw [← hLA]; rfl
  have b3 : LB[3]? = some (.int .i64 S.slots) := by rw [← hLB]; rfl
  have a4 : LA[4]? = some (.int .i64 R.mark) := by rw [← hLA]; rfl
  have b4 : LB[4]? = some (.int .i64 S.mark) := by rw [← hLB]; rfl
  have a5 : LA[5]? = some (.int .i64 R.built) := by rw [← hLA]; rfl
  have b5 : LB[5]? = some (.int .i64 S.built) := by rw [← hLB]; rfl
  have a6 : LA[6]? = some (.bool R.grow) := by rw [← hLA]; rfl
  have b6 : LB[6]? = some (.bool S.grow) := by rw [← hLB]; rfl
  have a7 : LA[7]? = some (.slice sa R.ns sc) := by rw [← hLA]; rfl
  have b7 : LB[7]? = some (.slice sb S.ns sd) := by rw [← hLB]; rfl
  have a8 : LA[8]? = some (.slice ma R.nm mc) := by rw [← hLA]; rfl
  have b8 : LB[8]? = some (.slice mb S.nm md) := by rw [← hLB]; rfl
  rw [hLA, hLB] at hLow hKA hKB ⊢
  obtain ⟨W2, hW2⟩ : ∃ W2, (w.alloc (.cells LA.toArray 26)).alloc (.cells LB.toArray 32) = W2 := ⟨_, rfl⟩
  rw [hW2] at hLow hKA hKB
  have d0 := hKA.cell a0
  have e0 := hKB.cell b0
  have d1 := hKA.cell a1
  have e1 := hKB.cell b1
  have d2 := hKA.cell a2
  have e2 := hKB.cell b2
  have d3 := hKA.cell a3
  have e3 := hKB.cell b3
  have d4 := hKA.cell a4
  have e4 := hKB.cell b4
  have d5 := hKA.cell a5
  have e5 := hKB.cell b5
  have d6 := hKA.cell a6
  have e6 := hKB.cell b6
  have d7 := hKA.cell a7
  have e7 := hKB.cell b7
  have d8 := hKA.cell a8
  have e8 := hKB.cell b8
  have HC : Hid (∀ z : World, Blk z HS 26 LA → Blk z (HS + 1) 32 LB → z.cell? ⟨HS, 7, none⟩ = some (.slice sa R.ns sc) ∧ z.cell? ⟨HS + 1, 7, none⟩ = some (.slice sb S.ns sd) ∧ z.cell? ⟨HS, 8, none⟩ = some (.slice ma R.nm mc) ∧ z.cell? ⟨HS + 1, 8, none⟩ = some (.slice mb S.nm md)) := fun z h1 h2 => ⟨h1.cell a7, h2.cell b7, h1.cell a8, h2.cell b8⟩
  have HA : Hid (Lies w R sa ma) := hA
  have HB : Hid (Lies w S sb mb) := hB
  have HKA : Hid (Blk W2 HS 26 LA) := hKA
  have HKB : Hid (Blk W2 (HS + 1) 32 LB) := hKB
  clear hA hB hKA hKB hLA hLB a0 b0 a1 b1 a2 b2 a3 b3 a4 b4 a5 b5 a6 b6 a7 b7 a8 b8
  rw [← q0] at e0
  rw [← q1] at e1
  rw [← q2] at e2
  rw [← q3] at e3
  rw [← q4] at e4
  clear d6 e6 d7 e7 d8 e8
  have n5 : (R.built != S.built) = true := by simpa using q5
  have HX : Hid (sameQ R S = false) := sameQ_no (fun h => q5 h.b)
  clear HC HA HB HKA HKB hn hm q0 q1 q2 q3 q4 q5
  go_enter Tryd.func7, Tryd.ntmps7
  go_wp2
  go_ret
  exact ⟨by rw [HX.out]; rfl, hLow.out⟩
set_option maxRecDepth 20000 in
set_option maxHeartbeats 4000000 in
theorem same_no6 (q0 : R.count = S.count) (q1 : R.epoch = S.epoch) (q2 : R.data = S.data) (q3 : R.slots = S.slots) (q4 : R.mark = S.mark) (q5 : R.built = S.built) (q6 : ¬ R.grow = S.grow) (hn : R.ns ≤ 100) (hm : R.nm ≤ 100) (hA : Lies w R sa ma) (hB : Lies w S sb mb) : Calls Tryd.prog 7 #[.agg (supV R sa ma sc mc).toArray, .agg (supV S sb mb sd md).toArray] w fun e w' => e = .returned (.bool (sameQ R S)) ∧ Below w.heap.size w w' := by
  have hLow : Hid (Below w.heap.size w ((w.alloc (.cells (supV R sa ma sc mc).toArray 26)).alloc (.cells (supV S sb mb sd md).toArray 32))) := (Below.refl w.heap.size w |>.alloc (Nat.le_refl _) (.cells (supV R sa ma sc mc).toArray 26)).alloc (by simp) (.cells (supV S sb mb sd md).toArray 32)
  have hKA := (Blk.box w 26 (supV R sa ma sc mc)).alloc (.cells (supV S sb mb sd md).toArray 32)
  have hKB := Blk.box (w.alloc (.cells (supV R sa ma sc mc).toArray 26)) 32 (supV S sb mb sd md)
  rw [World.size_alloc] at hKB
  obtain ⟨HS, hHS⟩ : ∃ HS, w.heap.size = HS := ⟨_, rfl⟩
  rw [hHS] at hLow hKA hKB ⊢
  obtain ⟨LA, hLA⟩ : ∃ L, supV R sa ma sc mc = L := ⟨_, rfl⟩
  obtain ⟨LB, hLB⟩ : ∃ L, supV S sb mb sd md = L := ⟨_, rfl⟩
  have a0 : LA[0]? = some (.int .u64 R.count) := by rw [← hLA]; rfl
  have b0 : LB[0]? = some (.int .u64 S.count) := by rw [← hLB]; rfl
  have a1 : LA[1]? = some (.int .u64 R.epoch) := by rw [← hLA]; rfl
  have b1 : LB[1]? = some (.int .u64 S.epoch) := by rw [← hLB]; rfl
  have a2 : LA[2]? = some (.int .i64 R.data) := by rw [← hLA]; rfl
  have b2 : LB[2]? = some (.int .i64 S.data) := by rw [← hLB]; rfl
  have a3 : LA[3]? = some (.int .i64 R.slots) := by rw [← hLA]; rfl
  have b3 : LB[3]? = some (.int .i64 S.slots) := by rw [← hLB]; rfl
  have a4 : LA[4]? = some (.int .i64 R.mark) := by rw [← hLA]; rfl
  have b4 : LB[4]? = some (.int .i64 S.mark) := by rw [← hLB]; rfl
  have a5 : LA[5]? = some (.int .i64 R.built) := by rw [← hLA]; rfl
  have b5 : LB[5]? = some (.int .i64 S.built) := by rw [← hLB]; rfl
  have a6 : LA[6]? = some (.bool R.grow) := by rw [← hLA]; rfl
  have b6 : LB[6]? = some (.bool S.grow) := by rw [← hLB]; rfl
  have a7 : LA[7]? = some (.slice sa R.ns sc) := by rw [← hLA]; rfl
  have b7 : LB[7]? = some (.slice sb S.ns sd) := by rw [← hLB]; rfl
  have a8 : LA[8]? = some (.slice ma R.nm mc) := by rw [← hLA]; rfl
  have b8 : LB[8]? = some (.slice mb S.nm md) := by rw [← hLB]; rfl
  rw [hLA, hLB] at hLow hKA hKB ⊢
  obtain ⟨W2, hW2⟩ : ∃ W2, (w.alloc (.cells LA.toArray 26)).alloc (.cells LB.toArray 32) = W2 := ⟨_, rfl⟩
  rw [hW2] at hLow hKA hKB
  have d0 := hKA.cell a0
  have e0 := hKB.cell b0
  have d1 := hKA.cell a1
  have e1 := hKB.cell b1
  have d2 := hKA.cell a2
  have e2 := hKB.cell b2
  have d3 := hKA.cell a3
  have e3 := hKB.cell b3
  have d4 := hKA.cell a4
  have e4 := hKB.cell b4
  have d5 := hKA.cell a5
  have e5 := hKB.cell b5
  have d6 := hKA.cell a6
  have e6 := hKB.cell b6
  have d7 := hKA.cell a7
  have e7 := hKB.cell b7
  have d8 := hKA.cell a8
  have e8 := hKB.cell b8
  have HC : Hid (∀ z : World, Blk z HS 26 LA → Blk z (HS + 1) 32 LB → z.cell? ⟨HS, 7, none⟩ = some (.slice sa R.ns sc) ∧ z.cell? ⟨HS + 1, 7, none⟩ = some (.slice sb S.ns sd) ∧ z.cell? ⟨HS, 8, none⟩ = some (.slice ma R.nm mc) ∧ z.cell? ⟨HS + 1, 8, none⟩ = some (.slice mb S.nm md)) := fun z h1 h2 => ⟨h1.cell a7, h2.cell b7, h1.cell a8, h2.cell b8⟩
  have HA : Hid (Lies w R sa ma) := hA
  have HB : Hid (Lies w S sb mb) := hB
  have HKA : Hid (Blk W2 HS 26 LA) := hKA
  have HKB : Hid (Blk W2 (HS + 1) 32 LB) := hKB
  clear hA hB hKA hKB hLA hLB a0 b0 a1 b1 a2 b2 a3 b3 a4 b4 a5 b5 a6 b6 a7 b7 a8 b8
  rw [← q0] at e0
  rw [← q1] at e1
  rw [← q2] at e2
  rw [← q3] at e3
  rw [← q4] at e4
  rw [← q5] at e5
  clear d7 e7 d8 e8
  have n6 : (R.grow = true ∧ S.grow = false) ∨ (R.grow = false ∧ S.grow = true) := by cases hr : R.grow <;> cases hs : S.grow <;> simp_all
  have HX : Hid (sameQ R S = false) := sameQ_no (fun h => q6 h.g)
  clear HC HA HB HKA HKB hn hm q0 q1 q2 q3 q4 q5 q6
  rcases n6 with ⟨hr, hs⟩ | ⟨hr, hs⟩
  · rw [hr] at d6
    rw [hs] at e6
    clear hr hs
    go_enter Tryd.func7, Tryd.ntmps7
    go_wp2
    go_ret
    exact ⟨by rw [HX.out]; rfl, hLow.out⟩
  · rw [hr] at d6
    rw [hs] at e6
    clear hr hs
    go_enter Tryd.func7, Tryd.ntmps7
    go_wp2
    go_ret
    exact ⟨by rw [HX.out]; rfl, hLow.out⟩
end
end Go.Proofs.YtbjmhpbelkndpaaDoor
