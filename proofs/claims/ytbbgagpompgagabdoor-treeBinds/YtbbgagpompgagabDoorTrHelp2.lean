/- What the laws of layer 12 share: the pairs over a leaf of a built tree; what the document fixes. -/
import Derived.Test.YtbbgagpompgagabDoorTrHelp
namespace Go.Proofs.YtbbgagpompgagabDoor
open Go.RowKit Go.PlainAid Go.Shelf
set_option linter.unusedVariables false

set_option maxRecDepth 20000 in
set_option maxHeartbeats 2000000 in
theorem lwakes_any (w : World) (ht : Tabs w) : Calls Tryd.prog 5 #[] w fun e w' => e = .returned (.bool true) ∧ Below w.heap.size w w' := by
  have h1 := path_ok 3 8 5 rfl ⟨by decide, by decide, by decide, by decide⟩ w
  have H1 : Hid _ := h1
  clear h1
  go_enter Tryd.func5, Tryd.ntmps5
  go_wp2_with fail
  refine Calls.mono H1.out ?_
  rintro e w1 ⟨v, rfl, hv, hb1⟩
  clear H1
  rcases hv.2 with ⟨_, h0⟩ | ⟨gr, cr, cu, rfl, hgr0, hgg, _⟩
  · omega
  have hgr1 : gr < w1.heap.size := (Array.getElem?_eq_some_iff.1 hgg).1
  have c1 : w1.cell? ⟨gr, 1, none⟩ = some (.int .i64 3) := (hv.cellAt 1 (by omega)).trans rfl
  have c2 : w1.cell? ⟨gr, 2, none⟩ = some (.int .i64 6) := (hv.cellAt 2 (by omega)).trans rfl
  clear hv hgg
  have ht1 := ht.below hb1 ht.lt
  go_wp2_with fail
  refine (leaf_any ⟨#[97]⟩ (by decide) w1 ht1).mono ?_
  rintro e w2 ⟨rfl, hb2⟩
  have ht2 := ht1.below hb2 ht1.lt
  have hB2 := hb1.trans (hb2.mono hb1.size)
  have hsA := digest_size (⟨#[0]⟩ ++ ⟨#[97]⟩)
  generalize digest (⟨#[0]⟩ ++ ⟨#[97]⟩) = A at hsA ⊢
  go_wp2_with fail
  refine (leaf_any ⟨#[98]⟩ (by decide) w2 ht2).mono ?_
  rintro e w3 ⟨rfl, hb3⟩
  have ht3 := ht2.below hb3 ht2.lt
  have hB3 := hB2.trans (hb3.mono hB2.size)
  have hsB := digest_size (⟨#[0]⟩ ++ ⟨#[98]⟩)
  generalize digest (⟨#[0]⟩ ++ ⟨#[98]⟩) = B at hsB ⊢
  have hb4 : Below w3.heap.size w3 (w3.alloc (.cells #[.string A, .string B] 9)) := (Below.refl _ _).alloc (Nat.le_refl _) _
  have hblk := Blk.new w3 9 #[.string A, .string B]
  have hSa : Sa (w3.alloc (.cells #[.string A, .string B] 9)) (some ⟨w3.heap.size, 0, none⟩) 2 (fun i => if i = 0 then A else B) := .inr ⟨w3.heap.size, 0, rfl, fun i hi => by
    have : i = 0 ∨ i = 1 := by omega
    rcases this with rfl | rfl
    · exact hblk.cell rfl
    · exact hblk.cell rfl⟩
  have ht4 := ht3.below hb4 ht3.lt
  have hbu := build_any _ 2 2 (by decide) _ _ hSa ht4
  have hz : bE 2 (fun i => if i = 0 then A else B) = 0 := bE_zero (by decide) (fun i hi => by split <;> assumption)
  obtain ⟨hN2, hT2⟩ := bN_yes hz
  rw [hz, hN2, hT2] at hbu
  have HBU : Hid _ := hbu
  clear hbu hz hN2 hT2 hSa hblk
  have hB4 := hB3.trans (hb4.mono hB3.size)
  have d1 : (w3.alloc (.cells #[.string A, .string B] 9)).cell? ⟨gr, 1, none⟩ = some (.int .i64 3) := (hb4.cell (p := ⟨gr, 1, none⟩) (by have := hb2.size; have := hb3.size; show gr < _; omega)).trans ((hb3.cell (p := ⟨gr, 1, none⟩) (by have := hb2.size; show gr < _; omega)).trans ((hb2.cell (p := ⟨gr, 1, none⟩) hgr1).trans c1))
  have d2 : (w3.alloc (.cells #[.string A, .string B] 9)).cell? ⟨gr, 2, none⟩ = some (.int .i64 6) := (hb4.cell (p := ⟨gr, 2, none⟩) (by have := hb2.size; have := hb3.size; show gr < _; omega)).trans ((hb3.cell (p := ⟨gr, 2, none⟩) (by have := hb2.size; show gr < _; omega)).trans ((hb2.cell (p := ⟨gr, 2, none⟩) hgr1).trans c2))
  clear c1 c2
  go_wp2_with fail
  refine Calls.mono HBU.out ?_
  rintro e w5 ⟨v5, rfl, hv5, hb5⟩
  clear HBU
  rcases hv5.2 with ⟨_, h0⟩ | ⟨g5, c5, cu5, rfl, hg50, hgg5, _⟩
  · omega
  have e1 : w5.cell? ⟨g5, 1, none⟩ = some (.string (A ++ B)) := (hv5.cellAt 1 (by omega)).trans rfl
  have d1' : w5.cell? ⟨gr, 1, none⟩ = some (.int .i64 3) := (hb5.cell (p := ⟨gr, 1, none⟩) (cell_blk_lt d1)).trans d1
  have d2' : w5.cell? ⟨gr, 2, none⟩ = some (.int .i64 6) := (hb5.cell (p := ⟨gr, 2, none⟩) (cell_blk_lt d2)).trans d2
  have htop : dg (fun i => if i = 0 then A else B) 2 1 = nH (A ++ B) := rfl
  rw [htop]
  have ht5 := ht4.below hb5 ht4.lt
  have hB5 := hB4.trans (hb5.mono hB4.size)
  have hnode := node_any (A ++ B) (by rw [ByteArray.size_append]; omega) w5 ht5
  rw [show digest (⟨#[1]⟩ ++ (A ++ B)) = nH (A ++ B) from rfl] at hnode
  have HNO : Hid _ := hnode
  have hAB : (A ++ B).size = 64 := by rw [ByteArray.size_append]; omega
  clear hnode htop d1 d2 hv5 hgg5
  generalize nH (A ++ B) = Z at HNO ⊢
  go_wp2_with fail
  refine Calls.mono HNO.out ?_
  rintro e w6 ⟨rfl, hb6⟩
  go_wp2_with fail
  go_ret
  exact ⟨rfl, hB5.trans (hb6.mono hB5.size)⟩
end Go.Proofs.YtbbgagpompgagabDoor
