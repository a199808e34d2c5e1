/- What the laws of layer 12 share: the pairs over a leaf of a built tree; what the document fixes. -/
import Derived.Test.YtbbgagpompgagaaDoorTrHelp
namespace Go.Proofs.YtbbgagpompgagaaDoor
open Go.RowKit Go.PlainAid Go.Shelf
set_option linter.unusedVariables false

set_option maxRecDepth 20000 in
set_option maxHeartbeats 2000000 in
theorem lover_any (a : Option Addr) (d n cap s : Nat) (hn : 2 ^ d = n) (h : okS d (s : Int)) (p : Nat → ByteArray) (w : World) (ha : Sa w a n p) : Calls Tryd.prog 16 #[.slice a n cap, .int .i64 (s : Int)] w fun e w' =>
    ∃ v, e = .returned v ∧ w'.ownsRow w.heap.size 9 1 v d (strs d fun k => p (nd d s k)) ∧ Below w.heap.size w w' := by
  have hpa := path_ok d n s hn h w
  obtain ⟨h1, h2, _, h4⟩ := h
  have h16 := pow_le16 d h2
  have hs4 : s < 2 ^ d := by omega
  have hin : Hid (∀ k, k < d → nd d s k < n) := fun k hk => by rw [← hn]; exact (nd_inner d s k hk hs4).2
  rw [hn] at h16
  have hn2 : 1 ≤ n := by rw [← hn]; exact pow_pos' d
  have HN : Hid (2 ^ d = n) := hn
  obtain ⟨ab, ao, rfl, hcell⟩ := ha.cells hn2
  have hab := cell_blk_lt (hcell 0 hn2)
  have HC : Hid (∀ i, i < n → w.cell? ⟨ab, ao + i, none⟩ = some (.string (p i))) := hcell
  have HPA : Hid _ := hpa
  clear hpa hcell ha hn h4
  obtain ⟨i0, hi, hz0, hz1, hz2⟩ := info_parts Tryd.info9t
  go_enter Tryd.func16, Tryd.ntmps16
  go_wp2_with fail
  refine Calls.mono HPA.out ?_
  rintro e w1 ⟨v, rfl, hv, hb1⟩
  clear HPA
  rcases hv.2 with ⟨_, h0⟩ | ⟨gr, cr, cu, rfl, hgr0, hgg, _⟩
  · omega
  have hgr1 : gr < w1.heap.size := (Array.getElem?_eq_some_iff.1 hgg).1
  have HR : Hid (∀ i, i < d → w1.cell? ⟨gr, i, none⟩ = some (.int .i64 (nd d s i : Int))) := fun i hi => (hv.cellAt i (by omega)).trans (nr_at .i64 d (nd d s) i hi)
  clear hv hgg
  go_wp2_with fail
  go_loopw [7, 19] (fun v i wr => ∃ k : Nat, k ≤ d ∧ i = .int .i64 (k : Int) ∧ wr.ownsRow w1.heap.size 9 1 v k (strs k fun k => p (nd d s k)) ∧ Below w1.heap.size w1 wr) (fun _ i _ => d - (intOf i).toNat)
  case atStart => exact ⟨0, Nat.zero_le _, rfl, World.ownsRow_nil _ _ _ _, Below.refl _ _⟩
  case round =>
    obtain ⟨k, hk, rfl, hr, hB⟩ := hrel
    have hBw : Below w.heap.size w wr := hb1.trans (hB.mono hb1.size)
    by_cases hlt : k < d
    · have hki : (k : Int) < (d : Int) := by omega
      have cn : wr.cell? ⟨gr, k, none⟩ = some (.int .i64 (nd d s k : Int)) := (hB.cell (p := ⟨gr, k, none⟩) hgr1).trans (HR.out k hlt)
      have hmn := hin.out k hlt
      have hss := strs_succ k (fun k => p (nd d s k))
      have ca : wr.cell? ⟨ab, ao + nd d s k, none⟩ = some (.string (p (nd d s k))) := (hBw.cell (p := ⟨ab, ao + nd d s k, none⟩) hab).trans (HC.out _ hmn)
      have HSS : Hid (strs (k + 1) (fun k => p (nd d s k)) = strs k (fun k => p (nd d s k)) ++ [.string (p (nd d s k))]) := hss
      clear hss
      generalize nd d s k = M at cn ca hmn HSS
      have hmi : (M : Int) < (n : Int) := by omega
      generalize p M = X at ca HSS
      go_wp2_with (at_builtin; refine wpList_append_own _ rfl _ _ 32 rfl w1.heap.size 9 i0 (.string noB) 1 16 Tryd.underlying32 hi hz0 hz1 hz2 rfl (by decide) _ _ _ rfl (hr.alloc _) ⟨wr.heap.size, 0, none⟩ 1 1 [.string X] rfl rfl (cell_one_new _ _ _) (by simp [Value.oneCell']) (by unfold maxLen; omega) (by omega) (by have := hB.size; simp; omega) ?_; intro v' w2 hown' hgrow _)
      have hB2 : Below w1.heap.size w1 w2 := (hB.alloc hB.size _).grown hgrow (by have := hB.size; simp; omega) (fun j e => (World.ownsRow.lt hr j e).1)
      rw [← HSS.out] at hown'
      go_wp2_with fail
      go_roundw
      case rel => exact ⟨k + 1, hlt, by go_num, hown', hB2⟩
      case measure => simp [intOf]; omega
    · have hkd : k = d := by omega
      rw [hkd] at hr ⊢
      go_wp2_with fail
      go_ret
      exact ⟨_, rfl, owns_base hr hb1.size, hBw⟩

set_option maxRecDepth 20000 in
set_option maxHeartbeats 2000000 in
theorem lwakes_any (w : World) (ht : Tabs w) : Calls Tryd.prog 11 #[] w fun e w' => e = .returned (.bool true) ∧ Below w.heap.size w w' := by
  have h1 := path_ok 3 8 5 rfl ⟨by decide, by decide, by decide, by decide⟩ w
  have H1 : Hid _ := h1
  clear h1
  go_enter Tryd.func11, Tryd.ntmps11
  go_wp2_with fail
  refine Calls.mono H1.out ?_
  rintro e w1 ⟨v, rfl, hv, hb1⟩
  clear H1
  rcases hv.2 with ⟨_, h0⟩ | ⟨gr, cr, cu, rfl, hgr0, hgg, _⟩
  · omega
  have hgr1 : gr < w1.heap.size := (Array.getElem?_eq_some_iff.1 hgg).1
  have c1 : w1.cell? ⟨gr, 1, none⟩ = some (.int .i64 3) := (hv.cellAt 1 (by omega)).trans rfl
  have c2 : w1.cell? ⟨gr, 2, none⟩ = some (.int .i64 6) := (hv.cellAt 2 (by omega)).trans rfl
  clear hv hgg
  have ht1 := ht.below hb1 ht.lt
  go_wp2_with fail
  refine (leaf_any ⟨#[97]⟩ (by decide) w1 ht1).mono ?_
  rintro e w2 ⟨rfl, hb2⟩
  have ht2 := ht1.below hb2 ht1.lt
  have hB2 := hb1.trans (hb2.mono hb1.size)
  have hsA := digest_size (⟨#[0]⟩ ++ ⟨#[97]⟩)
  generalize digest (⟨#[0]⟩ ++ ⟨#[97]⟩) = A at hsA ⊢
  go_wp2_with fail
  refine (leaf_any ⟨#[98]⟩ (by decide) w2 ht2).mono ?_
  rintro e w3 ⟨rfl, hb3⟩
  have ht3 := ht2.below hb3 ht2.lt
  have hB3 := hB2.trans (hb3.mono hB2.size)
  have hsB := digest_size (⟨#[0]⟩ ++ ⟨#[98]⟩)
  generalize digest (⟨#[0]⟩ ++ ⟨#[98]⟩) = B at hsB ⊢
  have hb4 : Below w3.heap.size w3 (w3.alloc (.cells #[.string A, .string B] 9)) := (Below.refl _ _).alloc (Nat.le_refl _) _
  have hblk := Blk.new w3 9 #[.string A, .string B]
  have hSa : Sa (w3.alloc (.cells #[.string A, .string B] 9)) (some ⟨w3.heap.size, 0, none⟩) 2 (fun i => if i = 0 then A else B) := .inr ⟨w3.heap.size, 0, rfl, fun i hi => by
    have : i = 0 ∨ i = 1 := by omega
    rcases this with rfl | rfl
    · exact hblk.cell rfl
    · exact hblk.cell rfl⟩
  have ht4 := ht3.below hb4 ht3.lt
  have hbu := build_any _ 2 2 (by decide) _ _ hSa ht4
  have hz : bE 2 (fun i => if i = 0 then A else B) = 0 := bE_zero (by decide) (fun i hi => by split <;> assumption)
  obtain ⟨hN2, hT2⟩ := bN_yes hz
  rw [hz, hN2, hT2] at hbu
  have HBU : Hid _ := hbu
  clear hbu hz hN2 hT2 hSa hblk
  have hB4 := hB3.trans (hb4.mono hB3.size)
  have d1 : (w3.alloc (.cells #[.string A, .string B] 9)).cell? ⟨gr, 1, none⟩ = some (.int .i64 3) := (hb4.cell (p := ⟨gr, 1, none⟩) (by have := hb2.size; have := hb3.size; show gr < _; omega)).trans ((hb3.cell (p := ⟨gr, 1, none⟩) (by have := hb2.size; show gr < _; omega)).trans ((hb2.cell (p := ⟨gr, 1, none⟩) hgr1).trans c1))
  have d2 : (w3.alloc (.cells #[.string A, .string B] 9)).cell? ⟨gr, 2, none⟩ = some (.int .i64 6) := (hb4.cell (p := ⟨gr, 2, none⟩) (by have := hb2.size; have := hb3.size; show gr < _; omega)).trans ((hb3.cell (p := ⟨gr, 2, none⟩) (by have := hb2.size; show gr < _; omega)).trans ((hb2.cell (p := ⟨gr, 2, none⟩) hgr1).trans c2))
  clear c1 c2
  go_wp2_with fail
  refine Calls.mono HBU.out ?_
  rintro e w5 ⟨v5, rfl, hv5, hb5⟩
  clear HBU
  rcases hv5.2 with ⟨_, h0⟩ | ⟨g5, c5, cu5, rfl, hg50, hgg5, _⟩
  · omega
  have e1 : w5.cell? ⟨g5, 1, none⟩ = some (.string (A ++ B)) := (hv5.cellAt 1 (by omega)).trans rfl
  have d1' : w5.cell? ⟨gr, 1, none⟩ = some (.int .i64 3) := (hb5.cell (p := ⟨gr, 1, none⟩) (cell_blk_lt d1)).trans d1
  have d2' : w5.cell? ⟨gr, 2, none⟩ = some (.int .i64 6) := (hb5.cell (p := ⟨gr, 2, none⟩) (cell_blk_lt d2)).trans d2
  have htop : dg (fun i => if i = 0 then A else B) 2 1 = nH (A ++ B) := rfl
  rw [htop]
  have ht5 := ht4.below hb5 ht4.lt
  have hB5 := hB4.trans (hb5.mono hB4.size)
  have hnode := node_any (A ++ B) (by rw [ByteArray.size_append]; omega) w5 ht5
  rw [show digest (⟨#[1]⟩ ++ (A ++ B)) = nH (A ++ B) from rfl] at hnode
  have HNO : Hid _ := hnode
  have hAB : (A ++ B).size = 64 := by rw [ByteArray.size_append]; omega
  clear hnode htop d1 d2 hv5 hgg5
  generalize nH (A ++ B) = Z at HNO ⊢
  go_wp2_with fail
  refine Calls.mono HNO.out ?_
  rintro e w6 ⟨rfl, hb6⟩
  go_wp2_with fail
  go_ret
  exact ⟨rfl, hB5.trans (hb6.mono hB5.size)⟩
end Go.Proofs.YtbbgagpompgagaaDoor
