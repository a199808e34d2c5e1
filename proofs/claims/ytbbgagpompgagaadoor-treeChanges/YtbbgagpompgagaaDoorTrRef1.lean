/- Trees: the document's own Depth, size, Path, digest, Build. -/
import Derived.Test.YtbbgagpompgagaaDoorTrPut
import Derived.Test.YtbbgagpompgagaaDoorRSum
namespace Go.Proofs.YtbbgagpompgagaaDoor
open Go.RowKit Go.PlainAid Go.Shelf
set_option linter.unusedVariables false

def depI (n : Int) : Int := if n = 2 then 1 else if n = 4 then 2 else if n = 8 then 3 else if n = 16 then 4 else 0
set_option maxRecDepth 20000 in
theorem rDepth_any (n : Int) (w : World) : Calls Tryd.prog 24 #[.int .i64 n] w fun e w' => e = .returned (.int .i64 (depI n)) ∧ w' = w := by
  unfold depI
  by_cases h2 : n = 2
  · subst h2
    go_enter Tryd.func24, Tryd.ntmps24
    go_wp2
    go_ret
    exact ⟨rfl, rfl⟩
  by_cases h4 : n = 4
  · subst h4
    go_enter Tryd.func24, Tryd.ntmps24
    go_wp2
    go_ret
    exact ⟨rfl, rfl⟩
  by_cases h8 : n = 8
  · subst h8
    go_enter Tryd.func24, Tryd.ntmps24
    go_wp2
    go_ret
    exact ⟨rfl, rfl⟩
  by_cases h16 : n = 16
  · subst h16
    go_enter Tryd.func24, Tryd.ntmps24
    go_wp2
    go_ret
    exact ⟨rfl, rfl⟩
  rw [if_neg h2, if_neg h4, if_neg h8, if_neg h16]
  go_enter Tryd.func24, Tryd.ntmps24
  go_wp2
  go_ret
  exact ⟨rfl, rfl⟩
theorem depI_pow (d : Nat) (h1 : 1 ≤ d) (h2 : d ≤ 4) : depI ((2 ^ d : Nat) : Int) = (d : Int) := by
  have : d = 1 ∨ d = 2 ∨ d = 3 ∨ d = 4 := by omega
  rcases this with rfl | rfl | rfl | rfl <;> rfl
theorem depI_no (n : Int) (h : ¬ (n = 2 ∨ n = 4 ∨ n = 8 ∨ n = 16)) : depI n = 0 := by unfold depI; rw [if_neg (by omega), if_neg (by omega), if_neg (by omega), if_neg (by omega)]
theorem depI_yes (n : Int) (h : n = 2 ∨ n = 4 ∨ n = 8 ∨ n = 16) : ∃ d : Nat, 1 ≤ d ∧ d ≤ 4 ∧ n = ((2 ^ d : Nat) : Int) := by
  rcases h with rfl | rfl | rfl | rfl
  · exact ⟨1, by decide, by decide, rfl⟩
  · exact ⟨2, by decide, by decide, rfl⟩
  · exact ⟨3, by decide, by decide, rfl⟩
  · exact ⟨4, by decide, by decide, rfl⟩
theorem isTree_pow {n : Nat} (h : isTree n) : ∃ d, 1 ≤ d ∧ d ≤ 4 ∧ 2 ^ d = n := by
  unfold isTree at h
  rcases h with rfl | rfl | rfl | rfl
  · exact ⟨1, by decide, by decide, rfl⟩
  · exact ⟨2, by decide, by decide, rfl⟩
  · exact ⟨3, by decide, by decide, rfl⟩
  · exact ⟨4, by decide, by decide, rfl⟩
theorem pow_isTree {d : Nat} (h1 : 1 ≤ d) (h2 : d ≤ 4) : isTree (2 ^ d) := by
  have : d = 1 ∨ d = 2 ∨ d = 3 ∨ d = 4 := by omega
  unfold isTree
  rcases this with rfl | rfl | rfl | rfl <;> decide

def sizI (n : Nat) : Nat := if 1 ≤ n ∧ n ≤ 4 then 2 ^ n else 0
set_option maxRecDepth 20000 in
theorem rsize_any (n : Nat) (hn : n ≤ 1000000) (w : World) : Calls Tryd.prog 28 #[.int .i64 (n : Int)] w fun e w' => e = .returned (.int .i64 (sizI n : Int)) ∧ w' = w := by
  by_cases h : 1 ≤ n ∧ n ≤ 4
  · have : n = 1 ∨ n = 2 ∨ n = 3 ∨ n = 4 := by omega
    rcases this with rfl | rfl | rfl | rfl
    · rw [show ((1 : Nat) : Int) = 1 from rfl]
      go_enter Tryd.func28, Tryd.ntmps28
      go_wp2
      go_ret
      exact ⟨rfl, rfl⟩
    · rw [show ((2 : Nat) : Int) = 2 from rfl]
      go_enter Tryd.func28, Tryd.ntmps28
      go_wp2
      go_ret
      exact ⟨rfl, rfl⟩
    · rw [show ((3 : Nat) : Int) = 3 from rfl]
      go_enter Tryd.func28, Tryd.ntmps28
      go_wp2
      go_ret
      exact ⟨rfl, rfl⟩
    · rw [show ((4 : Nat) : Int) = 4 from rfl]
      go_enter Tryd.func28, Tryd.ntmps28
      go_wp2
      go_ret
      exact ⟨rfl, rfl⟩
  · have e : sizI n = 0 := by unfold sizI; rw [if_neg h]
    have h1 : (n : Int) ≠ 1 := by omega
    have h2 : (n : Int) ≠ 2 := by omega
    have h3 : (n : Int) ≠ 3 := by omega
    have h4 : (n : Int) ≠ 4 := by omega
    rw [e]
    generalize (n : Int) = N at h1 h2 h3 h4 ⊢
    go_enter Tryd.func28, Tryd.ntmps28
    go_wp2
    go_ret
    exact ⟨rfl, rfl⟩

set_option maxRecDepth 20000 in
theorem rPath_bad (n s : Int) (h : hasB n s = false) (w : World) : Calls Tryd.prog 10 #[.int .i64 n, .int .i64 s] w fun e w' => e = .returned (.tuple #[.slice none 0 0, .int .i64 2]) ∧ w' = w := by
  have hd := rDepth_any n w
  unfold hasB at h
  have h' := of_decide_eq_false h
  by_cases hn : n = 2 ∨ n = 4 ∨ n = 8 ∨ n = 16
  · have hz : depI n ≠ 0 := by
      rcases hn with rfl | rfl | rfl | rfl <;> decide
    generalize depI n = Dn at hd hz
    have HD : Hid _ := hd
    by_cases hs : s < 0
    · clear hd h h' hn
      go_enter Tryd.func10, Tryd.ntmps10
      go_wp2_with fail
      refine Calls.mono HD.out ?_
      rintro e w' ⟨rfl, hw'⟩
      rw [hw']
      clear hw' w'
      go_wp2_with fail
      go_ret2
      exact ⟨rfl, rfl⟩
    · have hs2 : n ≤ s := by omega
      have hs1 : 0 ≤ s := by omega
      clear hd h h' hn hs
      go_enter Tryd.func10, Tryd.ntmps10
      go_wp2_with fail
      refine Calls.mono HD.out ?_
      rintro e w' ⟨rfl, hw'⟩
      rw [hw']
      clear hw' w'
      go_wp2_with fail
      go_ret2
      exact ⟨rfl, rfl⟩
  · rw [depI_no n hn] at hd
    clear h h' hn
    go_enter Tryd.func10, Tryd.ntmps10
    go_wp2_with fail
    refine hd.mono ?_
    rintro e w' ⟨rfl, hw'⟩
    rw [hw']
    clear hw' w'
    go_wp2_with fail
    go_ret2
    exact ⟨rfl, rfl⟩
theorem Tryd.info3q : (Tryd.prog.info? 3).map (fun i => (i.zero, i.size, i.bytes)) = some (some (.int .i64 0), 1, 8) := by kernel_rfl
theorem mk_ints (n : Nat) (h : n ≤ 512) (w : World) : (Instr.makeSlice 24 (.int .i64 (n : Int)) (.int .i64 (n : Int))).run Tryd.prog w = .ok (.slice (some ⟨w.heap.size, 0, none⟩) n n) (w.alloc (.cells (nr .i64 n fun _ => 0).toArray 3)) := by
  obtain ⟨i0, hi, hz0, hz1, hz2⟩ := info_parts Tryd.info3q
  have hr := run_make (P := Tryd.prog) w 24 3 i0 (.int .i64 0) Tryd.underlying24 hi hz0 .i64 .i64 n n (by omega) (by omega) (by rw [hz2]; omega) (by omega)
  rw [hz1, Int.toNat_natCast, show madeCells (Value.int .i64 0).cells (n * 1) = (nr .i64 n fun _ => 0).toArray from by
    apply Array.ext
    · simp [madeCells, nr]
    · intro i h1 h2
      simp [madeCells, nr, Value.cells, Nat.mod_one]] at hr
  exact hr
/-- The nodes written by then. -/
def nM (d s j i : Nat) : Nat := if j ≤ i then nd d s i else 0
set_option maxRecDepth 20000 in
set_option maxHeartbeats 1000000 in
theorem rPath_ok (d n s : Nat) (hn : 2 ^ d = n) (h : okS d (s : Int)) (w : World) : Calls Tryd.prog 10 #[.int .i64 (n : Int), .int .i64 (s : Int)] w fun e w' => ∃ v, e = .returned (.tuple #[v, .int .i64 0]) ∧ w'.ownsRow w.heap.size 3 1 v d (nr .i64 d (nd d s)) ∧ Below w.heap.size w w' := by
  have hd := rDepth_any ((2 ^ d : Nat) : Int) w
  obtain ⟨h1, h2, _, h4⟩ := h
  rw [depI_pow d h1 h2, hn] at hd
  rw [hn] at h4
  have h16 := pow_le16 d h2
  rw [hn] at h16
  have hm := mk_ints d (by omega)
  have HD : Hid _ := hd
  have HN : Hid (2 ^ d = n) := hn
  have h4' : (s : Int) < (n : Int) := h4
  have hs4 : s < 2 ^ d := by omega
  have hdz : (d : Int) ≠ 0 := by omega
  have g1 : ((d : Int) == 0) = false := beq_eq_false_iff_ne.2 hdz
  have g2 : decide ((s : Int) < 0) = false := decide_eq_false (by omega)
  have g3 : decide (n ≤ s) = false := decide_eq_false (by omega)
  have b0 : Blk (w.alloc (.cells (nr .i64 d fun _ => 0).toArray 3)) w.heap.size 3 (nr .i64 d (nM d s d)) := by
    have := Blk.new w 3 (nr .i64 d fun _ => 0).toArray
    rw [List.toList_toArray] at this
    rw [nr_congr .i64 d (nM d s d) (fun _ => 0) (fun i hi => by unfold nM; rw [if_neg (by omega)])]; exact this
  have hB0 : Below w.heap.size w (w.alloc (.cells (nr .i64 d fun _ => 0).toArray 3)) := (Below.refl _ w).alloc (Nat.le_refl _) _
  clear hd hn h4
  go_enter Tryd.func10, Tryd.ntmps10
  go_wp2_with fail
  refine Calls.mono HD.out ?_
  rintro e w' ⟨rfl, hw'⟩
  rw [hw']
  clear hw' w'
  go_wp2_with fail
  generalize w.alloc (.cells (nr .i64 d fun _ => 0).toArray 3) = W0 at b0 hB0 ⊢
  clear hm
  go_loopw [8, 9] (fun y i wr => ∃ j : Nat, j ≤ d ∧ y = .int .i64 (nd d s j : Int) ∧ i = .int .i64 ((j : Int) - 1) ∧ Blk wr w.heap.size 3 (nr .i64 d (nM d s j)) ∧ Below w.heap.size w wr) (fun _ i _ => (intOf i + 1).toNat)
  case atStart => exact ⟨d, Nat.le_refl _, by rw [nd_last, HN.out]; simp, rfl, b0, hB0⟩
  case round =>
    clear b0 hB0
    obtain ⟨j, hj, rfl, rfl, hb, hB⟩ := hrel
    rcases Nat.eq_zero_or_pos j with rfl | hj1
    · rw [show ((0 : Nat) : Int) - 1 = -1 from rfl]
      go_wp2_with fail
      go_ret2
      refine ⟨_, rfl, blk_owns (L := nr .i64 d (nd d s)) ?_ (nr_length _ _ _) (by omega) (Nat.le_refl _), hB⟩
      rw [nr_congr .i64 d (nd d s) (nM d s 0) (fun i hi => by unfold nM; rw [if_pos (by omega)])]; exact hb
    · obtain ⟨m, rfl⟩ : ∃ m, j = m + 1 := ⟨j - 1, by omega⟩
      rw [show ((m + 1 : Nat) : Int) - 1 = (m : Int) by omega]
      have hhalf := nd_half d s m (by omega)
      have hin := nd_inner d s m (by omega) hs4
      have hle : nd d s (m + 1) ≤ 100 := by
        have := nd_lt d s (m + 1) (by omega) hs4
        have : 2 ^ (m + 1) ≤ 2 ^ d := pow_mono (by omega)
        have := HN.out
        omega
      have c1 := hb.cell (nr_at .i64 d (nM d s (m + 1)) m (by omega))
      have f1 := hb.frozen m
      have hmi : (m : Int) < (d : Int) := by omega
      have hb1 : Blk (wr.setCell ⟨w.heap.size, m, none⟩ (.int .i64 (nd d s m : Int))) w.heap.size 3 (nr .i64 d (nM d s m)) := by
        have := hb.setCell m (.int .i64 (nd d s m : Int))
        rw [nr_set] at this
        rw [nr_congr .i64 d (nM d s m) _ (fun i hi => ?_)]
        · exact this
        · unfold nM
          by_cases e : i = m
          · rw [if_pos (by omega), if_pos e, e]
          · rw [if_neg e]
            by_cases e2 : m ≤ i
            · rw [if_pos e2, if_pos (by omega)]
            · rw [if_neg e2, if_neg (by omega)]
      have hB1 : Below w.heap.size w (wr.setCell ⟨w.heap.size, m, none⟩ (.int .i64 (nd d s m : Int))) := hB.setCell (p := ⟨w.heap.size, m, none⟩) (Nat.le_refl _) _
      have hq : (nd d s (m + 1) : Int) / 2 = (nd d s m : Int) := by omega
      generalize nd d s (m + 1) = Y at hq hle ⊢
      generalize hM : nd d s m = M at hq hb1 hB1
      go_wp2_with fail
      go_roundw
      case rel => exact ⟨m, by omega, by rw [hM], rfl, hb1, hB1⟩
      case measure => simp [intOf]
end Go.Proofs.YtbbgagpompgagaaDoor
