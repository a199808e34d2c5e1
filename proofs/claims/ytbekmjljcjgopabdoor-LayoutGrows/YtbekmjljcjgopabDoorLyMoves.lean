/- Layouts: Moves, by the program and by the document. -/
import Derived.Test.YtbekmjljcjgopabDoorLyRFind
import Derived.Test.YtbekmjljcjgopabDoorSlRow
namespace Go.Proofs.YtbekmjljcjgopabDoor
open Go.RowKit Go.PlainAid
set_option linter.unusedVariables false
set_option maxRecDepth 20000

/-- The blocks that the next step moves. -/
def mvL (D M : Int) (n : Nat) : List Value := (List.range n).map fun i => .int .i64 (M * (D + 1) + ((i : Nat) : Int))
theorem mvL_succ (D M : Int) (n : Nat) : mvL D M (n + 1) = mvL D M n ++ [.int .i64 (M * (D + 1) + (n : Int))] := by unfold mvL; rw [List.range_succ, List.map_append]; rfl
theorem mvL_len (D M : Int) (n : Nat) : (mvL D M n).length = n := by simp [mvL]
theorem mvL_at (D M : Int) {n i : Nat} (h : i < n) : (mvL D M n)[i]? = some (.int .i64 (M * (D + 1) + (i : Int))) := by
  unfold mvL; rw [List.getElem?_map, List.getElem?_range h]; rfl
def mvN (D S M : Int) (G : Bool) : Nat := if stE D S M G = 0 then (D + 1).toNat else 0
theorem Tryd.info3l : (Tryd.prog.info? 3).map (fun i => (i.zero, i.size, i.bytes)) = some (some (.int .i64 0), 1, 8) := by kernel_rfl
theorem push_int {B : Nat} {w0 w : World} {R : Asn} {v : Value} {m : Nat} {xs : List Value} (hR : Firm R) (h : Hold B w0 w (star (rowK 3 1 v m xs) R)) (hm : m ≤ 1000) (t : Int) :
    ∃ a c w', (Builtin.append_ #[26, 26] 26 #[v, .slice (some ⟨w.heap.size, 0, none⟩) 1 1]).run Tryd.prog (w.alloc (.cells #[.int .i64 t] 3)) = .ok (.slice a (m + 1) c) w' ∧ Hold B w0 w' (star (rowK 3 1 (.slice a (m + 1) c) (m + 1) (xs ++ [.int .i64 t])) R) :=
  push_one hR 26 3 26 _ 1 8 Tryd.underlying26 Tryd.info3l rfl (by decide) (by decide) h hm [.int .i64 t] rfl (fun u hu => by
    simp only [List.mem_cons, List.not_mem_nil, or_false] at hu
    rw [hu]; rfl)
section
variable {D S M : Int} {G : Bool}
theorem st_gd (h : stE D S M G = 0) : Gd D S M G ∧ G = true := by
  unfold stE at h
  by_cases c : Gd D S M G
  · rw [if_pos c] at h
    by_cases g : G = true
    · exact ⟨c, g⟩
    · rw [if_neg g] at h; cases h
  · rw [if_neg c] at h; cases h
theorem md_le (h : Gd D S M G) : 0 ≤ M * (D + 1) ∧ M * (D + 1) ≤ 144 := by
  have hd2 := h.d2
  have hd8 := h.d8
  have hs := h.s16
  have hm := h.m
  exact ⟨Int.mul_nonneg hm.1 (by omega), Int.le_trans (Int.mul_le_mul (show M ≤ 16 by omega) (show D + 1 ≤ 9 by omega) (by omega) (by decide)) (by decide)⟩
set_option maxHeartbeats 1000000 in
theorem moves_any (w : World) (ht : Tabs w) : Calls Tryd.prog 5 #[.agg #[.int .i64 D, .int .i64 S, .int .i64 M, .bool G]] w fun e w' => ∃ v, e = .returned (.tuple #[v, .int .i64 (stE D S M G)]) ∧ w'.ownsRow w.heap.size 3 1 v (mvN D S M G) (mvL D M (mvN D S M G)) ∧ Below w.heap.size w w' := by
  have X0 : Hid (Bx w (w.alloc (.cells #[.int .i64 D, .int .i64 S, .int .i64 M, .bool G] 24)) w.heap.size 24 (lyL D S M G)) := Bx.box w ht 24 (lyL D S M G)
  have q1 : Hid (∀ z, Tabs z → Calls Tryd.prog 11 #[.agg #[.int .i64 D, .int .i64 S, .int .i64 M, .bool G]] z fun e w' => e = .returned (.int .i64 (stE D S M G)) ∧ Below z.heap.size z w') := fun z hz => still_any z hz
  have H0 := (hold_nought w.heap.size w w (Nat.le_refl _) (Below.refl _ _)).newBlk firm_nought 24 #[.int .i64 D, .int .i64 S, .int .i64 M, .bool G]
  by_cases hE : stE D S M G = 0
  · obtain ⟨hg, hG⟩ := st_gd hE
    subst hG
    have hN : mvN D S M true = (D + 1).toNat := if_pos hE
    rw [hN]
    rw [hE] at q1 ⊢
    obtain ⟨hmd0, hmd1⟩ := md_le hg
    have hd2 := hg.d2
    have hd8 := hg.d8
    obtain ⟨n, hn⟩ : ∃ n : Nat, (D + 1).toNat = n := ⟨_, rfl⟩
    rw [hn]
    have HN : Hid (D + 1 = (n : Int)) := (by omega : D + 1 = (n : Int))
    have hn9 : n ≤ 9 := by omega
    clear hg hE hN hn ht
    go_enter Tryd.func5, Tryd.ntmps5
    go_wp2_with (go_at_call 11; refine (q1.out _ X0.out.tabs).mono ?_; rintro x w1 ⟨rfl, hw⟩; have h1 := H0.below ((firm_blk _ _ _).star firm_nought) hw; have c0 := h1.blk.cell (i := 0) rfl; have H1 : Hid (Hold w.heap.size w w1 (star (rowK 3 1 (.slice none 0 0) 0 (mvL D M 0)) (star (blkA w.heap.size 24 [.int .i64 D, .int .i64 S, .int .i64 M, .bool true]) nought))) := h1.mono fun F h => star_nil17 h; clear hw h1)
    go_loopw [6, 17] (fun v j wr => ∃ (k c : Nat) (a : Option Addr), k ≤ n ∧ j = .int .i64 (k : Int) ∧ v = .slice a k c ∧ Hid (Hold w.heap.size w wr (star (rowK 3 1 (.slice a k c) k (mvL D M k)) (star (blkA w.heap.size 24 [.int .i64 D, .int .i64 S, .int .i64 M, .bool true]) nought)))) (fun _ j _ => n - (intOf j).toNat)
    case atStart => exact ⟨0, 0, none, Nat.zero_le _, rfl, rfl, H1.out⟩
    case round =>
      clear H1 H0 c0 X0
      obtain ⟨k, c, a, hk, rfl, rfl, hh⟩ := hrel
      have c2 := hh.out.right.blk.cell (i := 2) rfl
      by_cases hlt : k < n
      · have hk' : (k : Int) < D + 1 := by have := HN.out; omega
        obtain ⟨a', c', w4, hrun, h4⟩ := push_int ((firm_blk _ _ _).star firm_nought) hh.out (by omega) (M * (D + 1) + (k : Int))
        have H4 : Hid (Hold w.heap.size w w4 (star (rowK 3 1 (.slice a' (k + 1) c') (k + 1) (mvL D M (k + 1))) (star (blkA w.heap.size 24 [.int .i64 D, .int .i64 S, .int .i64 M, .bool true]) nought))) := by rw [mvL_succ]; exact h4
        clear h4
        go_wp2_with (at_builtin; refine Lib.wpList_append_run _ rfl _ _ 26 26 rfl _ _ rfl rfl _ _ hrun ?_)
        go_roundw
        case rel => exact ⟨k + 1, c', a', by omega, by go_num, rfl, H4.out⟩
        case measure => simp [intOf]; omega
      · obtain rfl : k = n := by omega
        have hk' : ¬ (k : Int) < D + 1 := by have := HN.out; omega
        go_wp2
        go_ret2
        exact ⟨_, rfl, hh.out.rowBack, hh.out.low⟩
  · have hN : mvN D S M G = 0 := if_neg hE
    have hE1 : (stE D S M G != 0) = true := by simpa using hE
    rw [hN]
    generalize stE D S M G = E at *
    clear hN H0 ht
    go_enter Tryd.func5, Tryd.ntmps5
    go_wp2_with (go_at_call 11; refine (q1.out _ X0.out.tabs).mono ?_; rintro x w1 ⟨rfl, hw⟩; have X1 : Hid (Bx w w1 w.heap.size 24 (lyL D S M G)) := X0.out.next hw; clear hw)
    go_ret2
    exact ⟨_, rfl, World.ownsRow_nil _ _ _ _, X1.out.low⟩
end
end Go.Proofs.YtbekmjljcjgopabDoor
