/- The numbers of a record, as the program lays them. -/
import Derived.Test.YtbjmhpbelkndpaaDoorSuBuf
import Derived.Test.YtbjmhpbelkndpaaDoorSuParse
import Derived.Lib.AppendZeros
namespace Go.Proofs.YtbjmhpbelkndpaaDoor
open Go.RowKit Go.PlainAid
set_option linter.unusedVariables false

section
variable {R : Rec} {sa ma : Option Addr} {sc mc : Nat} {w : World}
set_option maxRecDepth 20000 in
set_option maxHeartbeats 1000000 in
theorem snumbers_any (hg : gd R = true) (hL : Lies w R sa ma) : Calls Tryd.prog 33 #[.agg (supV R sa ma sc mc).toArray] w fun e w' => ∃ g cap, e = .returned (.slice (some ⟨g, 0, none⟩) (9 + R.ns) cap) ∧ w.heap.size ≤ g ∧ Ux w' g (9 + R.ns) (hdN R) ∧ Below w.heap.size w w' := by
  have hr := (gd_iff R).1 hg
  obtain ⟨w1, w2, w3, w4, w5, w6, w7, w8, w9, w10⟩ := wid_le hr
  have hse := hr.2.2.1
  have HS : Hid (∀ j, j < R.ns → 0 ≤ R.seat j ∧ R.seat j < (R.nm : Int)) := hse
  have HL : Hid (Lies w R sa ma) := hL
  have h0 := (hold_nought w.heap.size w w (Nat.le_refl _) (Below.refl _ _)).newBlk firm_nought 26 (supV R sa ma sc mc).toArray
  have h8 := hold8 ((firm_blk _ _ _).star firm_nought) h0 R
  rw [World.size_alloc] at h8
  have H8 : Hid (Hold _ _ _ (star (rowA 22 _ _ _) (star (blkA _ _ (supV R sa ma sc mc)) nought))) := h8
  have e1 : R.data % 18446744073709551616 = R.data := by omega
  have e2 : R.slots % 18446744073709551616 = R.slots := by omega
  have e3 : R.mark % 18446744073709551616 = R.mark := by omega
  have e4 : R.built % 18446744073709551616 = R.built := by omega
  have e5 : (R.ns : Int) % 18446744073709551616 = (R.ns : Int) := by omega
  have e6 : (R.nm : Int) % 18446744073709551616 = (R.nm : Int) := by omega
  have HN : Hid (R.ns ≤ 11 ∧ R.nm ≤ 12) := ⟨w1, w2⟩
  have HD : Hid (∀ k, k < R.ns → hdN R (8 + k) = R.seat k) := hdN_seat R
  have HD2 : Hid (hdN R (8 + R.ns) = (R.nm : Int)) := hdN_last R
  clear hr hse hL hg h0 h8 w3 w4 w5 w6 w7 w8 w9 w10
  unfold hd8 at H8
  have H9 : Hid (∀ wr g c m, Hold w.heap.size w wr (star (rowA 22 (.slice (some ⟨g, 0, none⟩) m c) m (un m (hdN R))) (star (blkA w.heap.size 26 (supV R sa ma sc mc)) nought)) → wr.cell? ⟨w.heap.size, 8, none⟩ = some (.slice ma R.nm mc)) := fun wr g c m h => h.right.blk.cell rfl
  obtain ⟨L, hLL⟩ : ∃ L, supV R sa ma sc mc = L := ⟨_, rfl⟩
  have c0 : L[0]? = some (.int .u64 R.count) := by rw [← hLL]; rfl
  have c1 : L[1]? = some (.int .u64 R.epoch) := by rw [← hLL]; rfl
  have c2 : L[2]? = some (.int .i64 R.data) := by rw [← hLL]; rfl
  have c3 : L[3]? = some (.int .i64 R.slots) := by rw [← hLL]; rfl
  have c4 : L[4]? = some (.int .i64 R.mark) := by rw [← hLL]; rfl
  have c5 : L[5]? = some (.int .i64 R.built) := by rw [← hLL]; rfl
  have c6 : L[6]? = some (.bool R.grow) := by rw [← hLL]; rfl
  have c7 : L[7]? = some (.slice sa R.ns sc) := by rw [← hLL]; rfl
  rw [hLL] at H8 H9 ⊢
  have hK := Blk.box w 26 L
  have hK2 := hK.alloc (.cells (hd8 R) 22)
  have d0 := hK.cell c0
  have d1 := hK.cell c1
  have d2 := hK.cell c2
  have d3 := hK.cell c3
  have d4 := hK.cell c4
  have d5 := hK.cell c5
  have d6 := hK.cell c6
  have d7 := hK.cell c7
  have d72 := hK2.cell c7
  unfold hd8 at d72
  clear hLL c0 c1 c2 c3 c4 c5 c6 c7 hK hK2
  cases hgr : R.grow
  · rw [hgr] at H8 d6 d72
    simp only [Bool.false_eq_true, if_false] at H8 d72
    go_enter Tryd.func33, Tryd.ntmps33
    go_wp2
    clear d0 d1 d2 d3 d4 d5 d6 d7 d72
    go_loopw [4, 34] (fun l i wr => ∃ (k g c : Nat), k ≤ R.ns ∧ i = .int .i64 (k : Int) ∧ l = .slice (some ⟨g, 0, none⟩) (8 + k) c ∧ Hid (Hold w.heap.size w wr (star (rowA 22 (.slice (some ⟨g, 0, none⟩) (8 + k) c) (8 + k) (un (8 + k) (hdN R))) (star (blkA w.heap.size 26 L) nought)))) (fun _ i _ => R.ns - (intOf i).toNat)
    case atStart => exact ⟨0, _, _, Nat.zero_le _, rfl, rfl, H8.out⟩
    case round =>
      clear H8
      obtain ⟨k, g, c, hk, rfl, rfl, hh⟩ := hrel
      by_cases hlt : k < R.ns
      · have hk' : (k : Int) < (R.ns : Int) := by omega
        obtain ⟨b, o, rfl, hr⟩ := HL.out.1.at hh.out.low k hlt
        have hs := HS.out k hlt
        have hns := HN.out
        have e7 : R.seat k % 18446744073709551616 = R.seat k := by omega
        obtain ⟨g', c', w3, hrun, h3⟩ := push8 ((firm_blk _ _ _).star firm_nought) hh.out (by omega) 72 (R.seat k) (HD.out k hlt)
        have H3 : Hid (Hold _ _ _ _) := h3
        clear h3 hh hs hns
        go_wp2_with (at_builtin; refine Lib.wpList_append_run _ rfl _ _ 72 72 rfl _ _ rfl rfl _ _ hrun ?_)
        go_roundw
        case rel => exact ⟨k + 1, g', c', by omega, by go_num, by congr 1, H3.out⟩
        case measure => simp [intOf]; omega
      · obtain rfl : k = R.ns := by omega
        have hk' : ¬ (R.ns : Int) < (R.ns : Int) := by omega
        have hns := HN.out
        have c8' := H9.out _ _ _ _ hh.out
        obtain ⟨g', c', w3, hrun, h3⟩ := push8 ((firm_blk _ _ _).star firm_nought) hh.out (by omega) 72 (R.nm : Int) HD2.out
        have H3 : Hid (Hold _ _ _ _) := h3
        have hgg := World.ownsRow.lt h3.row g' rfl
        clear h3 hh hns
        have e8 : 8 + R.ns + 1 = 9 + R.ns := by omega
        have H4 : Hid (Ux w3 g' (9 + R.ns) (hdN R)) := by rw [← e8]; exact ux_row H3.out.row
        have H5 : Hid (w.heap.size ≤ g') := by
          obtain ⟨h1, h2, F, ⟨G, H, ⟨h3, h4⟩, h5, h6, h7⟩, h8⟩ := H3.out
          exact h8 g' ((h7 g').2 (.inl ((h4 g').2 rfl)))
        clear hgg
        go_wp2_with (at_builtin; refine Lib.wpList_append_run _ rfl _ _ 72 72 rfl _ _ rfl rfl _ _ hrun ?_)
        go_ret
        exact ⟨g', ⟨c', rfl⟩, H5.out, H4.out, H3.out.low⟩
  · rw [hgr] at H8 d6 d72
    simp only [if_true] at H8 d72
    go_enter Tryd.func33, Tryd.ntmps33
    go_wp2
    clear d0 d1 d2 d3 d4 d5 d6 d7 d72
    go_loopw [4, 34] (fun l i wr => ∃ (k g c : Nat), k ≤ R.ns ∧ i = .int .i64 (k : Int) ∧ l = .slice (some ⟨g, 0, none⟩) (8 + k) c ∧ Hid (Hold w.heap.size w wr (star (rowA 22 (.slice (some ⟨g, 0, none⟩) (8 + k) c) (8 + k) (un (8 + k) (hdN R))) (star (blkA w.heap.size 26 L) nought)))) (fun _ i _ => R.ns - (intOf i).toNat)
    case atStart => exact ⟨0, _, _, Nat.zero_le _, rfl, rfl, H8.out⟩
    case round =>
      clear H8
      obtain ⟨k, g, c, hk, rfl, rfl, hh⟩ := hrel
      by_cases hlt : k < R.ns
      · have hk' : (k : Int) < (R.ns : Int) := by omega
        obtain ⟨b, o, rfl, hr⟩ := HL.out.1.at hh.out.low k hlt
        have hs := HS.out k hlt
        have hns := HN.out
        have e7 : R.seat k % 18446744073709551616 = R.seat k := by omega
        obtain ⟨g', c', w3, hrun, h3⟩ := push8 ((firm_blk _ _ _).star firm_nought) hh.out (by omega) 72 (R.seat k) (HD.out k hlt)
        have H3 : Hid (Hold _ _ _ _) := h3
        clear h3 hh hs hns
        go_wp2_with (at_builtin; refine Lib.wpList_append_run _ rfl _ _ 72 72 rfl _ _ rfl rfl _ _ hrun ?_)
        go_roundw
        case rel => exact ⟨k + 1, g', c', by omega, by go_num, by congr 1, H3.out⟩
        case measure => simp [intOf]; omega
      · obtain rfl : k = R.ns := by omega
        have hk' : ¬ (R.ns : Int) < (R.ns : Int) := by omega
        have hns := HN.out
        have c8' := H9.out _ _ _ _ hh.out
        obtain ⟨g', c', w3, hrun, h3⟩ := push8 ((firm_blk _ _ _).star firm_nought) hh.out (by omega) 72 (R.nm : Int) HD2.out
        have H3 : Hid (Hold _ _ _ _) := h3
        have hgg := World.ownsRow.lt h3.row g' rfl
        clear h3 hh hns
        have e8 : 8 + R.ns + 1 = 9 + R.ns := by omega
        have H4 : Hid (Ux w3 g' (9 + R.ns) (hdN R)) := by rw [← e8]; exact ux_row H3.out.row
        have H5 : Hid (w.heap.size ≤ g') := by
          obtain ⟨h1, h2, F, ⟨G, H, ⟨h3, h4⟩, h5, h6, h7⟩, h8⟩ := H3.out
          exact h8 g' ((h7 g').2 (.inl ((h4 g').2 rfl)))
        clear hgg
        go_wp2_with (at_builtin; refine Lib.wpList_append_run _ rfl _ _ 72 72 rfl _ _ rfl rfl _ _ hrun ?_)
        go_ret
        exact ⟨g', ⟨c', rfl⟩, H5.out, H4.out, H3.out.low⟩
end
end Go.Proofs.YtbjmhpbelkndpaaDoor
