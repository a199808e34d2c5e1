/- A matrix without a row and a column; its determinant by the first row; the inverse by determinants: the document's answers. -/
import Derived.Test.YthcbnffhkbbkpaaMatRefMul
import Derived.Test.YthcbnffhkbbkpaaDet
namespace Go.Proofs.Ythcbnffhkbbkpaa
open Go.RowKit Go.PlainAid
set_option linter.unusedVariables false

/-- How many of the first k are left without one. -/
def cnt (c k : Nat) : Nat := if k ≤ c then k else k - 1
theorem cnt_skip {c k : Nat} (h : k ≠ c) : skip c (cnt c k) = k := by unfold skip cnt; split <;> split <;> omega
theorem cnt_ne {c k : Nat} (h : k ≠ c) : cnt c (k + 1) = cnt c k + 1 := by unfold cnt; split <;> split <;> omega
theorem cnt_eq (c : Nat) : cnt c (c + 1) = cnt c c := by unfold cnt; split <;> split <;> omega
theorem cnt_zero (c : Nat) : cnt c 0 = 0 := by unfold cnt; split <;> omega
theorem cnt_last {c N : Nat} (h : c < N + 1) : cnt c (N + 1) = N := by unfold cnt; split <;> omega
theorem cnt_le (c k : Nat) : cnt c k ≤ k := by unfold cnt; split <;> omega
def minorM (X : Mx) (row col : Nat) : Mx := fun r c => X (skip row r) (skip col c)

set_option maxHeartbeats 2000000 in
theorem without_any (a : Option Addr) (n N ca row col : Nat) (X : Mx) (w : World) (hn : n = N + 1) (hN : N ≤ 15) (hA : MatAt w a n (fun _ => n) X) (hr : row < n) (hc : col < n) :
    Calls Try.prog 35 #[.slice a n ca, .int .i64 (row : Int), .int .i64 (col : Int)] w fun e w' => Below w.heap.size w w' ∧ ∃ vo, e = .returned vo ∧ AccM w' w.heap.size vo N (fun _ => N) (minorM X row col) := by
  obtain ⟨ba, oa, rfl, hR⟩ := rows_in hA ⟨by omega, by omega, by show 1 ≤ n; omega, by show n ≤ 16; omega, fun _ _ => rfl⟩
  have HR : Hid (RowsIn w ba oa n n X) := hR
  have HN : Hid (n = N + 1) := hn
  have hn16 : n ≤ 16 := by omega
  clear hR hA hn
  go_enter Try.func35, Try.ntmps35
  go_wp2_with fail
  go_loopw [7, 8] (fun o i wr => ∃ k : Nat, k ≤ n ∧ i = .int .i64 k ∧ Below w.heap.size w wr ∧ AccM wr w.heap.size o (cnt row k) (fun _ => N) (minorM X row col)) (fun _ i _ => (n : Nat) - (intOf i).toNat)
  case atStart => exact ⟨0, Nat.zero_le _, rfl, Below.refl _ _, by rw [cnt_zero]; exact AccM.nil _ _ _ _⟩
  case round =>
    obtain ⟨k, hk, rfl, hbk, hAk⟩ := hrel
    by_cases hlt : k < n
    · by_cases hkr : k = row
      · have t1 : ((k : Int) == (row : Int)) = true := by simp [hkr]
        have HE : Hid (cnt row (k + 1) = cnt row k) := (by rw [hkr]; exact cnt_eq row : cnt row (k + 1) = cnt row k)
        clear hkr
        go_wp2_with fail
        go_roundw
        case rel => exact ⟨k + 1, by omega, by go_num, hbk, by rw [HE.out]; exact hAk⟩
        case measure => simp [intOf]; omega
      · have t1 : ((k : Int) == (row : Int)) = false := by simp; omega
        have HE : Hid (cnt row (k + 1) = cnt row k + 1) := cnt_ne hkr
        have HS : Hid (skip row (cnt row k) = k) := cnt_skip hkr
        have hq16 : cnt row k < 1000 := by have := cnt_le row k; omega
        clear hkr
        go_wp2_with fail
        obtain ⟨wo, hwo⟩ : ∃ wo, wo = wr := ⟨_, rfl⟩
        have HWO : Hid (wo = wr) := hwo
        have hAo := hAk
        rw [← hwo] at hAo
        have hbo : Below w.heap.size w wo := by rw [hwo]; exact hbk
        clear hwo
        go_loopw [9, 10] (fun v i wi => ∃ j : Nat, j ≤ n ∧ i = .int .i64 j ∧ Below wo.heap.size wo wi ∧ wi.ownsRow wo.heap.size 5 1 v (cnt col j) (bytesL (cnt col j) (minorM X row col (cnt row k)))) (fun _ i _ => (n : Nat) - (intOf i).toNat)
        case atStart => exact ⟨0, Nat.zero_le _, rfl, by rw [HWO.out]; exact Below.refl _ _, by rw [cnt_zero]; exact World.ownsRow_nil _ _ _ _⟩
        case round =>
          obtain ⟨j, hj, rfl, hbj, hoj⟩ := hrel
          by_cases hjn : j < n
          · by_cases hjc : j = col
            · have t2 : ((j : Int) != (col : Int)) = false := by simp [hjc]
              have HE2 : Hid (cnt col (j + 1) = cnt col j) := (by rw [hjc]; exact cnt_eq col : cnt col (j + 1) = cnt col j)
              clear hjc
              go_wp2_with fail
              go_roundw
              case rel => exact ⟨j + 1, by omega, by go_num, hbj, by rw [HE2.out]; exact hoj⟩
              case measure => simp [intOf]; omega
            · have t2 : ((j : Int) != (col : Int)) = true := by simp; omega
              have HE2 : Hid (cnt col (j + 1) = cnt col j + 1) := cnt_ne hjc
              have HV : Hid (Value.int .u8 ((X k j).v : Int) = byteV (minorM X row col (cnt row k) (cnt col j))) := (by unfold minorM; rw [HS.out, cnt_skip hjc]; rfl : Value.int .u8 ((X k j).v : Int) = byteV (minorM X row col (cnt row k) (cnt col j)))
              have hq2 : cnt col j < 1000000000 := by have := cnt_le col j; omega
              obtain ⟨b1, o1, c1, e1, f1⟩ := HR.out wr (hbo.trans (hbj.mono hbo.size)) k hlt
              have f1' := f1 j hjn
              clear hjc f1
              generalize (X k j).v = x1 at f1' HV
              go_wp2_with (at_builtin; refine push_byte_at rfl _ _ rfl _ wo.heap.size _ (cnt col j) (minorM X row col (cnt row k)) hoj rfl _ HV.out _ rfl rfl hq2 hbj.size ?_)
              intro v' w6 ho6 hb6
              go_wp2_with fail
              go_roundw
              case rel => exact ⟨j + 1, by omega, by go_num, hbj.trans hb6, by rw [HE2.out]; exact ho6⟩
              case measure => simp [intOf]; omega
          · have hjn' : j = n := by omega
            subst hjn'
            have hl : cnt col j = N := by rw [HN.out]; exact cnt_last (by rw [← HN.out]; exact hc)
            rw [hl] at hoj
            obtain ⟨ar, cr, hv8, _, _⟩ := owns_form hoj _ (fun i hi => bytesL_at _ _ i hi)
            subst hv8
            have hAi := hAo.below hbj
            have hvi := owns_mono hoj hbo.size
            clear hl
            go_wp2_with (at_builtin; refine push_row_at rfl _ _ 25 rfl Try.underlying25 _ w.heap.size _ _ (cnt row k) (fun _ => N) (minorM X row col) hAi hvi rfl _ rfl rfl hq16 (Nat.le_trans hbo.size hbj.size) ?_)
            intro vo' w4 hA4 hb4
            go_wp2_with fail
            go_roundw
            case rel => exact ⟨k + 1, by omega, by go_num, hbo.trans ((hbj.mono hbo.size).trans hb4), by rw [HE.out]; exact hA4⟩
            case measure => simp [intOf]; omega
    · have hkn : k = n := by omega
      subst hkn
      have hl : cnt row k = N := by rw [HN.out]; exact cnt_last (by rw [← HN.out]; exact hr)
      rw [hl] at hAk
      clear hl
      go_wp2_with fail
      go_ret
      exact ⟨hbk, _, rfl, hAk⟩
end Go.Proofs.Ythcbnffhkbbkpaa
