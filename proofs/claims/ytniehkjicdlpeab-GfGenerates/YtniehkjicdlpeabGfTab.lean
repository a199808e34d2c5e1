/- What the program's own tables hold. -/
import Derived.Test.YtniehkjicdlpeabGfPow
import Derived.Below
import Derived.OwnWalk
import Derived.Laws.OwnMore
namespace Go.Proofs.Ytniehkjicdlpeab
open Go.RowKit
set_option linter.unusedVariables false

/-- The tables behind k rounds: the logarithms, then the powers. -/
def logAt (k j : Nat) : Nat := if j ≠ 0 ∧ lg j < k then lg j else 0
def expAt (k i : Nat) : Nat := if i < k then gp 2 i else 0
def tab (k : Nat) : List Value := (List.range 511).map fun j => if j < 256 then .int .i64 (logAt k j : Int) else .int .u8 (expAt k (j - 256) : Int)
theorem tab_length (k : Nat) : (tab k).length = 511 := by simp [tab]
theorem tab_log (k j : Nat) (h : j < 256) : (tab k)[j]? = some (.int .i64 (logAt k j : Int)) := by
  unfold tab; rw [List.getElem?_map, List.getElem?_range (by omega)]; simp only [Option.map_some, if_pos h]
theorem tab_exp (k i : Nat) (h : i < 255) : (tab k)[256 + i]? = some (.int .u8 (expAt k i : Int)) := by
  unfold tab
  rw [List.getElem?_map, List.getElem?_range (by omega)]
  simp only [Option.map_some]
  rw [if_neg (by omega), show 256 + i - 256 = i by omega]
theorem logAt_step (k j : Nat) (hk : k < 255) (hj : j < 256) : logAt (k + 1) j = if j = gp 2 k then k else logAt k j := by
  unfold logAt
  by_cases h : j = gp 2 k
  · rw [if_pos h]
    subst h
    rw [lg_ex k hk, if_pos ⟨gp_ne 2 k (by omega) (by omega), by omega⟩]
  · rw [if_neg h]
    by_cases hz : j = 0
    · subst hz; simp
    · have hne : lg j ≠ k := fun h2 => h (by rw [← h2, ex_lg j hj hz])
      by_cases hl : lg j < k
      · rw [if_pos ⟨hz, by omega⟩, if_pos ⟨hz, hl⟩]
      · rw [if_neg (fun h2 => by omega), if_neg (fun h2 => hl h2.2)]
theorem tab_step (k : Nat) (hk : k < 255) : ((tab k).set (256 + k) (.int .u8 (gp 2 k : Int))).set (gp 2 k) (.int .i64 (k : Int)) = tab (k + 1) := by
  have hp := gp_lt 2 k (by omega)
  apply List.ext_getElem
  · simp only [List.length_set, tab_length]
  · intro j h1 h2
    simp only [List.length_set, tab_length] at h1
    rw [List.getElem_set, List.getElem_set]
    simp only [tab, List.getElem_map, List.getElem_range]
    by_cases hj : j < 256
    · rw [if_pos hj, if_pos hj, if_neg (show ¬ 256 + k = j by omega), logAt_step k j hk hj]
      by_cases e : gp 2 k = j
      · rw [if_pos e, if_pos e.symm]
      · rw [if_neg e, if_neg (fun h => e h.symm)]
    · rw [if_neg hj, if_neg hj, if_neg (show ¬ gp 2 k = j by omega)]
      unfold expAt
      by_cases e : 256 + k = j
      · subst e; rw [if_pos rfl, show 256 + k - 256 = k by omega, if_pos (by omega)]
      · rw [if_neg e]
        by_cases hl : j - 256 < k
        · rw [if_pos hl, if_pos (by omega)]
        · rw [if_neg hl, if_neg (by omega)]
/-- The zero of the tables' type. -/
def zT : Array Value := Array.replicate 256 (.int .i64 0) ++ Array.replicate 255 (.int .u8 0)
theorem zT_size : zT.size = 511 := by kernel_rfl
theorem zT_list : zT.toList = (List.range 511).map (fun j => if j < 256 then Value.int .i64 0 else .int .u8 0) := by kernel_rfl
theorem tab_zero : zT.toList = tab 0 := by
  have h1 : ∀ j, logAt 0 j = 0 := by intro j; unfold logAt; rw [if_neg (fun h => by omega)]
  have h2 : ∀ j, expAt 0 j = 0 := by intro j; unfold expAt; rw [if_neg (fun h => by omega)]
  rw [zT_list]
  unfold tab
  apply List.map_congr_left
  intro j _
  rw [h1, h2]
  rfl
theorem Try.zero42 : (Try.prog.info? 42).map (fun i => i.zero) = some (some (.agg zT)) := by kernel_rfl
theorem zero_run (w : World) : (zeroValue 42).run Try.prog w = .ok (.agg zT) w := by
  obtain ⟨i, hi, hz⟩ := Option.map_eq_some_iff.1 Try.zero42
  simp [zeroValue, typeInfo, hi, hz]

/-- The tables lie in the block g. -/
def OwnsT (w : World) (base g k : Nat) : Prop := w.ownsRow base 42 1 (.slice (some ⟨g, 0, none⟩) 511 511) 511 (tab k)
def IsTab (w : World) (g : Nat) : Prop :=
  (∀ a, a < 256 → a ≠ 0 → w.cell? ⟨g, a, none⟩ = some (.int .i64 (lg a : Int))) ∧ (∀ i, i < 255 → w.cell? ⟨g, 256 + i, none⟩ = some (.int .u8 (gp 2 i : Int)))
theorem OwnsT.isTab {w : World} {base g : Nat} (h : OwnsT w base g 255) : IsTab w g := by
  constructor
  · intro a ha hz
    rw [World.ownsRow.cellAt h a (by omega), tab_log 255 a ha]
    unfold logAt
    rw [if_pos ⟨hz, lg_all a ha hz⟩]
  · intro i hi
    rw [World.ownsRow.cellAt h (256 + i) (by omega), tab_exp 255 i hi]
    unfold expAt
    rw [if_pos hi]
theorem IsTab.lt {w : World} {g : Nat} (h : IsTab w g) : g < w.heap.size := by
  have := h.1 1 (by omega) (by omega)
  rcases Nat.lt_or_ge g w.heap.size with h' | h'
  · exact h'
  · simp [World.cell?, Array.getElem?_eq_none h'] at this
theorem IsTab.below {w w' : World} {g : Nat} (h : IsTab w g) (hb : Below w.heap.size w w') : IsTab w' g :=
  ⟨fun a ha hz => (hb.cell (p := ⟨g, a, none⟩) h.lt).trans (h.1 a ha hz), fun i hi => (hb.cell (p := ⟨g, 256 + i, none⟩) h.lt).trans (h.2 i hi)⟩

set_option maxRecDepth 20000 in
set_option maxHeartbeats 1000000 in
theorem gfNew_any (w : World) :
    Calls Try.prog 14 #[] w fun e w' => e = .returned (.pointer (some ⟨w.heap.size, 0, none⟩)) ∧ IsTab w' w.heap.size ∧ Below w.heap.size w w' := by
  have hzr := zero_run
  have hzl := tab_zero
  have hzs := zT_size
  generalize zT = Z at hzr hzl hzs
  go_enter Try.func14, Try.ntmps14
  go_wp2_with fail
  have hown0 : OwnsT (w.alloc (.cells Z 42)) w.heap.size w.heap.size 0 :=
    ⟨by rw [tab_length], .inr ⟨w.heap.size, 511, Z, rfl, Nat.le_refl _, heap_alloc_new w _, Nat.le_refl _, by unfold maxLen; omega, by rw [hzs], by rw [hzl]; exact List.take_of_length_le (by rw [tab_length]; omega)⟩⟩
  have hbel0 : Below w.heap.size w (w.alloc (.cells Z 42)) := (Below.refl _ _).alloc (Nat.le_refl _) _
  clear hzr hzl hzs
  generalize w.alloc (.cells Z 42) = ws at hown0 hbel0 ⊢
  go_loopw [2, 6] (fun p n wr => ∃ k : Nat, k ≤ 255 ∧ p = .int .u8 (gp 2 k : Int) ∧ n = .int .i64 (k : Int) ∧ OwnsT wr w.heap.size w.heap.size k ∧ Below w.heap.size w wr) (fun _ n _ => (255 - intOf n).toNat)
  case atStart => exact ⟨0, by omega, rfl, rfl, hown0, hbel0⟩
  case round =>
    obtain ⟨k, hk, rfl, rfl, hown, hbel⟩ := hrel
    by_cases hlt : k < 255
    · have hlt' : (k : Int) < 255 := by omega
      have hp := gp_lt 2 k (by omega)
      have hc1 := (World.ownsRow.cellAt hown (256 + k) (by omega)).trans (tab_exp k k hlt)
      have hf1 := World.ownsRow.frozenAt hown (256 + k)
      have hst1 := (World.ownsRow.stored hown (256 + k) (.int .u8 (gp 2 k : Int))).1
      have hc2 := (World.ownsRow.cellAt hown (gp 2 k) (by omega)).trans (tab_log k (gp 2 k) hp)
      have hf2 := World.ownsRow.frozenAt hst1 (gp 2 k)
      have hst2 := (World.ownsRow.stored hst1 (gp 2 k) (.int .i64 (k : Int))).1
      rw [tab_step k hlt] at hst2
      clear hst1 hown
      obtain ⟨P, hP⟩ : ∃ P, gp 2 k = P := ⟨_, rfl⟩
      have HM : Hid (gp 2 (k + 1) = gm P 2) := by rw [← hP]; rfl
      generalize expAt k k = E1 at hc1
      rw [hP] at hp hc2 hf2 hst2 ⊢
      generalize logAt k P = E2 at hc2
      clear hP
      go_wp2_with fail
      go_at_call 9
      refine (gfMul_any P 2 hp (by omega) _).mono ?_
      rintro e w' ⟨rfl, rfl⟩
      go_wp2_with fail
      go_roundw
      case rel => exact ⟨k + 1, by omega, by rw [HM.out], by go_num, hst2, (hbel.setCell (Nat.le_refl _) _).setCell (Nat.le_refl _) _⟩
      case measure => simp [intOf]; omega
    · have hk255 : k = 255 := by omega
      subst hk255
      go_wp2_with fail
      go_ret
      exact ⟨rfl, hown.isTab, hbel⟩
end Go.Proofs.Ytniehkjicdlpeab
