/- What the program's own product of a text by an element answers. -/
import Derived.Test.YthcbnffhkbbkpaaGfMul
import Derived.Test.YthcbnffhkbbkpaaXor
import Derived.Below
namespace Go.Proofs.Ythcbnffhkbbkpaa
open Go.RowKit Go.PlainAid
set_option linter.unusedVariables false

/-- A byte times an element. -/
def gb (a : Nat) (s : ByteArray) (i : Nat) : Int := (gm a (bt s i).toNat : Nat)
def scaleL (a : Nat) (s : ByteArray) (k : Nat) : List Int := (List.range k).map (gb a s)
def scaleB (a : Nat) (s : ByteArray) : ByteArray := strOfNums (scaleL a s s.size)
theorem scaleL_succ (a : Nat) (s : ByteArray) (k : Nat) : scaleL a s (k + 1) = scaleL a s k ++ [gb a s k] := by
  unfold scaleL; rw [List.range_succ, List.map_append]; rfl
theorem scaleL_length (a : Nat) (s : ByteArray) (k : Nat) : (scaleL a s k).length = k := by simp [scaleL]
theorem gb_range (a : Nat) (ha : a < 256) (s : ByteArray) (i : Nat) : 0 ≤ gb a s i ∧ gb a s i ≤ 255 := by
  have := gm_lt a (bt s i).toNat ha
  unfold gb; omega
theorem bt_scaleB (a : Nat) (ha : a < 256) (s : ByteArray) (i : Nat) (h : i < s.size) : bt (scaleB a s) i = gb a s i := by
  unfold scaleB
  rw [bt_str _ _ i (by rw [scaleL_length]; exact h)]
  · simp [scaleL]
  · intro x hx
    obtain ⟨j, _, rfl⟩ := List.mem_map.1 hx
    exact gb_range a ha s j
theorem scaleB_size (a : Nat) (s : ByteArray) : (scaleB a s).size = s.size := by unfold scaleB; rw [strOfNums_size, scaleL_length]

theorem gfMul_bt (a : Nat) (ha : a < 256) (s : ByteArray) (k : Nat) (w : World) :
    Calls Try.prog 23 #[.int .u8 (bt s k), .int .u8 (a : Int)] w fun e w' => e = .returned (.int .u8 (gb a s k)) ∧ w' = w := by
  have h0 := bt_nonneg s k
  have h1 := bt_le s k
  have := gfMul_any (bt s k).toNat a (by omega) ha w
  rw [Int.toNat_of_nonneg h0, gm_comm _ _ (by omega) ha] at this
  exact this

set_option maxHeartbeats 400000 in
theorem gfScale_any (a : Nat) (ha : a < 256) (s : ByteArray) (w : World) (hs : s.size ≤ maxLen) (hs' : s.size ≤ 281474976710656) :
    Calls Try.prog 10 #[.int .u8 (a : Int), .string s] w fun e w' => e = .returned (.string (scaleB a s)) ∧ Below w.heap.size w w' := by
  obtain ⟨i0, hi, hz0, hz1, hz2⟩ := info_parts Try.info5
  unfold maxLen at hs
  obtain ⟨n, hn⟩ : ∃ n : Nat, s.size = n := ⟨_, rfl⟩
  have hba := get_bt s
  go_enter Try.func10, Try.ntmps10
  go_wp2_with (at_make; refine wpList_make_full _ rfl _ _ 48 rfl w.heap.size 5 i0 (.int .u8 0) 1 Try.underlying48 hi hz0 hz1 _ _ _ _ n rfl rfl ?c0 ?c1 ?c2 ?c3 ?c4 ?_)
  case c0 => omega
  case c1 => omega
  case c2 => rw [hz2]; omega
  case c3 => unfold maxLen; omega
  case c4 => exact Nat.le_refl _
  intro w1 hown hgrow
  have hbel : Below w.heap.size w w1 := (Below.refl _ _).grown hgrow (Nat.le_refl _) (fun k h => by cases h)
  rw [toList_madeCells_one, ← filled_zero n (fun i => .int .u8 (gb a s i))] at hown
  go_wp2_with fail
  go_loopw [12] (fun i wr => ∃ k : Nat, k ≤ n ∧ i = .int .i64 k ∧ wr.ownsRow w.heap.size 5 1 (.slice (some ⟨w.heap.size, 0, none⟩) n n) n (filled n k (fun i => .int .u8 (gb a s i)) (.int .u8 0)) ∧ Below w.heap.size w wr) (fun i _ => n - (intOf i).toNat)
  case atStart => exact ⟨0, Nat.zero_le _, rfl, hown, hbel⟩
  case round =>
    obtain ⟨k, hk, rfl, hown', hbel'⟩ := hrel
    by_cases hlt : k < n
    · have hcell := hown'.cellAt k (by omega)
      have hfr := hown'.frozenAt k
      have hst := hown'.stored k (.int .u8 (gb a s k))
      rw [filled_set n k (fun i => .int .u8 (gb a s i)) _ hlt] at hst
      obtain ⟨v0, hv0⟩ : ∃ v0, wr.cell? ⟨w.heap.size, k, none⟩ = some v0 := by
        rw [hcell]; exact ⟨_, List.getElem?_eq_getElem (by simp [filled]; exact hlt)⟩
      have hks : k < s.size := by omega
      clear hcell
      go_wp2_with fail
      go_at_call 23
      refine (gfMul_bt a ha s k _).mono ?_
      rintro e w' ⟨rfl, rfl⟩
      go_wp2_with fail
      go_roundw
      case rel => exact ⟨k + 1, by omega, by go_num, hst.1, hbel'.setCell (Nat.le_refl _) _⟩
      case measure => simp [intOf]; omega
    · have hkn : k = n := by omega
      subst hkn
      rw [filled_full] at hown'
      have hconv := run_convert_bytes_arg (P := Try.prog) wr 48 5 Try.underlying48 Try.underlying5 w.heap.size 0 k k (scaleL a s k) (scaleL_length a s k) (fun i hi => by
        rw [Nat.zero_add, hown'.cellAt i (by omega)]
        simp [scaleL, List.getD, hi]) 9 Try.underlying9
      go_wp2_with fail
      go_ret
      have hh : scaleB a s = strOfNums (scaleL a s k) := by unfold scaleB; rw [hn]
      exact ⟨by rw [hh]; rfl, hbel'⟩
end Go.Proofs.Ythcbnffhkbbkpaa
