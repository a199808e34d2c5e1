/- What the Go functions that combine two texts answer, for every two texts: the program's own, and the document's. -/
import Derived.Test.YtnpebabffnjmmaaRows
import Derived.Test.YtnpebabffnjmmaaBytes
import Derived.WalkKit
import Derived.ProofKit
import Derived.OpenShut
import Derived.WalkLawsBesides
import Derived.WalkSpells
import Derived.PlainAid
import Derived.Laws.BytesArg
namespace Go.Proofs.Ytnpebabffnjmmaa
open Go.RowKit Go.PlainAid
set_option linter.unusedVariables false

/-- A row of n values, the first k of them f's, the rest z. -/
def filled (n k : Nat) (f : Nat → Value) (z : Value) : List Value := (List.range n).map fun i => if i < k then f i else z
theorem filled_zero (n : Nat) (f : Nat → Value) (z : Value) : filled n 0 f z = List.replicate n z := by
  unfold filled; simp; exact List.eq_replicate_iff.2 ⟨by simp, by simp⟩
theorem filled_full (n : Nat) (f : Nat → Value) (z : Value) : filled n n f z = (List.range n).map f := by
  unfold filled
  apply List.map_congr_left
  intro i hi
  rw [if_pos (by simpa using hi)]
theorem filled_set (n k : Nat) (f : Nat → Value) (z : Value) (h : k < n) : (filled n k f z).set k (f k) = filled n (k + 1) f z := by
  unfold filled
  apply List.ext_getElem
  · simp
  · intro i h1 h2
    simp only [List.length_set, List.length_map, List.length_range] at h1
    rw [List.getElem_set]
    by_cases e : k = i
    · subst e; simp
    · rw [if_neg e]
      simp
      by_cases hi : i < k
      · rw [if_pos hi, if_pos (by omega)]
      · rw [if_neg hi, if_neg (by omega)]


theorem Try.info5 : (Try.prog.info? 5).map (fun i => (i.zero, i.size, i.bytes)) = some (some (.int .u8 0), 1, 1) := by kernel_rfl

set_option maxRecDepth 20000 in
set_option maxHeartbeats 400000 in
theorem xor_any (a b : ByteArray) (w : World) (ha : a.size ≤ maxLen) (hb : b.size ≤ maxLen) (ha' : a.size ≤ 281474976710656) :
    Calls Try.prog 16 #[.string a, .string b] w fun e w' => e = .returned (.string (xorB a b)) ∧ Below w.heap.size w w' := by
  obtain ⟨i0, hi, hz0, hz1, hz2⟩ := info_parts Try.info5
  unfold maxLen at ha hb
  obtain ⟨n, hn⟩ : ∃ n : Nat, min a.size b.size = n := ⟨_, rfl⟩
  have hna : n ≤ a.size := by omega
  have hnb : n ≤ b.size := by omega
  have hmin : (min (a.size : Int) (b.size : Int)) = (n : Int) := by omega
  have HN : Hid (min a.size b.size = n) := hn
  clear hn
  go_enter Try.func16, Try.ntmps16
  go_wp2_with (at_make; refine wpList_make_full _ rfl _ _ 36 rfl w.heap.size 5 i0 (.int .u8 0) 1 Try.underlying36 hi hz0 hz1 _ _ _ _ n rfl rfl ?c0 ?c1 ?c2 ?c3 ?c4 ?_)
  case c0.inl => omega
  case c0.inr => omega
  case c1.inl => omega
  case c1.inr => omega
  case c2 => rw [hz2]; omega
  case c3 => unfold maxLen; omega
  case c4 => exact Nat.le_refl _
  all_goals
    intro w1 hown hgrow
    have hbel : Below w.heap.size w w1 := (Below.refl _ _).grown hgrow (Nat.le_refl _) (fun k h => by cases h)
    rw [toList_madeCells_one, ← filled_zero n (fun i => .int .u8 (bits .xor .u8 (bt a i) (bt b i)))] at hown
    have hba := get_bt a
    have hbb := get_bt b
    go_wp2
    go_loopw [15] (fun i wr => ∃ k : Nat, k ≤ n ∧ i = .int .i64 k ∧ wr.ownsRow w.heap.size 5 1 (.slice (some ⟨w.heap.size, 0, none⟩) n n) n (filled n k (fun i => .int .u8 (bits .xor .u8 (bt a i) (bt b i))) (.int .u8 0)) ∧ Below w.heap.size w wr) (fun i _ => n - (intOf i).toNat)
    case atStart => exact ⟨0, Nat.zero_le _, rfl, hown, hbel⟩
    case round =>
      obtain ⟨k, hk, rfl, hown', hbel'⟩ := hrel
      by_cases hlt : k < n
      · have hcell := hown'.cellAt k (by omega)
        have hfr := hown'.frozenAt k
        have hst := hown'.stored k (.int .u8 (bits .xor .u8 (bt a k) (bt b k)))
        rw [filled_set n k (fun i => .int .u8 (bits .xor .u8 (bt a i) (bt b i))) _ hlt] at hst
        obtain ⟨v0, hv0⟩ : ∃ v0, wr.cell? ⟨w.heap.size, k, none⟩ = some v0 := by
          rw [hcell]; exact ⟨_, List.getElem?_eq_getElem (by simp [filled]; exact hlt)⟩
        clear hcell
        go_wp2
        go_region
        all_goals
          go_wp2
          go_roundw
          case rel => exact ⟨k + 1, by omega, by go_num, hst.1.drew, (hbel'.setCell (Nat.le_refl _) _).drew⟩
          case measure => simp [intOf]; omega
      · have hkn : k = n := by omega
        subst hkn
        rw [filled_full] at hown'
        have hconv := run_convert_bytes_arg (P := Try.prog) wr 36 5 Try.underlying36 Try.underlying5 w.heap.size 0 k k (xorL a b) (by simp [xorL, HN.out]) (fun i hi => by
          rw [Nat.zero_add, hown'.cellAt i (by omega)]
          simp [xorL, HN.out, List.getD, hi]) 9 Try.underlying9
        go_wp2
        go_ret
        exact ⟨rfl, hbel'⟩
end Go.Proofs.Ytnpebabffnjmmaa
