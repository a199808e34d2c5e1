/- What the comparison of two lists of words answers, and the words that the document reads out of a text. -/
import Derived.Test.YtegebaomhbogmaaDoorSplit
namespace Go.Proofs.YtegebaomhbogmaaDoor
open Go.RowKit Go.PlainAid
set_option linter.unusedVariables false

/-- A slice's address leads to n words f. -/
def At (w : World) (a : Option Addr) (n : Nat) (f : Nat → Int) : Prop :=
  n = 0 ∨ ∃ b o, a = some ⟨b, o, none⟩ ∧ ∀ i, i < n → w.cell? ⟨b, o + i, none⟩ = some (.int .u32 (f i))

theorem At_owns {w : World} {base : Nat} {v : Value} {n : Nat} {f : Nat → Int} (h : w.ownsRow base 73 1 v n ((List.range n).map fun i => .int .u32 (f i))) :
    ∃ a cap, v = .slice a n cap ∧ At w a n f := by
  have hc := h
  rcases h.2 with ⟨rfl, h0⟩ | ⟨g, cap, cur, rfl, hb, hg, _⟩
  · subst h0; exact ⟨none, 0, rfl, .inl rfl⟩
  · refine ⟨_, cap, rfl, .inr ⟨g, 0, rfl, fun i hi => ?_⟩⟩
    rw [Nat.zero_add, hc.cellAt i (by omega)]
    simp [hi]

/-- What the document's inner loop has gathered behind k rounds. -/
def acc (s : ByteArray) (g : Nat → Nat) : Nat → Int
  | 0 => 0
  | k + 1 => 256 * acc s g k + bt s (g k)
theorem acc_lo (s : ByteArray) (g : Nat → Nat) (k : Nat) (hk : k < 4) : 0 ≤ acc s g k ∧ acc s g k ≤ 16777215 := by
  have h0 := bt_range s (g 0)
  have h1 := bt_range s (g 1)
  have h2 := bt_range s (g 2)
  have h : k = 0 ∨ k = 1 ∨ k = 2 ∨ k = 3 := by omega
  rcases h with rfl | rfl | rfl | rfl <;> simp only [acc] <;> omega
theorem acc_le (s : ByteArray) (i : Nat) : acc s (fun k => i + 3 - k) 4 = le4 (bt s i) (bt s (i + 1)) (bt s (i + 2)) (bt s (i + 3)) := by
  simp only [acc, le4, show i + 3 - 3 = i by omega, show i + 3 - 2 = i + 1 by omega, show i + 3 - 1 = i + 2 by omega, show i + 3 - 0 = i + 3 by omega]; omega
theorem acc_be (s : ByteArray) (i : Nat) : acc s (fun k => i + k) 4 = be4 (bt s i) (bt s (i + 1)) (bt s (i + 2)) (bt s (i + 3)) := by
  simp only [acc, be4, le4, Nat.add_zero]; omega

theorem refWords_odd (s : ByteArray) (big : Bool) (w : World) (hs : s.size ≤ maxLen) (h4 : s.size % 4 ≠ 0) :
    Calls Tryd.prog 57 #[.string s, .bool big] w fun e w' => e = .returned (.tuple #[.slice none 0 0, .int .i64 7]) ∧ w' = w := by
  unfold maxLen at hs
  have ht : (((s.size : Int) % 4) != 0) = true := by simp; omega
  go_enter Tryd.func57, Tryd.ntmps57
  go_wp2
  go_ret2
  exact ⟨rfl, rfl⟩

def wordsF (f : Int → Int → Int → Int → Int) (s : ByteArray) (k : Nat) : List Value := (List.range k).map fun i => .int .u32 (wordsL f s i)
theorem wordsF_succ (f : Int → Int → Int → Int → Int) (s : ByteArray) (k : Nat) : wordsF f s (k + 1) = wordsF f s k ++ [.int .u32 (wordsL f s k)] := by
  unfold wordsF; rw [List.range_succ, List.map_append]; rfl

set_option maxRecDepth 20000 in
set_option maxHeartbeats 800000 in
theorem refWords_little (s : ByteArray) (w : World) (hs : s.size ≤ 1000000) (h4 : s.size % 4 = 0) :
    Calls Tryd.prog 57 #[.string s, .bool false] w fun e w' => ∃ v, e = .returned (.tuple #[v, .int .i64 0]) ∧
      w'.ownsRow w.heap.size 73 1 v (s.size / 4) (wordsF le4 s (s.size / 4)) ∧ Below w.heap.size w w' := by
  obtain ⟨i0, hi, hz0, hz1, hz2⟩ := info_parts Tryd.info73
  obtain ⟨n, hn⟩ : ∃ n : Nat, s.size = 4 * n := ⟨s.size / 4, by omega⟩
  have ht : (((s.size : Int) % 4) != 0) = false := by simp; omega
  have hq' : s.size / 4 = n := by omega
  rw [hq']
  have hns : 4 * n ≤ s.size := by omega
  have hns' : s.size ≤ 4 * n := by omega
  clear hn hq' h4
  have hbs := get_bt s
  go_enter Tryd.func57, Tryd.ntmps57
  go_wp2
  go_loopw [6, 7] (fun v i wr => ∃ k : Nat, k ≤ n ∧ i = .int .i64 (4 * k) ∧ wr.ownsRow w.heap.size 73 1 v k (wordsF le4 s k) ∧ Below w.heap.size w wr) (fun _ i _ => s.size - (intOf i).toNat)
  case atStart => exact ⟨0, Nat.zero_le _, rfl, World.ownsRow_nil _ _ _ _, Below.refl _ _⟩
  case round =>
    obtain ⟨k, hk, rfl, hown, hbel⟩ := hrel
    by_cases hlt : k < n
    · go_wp2
      go_loop [8, 9, 10] (fun x j _ => ∃ q : Nat, q ≤ 4 ∧ j = .int .i64 q ∧ x = .int .u32 (acc s (fun q => 4 * k + 3 - q) q)) (fun _ j _ => 4 - (intOf j).toNat)
      case atStart => exact ⟨0, by omega, rfl, rfl⟩
      case round =>
        obtain ⟨q, hq, rfl, rfl⟩ := hrel
        by_cases hlt2 : q < 4
        · have ha := acc_lo s (fun q => 4 * k + 3 - q) q hlt2
          have hb := bt_range s (4 * k + 3 - q)
          have hin : 4 * k + 3 - q < s.size := by omega
          go_wp2
          go_round
          case rel => exact ⟨q + 1, by omega, by go_num, rfl⟩
          case measure => simp [intOf]; omega
        · have hq4 : q = 4 := by omega
          subst hq4
          have hwd : acc s (fun q => 4 * k + 3 - q) 4 = wordsL le4 s k := by rw [acc_le, wordsL, Nat.mul_comm k 4]
          rw [hwd]
          clear hwd
          go_wp2_with (at_builtin; refine wpList_append_own _ rfl _ _ 75 rfl w.heap.size 73 i0 (.int .u32 0) 1 4 Tryd.underlying75 hi hz0 hz1 hz2 rfl (by decide) _ _ _ rfl (hown.alloc _) ⟨wr.heap.size, 0, none⟩ 1 1 [.int .u32 (wordsL le4 s k)] rfl rfl ?c1 ?c2 ?c3 ?c4 ?c5 ?_)
          case c2 => rfl
          case c3 => unfold maxLen; omega
          case c4 => omega
          case c5 => have := hbel.size; omega
          · intro v' w1 hown' hgrow _
            have hbel' : Below w.heap.size w w1 := by
              refine Below.grown (hbel.alloc hbel.size _) hgrow ?_ ?_
              · have := hbel.size; simp; omega
              · intro g hg; exact (hown.lt g hg).1
            have R : w1.ownsRow w.heap.size 73 1 v' (k + 1) (wordsF le4 s (k + 1)) := by
              rw [wordsF_succ]; exact hown'
            clear hown' hgrow hown hbel
            go_wp2
            go_roundw
            case rel => exact ⟨k + 1, by omega, by go_num, R, hbel'⟩
            case measure => simp [intOf]; omega
    · have hkn : k = n := by omega
      subst hkn
      go_wp2
      go_ret2
      exact ⟨_, rfl, hown, hbel⟩

set_option maxRecDepth 20000 in
set_option maxHeartbeats 800000 in
theorem refWords_big (s : ByteArray) (w : World) (hs : s.size ≤ 1000000) (h4 : s.size % 4 = 0) :
    Calls Tryd.prog 57 #[.string s, .bool true] w fun e w' => ∃ v, e = .returned (.tuple #[v, .int .i64 0]) ∧
      w'.ownsRow w.heap.size 73 1 v (s.size / 4) (wordsF be4 s (s.size / 4)) ∧ Below w.heap.size w w' := by
  obtain ⟨i0, hi, hz0, hz1, hz2⟩ := info_parts Tryd.info73
  obtain ⟨n, hn⟩ : ∃ n : Nat, s.size = 4 * n := ⟨s.size / 4, by omega⟩
  have ht : (((s.size : Int) % 4) != 0) = false := by simp; omega
  have hq' : s.size / 4 = n := by omega
  rw [hq']
  have hns : 4 * n ≤ s.size := by omega
  have hns' : s.size ≤ 4 * n := by omega
  clear hn hq' h4
  have hbs := get_bt s
  go_enter Tryd.func57, Tryd.ntmps57
  go_wp2
  go_loopw [6, 7] (fun v i wr => ∃ k : Nat, k ≤ n ∧ i = .int .i64 (4 * k) ∧ wr.ownsRow w.heap.size 73 1 v k (wordsF be4 s k) ∧ Below w.heap.size w wr) (fun _ i _ => s.size - (intOf i).toNat)
  case atStart => exact ⟨0, Nat.zero_le _, rfl, World.ownsRow_nil _ _ _ _, Below.refl _ _⟩
  case round =>
    obtain ⟨k, hk, rfl, hown, hbel⟩ := hrel
    by_cases hlt : k < n
    · go_wp2
      go_loop [8, 9, 10] (fun x j _ => ∃ q : Nat, q ≤ 4 ∧ j = .int .i64 q ∧ x = .int .u32 (acc s (fun q => 4 * k + q) q)) (fun _ j _ => 4 - (intOf j).toNat)
      case atStart => exact ⟨0, by omega, rfl, rfl⟩
      case round =>
        obtain ⟨q, hq, rfl, rfl⟩ := hrel
        by_cases hlt2 : q < 4
        · have ha := acc_lo s (fun q => 4 * k + q) q hlt2
          have hb := bt_range s (4 * k + q)
          have hin : 4 * k + q < s.size := by omega
          go_wp2
          go_round
          case rel => exact ⟨q + 1, by omega, by go_num, rfl⟩
          case measure => simp [intOf]; omega
        · have hq4 : q = 4 := by omega
          subst hq4
          have hwd : acc s (fun q => 4 * k + q) 4 = wordsL be4 s k := by rw [acc_be, wordsL, Nat.mul_comm k 4]
          rw [hwd]
          clear hwd
          go_wp2_with (at_builtin; refine wpList_append_own _ rfl _ _ 75 rfl w.heap.size 73 i0 (.int .u32 0) 1 4 Tryd.underlying75 hi hz0 hz1 hz2 rfl (by decide) _ _ _ rfl (hown.alloc _) ⟨wr.heap.size, 0, none⟩ 1 1 [.int .u32 (wordsL be4 s k)] rfl rfl ?c1 ?c2 ?c3 ?c4 ?c5 ?_)
          case c2 => rfl
          case c3 => unfold maxLen; omega
          case c4 => omega
          case c5 => have := hbel.size; omega
          · intro v' w1 hown' hgrow _
            have hbel' : Below w.heap.size w w1 := by
              refine Below.grown (hbel.alloc hbel.size _) hgrow ?_ ?_
              · have := hbel.size; simp; omega
              · intro g hg; exact (hown.lt g hg).1
            have R : w1.ownsRow w.heap.size 73 1 v' (k + 1) (wordsF be4 s (k + 1)) := by
              rw [wordsF_succ]; exact hown'
            clear hown' hgrow hown hbel
            go_wp2
            go_roundw
            case rel => exact ⟨k + 1, by omega, by go_num, R, hbel'⟩
            case measure => simp [intOf]; omega
    · have hkn : k = n := by omega
      subst hkn
      go_wp2
      go_ret2
      exact ⟨_, rfl, hown, hbel⟩
end Go.Proofs.YtegebaomhbogmaaDoor
