/- What the program asks of a record: its parts. -/
import Derived.Test.YtbjmhpbelkndpaaDoorSuRows
namespace Go.Proofs.YtbjmhpbelkndpaaDoor
open Go.RowKit Go.PlainAid
set_option linter.unusedVariables false

theorem sfits_any (x : Int) (u : Bool) (w : World) : Calls Tryd.prog 48 #[.int .i64 x, .bool u] w fun e w' => e = .returned (.bool (fitB x u)) ∧ w' = w := by
  by_cases h2 : x = 2
  · subst h2
    rw [show fitB 2 u = true by cases u <;> rfl]
    go_enter Tryd.func48, Tryd.ntmps48
    go_wp2
    go_ret
    exact ⟨rfl, rfl⟩
  · by_cases h1 : x = 1
    · subst h1
      rw [show fitB 1 u = u by cases u <;> rfl]
      go_enter Tryd.func48, Tryd.ntmps48
      go_wp2
      go_ret
      exact ⟨rfl, rfl⟩
    · by_cases h3 : x = 3
      · subst h3
        rw [show fitB 3 u = u by cases u <;> rfl]
        go_enter Tryd.func48, Tryd.ntmps48
        go_wp2
        go_ret
        exact ⟨rfl, rfl⟩
      · by_cases h0 : x = 0
        · subst h0
          rw [show fitB 0 u = !u by cases u <;> rfl]
          go_enter Tryd.func48, Tryd.ntmps48
          go_wp2
          go_ret
          exact ⟨rfl, rfl⟩
        · rw [show fitB x u = false by simp [fitB, h0, h1, h2, h3]]
          go_enter Tryd.func48, Tryd.ntmps48
          go_wp2
          go_ret
          exact ⟨rfl, rfl⟩
set_option maxRecDepth 20000 in
theorem slIndex_any (a : Option Addr) (n ca : Nat) (f : Nat → Int) (x : Int) (w : World) (hn : n ≤ 1000000) (ha : Sx w a n f) :
    Calls Tryd.prog 62 #[.slice a n ca, .int .i64 x] w fun e w' => (∃ z : Int, e = .returned (.int .i64 z) ∧ (0 ≤ z ↔ ∃ i, i < n ∧ f i = x)) ∧ w' = w := by
  go_enter Tryd.func62, Tryd.ntmps62
  go_wp2_with fail
  go_loop [8] (fun i => ∃ k : Nat, k ≤ n ∧ i = .int .i64 k ∧ Hid (∀ j, j < k → f j ≠ x)) (fun i => (n : Nat) - (intOf i).toNat)
  case atStart => exact ⟨0, Nat.zero_le _, rfl, fun j hj => by omega⟩
  case round =>
    obtain ⟨k, hk, rfl, hbefore⟩ := hrel
    by_cases hlt : k < n
    · obtain ⟨b, o, rfl, hcell⟩ := ha.at (Below.refl _ _) k hlt
      have HA : Hid _ := ha
      clear ha
      by_cases he : f k = x
      · have he2 : (x == f k) = true := by simpa using he.symm
        have he3 : x = f k := he.symm
        have HE : Hid (f k = x) := he
        clear he
        go_wp2_with fail
        go_ret
        exact ⟨⟨(k : Int), rfl, ⟨fun _ => ⟨k, hlt, by first | exact HE.out | rfl⟩, fun _ => by omega⟩⟩, rfl⟩
      · have he2 : (x == f k) = false := by simpa using Ne.symm he
        have he3 : ¬ x = f k := Ne.symm he
        have HE : Hid (f k ≠ x) := he
        clear he
        go_wp2_with fail
        go_round
        case rel => exact ⟨k + 1, by omega, by go_num, fun j hj => by
          by_cases e : j = k
          · rw [e]; exact HE.out
          · exact hbefore.out j (by omega)⟩
        case measure => simp [intOf]; omega
    · have hkn : k = n := by omega
      subst hkn
      clear ha
      go_wp2_with fail
      go_ret
      exact ⟨⟨-1, rfl, ⟨fun h => by omega, fun ⟨i, hi, h⟩ => absurd h (hbefore.out i hi)⟩⟩, rfl⟩
theorem exis_pos (f : Nat → Int) (x : Int) (n : Nat) : (∃ i, i < n ∧ f i = x) ↔ 0 < nOf (fun i => f i == x) n := by
  rw [nOf_pos]; simp only [beq_iff_eq]
set_option maxRecDepth 20000 in
theorem slContains_any (a : Option Addr) (n ca : Nat) (f : Nat → Int) (x : Int) (w : World) (hn : n ≤ 1000000) (ha : Sx w a n f) :
    Calls Tryd.prog 43 #[.slice a n ca, .int .i64 x] w fun e w' => e = .returned (.bool (decide (0 < nOf (fun i => f i == x) n))) ∧ w' = w := by
  have hc := slIndex_any a n ca f x w hn ha
  go_enter Tryd.func43, Tryd.ntmps43
  go_wp2_with (go_at_call 62; refine hc.mono ?_; rintro e w' ⟨⟨z, rfl, hz⟩, rfl⟩; have HZ : Hid (0 ≤ z ↔ 0 < nOf (fun i => f i == x) n) := (hz.trans (exis_pos f x n)); clear hz hc)
  go_ret
  refine ⟨?_, rfl⟩
  by_cases h0 : 0 ≤ z
  · rw [decide_eq_true (HZ.out.1 h0), decide_eq_true h0]; rfl
  · rw [decide_eq_false (fun h => h0 (HZ.out.2 h)), decide_eq_false h0]; rfl
section
variable {R : Rec} {sa ma : Option Addr} {sc mc : Nat} {w : World}
set_option maxRecDepth 20000 in
theorem sgoodMark_any (n : Int) (u : Bool) (w : World) : Calls Tryd.prog 45 #[.agg (supV R sa ma sc mc).toArray, .int .i64 n, .bool u] w fun e w' => e = .returned (.bool (okMark n R.slots u)) ∧ Below w.heap.size w w' := by
  have hB := Below.refl w.heap.size w |>.alloc (Nat.le_refl _) (.cells (supV R sa ma sc mc).toArray 26)
  unfold supV at *
  by_cases h0 : n = 0
  · subst h0
    rw [show okMark 0 R.slots u = true from rfl]
    go_enter Tryd.func45, Tryd.ntmps45
    go_wp2
    go_ret
    exact ⟨rfl, hB⟩
  · have h0' : (n == 0) = false := by simpa using h0
    cases u
    · rw [show okMark n R.slots false = false by simp [okMark, h0]]
      go_enter Tryd.func45, Tryd.ntmps45
      go_wp2
      go_ret
      exact ⟨rfl, hB⟩
    · by_cases h1 : 0 < n
      · rw [show okMark n R.slots true = decide (n ≤ R.slots) by simp [okMark, h0, h1]]
        go_enter Tryd.func45, Tryd.ntmps45
        go_wp2
        go_ret
        exact ⟨rfl, hB⟩
      · rw [show okMark n R.slots true = false by simp [okMark, h0, h1]]
        go_enter Tryd.func45, Tryd.ntmps45
        go_wp2
        go_ret
        exact ⟨rfl, hB⟩
set_option maxRecDepth 20000 in
theorem swidth_any (hd : 2 ≤ R.data ∧ R.data ≤ 8) (w : World) : Calls Tryd.prog 46 #[.agg (supV R sa ma sc mc).toArray] w fun e w' => e = .returned (.int .i64 (wid R)) ∧ Below w.heap.size w w' := by
  have hB := Below.refl w.heap.size w |>.alloc (Nat.le_refl _) (.cells (supV R sa ma sc mc).toArray 26)
  obtain ⟨d0, d1⟩ := hd
  unfold supV wid at *
  cases hg : R.grow
  · rw [hg] at hB
    go_enter Tryd.func46, Tryd.ntmps46
    go_wp2
    go_ret
    exact ⟨rfl, hB⟩
  · rw [hg] at hB
    have e1 : R.data + 2 + 1 = R.data + 3 := by omega
    go_enter Tryd.func46, Tryd.ntmps46
    go_wp2
    go_ret
    exact ⟨rfl, hB⟩
end
end Go.Proofs.YtbjmhpbelkndpaaDoor
