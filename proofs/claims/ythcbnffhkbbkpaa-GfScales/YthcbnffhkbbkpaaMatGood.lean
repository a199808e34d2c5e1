/- Which rows are a matrix: the program's own answer, and the document's. -/
import Derived.Test.YthcbnffhkbbkpaaMatAt
namespace Go.Proofs.Ythcbnffhkbbkpaa
open Go.RowKit
set_option linter.unusedVariables false

def Gd (n : Nat) (L : Nat → Nat) : Prop := 1 ≤ n ∧ n ≤ 16 ∧ 1 ≤ L 0 ∧ L 0 ≤ 16 ∧ ∀ r, r < n → L r = L 0

theorem inRange_any (n : Int) (g : Bool) (hg : g = true ↔ (1 ≤ n ∧ n ≤ 16)) (w : World) : Calls Try.prog 39 #[.int .i64 n] w fun e w' => e = .returned (.bool g) ∧ w' = w := by
  by_cases h1 : 1 ≤ n
  · by_cases h2 : n ≤ 16
    · obtain rfl : g = true := hg.2 ⟨h1, h2⟩
      clear hg
      go_enter Try.func39, Try.ntmps39
      go_wp2
      go_ret
      exact ⟨rfl, rfl⟩
    · obtain rfl : g = false := by
        cases g with
        | false => rfl
        | true => exact absurd (hg.1 rfl).2 h2
      clear hg
      go_enter Try.func39, Try.ntmps39
      go_wp2
      go_ret
      exact ⟨rfl, rfl⟩
  · obtain rfl : g = false := by
      cases g with
      | false => rfl
      | true => exact absurd (hg.1 rfl).1 h1
    clear hg
    go_enter Try.func39, Try.ntmps39
    go_wp2
    go_ret
    exact ⟨rfl, rfl⟩

theorem good1_any (ar : Option Addr) (l cr m c : Nat) (w : World) (hl : l ≤ maxLen) (hm : w.cell? ⟨m, 0, none⟩ = some (.int .i64 (c : Int))) :
    Calls Try.prog 47 #[.slice ar l cr, .pointer (some ⟨m, 0, none⟩)] w fun e w' => e = .returned (.bool (l != c)) ∧ w' = w := by
  unfold maxLen at hl
  obtain ⟨q, hq⟩ : ∃ q, (l != c) = q := ⟨_, rfl⟩
  have hq' : ((l : Int) != (c : Int)) = q := by
    rw [← hq]
    by_cases h : l = c
    · subst h; simp
    · have h1 : (l != c) = true := by simpa using h
      have h2 : ((l : Int) != (c : Int)) = true := by simp; omega
      rw [h1, h2]
  rw [hq]
  clear hq
  go_enter Try.func47, Try.ntmps47
  go_wp2
  go_ret
  exact ⟨by rw [← hq']; rfl, rfl⟩

theorem containsFunc_any (cap : Array Value) (a : Option Addr) (n ca : Nat) (V : Nat → Value) (p : Nat → Bool) (w : World) (hn : n ≤ maxLen) (ha : Vals w a n V)
    (hp : ∀ r, r < n → Calls Try.prog 47 (#[V r] ++ cap) w fun e w' => e = .returned (.bool (p r)) ∧ w' = w) (g : Bool) (hg : g = true ↔ ∃ r, r < n ∧ p r = true) :
    Calls Try.prog 46 #[.slice a n ca, .func (.func 47) #[] cap] w fun e w' => e = .returned (.bool g) ∧ w' = w := by
  have hi := indexFunc_any 47 (by decide) cap a n ca V p w hn ha hp
  have hs := first_spec p n
  generalize first p n = z at hs hi
  have hz : decide ((0 : Int) ≤ z) = g := by
    rcases hs with ⟨h1, h2⟩ | ⟨i, h1, h2, h3, h4⟩
    · cases g with
      | false => rw [h1]; decide
      | true =>
        obtain ⟨r, hr, h⟩ := hg.1 rfl
        rw [h2 r hr] at h; cases h
    · rw [hg.2 ⟨i, h2, h3⟩, h1]
      exact decide_eq_true (by omega)
  clear hs hg hp ha
  go_enter Try.func46, Try.ntmps46
  go_wp2_with fail
  go_at_call 48
  refine hi.mono ?_
  rintro e w' ⟨rfl, rfl⟩
  go_wp2_with fail
  go_ret
  exact ⟨by rw [← hz]; rfl, rfl⟩

set_option maxHeartbeats 400000 in
theorem good_any (a : Option Addr) (n ca : Nat) (L : Nat → Nat) (X : Mx) (w : World) (hn : n ≤ maxLen) (ha : MatAt w a n L X) (g : Bool) (hg : g = true ↔ Gd n L) :
    Calls Try.prog 27 #[.slice a n ca] w fun e w' => e = .returned (.bool g) ∧ Below w.heap.size w w' := by
  obtain ⟨AR, CR, hv, hr⟩ := ha
  have hn' := hn
  unfold maxLen at hn
  have hmf : ∀ (fn : Fn) (first cap : Array Value) (w : World), (Instr.makeFunc fn first cap).run Try.prog w = .ok (.func fn first cap) w := fun _ _ _ _ => rfl
  have no : ∀ P : Prop, (Gd n L → P) → ¬ P → g = false := fun P h1 h2 => by
    cases g with
    | false => rfl
    | true => exact absurd (h1 (hg.1 rfl)) h2
  by_cases h1 : 1 ≤ n ∧ n ≤ 16
  · rcases hv with h0 | ⟨b, o, rfl, hv⟩
    · omega
    obtain ⟨ar0, l0, cr0, hc0, HL⟩ : ∃ ar l cr, w.cell? ⟨b, o, none⟩ = some (.slice ar l cr) ∧ Hid (L 0 = l) := ⟨_, _, _, hv 0 (by omega), (rfl : L 0 = L 0)⟩
    have hl0 : l0 ≤ 9223372036854775807 := by have := (hr 0 (by omega)).1; rw [HL.out] at this; unfold maxLen at this; omega
    by_cases h2 : 1 ≤ l0 ∧ l0 ≤ 16
    · have hlt : b < w.heap.size := cell_lt hc0
      have hbel : Below w.heap.size w (w.alloc (.cells #[.int .i64 (l0 : Int)] 3 (0, 0))) :=
        (Below.refl _ _).alloc (Nat.le_refl _) _
      have hcont := fun (w1 : World) (h : Below w.heap.size w w1) (hm : w1.cell? ⟨w.heap.size, 0, none⟩ = some (.int .i64 (l0 : Int))) =>
        containsFunc_any #[.pointer (some ⟨w.heap.size, 0, none⟩)] (some ⟨b, o, none⟩) n ca (fun r => .slice (AR r) (L r) (CR r)) (fun r => L r != l0) w1 hn'
          (Vals.below (.inr ⟨b, o, rfl, hv⟩) h (Nat.le_refl _)) (fun r h => good1_any (AR r) (L r) (CR r) w.heap.size l0 w1 (hr r h).1 hm) (!g) (by
            have e : g = true ↔ ∀ r, r < n → L r = l0 := by
              rw [hg]; unfold Gd; rw [HL.out]
              exact ⟨fun h => h.2.2.2.2, fun h => ⟨h1.1, h1.2, h2.1, h2.2, h⟩⟩
            cases g with
            | true =>
              have h' := e.1 rfl
              simp only [Bool.not_true, Bool.false_eq_true, false_iff, not_exists, not_and]
              intro r h hh
              rw [h' r h] at hh
              simp at hh
            | false =>
              simp only [Bool.not_false, true_iff]
              apply Classical.byContradiction
              intro hh
              have : (false : Bool) = true := e.2 fun r h => by
                apply Classical.byContradiction
                intro h3
                exact hh ⟨r, h, by simpa using h3⟩
              cases this)
      clear hg no hv hr
      have hb1 : ∀ w, Calls Try.prog 39 #[.int .i64 (n : Int)] w fun e w' => e = .returned (.bool true) ∧ w' = w := fun w => inRange_any n true (by simp; omega) w
      have hb2 : ∀ w, Calls Try.prog 39 #[.int .i64 (l0 : Int)] w fun e w' => e = .returned (.bool true) ∧ w' = w := fun w => inRange_any l0 true (by simp; omega) w
      go_enter Try.func27, Try.ntmps27
      go_wp2_with fail
      go_at_call 39
      refine (hb1 _).mono ?_
      rintro e w' ⟨rfl, rfl⟩
      go_wp2_with fail
      go_at_call 39
      refine (hb2 _).mono ?_
      rintro e w' ⟨rfl, rfl⟩
      go_wp2_with fail
      go_at_call 46
      refine (hcont _ hbel (by go_simp)).mono ?_
      rintro e w' ⟨rfl, rfl⟩
      go_wp2_with fail
      go_ret
      exact ⟨by simp, hbel⟩
    · obtain rfl := no (1 ≤ L 0 ∧ L 0 ≤ 16) (fun h => ⟨h.2.2.1, h.2.2.2.1⟩) (by rw [HL.out]; exact h2)
      clear hg no hv hr
      have hb1 : ∀ w, Calls Try.prog 39 #[.int .i64 (n : Int)] w fun e w' => e = .returned (.bool true) ∧ w' = w := fun w => inRange_any n true (by simp; omega) w
      have hb2 : ∀ w, Calls Try.prog 39 #[.int .i64 (l0 : Int)] w fun e w' => e = .returned (.bool false) ∧ w' = w := fun w => inRange_any l0 false (by simp; omega) w
      go_enter Try.func27, Try.ntmps27
      go_wp2_with fail
      go_at_call 39
      refine (hb1 _).mono ?_
      rintro e w' ⟨rfl, rfl⟩
      go_wp2_with fail
      go_at_call 39
      refine (hb2 _).mono ?_
      rintro e w' ⟨rfl, rfl⟩
      go_wp2_with fail
      go_ret
      exact ⟨rfl, Below.refl _ _⟩
  · obtain rfl := no (1 ≤ n ∧ n ≤ 16) (fun h => ⟨h.1, h.2.1⟩) h1
    clear hg no hv hr
    have hb1 : ∀ w, Calls Try.prog 39 #[.int .i64 (n : Int)] w fun e w' => e = .returned (.bool false) ∧ w' = w := fun w => inRange_any n false (by simp; omega) w
    go_enter Try.func27, Try.ntmps27
    go_wp2_with fail
    go_at_call 39
    refine (hb1 _).mono ?_
    rintro e w' ⟨rfl, rfl⟩
    go_wp2_with fail
    go_ret
    exact ⟨rfl, Below.refl _ _⟩

set_option maxHeartbeats 1000000 in
theorem refGood_any (a : Option Addr) (n ca : Nat) (L : Nat → Nat) (X : Mx) (w : World) (hn : n ≤ maxLen) (ha : MatAt w a n L X) (g : Bool) (hg : g = true ↔ Gd n L) :
    Calls Try.prog 32 #[.slice a n ca] w fun e w' => e = .returned (.bool g) ∧ ∃ m, w' = w.drewN m := by
  obtain ⟨AR, CR, hv, hr⟩ := ha
  unfold maxLen at hn
  have no : ∀ P : Prop, (Gd n L → P) → ¬ P → g = false := fun P h1 h2 => by
    cases g with
    | false => rfl
    | true => exact absurd (h1 (hg.1 rfl)) h2
  by_cases h1 : 1 ≤ n
  · by_cases h1' : n ≤ 16
    · rcases hv with h0 | ⟨b, o, rfl, hv⟩
      · omega
      have hgg : Hid (g = true ↔ Gd n L) := hg
      clear hg no
      obtain ⟨ar0, l0, cr0, hc0, HL⟩ : ∃ ar l cr, w.cell? ⟨b, o, none⟩ = some (.slice ar l cr) ∧ Hid (L 0 = l) := ⟨_, _, _, hv 0 (by omega), (rfl : L 0 = L 0)⟩
      have hl0 : l0 ≤ 9223372036854775807 := by have := (hr 0 (by omega)).1; rw [HL.out] at this; unfold maxLen at this; omega
      have h0n : (0 : Int) < (n : Int) := by omega
      have HV : Hid (∀ r, r < n → w.cell? ⟨b, o + r, none⟩ = some (.slice (AR r) (L r) (CR r))) := hv
      clear hv
      go_enter Try.func32, Try.ntmps32
      go_wp2_with fail
      go_loopw [3] (fun i wr => ∃ k : Nat, k ≤ n ∧ i = .int .i64 k ∧ (∃ m, wr = w.drewN m) ∧ ∀ j, j < k → L j = l0 ∧ 1 ≤ l0 ∧ l0 ≤ 16) (fun i _ => (n : Nat) - (intOf i).toNat)
      case atStart => exact ⟨0, Nat.zero_le _, rfl, ⟨0, rfl⟩, fun j hj => by omega⟩
      case round =>
        obtain ⟨k, hk, rfl, ⟨m, rfl⟩, hbefore⟩ := hrel
        by_cases hlt : k < n
        · obtain ⟨ark, lk, crk, hck, HLk⟩ : ∃ ar l cr, w.cell? ⟨b, o + k, none⟩ = some (.slice ar l cr) ∧ Hid (L k = l) := ⟨_, _, _, HV.out k hlt, (rfl : L k = L k)⟩
          have hlk : lk ≤ 9223372036854775807 := by have := (hr k hlt).1; rw [HLk.out] at this; unfold maxLen at this; omega
          have hck' : (w.drewN m).cell? ⟨b, o + k, none⟩ = some (.slice ark lk crk) := hck
          have hc0' : (w.drewN m).cell? ⟨b, o, none⟩ = some (.slice ar0 l0 cr0) := hc0
          by_cases e1 : lk = l0
          · subst e1
            have t1 : ((lk : Int) != (lk : Int)) = false := by simp
            by_cases e2 : 1 ≤ lk
            · have t2 : decide ((lk : Int) < 1) = false := decide_eq_false (by omega)
              by_cases e3 : lk ≤ 16
              · have t3 : decide ((16 : Int) < (lk : Int)) = false := decide_eq_false (by omega)
                go_wp2_with fail
                go_quiet (fail)
                go_wp2_with fail
                go_roundw
                case rel => exact ⟨k + 1, by omega, by go_num, ⟨_, rfl⟩, fun j hj => by
                  by_cases e : j = k
                  · rw [e]; exact ⟨HLk.out, e2, e3⟩
                  · exact hbefore j (by omega)⟩
                case measure => simp [intOf]; omega
              · have t3 : decide ((16 : Int) < (lk : Int)) = true := decide_eq_true (by omega)
                obtain rfl : g = false := by
                  cases g with
                  | false => rfl
                  | true => have := (hgg.out.1 rfl).2.2.2.1; rw [HL.out] at this; omega
                go_wp2_with fail
                go_quiet (fail)
                go_wp2_with fail
                go_ret
                exact ⟨rfl, m + nq, by rw [World.drewN_drewN]⟩
            · have t2 : decide ((lk : Int) < 1) = true := decide_eq_true (by omega)
              obtain rfl : g = false := by
                cases g with
                | false => rfl
                | true => have := (hgg.out.1 rfl).2.2.1; rw [HL.out] at this; omega
              go_wp2_with fail
              go_quiet (fail)
              go_wp2_with fail
              go_ret
              exact ⟨rfl, m + nq, by rw [World.drewN_drewN]⟩
          · have t1 : ((lk : Int) != (l0 : Int)) = true := by simp; omega
            obtain rfl : g = false := by
              cases g with
              | false => rfl
              | true => have := (hgg.out.1 rfl).2.2.2.2 k hlt; rw [HL.out, HLk.out] at this; omega
            go_wp2_with fail
            go_quiet (fail)
            go_wp2_with fail
            go_ret
            exact ⟨rfl, m + nq, by rw [World.drewN_drewN]⟩
        · obtain rfl : g = true := hgg.out.2 (by
            have h0 := hbefore 0 (by omega)
            unfold Gd
            rw [HL.out]
            exact ⟨h1, h1', h0.2.1, h0.2.2, fun r h => (hbefore r (by omega)).1⟩)
          go_wp2_with fail
          go_ret
          exact ⟨rfl, _, rfl⟩
    · obtain rfl := no _ (fun h => h.2.1) h1'
      clear hg no hv hr
      go_enter Try.func32, Try.ntmps32
      go_wp2_with fail
      go_ret
      exact ⟨rfl, 0, rfl⟩
  · obtain rfl := no _ (fun h => h.1) h1
    clear hg no hv hr
    go_enter Try.func32, Try.ntmps32
    go_wp2_with fail
    go_ret
    exact ⟨rfl, 0, rfl⟩
end Go.Proofs.Ythcbnffhkbbkpaa
