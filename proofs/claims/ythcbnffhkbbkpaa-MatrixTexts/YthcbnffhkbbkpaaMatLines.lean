/- Texts in memory as rows of elements; of one length or not; a row times texts: the program's own answers. -/
import Derived.Test.YthcbnffhkbbkpaaMatSame
import Derived.Deep.RegionHeld3
namespace Go.Proofs.Ythcbnffhkbbkpaa
open Go.RowKit Go.PlainAid
set_option linter.unusedVariables false

/-- n texts, of M's lengths, one behind the other. -/
def TxtAt (w : World) (a : Option Addr) (n : Nat) (M : Nat → Nat) (Y : Mx) : Prop := Vals w a n (fun c => .string (strE (M c) (Y c))) ∧ ∀ c, c < n → M c ≤ 9223372036854775807
theorem TxtAt.below {w w' : World} {a : Option Addr} {n : Nat} {M : Nat → Nat} {Y : Mx} (h : TxtAt w a n M Y) (hb : Below w.heap.size w w') : TxtAt w' a n M Y := ⟨h.1.below hb (Nat.le_refl _), h.2⟩
theorem TxtAt.cell {w : World} {a : Option Addr} {n : Nat} {M : Nat → Nat} {Y : Mx} (h : TxtAt w a n M Y) (h1 : 1 ≤ n) : ∃ b o, a = some ⟨b, o, none⟩ ∧ ∀ i, i < n → w.cell? ⟨b, o + i, none⟩ = some (.string (strE (M i) (Y i))) := by
  rcases h.1 with h0 | h
  · omega
  · exact h

set_option maxHeartbeats 400000 in
theorem indexStr_any (K : Nat) (hK : K = 53) (cap : Array Value) (a : Option Addr) (n ca : Nat) (V : Nat → Value) (p : Nat → Bool) (w : World) (hn : n ≤ maxLen) (ha : Vals w a n V)
    (hp : ∀ r, r < n → Calls Try.prog K (#[V r] ++ cap) w fun e w' => e = .returned (.bool (p r)) ∧ w' = w) :
    Calls Try.prog 55 #[.slice a n ca, .func (.func K) #[] cap] w fun e w' => e = .returned (.int .i64 (first p n)) ∧ w' = w := by
  unfold maxLen at hn
  have hs := first_spec p n
  generalize first p n = z at hs
  subst hK
  all_goals
   go_enter Try.func55, Try.ntmps55
   go_wp2_with fail
   go_loop [8] (fun i => ∃ k : Nat, k ≤ n ∧ i = .int .i64 k ∧ ∀ j, j < k → p j = false) (fun i => (n : Nat) - (intOf i).toNat)
   case atStart => exact ⟨0, Nat.zero_le _, rfl, fun j hj => by omega⟩
   case round =>
     obtain ⟨k, hk, rfl, hbefore⟩ := hrel
     by_cases hlt : k < n
     · rcases ha with h0 | ⟨b, o, rfl, ha⟩
       · omega
       have hcell := ha k hlt
       go_wp2_with fail
       refine (hp k hlt).mono ?_
       rintro e w' ⟨rfl, rfl⟩
       cases hpk : p k
       · go_wp2_with fail
         go_round
         case rel => exact ⟨k + 1, by omega, by go_num, fun j hj => by
           by_cases e : j = k
           · rw [e]; exact hpk
           · exact hbefore j (by omega)⟩
         case measure => simp [intOf]; omega
       · have hz : z = (k : Int) := by
           rcases hs with ⟨_, h2⟩ | ⟨i, h1, h2, h3, h4⟩
           · rw [h2 k hlt] at hpk; cases hpk
           · rw [h1]
             rcases Nat.lt_trichotomy i k with h | h | h
             · rw [hbefore i h] at h3; cases h3
             · rw [h]
             · rw [h4 k h] at hpk; cases hpk
         subst hz
         go_wp2_with fail
         go_ret
         exact ⟨rfl, rfl⟩
     · have hz : z = -1 := by
         rcases hs with ⟨h1, _⟩ | ⟨i, h1, h2, h3, h4⟩
         · exact h1
         · rw [hbefore i (by omega)] at h3; cases h3
       subst hz
       go_wp2_with fail
       go_ret
       exact ⟨rfl, rfl⟩

theorem alike1_any (s t : ByteArray) (m b o n ca : Nat) (w : World) (hs : s.size ≤ 9223372036854775807) (ht : t.size ≤ 9223372036854775807) (hn : 0 < n) (hm : w.cell? ⟨m, 0, none⟩ = some (.slice (some ⟨b, o, none⟩) n ca)) (h0 : w.cell? ⟨b, o, none⟩ = some (.string t)) :
    Calls Try.prog 53 #[.string s, .pointer (some ⟨m, 0, none⟩)] w fun e w' => e = .returned (.bool (s.size != t.size)) ∧ w' = w := by
  obtain ⟨q, hq⟩ : ∃ q, (s.size != t.size) = q := ⟨_, rfl⟩
  have hq' : ((s.size : Int) != (t.size : Int)) = q := by
    rw [← hq]
    by_cases h : s.size = t.size
    · rw [h]; simp
    · have h1 : (s.size != t.size) = true := by simpa using h
      have h2 : ((s.size : Int) != (t.size : Int)) = true := by simp; omega
      rw [h1, h2]
  rw [hq]
  have hn' : (0 : Int) < (n : Int) := by omega
  clear hq
  go_enter Try.func53, Try.ntmps53
  go_wp2
  go_ret
  exact ⟨by rw [← hq']; rfl, rfl⟩

theorem containsStr_any (K : Nat) (hK : K = 53) (cap : Array Value) (a : Option Addr) (n ca : Nat) (V : Nat → Value) (p : Nat → Bool) (w : World) (hn : n ≤ maxLen) (ha : Vals w a n V)
    (hp : ∀ r, r < n → Calls Try.prog K (#[V r] ++ cap) w fun e w' => e = .returned (.bool (p r)) ∧ w' = w) (g : Bool) (hg : g = true ↔ ∃ r, r < n ∧ p r = true) :
    Calls Try.prog 52 #[.slice a n ca, .func (.func K) #[] cap] w fun e w' => e = .returned (.bool g) ∧ w' = w := by
  have hi := indexStr_any K hK cap a n ca V p w hn ha hp
  have hs := first_spec p n
  generalize first p n = z at hs hi
  have hz : decide ((0 : Int) ≤ z) = g := by
    rcases hs with ⟨h1, h2⟩ | ⟨i, h1, h2, h3, h4⟩
    · cases g with
      | false => rw [h1]; decide
      | true =>
        obtain ⟨r, hr, h⟩ := hg.1 rfl
        rw [h2 r hr] at h; cases h
    · rw [hg.2 ⟨i, h2, h3⟩, h1]
      exact decide_eq_true (by omega)
  clear hs hg hp ha
  subst hK
  all_goals
   go_enter Try.func52, Try.ntmps52
   go_wp2_with fail
   go_at_call 55
   refine hi.mono ?_
   rintro e w' ⟨rfl, rfl⟩
   go_wp2_with fail
   go_ret
   exact ⟨by rw [← hz]; rfl, rfl⟩

set_option maxHeartbeats 400000 in
theorem alike_any (a : Option Addr) (n ca : Nat) (M : Nat → Nat) (Y : Mx) (w : World) (hn : n ≤ maxLen) (ha : TxtAt w a n M Y) (g : Bool) (hg : g = true ↔ ∀ c, c < n → M c = M 0) :
    Calls Try.prog 36 #[.slice a n ca] w fun e w' => e = .returned (.bool g) ∧ Below w.heap.size w w' := by
  have hmf : ∀ (fn : Fn) (first cap : Array Value) (w : World), (Instr.makeFunc fn first cap).run Try.prog w = .ok (.func fn first cap) w := fun _ _ _ _ => rfl
  have hbel : Below w.heap.size w (w.alloc (.cells #[.slice a n ca] 37 (0, 0))) := (Below.refl _ _).alloc (Nat.le_refl _) _
  have hcont := fun (w1 : World) (h : Below w.heap.size w w1) (hm : w1.cell? ⟨w.heap.size, 0, none⟩ = some (.slice a n ca)) =>
    containsStr_any 53 (by decide) #[.pointer (some ⟨w.heap.size, 0, none⟩)] a n ca (fun c => .string (strE (M c) (Y c))) (fun c => M c != M 0) w1 hn (ha.1.below h (Nat.le_refl _)) (fun r hr => by
      obtain ⟨b, o, rfl, hc⟩ := (ha.below h).cell (by omega)
      have h0 := hc 0 (by omega)
      rw [Nat.add_zero] at h0
      have := alike1_any (strE (M r) (Y r)) (strE (M 0) (Y 0)) w.heap.size b o n ca w1 (by rw [strE_size]; exact ha.2 r hr) (by rw [strE_size]; exact ha.2 0 (by omega)) (by omega) hm h0
      rw [strE_size, strE_size] at this
      exact this) (!g) (by
        cases g with
        | true =>
          have h' := hg.1 rfl
          simp only [Bool.not_true, Bool.false_eq_true, false_iff, not_exists, not_and]
          intro r h hh
          rw [h' r h] at hh
          simp at hh
        | false =>
          simp only [Bool.not_false, true_iff]
          apply Classical.byContradiction
          intro hh
          have : (false : Bool) = true := hg.2 fun r h => by
            apply Classical.byContradiction
            intro h3
            exact hh ⟨r, h, by simpa using h3⟩
          cases this)
  clear hg ha
  go_enter Try.func36, Try.ntmps36
  go_wp2_with fail
  go_at_call 52
  refine (hcont _ hbel (by go_simp)).mono ?_
  rintro e w' ⟨rfl, rfl⟩
  go_wp2_with fail
  go_ret
  exact ⟨by simp, hbel⟩
end Go.Proofs.Ythcbnffhkbbkpaa
