/- Rows of bytes, and rows of rows, as they lie in memory; which of them are matrices: the program's own answer. -/
import Derived.Test.YthcbnffhkbbkpaaRows
import Derived.Test.YthcbnffhkbbkpaaMat
import Derived.WalkKit
import Derived.ProofKit
import Derived.OpenShut
import Derived.WalkLawsBesides
import Derived.WalkSpells
import Derived.Below
import Derived.OwnWalk
import Derived.Laws.OwnMore
import Derived.Deep.QuietTactic
import Derived.BigQuiet
namespace Go.Proofs.Ythcbnffhkbbkpaa
open Go.RowKit
set_option linter.unusedVariables false

theorem cell_lt {w : World} {b o : Nat} {v : Value} (h : w.cell? ⟨b, o, none⟩ = some v) : b < w.heap.size := by
  rcases Nat.lt_or_ge b w.heap.size with h' | h'
  · exact h'
  · simp [World.cell?, Array.getElem?_eq_none h'] at h

/-- n values, one behind the other. -/
def Vals (w : World) (a : Option Addr) (n : Nat) (V : Nat → Value) : Prop :=
  n = 0 ∨ ∃ b o, a = some ⟨b, o, none⟩ ∧ ∀ i, i < n → w.cell? ⟨b, o + i, none⟩ = some (V i)
theorem Vals.below {w w' : World} {a : Option Addr} {n base : Nat} {V : Nat → Value} (h : Vals w a n V) (hb : Below base w w') (hs : w.heap.size ≤ base) : Vals w' a n V := by
  rcases h with h | ⟨b, o, rfl, h⟩
  · exact .inl h
  · exact .inr ⟨b, o, rfl, fun i hi => (hb.cell (p := ⟨b, o + i, none⟩) (Nat.lt_of_lt_of_le (cell_lt (h i hi)) hs)).trans (h i hi)⟩
def byteV (x : E) : Value := .int .u8 (x.v : Int)
def RowAt (w : World) (a : Option Addr) (n : Nat) (f : Nat → E) : Prop := Vals w a n fun i => byteV (f i)
/-- n rows, of L's lengths, one behind the other: the values AR, CR say where each lies. -/
def MatIn (w : World) (a : Option Addr) (n : Nat) (L : Nat → Nat) (X : Mx) (AR : Nat → Option Addr) (CR : Nat → Nat) : Prop :=
  Vals w a n (fun r => .slice (AR r) (L r) (CR r)) ∧ ∀ r, r < n → L r ≤ maxLen ∧ RowAt w (AR r) (L r) (X r)
def MatAt (w : World) (a : Option Addr) (n : Nat) (L : Nat → Nat) (X : Mx) : Prop := ∃ AR CR, MatIn w a n L X AR CR
theorem MatIn.below {w w' : World} {a : Option Addr} {n : Nat} {L : Nat → Nat} {X : Mx} {AR : Nat → Option Addr} {CR : Nat → Nat} (h : MatIn w a n L X AR CR) (hb : Below w.heap.size w w') : MatIn w' a n L X AR CR :=
  ⟨h.1.below hb (Nat.le_refl _), fun r hr => ⟨(h.2 r hr).1, (h.2 r hr).2.below hb (Nat.le_refl _)⟩⟩
theorem MatAt.below {w w' : World} {a : Option Addr} {n : Nat} {L : Nat → Nat} {X : Mx} (h : MatAt w a n L X) (hb : Below w.heap.size w w') : MatAt w' a n L X := by
  obtain ⟨AR, CR, h⟩ := h
  exact ⟨AR, CR, h.below hb⟩

/-- The first of n of which p holds, or -1. -/
def firstK (p : Nat → Bool) (n : Nat) : Nat → Int
  | 0 => -1
  | k + 1 => if p (n - (k + 1)) then (n - (k + 1) : Nat) else firstK p n k
def first (p : Nat → Bool) (n : Nat) : Int := firstK p n n
theorem firstK_spec (p : Nat → Bool) (n k : Nat) (hk : k ≤ n) : (firstK p n k = -1 ∧ ∀ i, n - k ≤ i → i < n → p i = false) ∨ ∃ i : Nat, firstK p n k = i ∧ i < n ∧ p i = true ∧ ∀ j, n - k ≤ j → j < i → p j = false := by
  induction k with
  | zero => exact .inl ⟨rfl, fun i h1 h2 => by omega⟩
  | succ k ih =>
    unfold firstK
    by_cases h : p (n - (k + 1)) = true
    · rw [if_pos h]
      exact .inr ⟨_, rfl, by omega, h, fun j h1 h2 => by omega⟩
    · rw [if_neg h]
      have h' : p (n - (k + 1)) = false := by simpa using h
      rcases ih (by omega) with ⟨h1, h2⟩ | ⟨i, h1, h2, h3, h4⟩
      · refine .inl ⟨h1, fun i h3 h4 => ?_⟩
        by_cases e : i = n - (k + 1)
        · rw [e]; exact h'
        · exact h2 i (by omega) h4
      · refine .inr ⟨i, h1, h2, h3, fun j h5 h6 => ?_⟩
        by_cases e : j = n - (k + 1)
        · rw [e]; exact h'
        · exact h4 j (by omega) h6
theorem first_spec (p : Nat → Bool) (n : Nat) : (first p n = -1 ∧ ∀ i, i < n → p i = false) ∨ ∃ i : Nat, first p n = i ∧ i < n ∧ p i = true ∧ ∀ j, j < i → p j = false := by
  rcases firstK_spec p n n (Nat.le_refl _) with ⟨h1, h2⟩ | ⟨i, h1, h2, h3, h4⟩
  · exact .inl ⟨h1, fun i hi => h2 i (by omega) hi⟩
  · exact .inr ⟨i, h1, h2, h3, fun j hj => h4 j (by omega) hj⟩

set_option maxHeartbeats 400000 in
theorem indexFunc_any (K : Nat) (hK : K = 47 ∨ K = 49) (cap : Array Value) (a : Option Addr) (n ca : Nat) (V : Nat → Value) (p : Nat → Bool) (w : World) (hn : n ≤ maxLen) (ha : Vals w a n V)
    (hp : ∀ r, r < n → Calls Try.prog K (#[V r] ++ cap) w fun e w' => e = .returned (.bool (p r)) ∧ w' = w) :
    Calls Try.prog 48 #[.slice a n ca, .func (.func K) #[] cap] w fun e w' => e = .returned (.int .i64 (first p n)) ∧ w' = w := by
  unfold maxLen at hn
  have hs := first_spec p n
  generalize first p n = z at hs
  rcases hK with rfl | rfl
  all_goals
   go_enter Try.func48, Try.ntmps48
   go_wp2_with fail
   go_loop [8] (fun i => ∃ k : Nat, k ≤ n ∧ i = .int .i64 k ∧ ∀ j, j < k → p j = false) (fun i => (n : Nat) - (intOf i).toNat)
   case atStart => exact ⟨0, Nat.zero_le _, rfl, fun j hj => by omega⟩
   case round =>
     obtain ⟨k, hk, rfl, hbefore⟩ := hrel
     by_cases hlt : k < n
     · rcases ha with h0 | ⟨b, o, rfl, ha⟩
       · omega
       have hcell := ha k hlt
       go_wp2_with fail
       refine (hp k hlt).mono ?_
       rintro e w' ⟨rfl, rfl⟩
       cases hpk : p k
       · go_wp2_with fail
         go_round
         case rel => exact ⟨k + 1, by omega, by go_num, fun j hj => by
           by_cases e : j = k
           · rw [e]; exact hpk
           · exact hbefore j (by omega)⟩
         case measure => simp [intOf]; omega
       · have hz : z = (k : Int) := by
           rcases hs with ⟨_, h2⟩ | ⟨i, h1, h2, h3, h4⟩
           · rw [h2 k hlt] at hpk; cases hpk
           · rw [h1]
             rcases Nat.lt_trichotomy i k with h | h | h
             · rw [hbefore i h] at h3; cases h3
             · rw [h]
             · rw [h4 k h] at hpk; cases hpk
         subst hz
         go_wp2_with fail
         go_ret
         exact ⟨rfl, rfl⟩
     · have hz : z = -1 := by
         rcases hs with ⟨h1, _⟩ | ⟨i, h1, h2, h3, h4⟩
         · exact h1
         · rw [hbefore i (by omega)] at h3; cases h3
       subst hz
       go_wp2_with fail
       go_ret
       exact ⟨rfl, rfl⟩
end Go.Proofs.Ythcbnffhkbbkpaa
