import Derived.Test.YtokknmkleceooaaGreatDoorGfM
import Derived.Test.YtokknmkleceooaaGreatDoorRows
import Derived.WalkKit
import Derived.ProofKit
import Derived.OpenShut
import Derived.WalkLawsBesides
import Derived.WalkSpells
import Derived.Below
import Derived.OwnWalk
import Derived.Laws.OwnMore
import Derived.Deep.QuietTactic
import Derived.BigQuiet
import Derived.Test.YtokknmkleceooaaGreatDoorBaseM
import Derived.Deep.RegionWith
import Derived.Deep.RegionHeld3
import Derived.Laws.CopyOwn
import Derived.BigRegion
namespace Go.Proofs.YtokknmkleceooaaGreatDoor
set_option maxRecDepth 20000
structure E where
  v : Nat
  h : v < 256
theorem E.same {a b : E} (h : a.v = b.v) : a = b := by
  cases a; cases b; simp only at h; subst h; rfl
instance : Add E := ⟨fun a b => ⟨a.v ^^^ b.v, Nat.xor_lt_two_pow (n := 8) a.h b.h⟩⟩
instance : Mul E := ⟨fun a b => ⟨gm a.v b.v, gm_lt _ _ a.h⟩⟩
instance : OfNat E 0 := ⟨⟨0, by decide⟩⟩
instance : OfNat E 1 := ⟨⟨1, by decide⟩⟩
def E.inv (a : E) : E := ⟨gi a.v, gi_lt _ a.h⟩
theorem E.zero_v : (0 : E).v = 0 := rfl
theorem E.one_v : (1 : E).v = 1 := rfl
theorem E.zero_of {a : E} (h : a.v = 0) : a = 0 := E.same h
theorem E.ne_v {a : E} (h : a ≠ 0) : a.v ≠ 0 := fun e => h (E.zero_of e)
theorem E.add_comm (a b : E) : a + b = b + a := E.same (Nat.xor_comm _ _)
theorem E.add_assoc (a b c : E) : a + b + c = a + (b + c) := E.same (Nat.xor_assoc _ _ _)
theorem E.add_zero (a : E) : a + 0 = a := E.same (Nat.xor_zero _)
theorem E.zero_add (a : E) : 0 + a = a := E.same (Nat.zero_xor _)
theorem E.add_self (a : E) : a + a = 0 := E.same (Nat.xor_self _)
theorem E.mul_comm (a b : E) : a * b = b * a := E.same (gm_comm _ _ a.h b.h)
theorem E.mul_assoc (a b c : E) : a * b * c = a * (b * c) := E.same (gm_assoc _ _ _ a.h b.h c.h).symm
theorem E.mul_add (a b c : E) : a * (b + c) = a * b + a * c := E.same (gm_xorR _ _ _)
theorem E.add_mul (a b c : E) : (a + b) * c = a * c + b * c := E.same (gm_xorL _ _ _)
theorem E.mul_one (a : E) : a * 1 = a := E.same (gm_one _)
theorem E.one_mul (a : E) : 1 * a = a := E.same (one_gm _ a.h)
theorem E.mul_zero (a : E) : a * 0 = 0 := E.same (gm_zero _)
theorem E.zero_mul (a : E) : 0 * a = 0 := E.same (zero_gm _ a.h)
theorem E.mul_inv (a : E) (h : a ≠ 0) : a * a.inv = 1 := E.same (gm_gi _ a.h (E.ne_v h))
theorem E.inv_ne (a : E) (h : a ≠ 0) : a.inv ≠ 0 := fun e => gi_pos a.v a.h (E.ne_v h) (congrArg E.v e)
theorem E.mul_ne (a b : E) (ha : a ≠ 0) (hb : b ≠ 0) : a * b ≠ 0 := fun e => by
  rcases (gm_eq_zero a.v b.v a.h b.h).1 (congrArg E.v e) with h | h
  · exact ha (E.zero_of h)
  · exact hb (E.zero_of h)
theorem E.one_ne : (1 : E) ≠ 0 := fun e => by have := congrArg E.v e; cases this
instance : Std.Associative (α := E) (· + ·) := ⟨E.add_assoc⟩
instance : Std.Commutative (α := E) (· + ·) := ⟨E.add_comm⟩
instance : Std.Associative (α := E) (· * ·) := ⟨E.mul_assoc⟩
instance : Std.Commutative (α := E) (· * ·) := ⟨E.mul_comm⟩
theorem E.of_add {a b : E} (h : a + b = 0) : a = b := by
  have : a + b + b = b := by rw [h, E.zero_add]
  rwa [E.add_assoc, E.add_self, E.add_zero] at this
def S (n : Nat) (f : Nat → E) : E :=
  match n with
  | 0 => 0
  | k + 1 => S k f + f k
theorem S_congr {n : Nat} {f g : Nat → E} (h : ∀ i, i < n → f i = g i) : S n f = S n g := by
  induction n with
  | zero => rfl
  | succ k ih => simp only [S]; rw [ih fun i hi => h i (by omega), h k (by omega)]
theorem S_zero {n : Nat} {f : Nat → E} (h : ∀ i, i < n → f i = 0) : S n f = 0 := by
  induction n with
  | zero => rfl
  | succ k ih => simp only [S]; rw [ih fun i hi => h i (by omega), h k (by omega), E.add_zero]
theorem S_add (n : Nat) (f g : Nat → E) : S n (fun i => f i + g i) = S n f + S n g := by
  induction n with
  | zero => exact (E.add_zero 0).symm
  | succ k ih => simp only [S]; rw [ih]; ac_rfl
theorem S_mulL (n : Nat) (a : E) (f : Nat → E) : S n (fun i => a * f i) = a * S n f := by
  induction n with
  | zero => exact (E.mul_zero a).symm
  | succ k ih => simp only [S]; rw [ih, E.mul_add]
theorem S_mulR (n : Nat) (a : E) (f : Nat → E) : S n (fun i => f i * a) = S n f * a := by
  induction n with
  | zero => exact (E.zero_mul a).symm
  | succ k ih => simp only [S]; rw [ih, E.add_mul]
theorem S_swap (n m : Nat) (f : Nat → Nat → E) : S n (fun i => S m (fun j => f i j)) = S m (fun j => S n (fun i => f i j)) := by
  induction n with
  | zero => exact (S_zero fun _ _ => rfl).symm
  | succ k ih => simp only [S]; rw [ih, S_add]
theorem S_one {n i : Nat} {f : Nat → E} (hi : i < n) (h : ∀ k, k < n → k ≠ i → f k = 0) : S n f = f i := by
  induction n with
  | zero => omega
  | succ k ih =>
    simp only [S]
    by_cases e : i = k
    · subst e
      rw [S_zero fun j hj => h j (by omega) (by omega), E.zero_add]
    · rw [ih (by omega) fun j hj => h j (by omega), h k (by omega) (by omega), E.add_zero]
abbrev Mx := Nat → Nat → E
def idM : Mx := fun r c => if r = c then 1 else 0
def mulM (n : Nat) (A B : Mx) : Mx := fun r c => S n fun k => A r k * B k c
theorem S_idL {n r : Nat} (hr : r < n) (f : Nat → E) : S n (fun k => idM r k * f k) = f r := by
  rw [S_one hr fun k _ hk => by simp [idM, Ne.symm hk, E.zero_mul]]
  simp [idM, E.one_mul]
theorem S_idR {n c : Nat} (hc : c < n) (f : Nat → E) : S n (fun k => f k * idM k c) = f c := by
  rw [S_one hc fun k _ hk => by simp [idM, hk, E.mul_zero]]
  simp [idM, E.mul_one]
theorem mulM_assoc (n m : Nat) (A B C : Mx) (r c : Nat) : mulM m (mulM n A B) C r c = mulM n A (mulM m B C) r c := by
  unfold mulM
  rw [S_congr (g := fun j => S n fun k => A r k * B k j * C j c) fun j _ => (S_mulR n _ _).symm,
    S_congr (n := n) (g := fun k => S m fun j => A r k * (B k j * C j c)) fun k _ => (S_mulL m _ _).symm, S_swap]
  exact S_congr fun k _ => S_congr fun j _ => E.mul_assoc _ _ _
def scaleR (i : Nat) (s : E) (W : Mx) : Mx := fun r c => if r = i then s * W i c else W r c
def addR (i j : Nat) (s : E) (W : Mx) : Mx := fun r c => if r = j then W j c + s * W i c else W r c
inductive Reach (n m : Nat) (W : Mx) : Mx → Prop
  | refl : Reach n m W W
  | same {U V : Mx} : Reach n m W U → (∀ r, r < n → ∀ c, c < m → V r c = U r c) → Reach n m W V
  | scale {U : Mx} (i : Nat) (s : E) : Reach n m W U → i < n → s ≠ 0 → Reach n m W (scaleR i s U)
  | add {U : Mx} (i j : Nat) (s : E) : Reach n m W U → i < n → j < n → i ≠ j → Reach n m W (addR i j s U)
theorem Reach.trans {n m : Nat} {W U V : Mx} (h : Reach n m W U) (k : Reach n m U V) : Reach n m W V := by
  induction k with
  | refl => exact h
  | same _ e ih => exact .same ih e
  | scale i s _ hi hs ih => exact .scale i s ih hi hs
  | add i j s _ hi hj hij ih => exact .add i j s ih hi hj hij
theorem Reach.symm {n m : Nat} {W U : Mx} (h : Reach n m W U) : Reach n m U W := by
  induction h with
  | refl => exact .refl
  | @same U V _ e ih => exact (Reach.same (U := V) .refl fun r hr c hc => (e r hr c hc).symm).trans ih
  | @scale U i s _ hi hs ih =>
    refine ((Reach.scale i s.inv Reach.refl hi (E.inv_ne s hs)).same (V := U) fun r _ c _ => ?_).trans ih
    simp only [scaleR]
    by_cases e : r = i
    · subst e
      rw [if_pos rfl, if_pos trivial, ← E.mul_assoc, E.mul_comm s.inv, E.mul_inv s hs, E.one_mul]
    · rw [if_neg e, if_neg e]
  | @add U i j s _ hi hj hij ih =>
    refine ((Reach.add i j s Reach.refl hi hj hij).same (V := U) fun r _ c _ => ?_).trans ih
    simp only [addR]
    by_cases e : r = j
    · subst e
      rw [if_pos rfl, if_pos trivial, if_neg hij, E.add_assoc, E.add_self, E.add_zero]
    · rw [if_neg e, if_neg e]
def swapR (i j : Nat) (W : Mx) : Mx := fun r c => if r = i then W j c else if r = j then W i c else W r c
theorem Reach.swap {n m : Nat} {W U : Mx} (h : Reach n m W U) (i j : Nat) (hi : i < n) (hj : j < n) : Reach n m W (swapR i j U) := by
  by_cases e : i = j
  · subst e
    refine h.same fun r _ c _ => ?_
    simp only [swapR]
    by_cases e : r = i
    · subst e; rw [if_pos rfl]
    · rw [if_neg e, if_neg e]
  · refine (((h.add i j 1 hi hj e).add j i 1 hj hi (Ne.symm e)).add i j 1 hi hj e).same fun r _ c _ => ?_
    simp only [swapR, addR, E.one_mul]
    by_cases e1 : r = i
    · subst e1
      simp only [if_true, if_neg e]
      rw [← E.add_assoc, E.add_comm (U r c), E.add_assoc, E.add_self, E.add_zero]
    · by_cases e2 : r = j
      · subst e2
        simp only [if_true, if_neg e1, if_neg e]
        have : U r c + U i c + (U i c + (U r c + U i c)) = (U r c + U r c) + (U i c + U i c) + U i c := by ac_rfl
        rw [this, E.add_self, E.add_self, E.add_zero, E.zero_add]
      · simp only [if_neg e1, if_neg e2]
theorem Reach.comb {n m : Nat} {W U : Mx} (h : Reach n m W U) : ∃ F : Mx, ∀ r, r < n → ∀ c, c < m → U r c = S n fun k => F r k * W k c := by
  induction h with
  | refl => exact ⟨idM, fun r hr c _ => (S_idL hr fun k => W k c).symm⟩
  | same _ e ih =>
    obtain ⟨F, hF⟩ := ih
    exact ⟨F, fun r hr c hc => (e r hr c hc).trans (hF r hr c hc)⟩
  | scale i s _ hi hs ih =>
    obtain ⟨F, hF⟩ := ih
    refine ⟨scaleR i s F, fun r hr c hc => ?_⟩
    simp only [scaleR]
    by_cases e : r = i
    · subst e
      simp only [if_true]
      rw [hF r hr c hc, ← S_mulL]
      exact S_congr fun k _ => (E.mul_assoc _ _ _).symm
    · simp only [if_neg e]
      exact hF r hr c hc
  | add i j s _ hi hj hij ih =>
    obtain ⟨F, hF⟩ := ih
    refine ⟨addR i j s F, fun r hr c hc => ?_⟩
    simp only [addR]
    by_cases e : r = j
    · subst e
      simp only [if_true]
      rw [hF r hr c hc, hF i hi c hc, ← S_mulL, ← S_add]
      exact S_congr fun k _ => by rw [E.add_mul, E.mul_assoc]
    · simp only [if_neg e]
      exact hF r hr c hc
def wideM (n : Nat) (A : Mx) : Mx := fun r c => if c < n then A r c else idM r (c - n)
def rightM (n : Nat) (W : Mx) : Mx := fun r c => W r (n + c)
theorem reach_done {n : Nat} {A U : Mx} (h : Reach n (2 * n) (wideM n A) U) (hu : ∀ r, r < n → ∀ c, c < n → U r c = idM r c) :
    (∀ r, r < n → ∀ c, c < n → mulM n (rightM n U) A r c = idM r c) ∧ (∀ r, r < n → ∀ c, c < n → mulM n A (rightM n U) r c = idM r c) := by
  constructor
  · intro r hr c hc
    obtain ⟨F, hF⟩ := h.comb
    have h1 : ∀ j, j < n → rightM n U r j = F r j := fun j hj => by
      have := hF r hr (n + j) (by omega)
      simp only [wideM, if_neg (show ¬ n + j < n by omega), Nat.add_sub_cancel_left] at this
      rw [S_idR hj] at this
      exact this
    have h2 := hF r hr c (by omega)
    simp only [wideM, if_pos hc] at h2
    rw [hu r hr c hc] at h2
    rw [h2]
    exact S_congr fun k hk => by rw [h1 k hk]
  · intro r hr c hc
    obtain ⟨F, hF⟩ := h.symm.comb
    have h1 : ∀ j, j < n → A r j = F r j := fun j hj => by
      have := hF r hr j (by omega)
      simp only [wideM, if_pos hj] at this
      rw [this, S_congr (g := fun k => F r k * idM k j) fun k hk => by rw [hu k hk j hj], S_idR hj]
    have h2 := hF r hr (n + c) (by omega)
    simp only [wideM, if_neg (show ¬ n + c < n by omega), Nat.add_sub_cancel_left] at h2
    rw [h2]
    exact S_congr fun k hk => by rw [h1 k hk]; rfl
theorem reach_kernel {n m c : Nat} {A U : Mx} (h : Reach n m A U) (hm : n ≤ m) (hc : c < n) (hu : ∀ r, r < n → ∀ j, j < c → U r j = idM r j)
    (hz : ∀ r, c ≤ r → r < n → U r c = 0) : ∃ v : Nat → E, v c = 1 ∧ ∀ r, r < n → S n (fun j => A r j * v j) = 0 := by
  refine ⟨fun j => if j < c then U j c else if j = c then 1 else 0, by simp, fun r hr => ?_⟩
  obtain ⟨F, hF⟩ := h.symm.comb
  rw [S_congr (g := fun j => S n fun k => F r k * (U k j * (if j < c then U j c else if j = c then 1 else 0))) fun j hj => by
    rw [hF r hr j (by omega), ← S_mulR]; exact S_congr fun k _ => E.mul_assoc _ _ _, S_swap]
  refine S_zero fun k hk => ?_
  rw [S_mulL]
  have : S n (fun j => U k j * (if j < c then U j c else if j = c then 1 else 0)) = 0 := by
    have e : ∀ j, j < n → U k j * (if j < c then U j c else if j = c then 1 else 0) = (if k < c then idM k j * U j c else 0) + idM c j * U k j := by
      intro j hj
      by_cases h1 : j < c
      · rw [if_pos h1, hu k hk j h1]
        have : idM c j = 0 := by simp [idM]; intro; omega
        rw [this, E.zero_mul, E.add_zero]
        by_cases h2 : k < c
        · rw [if_pos h2]
        · rw [if_neg h2]
          have : idM k j = 0 := by simp [idM]; intro; omega
          rw [this, E.zero_mul]
      · rw [if_neg h1]
        by_cases h2 : j = c
        · subst h2
          rw [if_pos rfl, E.mul_one]
          have : idM j j = 1 := by simp [idM]
          rw [this, E.one_mul]
          by_cases h3 : k < j
          · have : idM k j = 0 := by simp [idM]; intro; omega
            rw [if_pos h3, this, E.zero_mul, E.zero_add]
          · rw [if_neg h3, E.zero_add]
        · rw [if_neg h2, E.mul_zero]
          have : idM c j = 0 := by simp [idM]; intro; omega
          rw [this, E.zero_mul, E.add_zero]
          by_cases h3 : k < c
          · have : idM k j = 0 := by simp [idM]; intro; omega
            rw [if_pos h3, this, E.zero_mul]
          · rw [if_neg h3]
    rw [S_congr e, S_add, S_idL hc]
    by_cases h3 : k < c
    · rw [S_congr (g := fun j => idM k j * U j c) fun j _ => if_pos h3, S_idL hk, E.add_self]
    · rw [S_congr (g := fun _ => 0) fun j _ => if_neg h3, S_zero fun _ _ => rfl, hz k (by omega) hk, E.add_zero]
  rw [this, E.mul_zero]
def skip (c k : Nat) : Nat := if k < c then k else k + 1
def D (n : Nat) (M : Mx) : E :=
  match n with
  | 0 => 1
  | k + 1 => S (k + 1) fun c => M 0 c * D k fun r j => M (r + 1) (skip c j)
def pw (a : E) (n : Nat) : E := ⟨gp a.v n, gp_lt _ _ a.h⟩
open Go.RowKit
set_option linter.unusedVariables false
theorem mcell_lt {w : World} {b o : Nat} {v : Value} (h : w.cell? ⟨b, o, none⟩ = some v) : b < w.heap.size := by
  rcases Nat.lt_or_ge b w.heap.size with h' | h'
  · exact h'
  · simp [World.cell?, Array.getElem?_eq_none h'] at h
def Vals (w : World) (a : Option Addr) (n : Nat) (V : Nat → Value) : Prop :=
  n = 0 ∨ ∃ b o, a = some ⟨b, o, none⟩ ∧ ∀ i, i < n → w.cell? ⟨b, o + i, none⟩ = some (V i)
theorem Vals.below {w w' : World} {a : Option Addr} {n base : Nat} {V : Nat → Value} (h : Vals w a n V) (hb : Below base w w') (hs : w.heap.size ≤ base) : Vals w' a n V := by
  rcases h with h | ⟨b, o, rfl, h⟩
  · exact .inl h
  · exact .inr ⟨b, o, rfl, fun i hi => (hb.cell (p := ⟨b, o + i, none⟩) (Nat.lt_of_lt_of_le (mcell_lt (h i hi)) hs)).trans (h i hi)⟩
def byteV (x : E) : Value := .int .u8 (x.v : Int)
def RowAt (w : World) (a : Option Addr) (n : Nat) (f : Nat → E) : Prop := Vals w a n fun i => byteV (f i)
def MatIn (w : World) (a : Option Addr) (n : Nat) (L : Nat → Nat) (X : Mx) (AR : Nat → Option Addr) (CR : Nat → Nat) : Prop :=
  Vals w a n (fun r => .slice (AR r) (L r) (CR r)) ∧ ∀ r, r < n → L r ≤ maxLen ∧ RowAt w (AR r) (L r) (X r)
def MatAt (w : World) (a : Option Addr) (n : Nat) (L : Nat → Nat) (X : Mx) : Prop := ∃ AR CR, MatIn w a n L X AR CR
theorem MatIn.below {w w' : World} {a : Option Addr} {n : Nat} {L : Nat → Nat} {X : Mx} {AR : Nat → Option Addr} {CR : Nat → Nat} (h : MatIn w a n L X AR CR) (hb : Below w.heap.size w w') : MatIn w' a n L X AR CR :=
  ⟨h.1.below hb (Nat.le_refl _), fun r hr => ⟨(h.2 r hr).1, (h.2 r hr).2.below hb (Nat.le_refl _)⟩⟩
theorem MatAt.below {w w' : World} {a : Option Addr} {n : Nat} {L : Nat → Nat} {X : Mx} (h : MatAt w a n L X) (hb : Below w.heap.size w w') : MatAt w' a n L X := by
  obtain ⟨AR, CR, h⟩ := h
  exact ⟨AR, CR, h.below hb⟩
def firstK (p : Nat → Bool) (n : Nat) : Nat → Int
  | 0 => -1
  | k + 1 => if p (n - (k + 1)) then (n - (k + 1) : Nat) else firstK p n k
def first (p : Nat → Bool) (n : Nat) : Int := firstK p n n
theorem firstK_spec (p : Nat → Bool) (n k : Nat) (hk : k ≤ n) : (firstK p n k = -1 ∧ ∀ i, n - k ≤ i → i < n → p i = false) ∨ ∃ i : Nat, firstK p n k = i ∧ i < n ∧ p i = true ∧ ∀ j, n - k ≤ j → j < i → p j = false := by
  induction k with
  | zero => exact .inl ⟨rfl, fun i h1 h2 => by omega⟩
  | succ k ih =>
    unfold firstK
    by_cases h : p (n - (k + 1)) = true
    · rw [if_pos h]
      exact .inr ⟨_, rfl, by omega, h, fun j h1 h2 => by omega⟩
    · rw [if_neg h]
      have h' : p (n - (k + 1)) = false := by simpa using h
      rcases ih (by omega) with ⟨h1, h2⟩ | ⟨i, h1, h2, h3, h4⟩
      · refine .inl ⟨h1, fun i h3 h4 => ?_⟩
        by_cases e : i = n - (k + 1)
        · rw [e]; exact h'
        · exact h2 i (by omega) h4
      · refine .inr ⟨i, h1, h2, h3, fun j h5 h6 => ?_⟩
        by_cases e : j = n - (k + 1)
        · rw [e]; exact h'
        · exact h4 j (by omega) h6
theorem first_spec (p : Nat → Bool) (n : Nat) : (first p n = -1 ∧ ∀ i, i < n → p i = false) ∨ ∃ i : Nat, first p n = i ∧ i < n ∧ p i = true ∧ ∀ j, j < i → p j = false := by
  rcases firstK_spec p n n (Nat.le_refl _) with ⟨h1, h2⟩ | ⟨i, h1, h2, h3, h4⟩
  · exact .inl ⟨h1, fun i hi => h2 i (by omega) hi⟩
  · exact .inr ⟨i, h1, h2, h3, fun j hj => h4 j (by omega) hj⟩
set_option maxHeartbeats 400000 in
theorem indexFunc_any (K : Nat) (hK : K = 157 ∨ K = 216) (cap : Array Value) (a : Option Addr) (n ca : Nat) (V : Nat → Value) (p : Nat → Bool) (w : World) (hn : n ≤ maxLen) (ha : Vals w a n V)
    (hp : ∀ r, r < n → Calls Tryz.prog K (#[V r] ++ cap) w fun e w' => e = .returned (.bool (p r)) ∧ w' = w) :
    Calls Tryz.prog 198 #[.slice a n ca, .func (.func K) #[] cap] w fun e w' => e = .returned (.int .i64 (first p n)) ∧ w' = w := by
  unfold maxLen at hn
  have hs := first_spec p n
  generalize first p n = z at hs
  rcases hK with rfl | rfl
  all_goals
   go_enter Tryz.func198, Tryz.ntmps198
   go_wp2_with fail
   go_loop [8] (fun i => ∃ k : Nat, k ≤ n ∧ i = .int .i64 k ∧ ∀ j, j < k → p j = false) (fun i => (n : Nat) - (intOf i).toNat)
   case atStart => exact ⟨0, Nat.zero_le _, rfl, fun j hj => by omega⟩
   case round =>
     obtain ⟨k, hk, rfl, hbefore⟩ := hrel
     by_cases hlt : k < n
     · rcases ha with h0 | ⟨b, o, rfl, ha⟩
       · omega
       have hcell := ha k hlt
       go_wp2_with fail
       refine (hp k hlt).mono ?_
       rintro e w' ⟨rfl, rfl⟩
       cases hpk : p k
       · go_wp2_with fail
         go_round
         case rel => exact ⟨k + 1, by omega, by go_num, fun j hj => by
           by_cases e : j = k
           · rw [e]; exact hpk
           · exact hbefore j (by omega)⟩
         case measure => simp [intOf]; omega
       · have hz : z = (k : Int) := by
           rcases hs with ⟨_, h2⟩ | ⟨i, h1, h2, h3, h4⟩
           · rw [h2 k hlt] at hpk; cases hpk
           · rw [h1]
             rcases Nat.lt_trichotomy i k with h | h | h
             · rw [hbefore i h] at h3; cases h3
             · rw [h]
             · rw [h4 k h] at hpk; cases hpk
         subst hz
         go_wp2_with fail
         go_ret
         exact ⟨rfl, rfl⟩
     · have hz : z = -1 := by
         rcases hs with ⟨h1, _⟩ | ⟨i, h1, h2, h3, h4⟩
         · exact h1
         · rw [hbefore i (by omega)] at h3; cases h3
       subst hz
       go_wp2_with fail
       go_ret
       exact ⟨rfl, rfl⟩
def Gd (n : Nat) (L : Nat → Nat) : Prop := 1 ≤ n ∧ n ≤ 16 ∧ 1 ≤ L 0 ∧ L 0 ≤ 16 ∧ ∀ r, r < n → L r = L 0
theorem inRange_any (n : Int) (g : Bool) (hg : g = true ↔ (1 ≤ n ∧ n ≤ 16)) (w : World) : Calls Tryz.prog 155 #[.int .i64 n] w fun e w' => e = .returned (.bool g) ∧ w' = w := by
  by_cases h1 : 1 ≤ n
  · by_cases h2 : n ≤ 16
    · obtain rfl : g = true := hg.2 ⟨h1, h2⟩
      clear hg
      go_enter Tryz.func155, Tryz.ntmps155
      go_wp2
      go_ret
      exact ⟨rfl, rfl⟩
    · obtain rfl : g = false := by
        cases g with
        | false => rfl
        | true => exact absurd (hg.1 rfl).2 h2
      clear hg
      go_enter Tryz.func155, Tryz.ntmps155
      go_wp2
      go_ret
      exact ⟨rfl, rfl⟩
  · obtain rfl : g = false := by
      cases g with
      | false => rfl
      | true => exact absurd (hg.1 rfl).1 h1
    clear hg
    go_enter Tryz.func155, Tryz.ntmps155
    go_wp2
    go_ret
    exact ⟨rfl, rfl⟩
theorem good1_any (ar : Option Addr) (l cr m c : Nat) (w : World) (hl : l ≤ maxLen) (hm : w.cell? ⟨m, 0, none⟩ = some (.int .i64 (c : Int))) :
    Calls Tryz.prog 157 #[.slice ar l cr, .pointer (some ⟨m, 0, none⟩)] w fun e w' => e = .returned (.bool (l != c)) ∧ w' = w := by
  unfold maxLen at hl
  obtain ⟨q, hq⟩ : ∃ q, (l != c) = q := ⟨_, rfl⟩
  have hq' : ((l : Int) != (c : Int)) = q := by
    rw [← hq]
    by_cases h : l = c
    · subst h; simp
    · have h1 : (l != c) = true := by simpa using h
      have h2 : ((l : Int) != (c : Int)) = true := by simp; omega
      rw [h1, h2]
  rw [hq]
  clear hq
  go_enter Tryz.func157, Tryz.ntmps157
  go_wp2
  go_ret
  exact ⟨by rw [← hq']; rfl, rfl⟩
theorem containsFunc_any (cap : Array Value) (a : Option Addr) (n ca : Nat) (V : Nat → Value) (p : Nat → Bool) (w : World) (hn : n ≤ maxLen) (ha : Vals w a n V)
    (hp : ∀ r, r < n → Calls Tryz.prog 157 (#[V r] ++ cap) w fun e w' => e = .returned (.bool (p r)) ∧ w' = w) (g : Bool) (hg : g = true ↔ ∃ r, r < n ∧ p r = true) :
    Calls Tryz.prog 156 #[.slice a n ca, .func (.func 157) #[] cap] w fun e w' => e = .returned (.bool g) ∧ w' = w := by
  have hi := indexFunc_any 157 (by decide) cap a n ca V p w hn ha hp
  have hs := first_spec p n
  generalize first p n = z at hs hi
  have hz : decide ((0 : Int) ≤ z) = g := by
    rcases hs with ⟨h1, h2⟩ | ⟨i, h1, h2, h3, h4⟩
    · cases g with
      | false => rw [h1]; decide
      | true =>
        obtain ⟨r, hr, h⟩ := hg.1 rfl
        rw [h2 r hr] at h; cases h
    · rw [hg.2 ⟨i, h2, h3⟩, h1]
      exact decide_eq_true (by omega)
  clear hs hg hp ha
  go_enter Tryz.func156, Tryz.ntmps156
  go_wp2_with fail
  go_at_call 198
  refine hi.mono ?_
  rintro e w' ⟨rfl, rfl⟩
  go_wp2_with fail
  go_ret
  exact ⟨by rw [← hz]; rfl, rfl⟩
set_option maxHeartbeats 400000 in
theorem good_any (a : Option Addr) (n ca : Nat) (L : Nat → Nat) (X : Mx) (w : World) (hn : n ≤ maxLen) (ha : MatAt w a n L X) (g : Bool) (hg : g = true ↔ Gd n L) :
    Calls Tryz.prog 106 #[.slice a n ca] w fun e w' => e = .returned (.bool g) ∧ Below w.heap.size w w' := by
  obtain ⟨AR, CR, hv, hr⟩ := ha
  have hn' := hn
  unfold maxLen at hn
  have hmf : ∀ (fn : Fn) (first cap : Array Value) (w : World), (Instr.makeFunc fn first cap).run Tryz.prog w = .ok (.func fn first cap) w := fun _ _ _ _ => rfl
  have no : ∀ P : Prop, (Gd n L → P) → ¬ P → g = false := fun P h1 h2 => by
    cases g with
    | false => rfl
    | true => exact absurd (h1 (hg.1 rfl)) h2
  by_cases h1 : 1 ≤ n ∧ n ≤ 16
  · rcases hv with h0 | ⟨b, o, rfl, hv⟩
    · omega
    obtain ⟨ar0, l0, cr0, hc0, HL⟩ : ∃ ar l cr, w.cell? ⟨b, o, none⟩ = some (.slice ar l cr) ∧ Hid (L 0 = l) := ⟨_, _, _, hv 0 (by omega), (rfl : L 0 = L 0)⟩
    have hl0 : l0 ≤ 9223372036854775807 := by have := (hr 0 (by omega)).1; rw [HL.out] at this; unfold maxLen at this; omega
    by_cases h2 : 1 ≤ l0 ∧ l0 ≤ 16
    · have hlt : b < w.heap.size := mcell_lt hc0
      have hbel : Below w.heap.size w (w.alloc (.cells #[.int .i64 (l0 : Int)] 3 (0, 0))) :=
        (Below.refl _ _).alloc (Nat.le_refl _) _
      have hcont := fun (w1 : World) (h : Below w.heap.size w w1) (hm : w1.cell? ⟨w.heap.size, 0, none⟩ = some (.int .i64 (l0 : Int))) =>
        containsFunc_any #[.pointer (some ⟨w.heap.size, 0, none⟩)] (some ⟨b, o, none⟩) n ca (fun r => .slice (AR r) (L r) (CR r)) (fun r => L r != l0) w1 hn'
          (Vals.below (.inr ⟨b, o, rfl, hv⟩) h (Nat.le_refl _)) (fun r h => good1_any (AR r) (L r) (CR r) w.heap.size l0 w1 (hr r h).1 hm) (!g) (by
            have e : g = true ↔ ∀ r, r < n → L r = l0 := by
              rw [hg]; unfold Gd; rw [HL.out]
              exact ⟨fun h => h.2.2.2.2, fun h => ⟨h1.1, h1.2, h2.1, h2.2, h⟩⟩
            cases g with
            | true =>
              have h' := e.1 rfl
              simp only [Bool.not_true, Bool.false_eq_true, false_iff, not_exists, not_and]
              intro r h hh
              rw [h' r h] at hh
              simp at hh
            | false =>
              simp only [Bool.not_false, true_iff]
              apply Classical.byContradiction
              intro hh
              have : (false : Bool) = true := e.2 fun r h => by
                apply Classical.byContradiction
                intro h3
                exact hh ⟨r, h, by simpa using h3⟩
              cases this)
      clear hg no hv hr
      have hb1 : ∀ w, Calls Tryz.prog 155 #[.int .i64 (n : Int)] w fun e w' => e = .returned (.bool true) ∧ w' = w := fun w => inRange_any n true (by simp; omega) w
      have hb2 : ∀ w, Calls Tryz.prog 155 #[.int .i64 (l0 : Int)] w fun e w' => e = .returned (.bool true) ∧ w' = w := fun w => inRange_any l0 true (by simp; omega) w
      go_enter Tryz.func106, Tryz.ntmps106
      go_wp2_with fail
      go_at_call 155
      refine (hb1 _).mono ?_
      rintro e w' ⟨rfl, rfl⟩
      go_wp2_with fail
      go_at_call 155
      refine (hb2 _).mono ?_
      rintro e w' ⟨rfl, rfl⟩
      go_wp2_with fail
      go_at_call 156
      refine (hcont _ hbel (by go_simp)).mono ?_
      rintro e w' ⟨rfl, rfl⟩
      go_wp2_with fail
      go_ret
      exact ⟨by simp, hbel⟩
    · obtain rfl := no (1 ≤ L 0 ∧ L 0 ≤ 16) (fun h => ⟨h.2.2.1, h.2.2.2.1⟩) (by rw [HL.out]; exact h2)
      clear hg no hv hr
      have hb1 : ∀ w, Calls Tryz.prog 155 #[.int .i64 (n : Int)] w fun e w' => e = .returned (.bool true) ∧ w' = w := fun w => inRange_any n true (by simp; omega) w
      have hb2 : ∀ w, Calls Tryz.prog 155 #[.int .i64 (l0 : Int)] w fun e w' => e = .returned (.bool false) ∧ w' = w := fun w => inRange_any l0 false (by simp; omega) w
      go_enter Tryz.func106, Tryz.ntmps106
      go_wp2_with fail
      go_at_call 155
      refine (hb1 _).mono ?_
      rintro e w' ⟨rfl, rfl⟩
      go_wp2_with fail
      go_at_call 155
      refine (hb2 _).mono ?_
      rintro e w' ⟨rfl, rfl⟩
      go_wp2_with fail
      go_ret
      exact ⟨rfl, Below.refl _ _⟩
  · obtain rfl := no (1 ≤ n ∧ n ≤ 16) (fun h => ⟨h.1, h.2.1⟩) h1
    clear hg no hv hr
    have hb1 : ∀ w, Calls Tryz.prog 155 #[.int .i64 (n : Int)] w fun e w' => e = .returned (.bool false) ∧ w' = w := fun w => inRange_any n false (by simp; omega) w
    go_enter Tryz.func106, Tryz.ntmps106
    go_wp2_with fail
    go_at_call 155
    refine (hb1 _).mono ?_
    rintro e w' ⟨rfl, rfl⟩
    go_wp2_with fail
    go_ret
    exact ⟨rfl, Below.refl _ _⟩
theorem owns_at {w w' : World} {base : Nat} {e : TypeId} {size g n cap B : Nat} {xs : List Value} (h : w.ownsRow base e size (.slice (some ⟨g, 0, none⟩) n cap) n xs) (hb : Below B w w') (hg : g < B) :
    w'.ownsRow base e size (.slice (some ⟨g, 0, none⟩) n cap) n xs := by
  refine ⟨h.1, ?_⟩
  rcases h.2 with ⟨hn, _⟩ | ⟨g', cap', cur, hv, hg0, hg', rest⟩
  · cases hn
  · cases hv
    exact .inr ⟨_, _, cur, rfl, hg0, (hb.block _ hg).trans hg', rest⟩
theorem owns_lt {w : World} {base : Nat} {e : TypeId} {size g n cap : Nat} {xs : List Value} (h : w.ownsRow base e size (.slice (some ⟨g, 0, none⟩) n cap) n xs) : base ≤ g ∧ g < w.heap.size := h.lt g rfl
def bytesL (m : Nat) (f : Nat → E) : List Value := (List.range m).map fun c => byteV (f c)
def rowV (m : Nat) (G : Nat → Nat) (r : Nat) : Value := .slice (some ⟨G r, 0, none⟩) m m
structure OwnM (w : World) (base g n m k : Nat) (G : Nat → Nat) (X : Mx) : Prop where
  top : w.ownsRow base 22 1 (.slice (some ⟨g, 0, none⟩) n n) n (filled n k (rowV m G) (.slice none 0 0))
  rows : ∀ r, r < k → g < G r ∧ w.ownsRow base 5 1 (.slice (some ⟨G r, 0, none⟩) m m) m (bytesL m (X r))
  up : ∀ i j, i < j → j < k → G i < G j
theorem OwnM.mat {w : World} {base g n m : Nat} {G : Nat → Nat} {X : Mx} (h : OwnM w base g n m n G X) (hm : m ≤ maxLen) : MatAt w (some ⟨g, 0, none⟩) n (fun _ => m) X := by
  refine ⟨fun r => some ⟨G r, 0, none⟩, fun _ => m, .inr ⟨g, 0, rfl, fun r hr => ?_⟩, fun r hr => ⟨hm, .inr ⟨G r, 0, rfl, fun c hc => ?_⟩⟩⟩
  · have := h.top.cellAt r (by omega)
    rw [filled_full] at this
    rw [Nat.zero_add, this]
    simp [hr, rowV]
  · have hc' : c < m := hc
    have := (h.rows r hr).2.cellAt c (by omega)
    rw [Nat.zero_add, this]
    simp [hc', bytesL]
theorem Tryz.info22 : (Tryz.prog.info? 22).map (fun i => (i.zero, i.size, i.bytes)) = some (some (.slice none 0 0), 1, 24) := by kernel_rfl
set_option maxHeartbeats 2000000 in
theorem fill_any (K : Nat) (hK : K = 184 ∨ K = 162) (cap : Array Value) (n m : Nat) (h1 : 1 ≤ n) (h2 : n ≤ 16) (h3 : 1 ≤ m) (h4 : m ≤ 16) (X : Mx) (w : World)
    (hcl : ∀ r, r < n → ∀ c, c < m → ∀ w1, Below w.heap.size w w1 → Calls Tryz.prog K (#[.int .i64 (r : Int), .int .i64 (c : Int)] ++ cap) w1 fun e w' => e = .returned (byteV (X r c)) ∧ w' = w1) :
    Calls Tryz.prog 161 #[.int .i64 (n : Int), .int .i64 (m : Int), .func (.func K) #[] cap] w fun e w' => ∃ g G, e = .returned (.slice (some ⟨g, 0, none⟩) n n) ∧ OwnM w' w.heap.size g n m n G X ∧ Below w.heap.size w w' := by
  obtain ⟨i0, hi, hz0, hz1, hz2⟩ := info_parts Tryz.info5
  obtain ⟨j0, hj, hy0, hy1, hy2⟩ := info_parts Tryz.info22
  have HCL : Hid (∀ r, r < n → ∀ c, c < m → ∀ w1, Below w.heap.size w w1 → Calls Tryz.prog K (#[.int .i64 (r : Int), .int .i64 (c : Int)] ++ cap) w1 fun e w' => e = .returned (byteV (X r c)) ∧ w' = w1) := hcl
  clear hcl
  rcases hK with rfl | rfl
  all_goals
    go_enter Tryz.func161, Tryz.ntmps161
    go_wp2_with (at_make; refine wpList_make_full _ rfl _ _ 134 rfl w.heap.size 22 j0 (.slice none 0 0) 1 Tryz.underlying134 hj hy0 hy1 _ _ _ _ n rfl rfl ?c0 ?c1 ?c2 ?c3 ?c4 ?_)
    case c0 => rfl
    case c1 => rfl
    case c2 => rw [hy2]; omega
    case c3 => unfold maxLen; omega
    case c4 => exact Nat.le_refl _
    intro w1 hown hgrow
    have hbel : Below w.heap.size w w1 := (Below.refl _ _).grown hgrow (Nat.le_refl _) (fun k h => by cases h)
    rw [toList_madeCells_one, ← filled_zero n (rowV m fun _ => 0)] at hown
    go_wp2_with fail
    go_loopw [14] (fun i wr => ∃ k : Nat, k ≤ n ∧ i = .int .i64 k ∧ Below w.heap.size w wr ∧ ∃ G, OwnM wr w.heap.size w.heap.size n m k G X) (fun i _ => (n : Nat) - (intOf i).toNat)
    case atStart => exact ⟨0, Nat.zero_le _, rfl, hbel, fun _ => 0, ⟨hown, fun r hr => by omega, fun i j _ _ => by omega⟩⟩
    case round =>
      obtain ⟨k, hk, rfl, hbel', G, hO⟩ := hrel
      by_cases hlt : k < n
      · obtain ⟨v0, hcell⟩ : ∃ v0, wr.cell? ⟨w.heap.size, k, none⟩ = some v0 := by
          rw [hO.top.cellAt k (by omega)]; exact ⟨_, List.getElem?_eq_getElem (by simp [filled]; exact hlt)⟩
        have hfr := hO.top.frozenAt k
        obtain ⟨g', hg'⟩ : ∃ g', wr.heap.size = g' := ⟨_, rfl⟩
        have hbl : w.heap.size < g' := by rw [← hg']; exact (owns_lt hO.top).2
        go_wp2_with (at_make; refine wpList_make_full _ rfl _ _ 22 rfl w.heap.size 5 i0 (.int .u8 0) 1 Tryz.underlying22 hi hz0 hz1 _ _ _ _ m rfl rfl ?c0 ?c1 ?c2 ?c3 ?c4 ?_)
        case c0 => rfl
        case c1 => rfl
        case c2 => rw [hz2]; omega
        case c3 => unfold maxLen; omega
        case c4 => exact hbel'.size
        intro w2 hown2 hgrow2
        have hbel2 : Below g' wr w2 := by rw [← hg']; exact (Below.refl _ _).grown hgrow2 (Nat.le_refl _) (fun k h => by cases h)
        rw [toList_madeCells_one, ← filled_zero m (fun c => byteV (X k c))] at hown2
        have htop2 := owns_at hO.top hbel2 hbl
        have hc2 : w2.cell? ⟨w.heap.size, k, none⟩ = some v0 := (hbel2.cell (p := ⟨w.heap.size, k, none⟩) hbl).trans hcell
        have hf2 := htop2.frozenAt k
        have hst2 := htop2.stored k (.slice (some ⟨g', 0, none⟩) m m)
        go_wp2_with fail
        obtain ⟨w3, hw3⟩ : ∃ w3, w3 = w2.setCell ⟨w.heap.size, k, none⟩ (.slice (some ⟨g', 0, none⟩) m m) := ⟨_, rfl⟩
        rw [← hw3] at hst2 ⊢
        have hbel3 : Below w.heap.size w w3 := by rw [hw3]; exact (hbel'.trans (hbel2.mono (by rw [← hg']; exact hbel'.size))).setCell (Nat.le_refl _) _
        have hown3 : w3.ownsRow w.heap.size 5 1 (.slice (some ⟨g', 0, none⟩) m m) m (filled m 0 (fun c => byteV (X k c)) (.int .u8 0)) := by
          rw [hw3]; exact ownsRow_setCell_other hown2 (by simp [Value.ownBlock]; omega) _
        have hbel23 : ∀ r, r < k → w3.ownsRow w.heap.size 5 1 (.slice (some ⟨G r, 0, none⟩) m m) m (bytesL m (X r)) := fun r hr => by
          have h0 := hO.rows r hr
          rw [hw3]; exact ownsRow_setCell_other (owns_at h0.2 hbel2 (by rw [← hg']; exact (owns_lt h0.2).2)) (by simp [Value.ownBlock]; omega) _
        have hc3 := hst2.1.cellAt k (by omega)
        rw [List.getElem?_set_self (by simp [filled]; exact hlt)] at hc3
        clear hw3 hc2 hf2 htop2 hown2 hown hcell hfr
        go_loopw [27] (fun i wi => ∃ j : Nat, j ≤ m ∧ i = .int .i64 j ∧ Below g' w3 wi ∧ wi.ownsRow w.heap.size 5 1 (.slice (some ⟨g', 0, none⟩) m m) m (filled m j (fun c => byteV (X k c)) (.int .u8 0))) (fun i _ => (m : Nat) - (intOf i).toNat)
        case atStart => exact ⟨0, Nat.zero_le _, rfl, Below.refl _ _, hown3⟩
        case round =>
          obtain ⟨j, hj, rfl, hbi, hoi⟩ := hrel
          have hci : wr.cell? ⟨w.heap.size, k, none⟩ = some (.slice (some ⟨g', 0, none⟩) m m) := (hbi.cell (p := ⟨w.heap.size, k, none⟩) hbl).trans hc3
          by_cases hjm : j < m
          · obtain ⟨v1, hv1⟩ : ∃ v1, wr.cell? ⟨g', j, none⟩ = some v1 := by
              rw [hoi.cellAt j (by omega)]; exact ⟨_, List.getElem?_eq_getElem (by simp [filled]; exact hjm)⟩
            have hfi := hoi.frozenAt j
            have hsi := hoi.stored j (byteV (X k j))
            rw [filled_set m j (fun c => byteV (X k c)) _ hjm] at hsi
            have hcall := fun w1 h => HCL.out k hlt j hjm w1 h
            unfold byteV at hcall
            have hbw : Below w.heap.size w wr := hbel3.trans (hbi.mono (by omega))
            go_wp2_with fail
            go_region_with ((first | go_at_call 184 | go_at_call 162); refine (hcall _ (by first | exact hbw | exact hbw.drew)).mono ?_; rintro e w' ⟨rfl, rfl⟩)
            all_goals
              go_wp2_with fail
              go_roundw
              case rel => exact ⟨j + 1, by omega, by go_num, (hbi.setCell (Nat.le_refl _) _).drew, hsi.1.drew⟩
              case measure => simp [intOf]; omega
          · have hjm' : j = m := by omega
            subst hjm'
            rw [filled_full] at hoi
            go_wp2_with fail
            go_roundw
            case rel =>
              refine ⟨k + 1, by omega, by go_num, hbel3.trans (hbi.mono (by omega)), fun r => if r < k then G r else g', ?_, ?_, ?_⟩
              · have h5 : filled n (k + 1) (rowV j fun r => if r < k then G r else g') (.slice none 0 0) = (filled n k (rowV j G) (.slice none 0 0)).set k (.slice (some ⟨g', 0, none⟩) j j) := by
                  have h6 : filled n k (rowV j G) (.slice none 0 0) = filled n k (rowV j fun r => if r < k then G r else g') (.slice none 0 0) := by
                    unfold filled
                    refine List.map_congr_left fun i _ => ?_
                    by_cases e : i < k
                    · simp [e, rowV]
                    · simp [e]
                  rw [h6, ← filled_set n k _ _ hlt]
                  simp [rowV]
                rw [h5]
                exact owns_at hst2.1 hbi hbl
              · intro r hr
                by_cases e : r < k
                · simp only [if_pos e]
                  have h0 := hO.rows r e
                  exact ⟨h0.1, owns_at (hbel23 r e) hbi (by rw [← hg']; exact (owns_lt h0.2).2)⟩
                · obtain rfl : r = k := by omega
                  simp only [if_neg e]
                  exact ⟨hbl, hoi⟩
              · intro i l h5 h6
                by_cases e : l < k
                · simp only [if_pos e, if_pos (show i < k by omega)]
                  exact hO.up i l h5 e
                · simp only [if_neg e, if_pos (show i < k by omega)]
                  rw [← hg']
                  exact (owns_lt (hO.rows i (by omega)).2).2
            case measure => simp [intOf]; omega
      · have hkn : k = n := by omega
        subst hkn
        go_wp2_with fail
        go_ret
        exact ⟨_, G, rfl, hO, hbel'⟩
theorem mowns_below {w w' : World} {base : Nat} {e : TypeId} {size : Nat} {v : Value} {n : Nat} {xs : List Value} (h : w.ownsRow base e size v n xs) (hb : Below w.heap.size w w') : w'.ownsRow base e size v n xs := by
  refine ⟨h.1, ?_⟩
  rcases h.2 with hn | ⟨g, cap, cur, rfl, hg0, hg, rest⟩
  · exact .inl hn
  · exact .inr ⟨g, cap, cur, rfl, hg0, (hb.block g (Array.getElem?_eq_some_iff.1 hg).1).trans hg, rest⟩
theorem owns_apart {w : World} {b b' : Nat} {e e' : TypeId} {z z' n n' : Nat} {v v' : Value} {xs xs' : List Value} (h : w.ownsRow b e z v n xs) (h' : w.ownsRow b' e' z' v' n' xs') (he : e ≠ e') :
    v'.ownBlock = none ∨ v'.ownBlock ≠ v.ownBlock := by
  rcases h'.2 with ⟨rfl, _⟩ | ⟨g', cap', cur', rfl, _, hg', _⟩
  · exact .inl rfl
  · refine .inr fun hh => ?_
    rcases h.2 with ⟨rfl, _⟩ | ⟨g, cap, cur, rfl, _, hg, _⟩
    · cases hh
    · have : g' = g := Option.some.inj hh
      subst this
      rw [hg] at hg'
      cases hg'
      exact he rfl
theorem mowns_form {w : World} {base : Nat} {e : TypeId} {v : Value} {n : Nat} {xs : List Value} (h : w.ownsRow base e 1 v n xs) (f : Nat → Value) (hx : ∀ i, i < n → xs[i]? = some (f i)) :
    ∃ a cap, v = .slice a n cap ∧ n ≤ maxLen ∧ Vals w a n f := by
  have hc := h
  rcases h.2 with ⟨rfl, h0⟩ | ⟨g, cap, cur, rfl, hb, hg, h1, h2, _⟩
  · subst h0; exact ⟨none, 0, rfl, Nat.zero_le _, .inl rfl⟩
  · refine ⟨_, cap, rfl, Nat.le_trans h1 h2, .inr ⟨g, 0, rfl, fun i hi => ?_⟩⟩
    rw [Nat.zero_add, hc.cellAt i (by omega), hx i hi]
theorem bytesL_length (m : Nat) (f : Nat → E) : (bytesL m f).length = m := by simp [bytesL]
theorem bytesL_at (m : Nat) (f : Nat → E) (i : Nat) (h : i < m) : (bytesL m f)[i]? = some (byteV (f i)) := by simp [bytesL, h]
theorem bytesL_succ (m : Nat) (f : Nat → E) : bytesL (m + 1) f = bytesL m f ++ [byteV (f m)] := by
  unfold bytesL; rw [List.range_succ, List.map_append]; rfl
def slA : Value → Option Addr
  | .slice a _ _ => a
  | _ => none
def slC : Value → Nat
  | .slice _ _ c => c
  | _ => 0
def AccM (w : World) (base : Nat) (vo : Value) (k : Nat) (L : Nat → Nat) (X : Mx) : Prop :=
  ∃ R : Nat → Value, w.ownsRow base 22 1 vo k ((List.range k).map R) ∧ ∀ r, r < k → w.ownsRow base 5 1 (R r) (L r) (bytesL (L r) (X r))
theorem AccM.nil (w : World) (base : Nat) (L : Nat → Nat) (X : Mx) : AccM w base (.slice none 0 0) 0 L X :=
  ⟨fun _ => undef, World.ownsRow_nil _ _ _ _, fun r hr => by omega⟩
theorem AccM.below {w w' : World} {base : Nat} {vo : Value} {k : Nat} {L : Nat → Nat} {X : Mx} (h : AccM w base vo k L X) (hb : Below w.heap.size w w') : AccM w' base vo k L X := by
  obtain ⟨R, h1, h2⟩ := h
  exact ⟨R, mowns_below h1 hb, fun r hr => mowns_below (h2 r hr) hb⟩
theorem AccM.mat {w : World} {base : Nat} {vo : Value} {k : Nat} {L : Nat → Nat} {X : Mx} (h : AccM w base vo k L X) : ∃ a cap, vo = .slice a k cap ∧ k ≤ maxLen ∧ MatAt w a k L X := by
  obtain ⟨R, h1, h2⟩ := h
  obtain ⟨a, cap, rfl, hk, hv⟩ := mowns_form h1 R (fun i hi => by simp [hi])
  refine ⟨a, cap, rfl, hk, fun r => slA (R r), fun r => slC (R r), ?_, fun r hr => ?_⟩
  · rcases hv with h0 | ⟨b, o, rfl, hv⟩
    · exact .inl h0
    · refine .inr ⟨b, o, rfl, fun i hi => ?_⟩
      obtain ⟨a', c', e, _, _⟩ := mowns_form (h2 i hi) _ (fun j hj => bytesL_at _ _ j hj)
      show _ = some (Value.slice (slA (R i)) (L i) (slC (R i)))
      rw [hv i hi, e]
      rfl
  · obtain ⟨a', c', e, hl, hv'⟩ := mowns_form (h2 r hr) _ (fun j hj => bytesL_at _ _ j hj)
    refine ⟨hl, ?_⟩
    show RowAt w (slA (R r)) (L r) (X r)
    rw [e]
    exact hv'
theorem AccM.push {w w1 w' : World} {base : Nat} {vo vo' v : Value} {k : Nat} {L : Nat → Nat} {X : Mx} {R : Nat → Value}
    (h2 : ∀ r, r < k → w.ownsRow base 5 1 (R r) (L r) (bytesL (L r) (X r))) (hv : w.ownsRow base 5 1 v (L k) (bytesL (L k) (X k))) (h1 : w.ownsRow base 22 1 vo k ((List.range k).map R))
    (hb : Below w.heap.size w w1) (hown : w'.ownsRow base 22 1 vo' (k + 1) ((List.range k).map R ++ [v])) (hg : w1.grownBy w' vo.ownBlock) : AccM w' base vo' (k + 1) L X := by
  refine ⟨fun r => if r < k then R r else v, ?_, fun r hr => ?_⟩
  · have : (List.range (k + 1)).map (fun r => if r < k then R r else v) = (List.range k).map R ++ [v] := by
      rw [List.range_succ, List.map_append]
      congr 1
      · exact List.map_congr_left fun r hr => by simp [List.mem_range.1 hr]
      · simp
    rw [this]
    exact hown
  · by_cases e : r < k
    · simp only [if_pos e]
      exact (mowns_below (h2 r e) hb).kept hg (owns_apart (mowns_below h1 hb) (mowns_below (h2 r e) hb) (by decide))
    · obtain rfl : r = k := by omega
      simp only [if_neg e]
      exact (mowns_below hv hb).kept hg (owns_apart (mowns_below h1 hb) (mowns_below hv hb) (by decide))
theorem identity1_any (r c : Nat) (w : World) (hr : r < 16) (hc : c < 16) : Calls Tryz.prog 184 #[.int .i64 (r : Int), .int .i64 (c : Int)] w fun e w' => e = .returned (byteV (idM r c)) ∧ w' = w := by
  by_cases h : r = c
  · subst h
    have : idM r r = 1 := by simp [idM]
    rw [this]
    go_enter Tryz.func184, Tryz.ntmps184
    go_wp2
    go_ret
    exact ⟨rfl, rfl⟩
  · have : idM r c = 0 := by simp [idM, h]
    rw [this]
    have h' : ((r : Int) == (c : Int)) = false := by simp; omega
    go_enter Tryz.func184, Tryz.ntmps184
    go_wp2
    go_ret
    exact ⟨rfl, rfl⟩
def two : E := ⟨2, by decide⟩
def powM : Mx := fun r c => pw two (r * c)
theorem vander1_any (r c : Nat) (w : World) (hr : r < 16) (hc : c < 16) : Calls Tryz.prog 162 #[.int .i64 (r : Int), .int .i64 (c : Int)] w fun e w' => e = .returned (byteV (powM r c)) ∧ w' = w := by
  have hrc : r * c ≤ 15 * 15 := Nat.mul_le_mul (by omega) (by omega)
  obtain ⟨p, hp⟩ : ∃ p : Nat, r * c = p := ⟨_, rfl⟩
  have hp' : (r : Int) * (c : Int) = (p : Int) := by rw [← hp]; simp
  have hpow := gfPow_any 2 (by decide) (p : Int) (by omega) (by omega) w
  rw [gpow_nat 2 p (by decide)] at hpow
  have e : byteV (powM r c) = .int .u8 (gp 2 p : Int) := by unfold powM byteV pw two; rw [hp]
  rw [e]
  rw [hp] at hrc
  clear hp e
  go_enter Tryz.func162, Tryz.ntmps162
  go_wp2_with fail
  go_at_call 163
  refine hpow.mono ?_
  rintro e w' ⟨rfl, rfl⟩
  go_wp2_with fail
  go_ret
  exact ⟨rfl, rfl⟩
set_option maxHeartbeats 400000 in
theorem identity_any (n : Int) (w : World) (h0 : -9223372036854775808 ≤ n) (h1 : n ≤ 9223372036854775807) :
    Calls Tryz.prog 134 #[.int .i64 n] w fun e w' => Below w.heap.size w w' ∧ ((¬ (1 ≤ n ∧ n ≤ 16) ∧ e = .returned (.tuple #[.slice none 0 0, .int .i64 2])) ∨
      ∃ (k : Nat) (g : Nat) (G : Nat → Nat), n = k ∧ 1 ≤ k ∧ k ≤ 16 ∧ e = .returned (.tuple #[.slice (some ⟨g, 0, none⟩) k k, .int .i64 0]) ∧ OwnM w' w.heap.size g k k k G idM) := by
  by_cases h : 1 ≤ n ∧ n ≤ 16
  · obtain ⟨k, rfl⟩ : ∃ k : Nat, n = (k : Int) := ⟨n.toNat, by omega⟩
    have hin : ∀ w, Calls Tryz.prog 155 #[.int .i64 (k : Int)] w fun e w' => e = .returned (.bool true) ∧ w' = w := fun w => inRange_any k true (by simp; omega) w
    have hf := fill_any 184 (by decide) #[] k k (by omega) (by omega) (by omega) (by omega) idM w fun r hr c hc w1 _ => by
      have := identity1_any r c w1 (by omega) (by omega)
      simpa using this
    clear h0 h1
    go_enter Tryz.func134, Tryz.ntmps134
    go_wp2_with fail
    go_at_call 155
    refine (hin _).mono ?_
    rintro e w' ⟨rfl, rfl⟩
    go_wp2_with fail
    go_at_call 161
    refine hf.mono ?_
    rintro e w2 ⟨g, G, rfl, hO, hb⟩
    go_wp2_with fail
    go_ret2
    exact ⟨hb, .inr ⟨k, g, G, rfl, by omega, by omega, rfl, hO⟩⟩
  · have hin : ∀ w, Calls Tryz.prog 155 #[.int .i64 n] w fun e w' => e = .returned (.bool false) ∧ w' = w := fun w => inRange_any n false (by simp; omega) w
    go_enter Tryz.func134, Tryz.ntmps134
    go_wp2_with fail
    go_at_call 155
    refine (hin _).mono ?_
    rintro e w' ⟨rfl, rfl⟩
    go_wp2_with fail
    go_ret2
    exact ⟨Below.refl _ _, .inl ⟨h, rfl⟩⟩
set_option maxHeartbeats 400000 in
theorem vander_any (n m : Int) (w : World) (h0 : -9223372036854775808 ≤ n) (h1 : n ≤ 9223372036854775807) (h2 : -9223372036854775808 ≤ m) (h3 : m ≤ 9223372036854775807) :
    Calls Tryz.prog 109 #[.int .i64 n, .int .i64 m] w fun e w' => Below w.heap.size w w' ∧ ((¬ (1 ≤ n ∧ n ≤ 16 ∧ 1 ≤ m ∧ m ≤ 16) ∧ e = .returned (.tuple #[.slice none 0 0, .int .i64 2])) ∨
      ∃ (k l : Nat) (g : Nat) (G : Nat → Nat), n = k ∧ m = l ∧ 1 ≤ k ∧ k ≤ 16 ∧ 1 ≤ l ∧ l ≤ 16 ∧ e = .returned (.tuple #[.slice (some ⟨g, 0, none⟩) k k, .int .i64 0]) ∧ OwnM w' w.heap.size g k l k G powM) := by
  by_cases h : 1 ≤ n ∧ n ≤ 16
  · have hin : ∀ w, Calls Tryz.prog 155 #[.int .i64 n] w fun e w' => e = .returned (.bool true) ∧ w' = w := fun w => inRange_any n true (by simp; omega) w
    by_cases h' : 1 ≤ m ∧ m ≤ 16
    · obtain ⟨k, rfl⟩ : ∃ k : Nat, n = (k : Int) := ⟨n.toNat, by omega⟩
      obtain ⟨l, rfl⟩ : ∃ l : Nat, m = (l : Int) := ⟨m.toNat, by omega⟩
      have hin' : ∀ w, Calls Tryz.prog 155 #[.int .i64 (l : Int)] w fun e w' => e = .returned (.bool true) ∧ w' = w := fun w => inRange_any l true (by simp; omega) w
      have hf := fill_any 162 (by decide) #[] k l (by omega) (by omega) (by omega) (by omega) powM w fun r hr c hc w1 _ => by
        have := vander1_any r c w1 (by omega) (by omega)
        simpa using this
      clear h0 h1 h2 h3
      go_enter Tryz.func109, Tryz.ntmps109
      go_wp2_with fail
      go_at_call 155
      refine (hin _).mono ?_
      rintro e w' ⟨rfl, rfl⟩
      go_wp2_with fail
      go_at_call 155
      refine (hin' _).mono ?_
      rintro e w' ⟨rfl, rfl⟩
      go_wp2_with fail
      go_at_call 161
      refine hf.mono ?_
      rintro e w2 ⟨g, G, rfl, hO, hb⟩
      go_wp2_with fail
      go_ret2
      exact ⟨hb, .inr ⟨k, l, g, G, rfl, rfl, by omega, by omega, by omega, by omega, rfl, hO⟩⟩
    · have hin' : ∀ w, Calls Tryz.prog 155 #[.int .i64 m] w fun e w' => e = .returned (.bool false) ∧ w' = w := fun w => inRange_any m false (by simp; omega) w
      go_enter Tryz.func109, Tryz.ntmps109
      go_wp2_with fail
      go_at_call 155
      refine (hin _).mono ?_
      rintro e w' ⟨rfl, rfl⟩
      go_wp2_with fail
      go_at_call 155
      refine (hin' _).mono ?_
      rintro e w' ⟨rfl, rfl⟩
      go_wp2_with fail
      go_ret2
      exact ⟨Below.refl _ _, .inl ⟨fun hh => h' ⟨hh.2.2.1, hh.2.2.2⟩, rfl⟩⟩
  · have hin : ∀ w, Calls Tryz.prog 155 #[.int .i64 n] w fun e w' => e = .returned (.bool false) ∧ w' = w := fun w => inRange_any n false (by simp; omega) w
    go_enter Tryz.func109, Tryz.ntmps109
    go_wp2_with fail
    go_at_call 155
    refine (hin _).mono ?_
    rintro e w' ⟨rfl, rfl⟩
    go_wp2_with fail
    go_ret2
    exact ⟨Below.refl _ _, .inl ⟨fun hh => h ⟨hh.1, hh.2.1⟩, rfl⟩⟩
theorem MatIn.cell {w : World} {a : Option Addr} {n : Nat} {L : Nat → Nat} {X : Mx} {AR : Nat → Option Addr} {CR : Nat → Nat} (h : MatIn w a n L X AR CR) (r c : Nat) (hr : r < n) (hc : c < L r) :
    ∃ b o b' o', a = some ⟨b, o, none⟩ ∧ AR r = some ⟨b', o', none⟩ ∧ w.cell? ⟨b, o + r, none⟩ = some (.slice (some ⟨b', o', none⟩) (L r) (CR r)) ∧ w.cell? ⟨b', o' + c, none⟩ = some (.int .u8 ((X r c).v : Int)) := by
  obtain ⟨h1, h2⟩ := h
  rcases h1 with h0 | ⟨b, o, rfl, h1⟩
  · omega
  · rcases (h2 r hr).2 with h0 | ⟨b', o', e, h3⟩
    · omega
    · refine ⟨b, o, b', o', rfl, e, ?_, h3 c hc⟩
      have := h1 r hr
      simp only [e] at this
      exact this
theorem mgood_yes {n : Nat} {L : Nat → Nat} (h : Gd n L) : (true = true ↔ Gd n L) := ⟨fun _ => h, fun _ => rfl⟩
theorem mgood_no {n : Nat} {L : Nat → Nat} (h : ¬ Gd n L) : (false = true ↔ Gd n L) := by simp [h]
open Go.RowKit Go.PlainAid
def numsE (m : Nat) (f : Nat → E) : List Int := (List.range m).map fun i => ((f i).v : Int)
def strE (m : Nat) (f : Nat → E) : ByteArray := strOfNums (numsE m f)
theorem numsE_length (m : Nat) (f : Nat → E) : (numsE m f).length = m := by simp [numsE]
theorem numsE_range (m : Nat) (f : Nat → E) : ∀ x ∈ numsE m f, 0 ≤ x ∧ x ≤ 255 := by
  intro x hx
  obtain ⟨i, _, rfl⟩ := List.mem_map.1 hx
  have := (f i).h
  omega
theorem strE_size (m : Nat) (f : Nat → E) : (strE m f).size = m := by unfold strE; rw [strOfNums_size, numsE_length]
theorem bt_strE (m : Nat) (f : Nat → E) (i : Nat) (h : i < m) : bt (strE m f) i = ((f i).v : Int) := by
  unfold strE
  rw [bt_str _ (numsE_range m f) i (by rw [numsE_length]; exact h)]
  simp [numsE]
theorem strE_congr {m : Nat} {f g : Nat → E} (h : ∀ i, i < m → f i = g i) : strE m f = strE m g := by
  unfold strE numsE
  congr 1
  exact List.map_congr_left fun i hi => by rw [h i (List.mem_range.1 hi)]
theorem scaleB_strE (x : E) (m : Nat) (f : Nat → E) : scaleB x.v (strE m f) = strE m fun i => x * f i := by
  apply bt_ext
  · rw [scaleB_size, strE_size, strE_size]
  · intro i hi
    rw [scaleB_size, strE_size] at hi
    rw [bt_scaleB x.v x.h _ i (by rw [strE_size]; exact hi), bt_strE _ _ i hi]
    unfold gb
    rw [bt_strE _ _ i hi, Int.toNat_natCast]
    rfl
theorem xorB_strE (m : Nat) (f g : Nat → E) : xorB (strE m f) (strE m g) = strE m fun i => f i + g i := by
  apply bt_ext
  · rw [xorB_size, strE_size, strE_size, strE_size, Nat.min_self]
  · intro i hi
    rw [xorB_size, strE_size, strE_size, Nat.min_self] at hi
    rw [bt_xorB _ _ i (by rw [strE_size, strE_size, Nat.min_self]; exact hi), bt_strE _ _ i hi, bt_strE _ _ i hi, bt_strE _ _ i hi, Int.toNat_natCast, Int.toNat_natCast]
    rfl
theorem strE_cells (m : Nat) (f : Nat → E) : ((strE m f).data.map fun b => Value.int .u8 b.toNat).toList = bytesL m f := by
  unfold strE strOfNums numsE bytesL byteV
  simp only [List.map_map, Array.toList_map]
  apply List.map_congr_left
  intro i _
  have := (f i).h
  simp only [Function.comp, Int.toNat_natCast]
  congr 1
  rw [UInt8.toNat_ofNat']
  omega
theorem conv_row {w : World} {base g m cap : Nat} {f : Nat → E} (h : w.ownsRow base 5 1 (.slice (some ⟨g, 0, none⟩) m cap) m (bytesL m f)) :
    (convert 22 9 (.slice (some ⟨g, 0, none⟩) m cap)).run Tryz.prog w = .ok (.string (strE m f)) w :=
  run_convert_bytes_arg (P := Tryz.prog) w 22 5 Tryz.underlying22 Tryz.underlying5 g 0 m cap (numsE m f) (numsE_length m f) (fun i hi => by
    rw [Nat.zero_add, h.cellAt i (by omega), bytesL_at m f i hi]
    simp [numsE, List.getD, hi, byteV]) 9 Tryz.underlying9
theorem run_copy_strE (w : World) (g m : Nat) (f : Nat → E) (cur : Array Value) (ty : TypeId) (hg : w.heap[g]? = some (.cells cur 5 (0, 0))) (hc : cur.size = m) :
    (Builtin.copy_ #[22, 9] ty #[.slice (some ⟨g, 0, none⟩) m m, .string (strE m f)]).run Tryz.prog w = .ok (goInt m) (w.setRow g (bytesL m f).toArray) := by
  obtain ⟨i0, hi, hz0, hz1, hz2⟩ := info_parts Tryz.info5
  have hst := run_storeCells_at Tryz.prog g 0 5 (bytesL m f) 0 cur w hg (by rw [bytesL_length]; omega) (fun v hv => by
    obtain ⟨i, _, rfl⟩ := List.mem_map.1 hv
    rfl)
  rw [show cur.toList.take (0 + 0) ++ bytesL m f ++ cur.toList.drop (0 + 0 + (bytesL m f).length) = bytesL m f by
    rw [bytesL_length]; simp; omega] at hst
  have hce := strE_cells m f
  simp [Builtin.copy_, run_underlying Tryz.underlying22, Builtin.lenOf, Builtin.firstCells, sizeOf, typeInfo, hi, strE_size]
  rw [Array.toList_map] at hce
  have ht : (bytesL m f).take m = bytesL m f := List.take_of_length_le (by rw [bytesL_length]; exact Nat.le_refl _)
  simp [hce, ht, hst]
theorem grown_setRow (w : World) (g : Nat) (cs : Array Value) : w.grownBy (w.setRow g cs) (some g) :=
  ⟨rfl, rfl, rfl, by simp, fun k _ hk => setRow_other w g k cs fun e => hk (by rw [e])⟩
theorem owns_heap {w : World} {base g m : Nat} {xs : List Value} (h : w.ownsRow base 5 1 (.slice (some ⟨g, 0, none⟩) m m) m xs) : ∃ cur, w.heap[g]? = some (.cells cur 5 (0, 0)) ∧ cur.size = m ∧ cur.toList = xs ∧ base ≤ g ∧ m ≤ maxLen := by
  rcases h.2 with ⟨hn, _⟩ | ⟨g', cap', cur, hv, hg0, hg', h1, h2, h3, h4⟩
  · cases hn
  · cases hv
    refine ⟨cur, hg', by omega, ?_, hg0, h2⟩
    rw [← h4, List.take_of_length_le (by simp; omega)]
theorem owns_of {w : World} {base g m : Nat} {xs : List Value} (hg : w.heap[g]? = some (.cells xs.toArray 5 (0, 0))) (hb : base ≤ g) (hl : xs.length = m) (hm : m ≤ maxLen) : w.ownsRow base 5 1 (.slice (some ⟨g, 0, none⟩) m m) m xs :=
  ⟨by omega, .inr ⟨g, m, xs.toArray, rfl, hb, hg, Nat.le_refl _, hm, by simp; exact hl, by rw [← hl]; simp⟩⟩
theorem owns_setRow {w : World} {base g m : Nat} {xs : List Value} {f : Nat → E} (h : w.ownsRow base 5 1 (.slice (some ⟨g, 0, none⟩) m m) m xs) : (w.setRow g (bytesL m f).toArray).ownsRow base 5 1 (.slice (some ⟨g, 0, none⟩) m m) m (bytesL m f) := by
  obtain ⟨cur, h1, h2, h3, h4, h5⟩ := owns_heap h
  exact owns_of (setRow_heap w g _ _ 5 _ h1) h4 (bytesL_length m f) h5
def settleK (c : Nat) (X : Mx) (k : Nat) : Mx := fun r j => if r < k ∧ r ≠ c then X r j + X r c * X c j else X r j
theorem settleK_zero (c : Nat) (X : Mx) : settleK c X 0 = X := by funext r j; simp [settleK]
theorem settle_reach {n m c : Nat} {X : Mx} (hc : c < n) : ∀ k, k ≤ n → Reach n m X (settleK c X k) := by
  intro k
  induction k with
  | zero => intro _; rw [settleK_zero]; exact .refl
  | succ k ih =>
    intro hk
    by_cases e : k = c
    · refine (ih (by omega)).same fun r _ j _ => ?_
      simp only [settleK]
      by_cases h : r < k ∧ r ≠ c
      · rw [if_pos h, if_pos ⟨by omega, h.2⟩]
      · rw [if_neg h, if_neg (by omega)]
    · refine ((ih (by omega)).add c k (X k c) hc (by omega) (Ne.symm e)).same fun r _ j _ => ?_
      simp only [settleK, addR]
      by_cases h : r = k
      · subst h
        rw [if_pos ⟨by omega, e⟩, if_pos rfl, if_neg (by omega), if_neg (by omega)]
      · rw [if_neg h]
        by_cases h' : r < k ∧ r ≠ c
        · rw [if_pos h', if_pos ⟨by omega, h'.2⟩]
        · rw [if_neg h', if_neg (by omega)]
def pivotM (c p : Nat) (X : Mx) : Mx := scaleR c (X p c).inv (swapR c p X)
theorem gauss_step {n m c p : Nat} {X : Mx} (hc : c < n) (hcp : c ≤ p) (hp : p < n) (hne : X p c ≠ 0) (hcols : ∀ r, r < n → ∀ j, j < c → X r j = idM r j) :
    Reach n m X (settleK c (pivotM c p X) n) ∧ ∀ r, r < n → ∀ j, j < c + 1 → settleK c (pivotM c p X) n r j = idM r j := by
  have h1 : Reach n m X (pivotM c p X) := (Reach.refl.swap c p hc hp).scale c _ hc (E.inv_ne _ hne)
  refine ⟨h1.trans (settle_reach hc n (Nat.le_refl _)), fun r hr j hj => ?_⟩
  have z1 : ∀ q, c ≤ q → q < n → ∀ j, j < c → X q j = 0 := fun q h1 h2 j hj => by
    rw [hcols q h2 j hj]
    simp [idM]
    omega
  have pc : pivotM c p X c c = 1 := by
    simp only [pivotM, scaleR, swapR, if_true]
    rw [E.mul_comm, E.mul_inv _ hne]
  have pz : ∀ j, j < c → pivotM c p X c j = 0 := fun j hj => by
    simp only [pivotM, scaleR, swapR, if_true]
    rw [z1 p hcp hp j hj, E.mul_zero]
  have pr : ∀ r, r < n → r ≠ c → ∀ j, j < c → pivotM c p X r j = idM r j := fun r hr hrc j hj => by
    simp only [pivotM, scaleR, swapR, if_neg hrc]
    by_cases e : r = p
    · subst e
      rw [if_pos rfl, z1 c (Nat.le_refl _) hc j hj]
      simp [idM]
      omega
    · rw [if_neg e, hcols r hr j hj]
  simp only [settleK]
  by_cases e : r = c
  · subst e
    rw [if_neg (by omega)]
    by_cases h : j = r
    · subst h; rw [pc]; simp [idM]
    · rw [pz j (by omega)]
      simp [idM, Ne.symm h]
  · rw [if_pos ⟨hr, e⟩]
    by_cases h : j = c
    · subst h
      rw [pc, E.mul_one, E.add_self]
      simp [idM, e]
    · rw [pz j (by omega), E.mul_zero, E.add_zero, pr r hr e j (by omega)]
structure OwnW (w : World) (base g n m : Nat) (G : Nat → Nat) (X : Mx) : Prop where
  top : w.ownsRow base 22 1 (.slice (some ⟨g, 0, none⟩) n n) n ((List.range n).map (rowV m G))
  rows : ∀ r, r < n → w.ownsRow base 5 1 (.slice (some ⟨G r, 0, none⟩) m m) m (bytesL m (X r))
  inj : ∀ i j, i < n → j < n → G i = G j → i = j
theorem OwnM.wide {w : World} {base g n m : Nat} {G : Nat → Nat} {X : Mx} (h : OwnM w base g n m n G X) : OwnW w base g n m G X :=
  ⟨by have := h.top; rwa [filled_full] at this, fun r hr => (h.rows r hr).2, fun i j hi hj e => by
    rcases Nat.lt_trichotomy i j with h1 | h1 | h1
    · have := h.up i j h1 hj; omega
    · exact h1
    · have := h.up j i h1 hi; omega⟩
theorem OwnW.below {w w' : World} {base g n m : Nat} {G : Nat → Nat} {X : Mx} (h : OwnW w base g n m G X) (hb : Below w.heap.size w w') : OwnW w' base g n m G X :=
  ⟨mowns_below h.top hb, fun r hr => mowns_below (h.rows r hr) hb, h.inj⟩
theorem OwnW.cellTop {w : World} {base g n m : Nat} {G : Nat → Nat} {X : Mx} (h : OwnW w base g n m G X) (r : Nat) (hr : r < n) : w.cell? ⟨g, r, none⟩ = some (.slice (some ⟨G r, 0, none⟩) m m) := by
  rw [h.top.cellAt r (by omega)]
  simp [hr, rowV]
theorem OwnW.cell {w : World} {base g n m : Nat} {G : Nat → Nat} {X : Mx} (h : OwnW w base g n m G X) (r c : Nat) (hr : r < n) (hc : c < m) : w.cell? ⟨G r, c, none⟩ = some (.int .u8 ((X r c).v : Int)) := by
  rw [(h.rows r hr).cellAt c (by omega), bytesL_at m _ c hc]
  rfl
theorem OwnW.laid {w : World} {base g n m : Nat} {G : Nat → Nat} {X : Mx} (h : OwnW w base g n m G X) (k : Nat) (hk : k < n) (f : Nat → E) :
    OwnW (w.setRow (G k) (bytesL m f).toArray) base g n m G (fun r => if r = k then f else X r) := by
  have hg := grown_setRow w (G k) (bytesL m f).toArray
  refine ⟨h.top.kept hg ?_, fun r hr => ?_, h.inj⟩
  · have := owns_apart (h.rows k hk) h.top (by decide)
    exact this
  · by_cases e : r = k
    · subst e
      simp only [if_true]
      exact owns_setRow (h.rows r hr)
    · simp only [if_neg e]
      refine (h.rows r hr).kept hg (.inr fun hh => e (h.inj r k hr hk (Option.some.inj hh)))
theorem settle1_any (g m c pc : Nat) (X : Nat → E) (base : Nat) (w : World) (hm : m ≤ 100) (hc : c < m) (hr : w.ownsRow base 5 1 (.slice (some ⟨g, 0, none⟩) m m) m (bytesL m X)) (hp : w.cell? ⟨pc, 0, none⟩ = some (.int .i64 (c : Int)))
    (q : Bool) (hq : q = true ↔ X c ≠ 0) : Calls Tryz.prog 216 #[.slice (some ⟨g, 0, none⟩) m m, .pointer (some ⟨pc, 0, none⟩)] w fun e w' => e = .returned (.bool q) ∧ w' = w := by
  have hcell : w.cell? ⟨g, c, none⟩ = some (.int .u8 ((X c).v : Int)) := by
    rw [hr.cellAt c (by omega), bytesL_at m _ c hc]; rfl
  obtain ⟨x, hx⟩ : ∃ x, (X c).v = x := ⟨_, rfl⟩
  rw [hx] at hcell
  have hq' : ((x : Int) != 0) = q := by
    by_cases e : X c = 0
    · have h0 : x = 0 := by rw [← hx, e]; rfl
      subst h0
      cases q with
      | false => rfl
      | true => exact absurd e (hq.1 rfl)
    · have h0 : x ≠ 0 := by rw [← hx]; exact E.ne_v e
      rw [hq.2 e]
      simp
      omega
  clear hx hq hr
  go_enter Tryz.func216, Tryz.ntmps216
  go_wp2
  go_ret
  exact ⟨by rw [← hq']; rfl, rfl⟩
def sw (c p r : Nat) : Nat := if r = c then p else if r = p then c else r
theorem sw_lt {c p r n : Nat} (hc : c < n) (hp : p < n) (hr : r < n) : sw c p r < n := by unfold sw; split <;> (try split) <;> omega
theorem sw_inj (c p i j : Nat) (h : sw c p i = sw c p j) : i = j := by
  unfold sw at h
  repeat' split at h
  all_goals omega
theorem OwnW.swapped {w : World} {base g n m : Nat} {G : Nat → Nat} {X : Mx} (h : OwnW w base g n m G X) (c p : Nat) (hc : c < n) (hp : p < n) :
    OwnW ((w.setCell ⟨g, c, none⟩ (.slice (some ⟨G p, 0, none⟩) m m)).setCell ⟨g, p, none⟩ (.slice (some ⟨G c, 0, none⟩) m m)) base g n m (fun r => G (sw c p r)) (fun r => X (sw c p r)) := by
  have ne : ∀ r, r < n → (Value.slice (some ⟨G r, 0, none⟩) m m).ownBlock ≠ some g := fun r hr => by
    rcases owns_apart h.top (h.rows r hr) (by decide) with h0 | h0
    · cases h0
    · exact h0
  refine ⟨?_, fun r hr => ?_, fun i j hi hj e => ?_⟩
  · have h1 := (h.top.stored c (.slice (some ⟨G p, 0, none⟩) m m)).1
    have h2 := (h1.stored p (.slice (some ⟨G c, 0, none⟩) m m)).1
    have e : (((List.range n).map (rowV m G)).set c (.slice (some ⟨G p, 0, none⟩) m m)).set p (.slice (some ⟨G c, 0, none⟩) m m) = (List.range n).map (rowV m fun r => G (sw c p r)) := by
      apply List.ext_getElem
      · simp
      · intro i h3 h4
        rw [List.getElem_set, List.getElem_set]
        simp only [List.getElem_map, List.getElem_range, rowV, sw]
        by_cases e1 : p = i
        · subst e1
          by_cases e2 : p = c
          · subst e2; simp
          · simp [e2]
        · by_cases e2 : c = i
          · subst e2; simp [e1]
          · simp [e1, e2, Ne.symm e1, Ne.symm e2]
    rw [e] at h2
    exact h2
  · have hr' := sw_lt hc hp hr
    exact ownsRow_setCell_other (ownsRow_setCell_other (h.rows _ hr') (ne _ hr') _) (ne _ hr') _
  · exact sw_inj c p i j (h.inj _ _ (sw_lt hc hp hi) (sw_lt hc hp hj) e)
theorem OwnW.congr {w : World} {base g n m : Nat} {G : Nat → Nat} {X Y : Mx} (h : OwnW w base g n m G X) (e : ∀ r, r < n → ∀ j, j < m → Y r j = X r j) : OwnW w base g n m G Y :=
  ⟨h.top, fun r hr => by
    have : bytesL m (Y r) = bytesL m (X r) := List.map_congr_left fun j hj => by rw [e r hr j (List.mem_range.1 hj)]
    rw [this]; exact h.rows r hr, h.inj⟩
set_option maxHeartbeats 2000000 in
theorem settle_any (base g n m c : Nat) (G : Nat → Nat) (X : Mx) (w : World) (h1 : 1 ≤ n) (h2 : n ≤ 16) (hm : m = 2 * n) (hc : c < n) (hO : OwnW w base g n m G X) (hbase : base ≤ w.heap.size) (hcols : ∀ r, r < n → ∀ j, j < c → X r j = idM r j) :
    Calls Tryz.prog 182 #[.slice (some ⟨g, 0, none⟩) n n, .int .i64 (c : Int)] w fun e w' => Below base w w' ∧
      ((e = .returned (.bool false) ∧ ∀ r, c ≤ r → r < n → X r c = 0) ∨
       (e = .returned (.bool true) ∧ ∃ G' X', OwnW w' base g n m G' X' ∧ Reach n m X X' ∧ ∀ r, r < n → ∀ j, j < c + 1 → X' r j = idM r j)) := by
  have hmf : ∀ (fn : Fn) (first cap : Array Value) (w : World), (Instr.makeFunc fn first cap).run Tryz.prog w = .ok (.func fn first cap) w := fun _ _ _ _ => rfl
  have hbA : Below w.heap.size w (w.alloc (.cells #[.int .i64 (c : Int)] 3 (0, 0))) := (Below.refl _ _).alloc (Nat.le_refl _) _
  have hpc : (w.alloc (.cells #[.int .i64 (c : Int)] 3 (0, 0))).cell? ⟨w.heap.size, 0, none⟩ = some (.int .i64 (c : Int)) := by go_simp
  have hsA : (w.alloc (.cells #[.int .i64 (c : Int)] 3 (0, 0))).heap.size = w.heap.size + 1 := by simp
  have hOA := hO.below hbA
  generalize hwA : w.alloc (.cells #[.int .i64 (c : Int)] 3 (0, 0)) = wA at hbA hpc hsA hOA
  have HWA : Hid (w.alloc (.cells #[.int .i64 (c : Int)] 3 (0, 0)) = wA) := hwA
  clear hwA
  have hcm : c < m := by omega
  have hm2 : m ≤ 32 := by omega
  have HM : Hid (m = 2 * n) := hm
  clear hm
  obtain ⟨l, hl⟩ : ∃ l, n - c = l := ⟨_, rfl⟩
  have hidx := indexFunc_any 216 (by decide) #[.pointer (some ⟨w.heap.size, 0, none⟩)] (some ⟨g, c, none⟩) l l (fun r => rowV m G (c + r)) (fun r => (X (c + r) c).v != 0) wA (by unfold maxLen; omega)
    (.inr ⟨g, c, rfl, fun r hr => hOA.cellTop (c + r) (by omega)⟩) (fun r hr => settle1_any (G (c + r)) m c w.heap.size (X (c + r)) base wA (by omega) hcm (hOA.rows (c + r) (by omega)) hpc _ (by
      simp only [bne_iff_ne]
      exact ⟨fun h e => h (by rw [e]; rfl), fun h => E.ne_v h⟩))
  have hs := first_spec (fun r => (X (c + r) c).v != 0) l
  generalize first (fun r => (X (c + r) c).v != 0) l = z at hidx hs
  rcases hs with ⟨rfl, hz⟩ | ⟨i, rfl, hi, hne, _⟩
  · have HZ : Hid (∀ i, i < l → ((fun r => (X (c + r) c).v != 0) i) = false) := hz
    clear hz
    go_enter Tryz.func182, Tryz.ntmps182
    go_wp2_with fail
    rw [HWA.out]
    go_at_call 198
    refine hidx.mono ?_
    rintro e w' ⟨rfl, rfl⟩
    go_wp2_with fail
    go_ret
    refine ⟨hbA.mono hbase, .inl ⟨rfl, fun r hr1 hr2 => ?_⟩⟩
    have := HZ.out (r - c) (by omega)
    simp only [bne_eq_false_iff_eq] at this
    rw [show c + (r - c) = r by omega] at this
    exact E.zero_of this
  · obtain ⟨p, hp⟩ : ∃ p, c + i = p := ⟨_, rfl⟩
    have hne' : X p c ≠ 0 := by
      simp only [bne_iff_ne] at hne
      rw [hp] at hne
      exact fun e => hne (by rw [e]; rfl)
    have hpn : p < n := by omega
    have hcp : (c : Int) + (i : Int) = (p : Int) := by omega
    have hi0 : ¬ (i : Int) < 0 := by omega
    have hpn' : (p : Int) < (n : Int) := by omega
    have hcn' : (c : Int) < (n : Int) := by omega
    have hcc := hOA.cellTop c hc
    have hcp' := hOA.cellTop p hpn
    have hf1 := hOA.top.frozenAt c
    have hf2 := hOA.top.frozenAt p
    obtain ⟨v', hv'⟩ : ∃ v', (wA.setCell ⟨g, c, none⟩ (.slice (some ⟨G p, 0, none⟩) m m)).cell? ⟨g, p, none⟩ = some v' := by
      rw [(hOA.top.stored c (.slice (some ⟨G p, 0, none⟩) m m)).1.cellAt p (by omega)]
      exact ⟨_, List.getElem?_eq_getElem (by simp; exact hpn)⟩
    have hgl : g < w.heap.size := (owns_lt hO.top).2
    have hpc2 : (wA.setCell ⟨g, c, none⟩ (.slice (some ⟨G p, 0, none⟩) m m)).cell? ⟨w.heap.size, 0, none⟩ = some (.int .i64 (c : Int)) := by
      rw [World.cell?_setCell_far _ _ _ _ (by simp; omega)]; exact hpc
    have hOB : OwnW (((wA.setCell ⟨g, c, none⟩ (.slice (some ⟨G p, 0, none⟩) m m)).setCell ⟨g, p, none⟩ (.slice (some ⟨G c, 0, none⟩) m m)).drew) base g n m (fun r => G (sw c p r)) (fun r => X (sw c p r)) := by
      have h := hOA.swapped c p hc hpn
      exact ⟨h.top.drew, fun r hr => (h.rows r hr).drew, h.inj⟩
    have hbB : Below base w (((wA.setCell ⟨g, c, none⟩ (.slice (some ⟨G p, 0, none⟩) m m)).setCell ⟨g, p, none⟩ (.slice (some ⟨G c, 0, none⟩) m m)).drew) :=
      (((hbA.mono hbase).setCell (owns_lt hO.top).1 _).setCell (owns_lt hO.top).1 _).drew
    have hpB : (((wA.setCell ⟨g, c, none⟩ (.slice (some ⟨G p, 0, none⟩) m m)).setCell ⟨g, p, none⟩ (.slice (some ⟨G c, 0, none⟩) m m)).drew).cell? ⟨w.heap.size, 0, none⟩ = some (.int .i64 (c : Int)) := by
      show ((wA.setCell ⟨g, c, none⟩ (.slice (some ⟨G p, 0, none⟩) m m)).setCell ⟨g, p, none⟩ (.slice (some ⟨G c, 0, none⟩) m m)).cell? _ = _
      rw [World.cell?_setCell_far _ _ _ _ (by simp; omega)]; exact hpc2
    generalize hwB : ((wA.setCell ⟨g, c, none⟩ (.slice (some ⟨G p, 0, none⟩) m m)).setCell ⟨g, p, none⟩ (.slice (some ⟨G c, 0, none⟩) m m)).drew = wB at hOB hbB hpB
    have HWB : Hid (((wA.setCell ⟨g, c, none⟩ (.slice (some ⟨G p, 0, none⟩) m m)).setCell ⟨g, p, none⟩ (.slice (some ⟨G c, 0, none⟩) m m)).drew = wB) := hwB
    clear hwB
    have hGlt : ∀ r, r < n → G (sw c p r) < w.heap.size := fun r hr => (owns_lt (hO.rows _ (sw_lt hc hpn hr))).2
    generalize hG1 : (fun r => G (sw c p r)) = G1 at hOB
    have HG1 : Hid ((fun r => G (sw c p r)) = G1) := hG1
    have HGL : Hid (∀ r, r < n → G1 r < w.heap.size) := fun r hr => by rw [← hG1]; exact hGlt r hr
    clear hG1 hGlt
    have hX1 : ∀ r j, X (sw c p r) j = swapR c p X r j := fun r j => by
      unfold sw swapR; split
      · rfl
      · split <;> rfl
    generalize hX1' : (fun r => X (sw c p r)) = X1 at hOB
    have HX1 : Hid (∀ r j, X1 r j = swapR c p X r j) := fun r j => by rw [← hX1']; exact hX1 r j
    clear hX1 hX1'
    have hxc : X1 c c = X p c := by rw [HX1.out]; simp [swapR]
    have HNE : Hid (X1 c c ≠ 0) := (by rw [hxc]; exact hne' : X1 c c ≠ 0)
    clear hxc
    have k1 := hOB.cellTop c hc
    have k2 := hOB.cell c c hc hcm
    have hinv := fun w => gfInv_any (X1 c c).v (X1 c c).h (E.ne_v HNE.out) w
    have hsc := fun w => gfScale_any (X1 c c).inv.v (X1 c c).inv.h (strE m (X1 c)) w (by rw [strE_size]; unfold maxLen; omega) (by rw [strE_size]; omega)
    rw [scaleB_strE] at hsc
    have hsc' : ∀ w, Calls Tryz.prog 159 #[.int .u8 (gi (X1 c c).v : Int), .string (strE m (X1 c))] w fun e w' => e = .returned (.string (strE m fun j => (X1 c c).inv * X1 c j)) ∧ Below w.heap.size w w' := hsc
    clear hsc
    have hconv := fun q => conv_row (w := wB.drewN q) (hOB.rows c hc)
    have HRC := hOB.rows c hc
    have HCP : Hid (∀ w2, OwnW w2 base g n m G1 X1 → ∀ ty, (Builtin.copy_ #[22, 9] ty #[.slice (some ⟨G1 c, 0, none⟩) m m, .string (strE m fun j => (X1 c c).inv * X1 c j)]).run Tryz.prog w2 = .ok (goInt m) (w2.setRow (G1 c) (bytesL m fun j => (X1 c c).inv * X1 c j).toArray)) := fun w2 h ty => by
      obtain ⟨cur, e1, e2, _⟩ := owns_heap (h.rows c hc)
      exact run_copy_strE w2 (G1 c) m _ cur ty e1 e2
    generalize hsC : strE m (X1 c) = sC at hsc' hconv
    have HSC : Hid (strE m (X1 c) = sC) := hsC
    clear hsC
    generalize hsP : (strE m fun j => (X1 c c).inv * X1 c j) = sP at hsc' HCP
    have HSP : Hid ((strE m fun j => (X1 c c).inv * X1 c j) = sP) := hsP
    clear hsP
    generalize (X1 c c).v = xv at k2 hinv hsc'
    have HCPL : Hid (c ≤ p) := (by omega : c ≤ p)
    have HCOLS : Hid (∀ r, r < n → ∀ j, j < c → X r j = idM r j) := hcols
    have HNE' : Hid (X p c ≠ 0) := hne'
    clear hne hp hcols hne'
    go_enter Tryz.func182, Tryz.ntmps182
    go_wp2_with fail
    rw [HWA.out]
    go_at_call 198
    refine hidx.mono ?_
    rintro e w' ⟨rfl, rfl⟩
    clear hidx
    go_wp2_with fail
    go_region
    clear hcc hcp' hf1 hf2 hv' hpc2 hpc
    rw [HWB.out]
    go_wp2_with fail
    go_quiet ((go_at_call 217; exact Calls.quiet_of_same (hinv _)))
    go_wp2_with fail
    go_at_call 159
    refine (hsc' _).mono ?_
    rintro e w2 ⟨rfl, hb2⟩
    have hO2 : OwnW w2 base g n m G1 X1 := OwnW.below (w := wB.drewN nq) ⟨hOB.top, hOB.rows, hOB.inj⟩ hb2
    have hcopy := HCP.out w2 hO2
    have k3 := hO2.cellTop c hc
    have hp2 : w2.cell? ⟨w.heap.size, 0, none⟩ = some (.int .i64 (c : Int)) := (hb2.cell (p := ⟨w.heap.size, 0, none⟩) (mcell_lt hpB)).trans hpB
    have hO3 := hO2.laid c hc fun j => (X1 c c).inv * X1 c j
    have hp3 : (w2.setRow (G1 c) (bytesL m fun j => (X1 c c).inv * X1 c j).toArray).cell? ⟨w.heap.size, 0, none⟩ = some (.int .i64 (c : Int)) := by
      rw [cell_setRow_other _ _ _ _ (by have := HGL.out c hc; simp; omega)]; exact hp2
    have hb3 : Below base w (w2.setRow (G1 c) (bytesL m fun j => (X1 c c).inv * X1 c j).toArray) :=
      below_setRow (hbB.trans ((below_drewN (Below.refl _ _) nq).trans (hb2.mono (Nat.le_trans hbase hbB.size)))) (owns_lt (hOB.rows c hc)).1 _
    go_wp2_with fail
    generalize hw3 : w2.setRow (G1 c) (bytesL m fun j => (X1 c c).inv * X1 c j).toArray = w3 at hO3 hp3 hb3
    have HW3 : Hid (w2.setRow (G1 c) (bytesL m fun j => (X1 c c).inv * X1 c j).toArray = w3) := hw3
    clear hw3
    obtain ⟨X2, hX2⟩ : ∃ X2 : Mx, X2 = fun r => if r = c then (fun j => (X1 c c).inv * X1 c j) else X1 r := ⟨_, rfl⟩
    have hX2p : ∀ r j, X2 r j = pivotM c p X r j := fun r j => by
      rw [hX2]
      simp only [pivotM, scaleR]
      by_cases e : r = c
      · subst e
        simp only [if_true]
        rw [HX1.out, HX1.out]
        simp [swapR]
      · simp only [if_neg e]
        exact HX1.out r j
    have hsP2 : strE m (X2 c) = sP := by rw [← HSP.out, hX2]; simp
    rw [← hX2, ← settleK_zero c X2] at hO3
    have HX2 : Hid (∀ r j, X2 r j = pivotM c p X r j) := hX2p
    have HSP2 : Hid (strE m (X2 c) = sP) := hsP2
    have HGB : Hid (∀ r, r < n → base ≤ G1 r) := fun r hr => (owns_lt (hOB.rows r hr)).1
    have HMF : Hid (1 ≤ n) := h1
    clear hX2 hX2p hsP2 hcopy k3 hp2 hO2 k1 k2 hinv hsc' hconv HRC HCP hOB hbB hpB hOA hO hb2 hmf hbA hsA HSP HSC HWB HW3 HX1 HNE HG1 hgl hi0 HWA
    go_loopw [62] (fun i wr => ∃ k : Nat, k ≤ n ∧ i = .int .i64 k ∧ Below base w wr ∧ wr.cell? ⟨w.heap.size, 0, none⟩ = some (.int .i64 (c : Int)) ∧ OwnW wr base g n m G1 (settleK c X2 k)) (fun i _ => (n : Nat) - (intOf i).toNat)
    case atStart => exact ⟨0, Nat.zero_le _, rfl, hb3, hp3, hO3⟩
    case round =>
      obtain ⟨k, hk, rfl, hbk, hpk, hOk⟩ := hrel
      by_cases hlt : k < n
      · have kk := hOk.cellTop k hlt
        by_cases hkc : k = c
        · subst hkc
          have t1 : ((k : Int) != (k : Int)) = false := by simp
          go_wp2_with fail
          go_roundw
          case rel => exact ⟨k + 1, by omega, by go_num, hbk, hpk, hOk.congr fun r _ j _ => by
            simp only [settleK]
            by_cases h : r < k ∧ r ≠ k
            · rw [if_pos h, if_pos ⟨by omega, h.2⟩]
            · rw [if_neg h, if_neg (by omega)]⟩
          case measure => simp [intOf]; omega
        · have t1 : ((k : Int) != (c : Int)) = true := by simp; omega
          have hrow := hOk.rows k hlt
          have e0 : settleK c X2 k k = X2 k := by funext j; simp [settleK]
          rw [e0] at hrow
          have kx : wr.cell? ⟨G1 k, c, none⟩ = some (.int .u8 ((X2 k c).v : Int)) := by
            rw [hrow.cellAt c (by omega), bytesL_at m _ c hcm]; rfl
          have hcm' : (c : Int) < (m : Int) := by omega
          have HC : Hid (∀ x, Below wr.heap.size wr x → (convert 22 9 (.slice (some ⟨G1 k, 0, none⟩) m m)).run Tryz.prog x = .ok (.string (strE m (X2 k))) x) := fun x hx => conv_row (mowns_below hrow hx)
          have HD : Hid (∀ x, Below wr.heap.size wr x → ∀ ty, (Builtin.copy_ #[22, 9] ty #[.slice (some ⟨G1 k, 0, none⟩) m m, .string (strE m fun j => X2 k j + X2 k c * X2 c j)]).run Tryz.prog x = .ok (goInt m) (x.setRow (G1 k) (bytesL m fun j => X2 k j + X2 k c * X2 c j).toArray)) := fun x hx ty => by
            obtain ⟨cur, e1, e2, _⟩ := owns_heap (mowns_below hrow hx)
            exact run_copy_strE x (G1 k) m _ cur ty e1 e2
          have hs1 : ∀ x, Calls Tryz.prog 159 #[.int .u8 ((X2 k c).v : Int), .string sP] x fun e w' => e = .returned (.string (strE m fun j => X2 k c * X2 c j)) ∧ Below x.heap.size x w' := fun x => by
            have := gfScale_any (X2 k c).v (X2 k c).h (strE m (X2 c)) x (by rw [strE_size]; unfold maxLen; omega) (by rw [strE_size]; omega)
            rw [scaleB_strE, HSP2.out] at this
            exact this
          have hs2 : ∀ x, Calls Tryz.prog 160 #[.string (strE m (X2 k)), .string (strE m fun j => X2 k c * X2 c j)] x fun e w' => e = .returned (.string (strE m fun j => X2 k j + X2 k c * X2 c j)) ∧ Below x.heap.size x w' := fun x => by
            have := xor_any (strE m (X2 k)) (strE m fun j => X2 k c * X2 c j) x (by rw [strE_size]; unfold maxLen; omega) (by rw [strE_size]; unfold maxLen; omega) (by rw [strE_size]; omega)
            rw [xorB_strE] at this
            exact this
          have hdr : Below wr.heap.size wr wr.drew := (Below.refl _ _).drew
          have hcv := HC.out wr (Below.refl _ _)
          have hcv' := HC.out wr.drew hdr
          have HE : Hid (∀ x, Below wr.heap.size wr x → Below base w (x.setRow (G1 k) (bytesL m fun j => X2 k j + X2 k c * X2 c j).toArray) ∧ (x.setRow (G1 k) (bytesL m fun j => X2 k j + X2 k c * X2 c j).toArray).cell? ⟨w.heap.size, 0, none⟩ = some (.int .i64 (c : Int)) ∧
              OwnW (x.setRow (G1 k) (bytesL m fun j => X2 k j + X2 k c * X2 c j).toArray) base g n m G1 (settleK c X2 (k + 1))) := fun x hx => by
            refine ⟨below_setRow (hbk.trans (hx.mono (Nat.le_trans hbase hbk.size))) (HGB.out k hlt) _, ?_, ?_⟩
            · rw [cell_setRow_other _ _ _ _ (by have := HGL.out k hlt; simp; omega)]
              exact (hx.cell (p := ⟨w.heap.size, 0, none⟩) (mcell_lt hpk)).trans hpk
            · refine ((hOk.below hx).laid k hlt _).congr fun r _ j _ => ?_
              simp only [settleK]
              by_cases h : r = k
              · subst h
                rw [if_pos ⟨by omega, hkc⟩, if_pos rfl]
              · simp only [if_neg h]
                simp only [settleK]
                by_cases h' : r < k ∧ r ≠ c
                · rw [if_pos h', if_pos ⟨by omega, h'.2⟩]
                · rw [if_neg h', if_neg (by omega)]
          generalize hsK : strE m (X2 k) = sK at HC hs2 hcv hcv'
          generalize hsS : (strE m fun j => X2 k c * X2 c j) = sS at hs1 hs2
          generalize hsX : (strE m fun j => X2 k j + X2 k c * X2 c j) = sX at HD hs2
          generalize (X2 k c).v = xk at kx hs1
          generalize (bytesL m fun j => X2 k j + X2 k c * X2 c j).toArray = arr at HD HE
          clear hsK hsS hsX hOk hbk  hrow e0 HGB HGL HSP2
          go_wp2_with fail
          refine wp_region_noPanic ?_
          refine wp_region_held_drew (S := fun x => x.cell? ⟨w.heap.size, 0, none⟩ = some (.int .i64 (c : Int))) (by kernel_rfl) hpk (fun hHeld => ?_)
          refine tkH 0 ?_; go_simp
          refine tkH 1 ?_; go_simp
          refine tkH 3 ?_; go_simp
          refine tkH 4 ?_; go_simp
          refine tkH 5 ?_; go_simp
          refine tkH 7 ?_; go_simp
          refine wpAnyH_ready (rs := [2, 6]) (by kernel_rfl) (by simp) (AllReadyH.cons rfl (fun K hK => ?_) (AllReadyH.cons rfl (fun K hK => ?_) AllReadyH.nil))
          · go_simp
            refine hK.out _ _ hpk (fun hHeld => ?_)
            clear hK K
            refine rdH 6 fun K hK => ?_
            go_simp
            refine hK.out _ _ hpk (fun hHeld => ?_)
            clear hK K
            refine rdH 8 fun K hK => ?_
            go_simp
            go_at_call 159
            refine (hs1 _).mono ?_
            rintro e w4 ⟨rfl, hb4⟩
            have hx4 := hdr.trans hb4
            have hcv4 := HC.out w4 hx4
            have hp4 : w4.cell? ⟨w.heap.size, 0, none⟩ = some (.int .i64 (c : Int)) := (hx4.cell (p := ⟨w.heap.size, 0, none⟩) (mcell_lt hpk)).trans hpk
            refine hK.out _ _ hp4 (fun hHeld => ?_)
            clear hK K
            refine rdH 9 fun K hK => ?_
            go_simp
            go_at_call 160
            refine (hs2 _).mono ?_
            rintro e w5 ⟨rfl, hb5⟩
            have hx5 := hx4.trans (hb5.mono hx4.size)
            have hcp5 := HD.out w5 hx5
            have hp5 : w5.cell? ⟨w.heap.size, 0, none⟩ = some (.int .i64 (c : Int)) := (hx5.cell (p := ⟨w.heap.size, 0, none⟩) (mcell_lt hpk)).trans hpk
            refine hK.out _ _ hp5 (fun hHeld => ?_)
            clear hK K
            refine rdH 10 fun K hK => ?_
            go_simp
            refine hK.out _ _ (HE.out _ hx5).2.1 (fun hHeld => ?_)
            clear hK K
            refine wpAnyH_done (by kernel_rfl) ?_ _
            show Exit.inBlock 1 _ Exit.normal _ _
            go_wp2_with fail
            go_roundw
            case rel =>
              obtain ⟨e1, e2, e3⟩ := HE.out _ hx5
              exact ⟨k + 1, by omega, by go_num, e1, e2, e3⟩
            case measure => simp [intOf]; omega
          · go_simp
            refine hK.out _ _ hpk (fun hHeld => ?_)
            clear hK K
            refine wpAnyH_ready (rs := [2, 8]) (by kernel_rfl) (by simp) (AllReadyH.cons rfl (fun K hK => ?_) (AllReadyH.cons rfl (fun K hK => ?_) AllReadyH.nil))
            · go_simp
              refine hK.out _ _ hpk (fun hHeld => ?_)
              clear hK K
              refine rdH 8 fun K hK => ?_
              go_simp
              go_at_call 159
              refine (hs1 _).mono ?_
              rintro e w4 ⟨rfl, hb4⟩
              have hx4 := hdr.trans hb4
              have hcv4 := HC.out w4 hx4
              have hp4 : w4.cell? ⟨w.heap.size, 0, none⟩ = some (.int .i64 (c : Int)) := (hx4.cell (p := ⟨w.heap.size, 0, none⟩) (mcell_lt hpk)).trans hpk
              refine hK.out _ _ hp4 (fun hHeld => ?_)
              clear hK K
              refine rdH 9 fun K hK => ?_
              go_simp
              go_at_call 160
              refine (hs2 _).mono ?_
              rintro e w5 ⟨rfl, hb5⟩
              have hx5 := hx4.trans (hb5.mono hx4.size)
              have hcp5 := HD.out w5 hx5
              have hp5 : w5.cell? ⟨w.heap.size, 0, none⟩ = some (.int .i64 (c : Int)) := (hx5.cell (p := ⟨w.heap.size, 0, none⟩) (mcell_lt hpk)).trans hpk
              refine hK.out _ _ hp5 (fun hHeld => ?_)
              clear hK K
              refine rdH 10 fun K hK => ?_
              go_simp
              refine hK.out _ _ (HE.out _ hx5).2.1 (fun hHeld => ?_)
              clear hK K
              refine wpAnyH_done (by kernel_rfl) ?_ _
              show Exit.inBlock 1 _ Exit.normal _ _
              go_wp2_with fail
              go_roundw
              case rel =>
                obtain ⟨e1, e2, e3⟩ := HE.out _ hx5
                exact ⟨k + 1, by omega, by go_num, e1, e2, e3⟩
              case measure => simp [intOf]; omega
            · go_simp
              go_at_call 159
              refine (hs1 _).mono ?_
              rintro e w4 ⟨rfl, hb4⟩
              have hx4 := hdr.trans hb4
              have hcv4 := HC.out w4 hx4
              have hp4 : w4.cell? ⟨w.heap.size, 0, none⟩ = some (.int .i64 (c : Int)) := (hx4.cell (p := ⟨w.heap.size, 0, none⟩) (mcell_lt hpk)).trans hpk
              refine hK.out _ _ hp4 (fun hHeld => ?_)
              clear hK K
              refine rdH 2 fun K hK => ?_
              go_simp
              refine hK.out _ _ hp4 (fun hHeld => ?_)
              clear hK K
              refine rdH 9 fun K hK => ?_
              go_simp
              go_at_call 160
              refine (hs2 _).mono ?_
              rintro e w5 ⟨rfl, hb5⟩
              have hx5 := hx4.trans (hb5.mono hx4.size)
              have hcp5 := HD.out w5 hx5
              have hp5 : w5.cell? ⟨w.heap.size, 0, none⟩ = some (.int .i64 (c : Int)) := (hx5.cell (p := ⟨w.heap.size, 0, none⟩) (mcell_lt hpk)).trans hpk
              refine hK.out _ _ hp5 (fun hHeld => ?_)
              clear hK K
              refine rdH 10 fun K hK => ?_
              go_simp
              refine hK.out _ _ (HE.out _ hx5).2.1 (fun hHeld => ?_)
              clear hK K
              refine wpAnyH_done (by kernel_rfl) ?_ _
              show Exit.inBlock 1 _ Exit.normal _ _
              go_wp2_with fail
              go_roundw
              case rel =>
                obtain ⟨e1, e2, e3⟩ := HE.out _ hx5
                exact ⟨k + 1, by omega, by go_num, e1, e2, e3⟩
              case measure => simp [intOf]; omega
      · have hkn : k = n := by omega
        subst hkn
        have e : X2 = pivotM c p X := by funext r j; exact HX2.out r j
        subst e
        obtain ⟨g1, g2⟩ := gauss_step (m := m) hc HCPL.out hpn HNE'.out HCOLS.out
        have HR : Hid (Reach k m X (settleK c (pivotM c p X) k)) := g1
        have HT : Hid (∀ r, r < k → ∀ j, j < c + 1 → settleK c (pivotM c p X) k r j = idM r j) := g2
        clear g1 g2
        go_wp2_with fail
        go_ret
        exact ⟨hbk, .inr ⟨rfl, G1, _, hOk, HR.out, HT.out⟩⟩
def halfL (m n : Nat) (f : Nat → E) : List Value := filled m n (fun j => byteV (f j)) (.int .u8 0)
theorem halfL_length (m n : Nat) (f : Nat → E) : (halfL m n f).length = m := by simp [halfL, filled]
theorem run_copy_half (w : World) (g m n ca : Nat) (a : Addr) (f : Nat → E) (cur : Array Value) (ty : TypeId) (hg : w.heap[g]? = some (.cells cur 5 (0, 0))) (hc : cur.toList = List.replicate m (.int .u8 0)) (hn : n ≤ m)
    (hs : ∀ j v, (bytesL n f)[j]? = some v → w.cell? (a.add j) = some v) :
    (Builtin.copy_ #[22, 22] ty #[.slice (some ⟨g, 0, none⟩) m m, .slice (some a) n ca]).run Tryz.prog w = .ok (goInt n) (w.setRow g (halfL m n f).toArray) := by
  have hsz : cur.size = m := by rw [← Array.length_toList, hc]; simp
  have h := run_copy_row (P := Tryz.prog) w 22 22 ty 5 g 0 m m a n ca cur 5 (bytesL n f) Tryz.underlying22 (by obtain ⟨i0, hi, hz0, hz1, hz2⟩ := info_parts Tryz.info5; rw [hi]; simp [hz1]) hg
    (by rw [bytesL_length]; exact (Nat.min_eq_left hn).symm) hs (by rw [bytesL_length]; omega) (fun v hv => by
      obtain ⟨i, _, rfl⟩ := List.mem_map.1 hv
      rfl)
  rw [bytesL_length] at h
  rw [h]
  congr 3
  rw [hc]
  unfold halfL filled bytesL
  apply List.ext_getElem
  · simp; omega
  · intro i h1 h2
    simp only [List.getElem_map, List.getElem_range]
    by_cases e : i < n
    · rw [if_pos e]
      simp [e]
    · rw [if_neg e]
      simp only [List.take_zero, List.nil_append]
      rw [List.getElem_append_right (by simp; omega)]
      simp
theorem half_set (m n k : Nat) (A : Mx) (hm : m = 2 * n) (hk : k < n) : (halfL m n (A k)).set (n + k) (.int .u8 1) = bytesL m (wideM n A k) := by
  unfold halfL filled bytesL
  apply List.ext_getElem
  · simp
  · intro i h1 h2
    rw [List.getElem_set]
    simp only [List.getElem_map, List.getElem_range, wideM]
    by_cases e : n + k = i
    · subst e
      rw [if_pos rfl, if_neg (by omega)]
      simp [idM, byteV, E.one_v]
    · rw [if_neg e]
      by_cases e' : i < n
      · rw [if_pos e', if_pos e']
      · rw [if_neg e', if_neg e']
        have : ¬ k = i - n := by omega
        simp [idM, this, byteV, E.zero_v]
theorem owns_setRow_list {w : World} {base g m : Nat} {xs ys : List Value} (h : w.ownsRow base 5 1 (.slice (some ⟨g, 0, none⟩) m m) m xs) (hl : ys.length = m) : (w.setRow g ys.toArray).ownsRow base 5 1 (.slice (some ⟨g, 0, none⟩) m m) m ys := by
  obtain ⟨cur, h1, h2, h3, h4, h5⟩ := owns_heap h
  exact owns_of (setRow_heap w g _ _ 5 _ h1) h4 hl h5
set_option maxHeartbeats 1000000 in
theorem widen_any (a : Option Addr) (n ca m : Nat) (L : Nat → Nat) (A : Mx) (w : World) (h1 : 1 ≤ n) (h2 : n ≤ 16) (hm : m = 2 * n) (hA : MatAt w a n L A) (hL : ∀ r, r < n → L r = n) :
    Calls Tryz.prog 181 #[.slice a n ca] w fun e w' => ∃ g G, e = .returned (.slice (some ⟨g, 0, none⟩) n n) ∧ OwnM w' w.heap.size g n m n G (wideM n A) ∧ Below w.heap.size w w' := by
  obtain ⟨i0, hi, hz0, hz1, hz2⟩ := info_parts Tryz.info5
  obtain ⟨j0, hj, hy0, hy1, hy2⟩ := info_parts Tryz.info22
  have hm1 : m ≤ 32 := by omega
  have hm2 : (2 : Int) * (n : Int) = (m : Int) := by omega
  have HM : Hid (m = 2 * n) := hm
  clear hm
  obtain ⟨AR, CR, hA⟩ := hA
  obtain ⟨ba, oa, _, _, rfl, _, _, _⟩ := hA.cell 0 0 (by omega) (by rw [hL 0 (by omega)]; omega)
  have HA : Hid (∀ k, k < n → ∃ b' o' cr, w.cell? ⟨ba, oa + k, none⟩ = some (.slice (some ⟨b', o', none⟩) n cr) ∧ ∀ c, c < n → w.cell? ⟨b', o' + c, none⟩ = some (byteV (A k c))) := fun k hk => by
    obtain ⟨b, o, b', o', e1, e2, e3, _⟩ := hA.cell k 0 hk (by rw [hL k hk]; omega)
    cases e1
    rw [hL k hk] at e3
    refine ⟨b', o', _, e3, fun c hc => ?_⟩
    obtain ⟨_, _, b2, o2, _, f2, _, f4⟩ := hA.cell k c hk (by rw [hL k hk]; exact hc)
    rw [e2] at f2
    cases f2
    exact f4
  clear hA hL
  go_enter Tryz.func181, Tryz.ntmps181
  go_wp2_with (at_make; refine wpList_make_full _ rfl _ _ 134 rfl w.heap.size 22 j0 (.slice none 0 0) 1 Tryz.underlying134 hj hy0 hy1 _ _ _ _ n rfl rfl ?c0 ?c1 ?c2 ?c3 ?c4 ?_)
  case c0 => rfl
  case c1 => rfl
  case c2 => rw [hy2]; omega
  case c3 => unfold maxLen; omega
  case c4 => exact Nat.le_refl _
  intro w1 hown hgrow
  have hbel : Below w.heap.size w w1 := (Below.refl _ _).grown hgrow (Nat.le_refl _) (fun k h => by cases h)
  rw [toList_madeCells_one, ← filled_zero n (rowV m fun _ => 0)] at hown
  go_wp2_with fail
  go_loopw [12] (fun i wr => ∃ k : Nat, k ≤ n ∧ i = .int .i64 k ∧ Below w.heap.size w wr ∧ ∃ G, OwnM wr w.heap.size w.heap.size n m k G (wideM n A)) (fun i _ => (n : Nat) - (intOf i).toNat)
  case atStart => exact ⟨0, Nat.zero_le _, rfl, hbel, fun _ => 0, ⟨hown, fun r hr => by omega, fun i j _ _ => by omega⟩⟩
  case round =>
    obtain ⟨k, hk, rfl, hbel', G, hO⟩ := hrel
    by_cases hlt : k < n
    · obtain ⟨v0, hcell⟩ : ∃ v0, wr.cell? ⟨w.heap.size, k, none⟩ = some v0 := by
        rw [hO.top.cellAt k (by omega)]; exact ⟨_, List.getElem?_eq_getElem (by simp [filled]; exact hlt)⟩
      have hfr := hO.top.frozenAt k
      obtain ⟨g', hg'⟩ : ∃ g', wr.heap.size = g' := ⟨_, rfl⟩
      have hbl : w.heap.size < g' := by rw [← hg']; exact (owns_lt hO.top).2
      go_wp2_with (at_make; refine wpList_make_full _ rfl _ _ 22 rfl w.heap.size 5 i0 (.int .u8 0) 1 Tryz.underlying22 hi hz0 hz1 _ _ _ _ m rfl rfl ?c0 ?c1 ?c2 ?c3 ?c4 ?_)
      case c0 => rfl
      case c1 => rfl
      case c2 => rw [hz2]; omega
      case c3 => unfold maxLen; omega
      case c4 => exact hbel'.size
      intro w2 hown2 hgrow2
      have hbel2 : Below g' wr w2 := by rw [← hg']; exact (Below.refl _ _).grown hgrow2 (Nat.le_refl _) (fun k h => by cases h)
      rw [toList_madeCells_one, ← filled_zero m (fun c => byteV (A k c))] at hown2
      have htop2 := owns_at hO.top hbel2 hbl
      have hc2 : w2.cell? ⟨w.heap.size, k, none⟩ = some v0 := (hbel2.cell (p := ⟨w.heap.size, k, none⟩) hbl).trans hcell
      have hf2 := htop2.frozenAt k
      have hst2 := htop2.stored k (.slice (some ⟨g', 0, none⟩) m m)
      go_wp2_with fail
      obtain ⟨w3, hw3⟩ : ∃ w3, w3 = w2.setCell ⟨w.heap.size, k, none⟩ (.slice (some ⟨g', 0, none⟩) m m) := ⟨_, rfl⟩
      rw [← hw3] at hst2 ⊢
      have hbel3 : Below w.heap.size w w3 := by rw [hw3]; exact (hbel'.trans (hbel2.mono (by rw [← hg']; exact hbel'.size))).setCell (Nat.le_refl _) _
      have hown3 : w3.ownsRow w.heap.size 5 1 (.slice (some ⟨g', 0, none⟩) m m) m (List.replicate m (.int .u8 0)) := by
        rw [hw3]
        rw [filled_zero] at hown2
        exact ownsRow_setCell_other hown2 (by simp [Value.ownBlock]; omega) _
      have hbel23 : ∀ r, r < k → w3.ownsRow w.heap.size 5 1 (.slice (some ⟨G r, 0, none⟩) m m) m (bytesL m (wideM n A r)) := fun r hr => by
        have h0 := hO.rows r hr
        rw [hw3]; exact ownsRow_setCell_other (owns_at h0.2 hbel2 (by rw [← hg']; exact (owns_lt h0.2).2)) (by simp [Value.ownBlock]; omega) _
      have hc3 := hst2.1.cellAt k (by omega)
      rw [List.getElem?_set_self (by simp [filled]; exact hlt)] at hc3
      obtain ⟨b', o', cr, e3, hsrc⟩ := HA.out k hlt
      have ha3 : w3.cell? ⟨ba, oa + k, none⟩ = some (.slice (some ⟨b', o', none⟩) n cr) := (hbel3.cell (p := ⟨ba, oa + k, none⟩) (mcell_lt e3)).trans e3
      obtain ⟨cur, u1, u2, u3, u4, u5⟩ := owns_heap hown3
      have hcp : ∀ ty, (Builtin.copy_ #[22, 22] ty #[.slice (some ⟨g', 0, none⟩) m m, .slice (some ⟨b', o', none⟩) n cr]).run Tryz.prog w3.drew = .ok (goInt n) (w3.drew.setRow g' (halfL m n (A k)).toArray) := fun ty =>
        run_copy_half w3.drew g' m n cr ⟨b', o', none⟩ (A k) cur ty u1 u3 (by have := HM.out; omega) (fun j v hv => by
          have hj : j < n := by
            rcases Nat.lt_or_ge j n with h | h
            · exact h
            · rw [List.getElem?_eq_none (by rw [bytesL_length]; exact h)] at hv; cases hv
          rw [bytesL_at n _ j hj] at hv
          cases hv
          have q := hsrc j hj
          rw [show ((⟨b', o', none⟩ : Addr).add j) = ⟨b', o' + j, none⟩ from by simp [Addr.add]]
          exact (hbel3.cell (p := ⟨b', o' + j, none⟩) (mcell_lt q)).trans q)
      have hbal : ba < w.heap.size := mcell_lt e3
      have hk1 : (w3.drew.setRow g' (halfL m n (A k)).toArray).cell? ⟨w.heap.size, k, none⟩ = some (.slice (some ⟨g', 0, none⟩) m m) := by
        rw [cell_setRow_other _ _ _ _ (by simp; omega)]; exact hc3
      have hk2 : (w3.drew.setRow g' (halfL m n (A k)).toArray).cell? ⟨ba, oa + k, none⟩ = some (.slice (some ⟨b', o', none⟩) n cr) := by
        rw [cell_setRow_other _ _ _ _ (by simp; omega)]; exact ha3
      have hown4 : (w3.drew.setRow g' (halfL m n (A k)).toArray).ownsRow w.heap.size 5 1 (.slice (some ⟨g', 0, none⟩) m m) m (halfL m n (A k)) :=
        owns_setRow_list (w := w3.drew) hown3.drew (halfL_length _ _ _)
      have hb34 : Below g' w3 (w3.drew.setRow g' (halfL m n (A k)).toArray) := below_setRow (Below.refl _ _).drew (Nat.le_refl _) _
      generalize w3.drew.setRow g' (halfL m n (A k)).toArray = w4 at hcp hk1 hk2 hown4 hb34
      clear hw3 hc2 hf2 htop2 hown2 hown hcell hfr u1 u2 u3 u5 hown3 hsrc e3
      have p1 : (n : Int) + (k : Int) = ((n + k : Nat) : Int) := by omega
      have hnk : n + k < m := by have := HM.out; omega
      have hnk' : ((n + k : Nat) : Int) < (m : Int) := by omega
      obtain ⟨q, hq⟩ : ∃ q, n + k = q := ⟨_, rfl⟩
      rw [hq] at p1 hnk hnk'
      obtain ⟨v1, hv1⟩ : ∃ v1, w4.cell? ⟨g', q, none⟩ = some v1 := by
        rw [hown4.cellAt q (by omega)]; exact ⟨_, List.getElem?_eq_getElem (by rw [halfL_length]; exact hnk)⟩
      have hf4 := hown4.frozenAt q
      have hst4 := (hown4.stored q (.int .u8 1)).1
      rw [← hq, half_set m n k A HM.out hlt] at hst4
      rw [hq] at hst4
      have HQ : Hid (n + k = q) := hq
      clear hq
      go_wp2_with fail
      go_region_held3 (fun x => x.cell? ⟨w.heap.size, k, none⟩ = some (.slice (some ⟨g', 0, none⟩) m m) ∧ x.cell? ⟨ba, oa + k, none⟩ = some (.slice (some ⟨b', o', none⟩) n cr)) (first | exact ⟨hc3, ha3⟩ | exact ⟨hk1, hk2⟩) (fail)
      go_wp2_with fail
      go_roundw
      case rel =>
        have hb35 : Below g' w3 (w4.setCell ⟨g', q, none⟩ (.int .u8 1)) := hb34.setCell (Nat.le_refl _) _
        refine ⟨k + 1, by omega, by go_num, hbel3.trans (hb35.mono (by omega)), fun r => if r < k then G r else g', ?_, ?_, ?_⟩
        · have h5 : filled n (k + 1) (rowV m fun r => if r < k then G r else g') (.slice none 0 0) = (filled n k (rowV m G) (.slice none 0 0)).set k (.slice (some ⟨g', 0, none⟩) m m) := by
            have h6 : filled n k (rowV m G) (.slice none 0 0) = filled n k (rowV m fun r => if r < k then G r else g') (.slice none 0 0) := by
              unfold filled
              refine List.map_congr_left fun i _ => ?_
              by_cases e : i < k
              · simp [e, rowV]
              · simp [e]
            rw [h6, ← filled_set n k _ _ hlt]
            simp [rowV]
          rw [h5]
          exact owns_at hst2.1 hb35 hbl
        · intro r hr
          by_cases e : r < k
          · simp only [if_pos e]
            have h0 := hO.rows r e
            exact ⟨h0.1, owns_at (hbel23 r e) hb35 (by rw [← hg']; exact (owns_lt h0.2).2)⟩
          · obtain rfl : r = k := by omega
            simp only [if_neg e]
            exact ⟨hbl, hst4⟩
        · intro i l h5 h6
          by_cases e : l < k
          · simp only [if_pos e, if_pos (show i < k by omega)]
            exact hO.up i l h5 e
          · simp only [if_neg e, if_pos (show i < k by omega)]
            rw [← hg']
            exact (owns_lt (hO.rows i (by omega)).2).2
      case measure => simp [intOf]; omega
    · have hkn : k = n := by omega
      subst hkn
      go_wp2_with fail
      go_ret
      exact ⟨_, G, rfl, hO, hbel'⟩
end Go.Proofs.YtokknmkleceooaaGreatDoor
