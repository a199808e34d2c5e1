/- Plain: matrices over the field of 256 elements: sums, steps on rows, kernels, determinants by the first row, matrices of powers; no Go text is named here. -/
import Derived.Test.YthcbnffhkbbkpaaGf
namespace Go.Proofs.Ythcbnffhkbbkpaa

/-- An element. -/
structure E where
  v : Nat
  h : v < 256

theorem E.same {a b : E} (h : a.v = b.v) : a = b := by
  cases a; cases b; simp only at h; subst h; rfl
instance : Add E := ⟨fun a b => ⟨a.v ^^^ b.v, Nat.xor_lt_two_pow (n := 8) a.h b.h⟩⟩
instance : Mul E := ⟨fun a b => ⟨gm a.v b.v, gm_lt _ _ a.h⟩⟩
instance : OfNat E 0 := ⟨⟨0, by decide⟩⟩
instance : OfNat E 1 := ⟨⟨1, by decide⟩⟩
def E.inv (a : E) : E := ⟨gi a.v, gi_lt _ a.h⟩
theorem E.add_v (a b : E) : (a + b).v = a.v ^^^ b.v := rfl
theorem E.mul_v (a b : E) : (a * b).v = gm a.v b.v := rfl
theorem E.zero_v : (0 : E).v = 0 := rfl
theorem E.one_v : (1 : E).v = 1 := rfl
theorem E.zero_of {a : E} (h : a.v = 0) : a = 0 := E.same h
theorem E.ne_v {a : E} (h : a ≠ 0) : a.v ≠ 0 := fun e => h (E.zero_of e)

theorem E.add_comm (a b : E) : a + b = b + a := E.same (Nat.xor_comm _ _)
theorem E.add_assoc (a b c : E) : a + b + c = a + (b + c) := E.same (Nat.xor_assoc _ _ _)
theorem E.add_zero (a : E) : a + 0 = a := E.same (Nat.xor_zero _)
theorem E.zero_add (a : E) : 0 + a = a := E.same (Nat.zero_xor _)
theorem E.add_self (a : E) : a + a = 0 := E.same (Nat.xor_self _)
theorem E.mul_comm (a b : E) : a * b = b * a := E.same (gm_comm _ _ a.h b.h)
theorem E.mul_assoc (a b c : E) : a * b * c = a * (b * c) := E.same (gm_assoc _ _ _ a.h b.h c.h).symm
theorem E.mul_add (a b c : E) : a * (b + c) = a * b + a * c := E.same (gm_xorR _ _ _)
theorem E.add_mul (a b c : E) : (a + b) * c = a * c + b * c := E.same (gm_xorL _ _ _)
theorem E.mul_one (a : E) : a * 1 = a := E.same (gm_one _)
theorem E.one_mul (a : E) : 1 * a = a := E.same (one_gm _ a.h)
theorem E.mul_zero (a : E) : a * 0 = 0 := E.same (gm_zero _)
theorem E.zero_mul (a : E) : 0 * a = 0 := E.same (zero_gm _ a.h)
theorem E.mul_inv (a : E) (h : a ≠ 0) : a * a.inv = 1 := E.same (gm_gi _ a.h (E.ne_v h))
theorem E.inv_ne (a : E) (h : a ≠ 0) : a.inv ≠ 0 := fun e => gi_pos a.v a.h (E.ne_v h) (congrArg E.v e)
theorem E.mul_ne (a b : E) (ha : a ≠ 0) (hb : b ≠ 0) : a * b ≠ 0 := fun e => by
  rcases (gm_eq_zero a.v b.v a.h b.h).1 (congrArg E.v e) with h | h
  · exact ha (E.zero_of h)
  · exact hb (E.zero_of h)
theorem E.one_ne : (1 : E) ≠ 0 := fun e => by have := congrArg E.v e; cases this
instance : Std.Associative (α := E) (· + ·) := ⟨E.add_assoc⟩
instance : Std.Commutative (α := E) (· + ·) := ⟨E.add_comm⟩
instance : Std.Associative (α := E) (· * ·) := ⟨E.mul_assoc⟩
instance : Std.Commutative (α := E) (· * ·) := ⟨E.mul_comm⟩
theorem E.of_add {a b : E} (h : a + b = 0) : a = b := by
  have : a + b + b = b := by rw [h, E.zero_add]
  rwa [E.add_assoc, E.add_self, E.add_zero] at this

/-- The sum of the first n. -/
def S (n : Nat) (f : Nat → E) : E :=
  match n with
  | 0 => 0
  | k + 1 => S k f + f k
theorem S_congr {n : Nat} {f g : Nat → E} (h : ∀ i, i < n → f i = g i) : S n f = S n g := by
  induction n with
  | zero => rfl
  | succ k ih => simp only [S]; rw [ih fun i hi => h i (by omega), h k (by omega)]
theorem S_zero {n : Nat} {f : Nat → E} (h : ∀ i, i < n → f i = 0) : S n f = 0 := by
  induction n with
  | zero => rfl
  | succ k ih => simp only [S]; rw [ih fun i hi => h i (by omega), h k (by omega), E.add_zero]
theorem S_add (n : Nat) (f g : Nat → E) : S n (fun i => f i + g i) = S n f + S n g := by
  induction n with
  | zero => exact (E.add_zero 0).symm
  | succ k ih => simp only [S]; rw [ih]; ac_rfl
theorem S_mulL (n : Nat) (a : E) (f : Nat → E) : S n (fun i => a * f i) = a * S n f := by
  induction n with
  | zero => exact (E.mul_zero a).symm
  | succ k ih => simp only [S]; rw [ih, E.mul_add]
theorem S_mulR (n : Nat) (a : E) (f : Nat → E) : S n (fun i => f i * a) = S n f * a := by
  induction n with
  | zero => exact (E.zero_mul a).symm
  | succ k ih => simp only [S]; rw [ih, E.add_mul]
theorem S_swap (n m : Nat) (f : Nat → Nat → E) : S n (fun i => S m (fun j => f i j)) = S m (fun j => S n (fun i => f i j)) := by
  induction n with
  | zero => exact (S_zero fun _ _ => rfl).symm
  | succ k ih => simp only [S]; rw [ih, S_add]
theorem S_one {n i : Nat} {f : Nat → E} (hi : i < n) (h : ∀ k, k < n → k ≠ i → f k = 0) : S n f = f i := by
  induction n with
  | zero => omega
  | succ k ih =>
    simp only [S]
    by_cases e : i = k
    · subst e
      rw [S_zero fun j hj => h j (by omega) (by omega), E.zero_add]
    · rw [ih (by omega) fun j hj => h j (by omega), h k (by omega) (by omega), E.add_zero]

abbrev Mx := Nat → Nat → E
def idM : Mx := fun r c => if r = c then 1 else 0
def mulM (n : Nat) (A B : Mx) : Mx := fun r c => S n fun k => A r k * B k c
theorem S_idL {n r : Nat} (hr : r < n) (f : Nat → E) : S n (fun k => idM r k * f k) = f r := by
  rw [S_one hr fun k _ hk => by simp [idM, Ne.symm hk, E.zero_mul]]
  simp [idM, E.one_mul]
theorem S_idR {n c : Nat} (hc : c < n) (f : Nat → E) : S n (fun k => f k * idM k c) = f c := by
  rw [S_one hc fun k _ hk => by simp [idM, hk, E.mul_zero]]
  simp [idM, E.mul_one]
theorem mulM_assoc (n m : Nat) (A B C : Mx) (r c : Nat) : mulM m (mulM n A B) C r c = mulM n A (mulM m B C) r c := by
  unfold mulM
  rw [S_congr (g := fun j => S n fun k => A r k * B k j * C j c) fun j _ => (S_mulR n _ _).symm,
    S_congr (n := n) (g := fun k => S m fun j => A r k * (B k j * C j c)) fun k _ => (S_mulL m _ _).symm, S_swap]
  exact S_congr fun k _ => S_congr fun j _ => E.mul_assoc _ _ _

/-- Steps on rows. -/
def scaleR (i : Nat) (s : E) (W : Mx) : Mx := fun r c => if r = i then s * W i c else W r c
def addR (i j : Nat) (s : E) (W : Mx) : Mx := fun r c => if r = j then W j c + s * W i c else W r c
inductive Reach (n m : Nat) (W : Mx) : Mx → Prop
  | refl : Reach n m W W
  | same {U V : Mx} : Reach n m W U → (∀ r, r < n → ∀ c, c < m → V r c = U r c) → Reach n m W V
  | scale {U : Mx} (i : Nat) (s : E) : Reach n m W U → i < n → s ≠ 0 → Reach n m W (scaleR i s U)
  | add {U : Mx} (i j : Nat) (s : E) : Reach n m W U → i < n → j < n → i ≠ j → Reach n m W (addR i j s U)

theorem Reach.trans {n m : Nat} {W U V : Mx} (h : Reach n m W U) (k : Reach n m U V) : Reach n m W V := by
  induction k with
  | refl => exact h
  | same _ e ih => exact .same ih e
  | scale i s _ hi hs ih => exact .scale i s ih hi hs
  | add i j s _ hi hj hij ih => exact .add i j s ih hi hj hij
theorem Reach.symm {n m : Nat} {W U : Mx} (h : Reach n m W U) : Reach n m U W := by
  induction h with
  | refl => exact .refl
  | @same U V _ e ih => exact (Reach.same (U := V) .refl fun r hr c hc => (e r hr c hc).symm).trans ih
  | @scale U i s _ hi hs ih =>
    refine ((Reach.scale i s.inv Reach.refl hi (E.inv_ne s hs)).same (V := U) fun r _ c _ => ?_).trans ih
    simp only [scaleR]
    by_cases e : r = i
    · subst e
      rw [if_pos rfl, if_pos trivial, ← E.mul_assoc, E.mul_comm s.inv, E.mul_inv s hs, E.one_mul]
    · rw [if_neg e, if_neg e]
  | @add U i j s _ hi hj hij ih =>
    refine ((Reach.add i j s Reach.refl hi hj hij).same (V := U) fun r _ c _ => ?_).trans ih
    simp only [addR]
    by_cases e : r = j
    · subst e
      rw [if_pos rfl, if_pos trivial, if_neg hij, E.add_assoc, E.add_self, E.add_zero]
    · rw [if_neg e, if_neg e]
/-- Two rows exchanged. -/
def swapR (i j : Nat) (W : Mx) : Mx := fun r c => if r = i then W j c else if r = j then W i c else W r c
theorem Reach.swap {n m : Nat} {W U : Mx} (h : Reach n m W U) (i j : Nat) (hi : i < n) (hj : j < n) : Reach n m W (swapR i j U) := by
  by_cases e : i = j
  · subst e
    refine h.same fun r _ c _ => ?_
    simp only [swapR]
    by_cases e : r = i
    · subst e; rw [if_pos rfl]
    · rw [if_neg e, if_neg e]
  · refine (((h.add i j 1 hi hj e).add j i 1 hj hi (Ne.symm e)).add i j 1 hi hj e).same fun r _ c _ => ?_
    simp only [swapR, addR, E.one_mul]
    by_cases e1 : r = i
    · subst e1
      simp only [if_true, if_neg e]
      rw [← E.add_assoc, E.add_comm (U r c), E.add_assoc, E.add_self, E.add_zero]
    · by_cases e2 : r = j
      · subst e2
        simp only [if_true, if_neg e1, if_neg e]
        have : U r c + U i c + (U i c + (U r c + U i c)) = (U r c + U r c) + (U i c + U i c) + U i c := by ac_rfl
        rw [this, E.add_self, E.add_self, E.add_zero, E.zero_add]
      · simp only [if_neg e1, if_neg e2]
theorem Reach.comb {n m : Nat} {W U : Mx} (h : Reach n m W U) : ∃ F : Mx, ∀ r, r < n → ∀ c, c < m → U r c = S n fun k => F r k * W k c := by
  induction h with
  | refl => exact ⟨idM, fun r hr c _ => (S_idL hr fun k => W k c).symm⟩
  | same _ e ih =>
    obtain ⟨F, hF⟩ := ih
    exact ⟨F, fun r hr c hc => (e r hr c hc).trans (hF r hr c hc)⟩
  | scale i s _ hi hs ih =>
    obtain ⟨F, hF⟩ := ih
    refine ⟨scaleR i s F, fun r hr c hc => ?_⟩
    simp only [scaleR]
    by_cases e : r = i
    · subst e
      simp only [if_true]
      rw [hF r hr c hc, ← S_mulL]
      exact S_congr fun k _ => (E.mul_assoc _ _ _).symm
    · simp only [if_neg e]
      exact hF r hr c hc
  | add i j s _ hi hj hij ih =>
    obtain ⟨F, hF⟩ := ih
    refine ⟨addR i j s F, fun r hr c hc => ?_⟩
    simp only [addR]
    by_cases e : r = j
    · subst e
      simp only [if_true]
      rw [hF r hr c hc, hF i hi c hc, ← S_mulL, ← S_add]
      exact S_congr fun k _ => by rw [E.add_mul, E.mul_assoc]
    · simp only [if_neg e]
      exact hF r hr c hc

/-- A matrix with the unit matrix to its right. -/
def wideM (n : Nat) (A : Mx) : Mx := fun r c => if c < n then A r c else idM r (c - n)
def rightM (n : Nat) (W : Mx) : Mx := fun r c => W r (n + c)

theorem reach_done {n : Nat} {A U : Mx} (h : Reach n (2 * n) (wideM n A) U) (hu : ∀ r, r < n → ∀ c, c < n → U r c = idM r c) :
    (∀ r, r < n → ∀ c, c < n → mulM n (rightM n U) A r c = idM r c) ∧ (∀ r, r < n → ∀ c, c < n → mulM n A (rightM n U) r c = idM r c) := by
  constructor
  · intro r hr c hc
    obtain ⟨F, hF⟩ := h.comb
    have h1 : ∀ j, j < n → rightM n U r j = F r j := fun j hj => by
      have := hF r hr (n + j) (by omega)
      simp only [wideM, if_neg (show ¬ n + j < n by omega), Nat.add_sub_cancel_left] at this
      rw [S_idR hj] at this
      exact this
    have h2 := hF r hr c (by omega)
    simp only [wideM, if_pos hc] at h2
    rw [hu r hr c hc] at h2
    rw [h2]
    exact S_congr fun k hk => by rw [h1 k hk]
  · intro r hr c hc
    obtain ⟨F, hF⟩ := h.symm.comb
    have h1 : ∀ j, j < n → A r j = F r j := fun j hj => by
      have := hF r hr j (by omega)
      simp only [wideM, if_pos hj] at this
      rw [this, S_congr (g := fun k => F r k * idM k j) fun k hk => by rw [hu k hk j hj], S_idR hj]
    have h2 := hF r hr (n + c) (by omega)
    simp only [wideM, if_neg (show ¬ n + c < n by omega), Nat.add_sub_cancel_left] at h2
    rw [h2]
    exact S_congr fun k hk => by rw [h1 k hk]; rfl

theorem reach_kernel {n m c : Nat} {A U : Mx} (h : Reach n m A U) (hm : n ≤ m) (hc : c < n) (hu : ∀ r, r < n → ∀ j, j < c → U r j = idM r j)
    (hz : ∀ r, c ≤ r → r < n → U r c = 0) : ∃ v : Nat → E, v c = 1 ∧ ∀ r, r < n → S n (fun j => A r j * v j) = 0 := by
  refine ⟨fun j => if j < c then U j c else if j = c then 1 else 0, by simp, fun r hr => ?_⟩
  obtain ⟨F, hF⟩ := h.symm.comb
  rw [S_congr (g := fun j => S n fun k => F r k * (U k j * (if j < c then U j c else if j = c then 1 else 0))) fun j hj => by
    rw [hF r hr j (by omega), ← S_mulR]; exact S_congr fun k _ => E.mul_assoc _ _ _, S_swap]
  refine S_zero fun k hk => ?_
  rw [S_mulL]
  have : S n (fun j => U k j * (if j < c then U j c else if j = c then 1 else 0)) = 0 := by
    have e : ∀ j, j < n → U k j * (if j < c then U j c else if j = c then 1 else 0) = (if k < c then idM k j * U j c else 0) + idM c j * U k j := by
      intro j hj
      by_cases h1 : j < c
      · rw [if_pos h1, hu k hk j h1]
        have : idM c j = 0 := by simp [idM]; intro; omega
        rw [this, E.zero_mul, E.add_zero]
        by_cases h2 : k < c
        · rw [if_pos h2]
        · rw [if_neg h2]
          have : idM k j = 0 := by simp [idM]; intro; omega
          rw [this, E.zero_mul]
      · rw [if_neg h1]
        by_cases h2 : j = c
        · subst h2
          rw [if_pos rfl, E.mul_one]
          have : idM j j = 1 := by simp [idM]
          rw [this, E.one_mul]
          by_cases h3 : k < j
          · have : idM k j = 0 := by simp [idM]; intro; omega
            rw [if_pos h3, this, E.zero_mul, E.zero_add]
          · rw [if_neg h3, E.zero_add]
        · rw [if_neg h2, E.mul_zero]
          have : idM c j = 0 := by simp [idM]; intro; omega
          rw [this, E.zero_mul, E.add_zero]
          by_cases h3 : k < c
          · have : idM k j = 0 := by simp [idM]; intro; omega
            rw [if_pos h3, this, E.zero_mul]
          · rw [if_neg h3]
    rw [S_congr e, S_add, S_idL hc]
    by_cases h3 : k < c
    · rw [S_congr (g := fun j => idM k j * U j c) fun j _ => if_pos h3, S_idL hk, E.add_self]
    · rw [S_congr (g := fun _ => 0) fun j _ => if_neg h3, S_zero fun _ _ => rfl, hz k (by omega) hk, E.add_zero]
  rw [this, E.mul_zero]

/-- What has a kernel has no inverse. -/
theorem no_inverse {n c : Nat} {A R : Mx} {v : Nat → E} (hc : c < n) (hv : v c = 1) (hk : ∀ r, r < n → S n (fun j => A r j * v j) = 0)
    (hR : ∀ r, r < n → ∀ c, c < n → mulM n R A r c = idM r c) : False := by
  have h1 : S n (fun j => mulM n R A c j * v j) = v c := by
    rw [S_congr (g := fun j => idM c j * v j) fun j hj => by rw [hR c hc j hj], S_idL hc]
  have h2 : S n (fun j => mulM n R A c j * v j) = 0 := by
    have := mulM_assoc n n R A (fun j _ => v j) c 0
    simp only [mulM] at this ⊢
    rw [this]
    exact S_zero fun k hk' => by rw [hk k hk', E.mul_zero]
  rw [h2, hv] at h1
  exact E.one_ne h1.symm

/-- Two inverses are one. -/
theorem inverse_one {n : Nat} {A R B : Mx} (hR : ∀ r, r < n → ∀ c, c < n → mulM n R A r c = idM r c) (hB : ∀ r, r < n → ∀ c, c < n → mulM n A B r c = idM r c) :
    ∀ r, r < n → ∀ c, c < n → R r c = B r c := by
  intro r hr c hc
  have h := mulM_assoc n n R A B r c
  have h1 : mulM n (mulM n R A) B r c = B r c := by
    show S n (fun k => mulM n R A r k * B k c) = _
    rw [S_congr (g := fun k => idM r k * B k c) fun k hk => by rw [hR r hr k hk], S_idL hr]
  have h2 : mulM n R (mulM n A B) r c = R r c := by
    show S n (fun k => R r k * mulM n A B k c) = _
    rw [S_congr (g := fun k => R r k * idM k c) fun k hk => by rw [hB k hk c hc], S_idR hc]
  rw [← h2, ← h, h1]
end Go.Proofs.Ythcbnffhkbbkpaa
