/- Plain facts on numbers by their digits, on the modulus 2^130 - 5, and on five parts of 26 bits; no Go text is named here. -/
import Derived.WalkKit
namespace Go.Proofs.Ytnpebabffnjmmaa
open Go.RowKit
set_option linter.unusedVariables false

/-- The modulus. -/
def pP : Nat := 1361129467683753853853498429727072845819
theorem pP_eq : pP = 2 ^ 130 - 5 := by decide +kernel
theorem pP_pos : 0 < pP := by decide +kernel

/-- The number of n digits f, the lowest first, each of q bits. -/
def num (q : Nat) (f : Nat → Nat) : Nat → Nat
  | 0 => 0
  | k + 1 => num q f k + f k * 2 ^ (q * k)
/-- The digit i of q bits of a number. -/
def dg (q N i : Nat) : Nat := N / 2 ^ (q * i) % 2 ^ q

theorem dg_lt (q N i : Nat) : dg q N i < 2 ^ q := Nat.mod_lt _ (Nat.pow_pos (by omega))
theorem num_lt (q : Nat) (f : Nat → Nat) (n : Nat) (h : ∀ i, i < n → f i < 2 ^ q) : num q f n < 2 ^ (q * n) := by
  induction n with
  | zero => simp [num]
  | succ n ih =>
    have h1 := ih (fun i hi => h i (by omega))
    have h2 := h n (by omega)
    rw [num, Nat.mul_succ, Nat.pow_add, Nat.mul_comm (2 ^ (q * n))]
    have h3 : (f n + 1) * 2 ^ (q * n) ≤ 2 ^ q * 2 ^ (q * n) := Nat.mul_le_mul_right _ h2
    rw [Nat.add_mul] at h3
    omega
theorem num_congr (q : Nat) (f g : Nat → Nat) (n : Nat) (h : ∀ i, i < n → f i = g i) : num q f n = num q g n := by
  induction n with
  | zero => rfl
  | succ n ih => rw [num, num, ih (fun i hi => h i (by omega)), h n (by omega)]
theorem num_dg (q N n : Nat) : num q (dg q N) n = N % 2 ^ (q * n) := by
  induction n with
  | zero => simp [num, Nat.mod_one]
  | succ n ih =>
    rw [num, ih, dg, Nat.mul_succ, Nat.pow_add, Nat.mod_mul, Nat.mul_comm (2 ^ (q * n))]
theorem num_split (q : Nat) (f : Nat → Nat) (n k : Nat) : num q f (n + k) = num q f n + 2 ^ (q * n) * num q (fun i => f (n + i)) k := by
  induction k with
  | zero => simp [num]
  | succ k ih =>
    rw [← Nat.add_assoc, num, ih, num, Nat.mul_add q, Nat.pow_add, Nat.mul_add (2 ^ (q * n)), Nat.mul_left_comm (f (n + k)), Nat.add_assoc]
/-- The digits of a number of digits. -/
theorem dg_num (q : Nat) (f : Nat → Nat) (n i : Nat) (h : ∀ j, j < n → f j < 2 ^ q) : dg q (num q f n) i = if i < n then f i else 0 := by
  by_cases hi : i < n
  · rw [if_pos hi]
    obtain ⟨k, rfl⟩ : ∃ k, n = i + (1 + k) := ⟨n - i - 1, by omega⟩
    have h1 := num_lt q f i (fun j hj => h j (by omega))
    have h2 := h i hi
    rw [dg, num_split, Nat.add_mul_div_left _ _ (Nat.pow_pos (by omega)), Nat.div_eq_of_lt h1, Nat.zero_add, num_split]
    simp only [num, Nat.mul_zero, Nat.pow_zero, Nat.mul_one, Nat.zero_add, Nat.add_zero]
    rw [Nat.add_mul_mod_self_left, Nat.mod_eq_of_lt h2]
  · rw [if_neg hi, dg, Nat.div_eq_of_lt, Nat.zero_mod]
    exact Nat.lt_of_lt_of_le (num_lt q f n h) (Nat.pow_le_pow_right (by omega) (Nat.mul_le_mul_left q (by omega)))

theorem dg_zero (q i : Nat) : dg q 0 i = 0 := by simp [dg]
theorem dg_test (q N i b : Nat) : (dg q N i).testBit b = (decide (b < q) && N.testBit (q * i + b)) := by
  rw [dg, Nat.testBit_mod_two_pow, Nat.testBit_div_two_pow, Nat.add_comm b]
theorem dg_div (q N i : Nat) : N / 2 ^ (q * (i + 1)) = N / 2 ^ (q * i) / 2 ^ q := by
  rw [Nat.mul_succ, Nat.pow_add, Nat.div_div_eq_div_mul]
theorem dg_step (q N i : Nat) : N / 2 ^ (q * i) = dg q N i + 2 ^ q * (N / 2 ^ (q * (i + 1))) := by
  rw [dg_div, dg, Nat.mod_add_div]

/-! Which number is less than the modulus, by its bytes. -/
theorem pP_mid (i : Nat) (h1 : 1 ≤ i) (h2 : i ≤ 15) : dg 8 pP i = 255 := by
  have h : i = 1 ∨ i = 2 ∨ i = 3 ∨ i = 4 ∨ i = 5 ∨ i = 6 ∨ i = 7 ∨ i = 8 ∨ i = 9 ∨ i = 10 ∨ i = 11 ∨ i = 12 ∨ i = 13 ∨ i = 14 ∨ i = 15 := by omega
  rcases h with rfl | rfl | rfl | rfl | rfl | rfl | rfl | rfl | rfl | rfl | rfl | rfl | rfl | rfl | rfl <;> decide +kernel
theorem pP_lo : dg 8 pP 0 = 251 := by decide +kernel
theorem pP_hi : dg 8 pP 16 = 3 := by decide +kernel
theorem pP_top : pP / 2 ^ (8 * 17) = 0 := by decide +kernel
theorem div_lt_lt {a b c : Nat} (h : a / c < b / c) : a < b := by
  rcases Nat.lt_or_ge a b with h' | h'
  · exact h'
  · have := Nat.div_le_div_right (c := c) h'; omega
theorem below_at (N M i : Nat) (h : N / 2 ^ (8 * (i + 1)) = M / 2 ^ (8 * (i + 1))) (hd : dg 8 N i < dg 8 M i) : N < M := by
  refine div_lt_lt (c := 2 ^ (8 * i)) ?_
  rw [dg_step 8 N i, dg_step 8 M i, h]; omega
theorem same_at (N M i : Nat) (h : N / 2 ^ (8 * (i + 1)) = M / 2 ^ (8 * (i + 1))) (hd : dg 8 N i = dg 8 M i) : N / 2 ^ (8 * i) = M / 2 ^ (8 * i) := by
  rw [dg_step 8 N i, dg_step 8 M i, h, hd]

/-! Sums and differences, byte by byte. -/
/-- The carry into the byte k of the sum of A and B. -/
def cy (q A B k : Nat) : Nat := (A % 2 ^ (q * k) + B % 2 ^ (q * k)) / 2 ^ (q * k)
theorem mod_succ (q A k : Nat) : A % 2 ^ (q * (k + 1)) = A % 2 ^ (q * k) + 2 ^ (q * k) * dg q A k := by
  rw [Nat.mul_succ, Nat.pow_add, Nat.mod_mul, dg]
theorem cy_zero (q A B : Nat) : cy q A B 0 = 0 := by simp [cy, Nat.mod_one]
theorem cy_sum (q A B k : Nat) : (A % 2 ^ (q * (k + 1)) + B % 2 ^ (q * (k + 1))) / 2 ^ (q * k) = cy q A B k + dg q A k + dg q B k := by
  rw [mod_succ, mod_succ, show A % 2 ^ (q * k) + 2 ^ (q * k) * dg q A k + (B % 2 ^ (q * k) + 2 ^ (q * k) * dg q B k) = A % 2 ^ (q * k) + B % 2 ^ (q * k) + 2 ^ (q * k) * (dg q A k + dg q B k) by rw [Nat.mul_add]; omega,
    Nat.add_mul_div_left _ _ (Nat.pow_pos (by omega)), cy, Nat.add_assoc]
theorem cy_succ (q A B k : Nat) : cy q A B (k + 1) = (cy q A B k + dg q A k + dg q B k) / 2 ^ q := by
  rw [← cy_sum, cy, Nat.div_div_eq_div_mul, ← Nat.pow_add, ← Nat.mul_succ]
theorem dg_add (q A B k : Nat) : dg q (A + B) k = (cy q A B k + dg q A k + dg q B k) % 2 ^ q := by
  rw [← cy_sum]
  have e : (A + B) % 2 ^ (q * (k + 1)) = (A % 2 ^ (q * (k + 1)) + B % 2 ^ (q * (k + 1))) % 2 ^ (q * (k + 1)) := Nat.add_mod _ _ _
  have g : ∀ X : Nat, X / 2 ^ (q * k) % 2 ^ q = X % 2 ^ (q * (k + 1)) / 2 ^ (q * k) := by
    intro X
    rw [Nat.mul_succ, Nat.pow_add, Nat.mod_mul_right_div_self]
  rw [dg, g, e, ← g]
theorem cy_le (q A B k : Nat) : cy q A B k ≤ 1 := by
  have h1 := Nat.mod_lt A (Nat.pow_pos (n := q * k) (show 0 < 2 by omega))
  have h2 := Nat.mod_lt B (Nat.pow_pos (n := q * k) (show 0 < 2 by omega))
  have : cy q A B k < 2 := by
    rw [cy, Nat.div_lt_iff_lt_mul (Nat.pow_pos (by omega))]; omega
  omega
/-- The byte k of a difference: with A = D + B, the borrow into the byte k is the carry of D and B. -/
theorem dg_sub (q D B k : Nat) : ∃ c, c = cy q D B k ∧ dg q D k + dg q B k + c = dg q (D + B) k + 2 ^ q * cy q D B (k + 1) := by
  refine ⟨_, rfl, ?_⟩
  rw [dg_add, cy_succ, Nat.mod_add_div]; omega

/-! Five parts of 26 bits. -/
/-- The number of five parts. -/
def V5 (S : Nat → Nat) : Nat := num 26 S 5
/-- What is left over behind the parts below k. -/
def ov (S : Nat → Nat) (k : Nat) : Nat := num 26 S k / 2 ^ (26 * k)
theorem ov_zero (S : Nat → Nat) : ov S 0 = 0 := by simp [ov, num]
theorem ov_sum (S : Nat → Nat) (k : Nat) : num 26 S (k + 1) / 2 ^ (26 * k) = S k + ov S k := by
  rw [num, Nat.add_mul_div_right _ _ (Nat.pow_pos (by omega)), ov, Nat.add_comm]
theorem ov_succ (S : Nat → Nat) (k : Nat) : ov S (k + 1) = (S k + ov S k) / 2 ^ 26 := by
  rw [← ov_sum, ov, Nat.div_div_eq_div_mul, ← Nat.pow_add, ← Nat.mul_succ]
theorem ov_part (S : Nat → Nat) (k : Nat) (hk : k < 5) : dg 26 (V5 S) k = (S k + ov S k) % 2 ^ 26 := by
  obtain ⟨m, hm⟩ : ∃ m, 5 = (k + 1) + m := ⟨5 - (k + 1), by omega⟩
  rw [← ov_sum, dg, V5, hm, num_split, Nat.mul_succ, Nat.pow_add, Nat.mul_assoc, Nat.add_mul_div_left _ _ (Nat.pow_pos (by omega)), Nat.add_mul_mod_self_left]
theorem ov_lt (S : Nat → Nat) (k B : Nat) (h : ∀ i, i < k → S i < B) : ov S k ≤ B / 67108863 := by
  have e : (2 : Nat) ^ 26 = 67108864 := by decide
  induction k with
  | zero => rw [ov_zero]; exact Nat.zero_le _
  | succ k ih =>
    have h1 := ih (fun i hi => h i (by omega))
    have h2 := h k (by omega)
    rw [ov_succ, e]; omega
theorem V5_dg (N : Nat) (h : N < 2 ^ 130) : V5 (dg 26 N) = N := by
  rw [V5, num_dg, Nat.mod_eq_of_lt (by simpa using h)]
theorem V5_add (S R : Nat → Nat) : V5 (fun i => S i + R i) = V5 S + V5 R := by
  simp only [V5, num, Nat.add_mul]; omega
theorem V5_lt (S : Nat → Nat) (B : Nat) (h : ∀ i, i < 5 → S i ≤ B) : V5 S ≤ B * 2 ^ 105 := by
  have h0 := h 0 (by omega)
  have h1 := h 1 (by omega)
  have h2 := h 2 (by omega)
  have h3 := h 3 (by omega)
  have h4 := h 4 (by omega)
  have m1 : S 1 * 2 ^ 26 ≤ B * 2 ^ 26 := Nat.mul_le_mul_right _ h1
  simp only [V5, num]
  simp only [Nat.reduceMul, Nat.reducePow]
  omega
theorem V5_set (S : Nat → Nat) (m x : Nat) (hm : m < 5) : V5 (fun i => if i = m then S i + x else S i) = V5 S + x * 2 ^ (26 * m) := by
  have h : m = 0 ∨ m = 1 ∨ m = 2 ∨ m = 3 ∨ m = 4 := by omega
  rcases h with rfl | rfl | rfl | rfl | rfl <;> simp [V5, num, Nat.add_mul] <;> omega

/-! The remainder, without a choice. -/
theorem settle (V : Nat) (V2 q : Nat) (h2 : V2 = V % 2 ^ 130 + V / 2 ^ 130 * 5) (hV : V < 2 ^ 170) (hq : q = (V2 + 5) / 2 ^ 130) :
    (V2 + q * 5) % 2 ^ 130 = V % pP := by
  have e1 : V % pP = V2 % pP := by
    have : V = V2 + pP * (V / 2 ^ 130) := by rw [h2, pP]; omega
    conv => lhs; rw [this]
    rw [Nat.add_mul_mod_self_left]
  have hb : V2 < 2 * pP := by
    have : V / 2 ^ 130 < 2 ^ 40 := by
      rw [Nat.div_lt_iff_lt_mul (by decide), ← Nat.pow_add]; exact hV
    rw [h2, pP]; omega
  rw [e1]
  by_cases hlt : V2 < pP
  · have hq0 : q = 0 := by rw [hq, Nat.div_eq_of_lt]; rw [pP] at hlt; omega
    rw [hq0, Nat.mod_eq_of_lt hlt, Nat.zero_mul, Nat.add_zero, Nat.mod_eq_of_lt]
    rw [pP] at hlt; omega
  · have hq1 : q = 1 := by rw [hq]; rw [pP] at hlt hb; omega
    have e2 : V2 % pP = V2 - pP := by
      rw [Nat.mod_eq_sub_mod (by omega), Nat.mod_eq_of_lt (by omega)]
    rw [hq1, e2]; rw [pP] at hlt hb ⊢; omega

/-! Products, part by part. -/
/-- What the products of the parts ahead of (i, j) make. -/
def sp (a b : Nat → Nat) (i j : Nat) : Nat := num 26 a i * V5 b + a i * 2 ^ (26 * i) * num 26 b j
theorem sp_row (a b : Nat → Nat) (i : Nat) : sp a b i 5 = sp a b (i + 1) 0 := by
  rw [sp, sp, show num 26 a (i + 1) = num 26 a i + a i * 2 ^ (26 * i) from rfl, show num 26 b 0 = 0 from rfl, Nat.add_mul, Nat.mul_zero, Nat.add_zero, V5]
theorem sp_step (a b : Nat → Nat) (i j : Nat) : sp a b i (j + 1) = sp a b i j + a i * b j * 2 ^ (26 * (i + j)) := by
  rw [sp, sp, num, Nat.mul_add, Nat.mul_add 26, Nat.pow_add, ← Nat.add_assoc]
  congr 1
  simp only [Nat.mul_assoc, Nat.mul_left_comm, Nat.mul_comm]
theorem sp_done (a b : Nat → Nat) : sp a b 5 0 = V5 a * V5 b := by
  rw [sp, show num 26 b 0 = 0 from rfl, Nat.mul_zero, Nat.add_zero]; rfl
/-- How often a product is taken. -/
def tk (i j : Nat) : Nat := if 5 ≤ i + j then 5 else 1
theorem tk_pow (i j : Nat) (hi : i < 5) (hj : j < 5) : tk i j * 2 ^ (26 * ((i + j) % 5)) % pP = 2 ^ (26 * (i + j)) % pP := by
  have h : i = 0 ∨ i = 1 ∨ i = 2 ∨ i = 3 ∨ i = 4 := by omega
  have h' : j = 0 ∨ j = 1 ∨ j = 2 ∨ j = 3 ∨ j = 4 := by omega
  rcases h with rfl | rfl | rfl | rfl | rfl <;> rcases h' with rfl | rfl | rfl | rfl | rfl <;> decide +kernel
theorem add_mul_mod (X Y c k k' m : Nat) (h1 : X % m = Y % m) (h2 : k % m = k' % m) : (X + c * k) % m = (Y + c * k') % m := by
  rw [Nat.add_mod, Nat.mul_mod, h1, h2, ← Nat.mul_mod, ← Nat.add_mod]
theorem times_step (T a b : Nat → Nat) (i j : Nat) (hi : i < 5) (hj : j < 5) (h : V5 T % pP = sp a b i j % pP) :
    V5 (fun m => if m = (i + j) % 5 then T m + a i * b j * tk i j else T m) % pP = sp a b i (j + 1) % pP := by
  rw [V5_set T _ _ (by omega), sp_step, Nat.mul_assoc (a i * b j)]
  exact add_mul_mod _ _ _ _ _ _ h (tk_pow i j hi hj)
end Go.Proofs.Ytnpebabffnjmmaa
