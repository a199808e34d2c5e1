/- Plain arithmetic on words of 32 bits: turning by one place, turning by s places, and that both are one; no Go text is named here. -/
import Derived.WalkKit
import Derived.Laws.BitsAllLaws
namespace Go.Proofs.Ytikhhijbabllfaa
open Go.RowKit

theorem ret_int {k : IntKind} {a b : Int} (h : a = b) : Ending.returned (.int k a) = .returned (.int k b) := by rw [h]

/-- A word turned to the left by one place. -/
def stepL (x : Int) : Int := (x * 2 + x / 2147483648) % 4294967296
/-- A word turned to the right by one place. -/
def stepR (x : Int) : Int := x / 2 + x % 2 * 2147483648
/-- s places to the left, one by one. -/
def turn : Nat → Int → Int
  | 0, x => x
  | s + 1, x => stepL (turn s x)
def turnR : Nat → Int → Int
  | 0, x => x
  | s + 1, x => stepR (turnR s x)
/-- s places to the left, at once. -/
def rotl (x : Int) (s : Nat) : Int := (x * 2 ^ s) % 4294967296 + x / 2 ^ (32 - s)

theorem stepL_lo (x : Int) : 0 ≤ stepL x ∧ stepL x < 4294967296 := by unfold stepL; omega
theorem stepR_stepL (x : Int) (h0 : 0 ≤ x) (h1 : x < 4294967296) : stepR (stepL x) = x := by
  unfold stepL stepR
  obtain ⟨t, ht⟩ : ∃ t, t = x / 2147483648 := ⟨_, rfl⟩
  rw [← ht]
  have e1 : (x * 2 + t) % 4294967296 = x * 2 + t - 4294967296 * t := by omega
  rw [e1]
  have e2 : (x * 2 + t - 4294967296 * t) / 2 = x - 2147483648 * t := by omega
  have e3 : (x * 2 + t - 4294967296 * t) % 2 = t := by omega
  rw [e2, e3]
  omega
theorem stepR_lo (x : Int) (h0 : 0 ≤ x) (h1 : x < 4294967296) : 0 ≤ stepR x ∧ stepR x < 4294967296 := by unfold stepR; omega
theorem turn_lo (s : Nat) (x : Int) (h0 : 0 ≤ x) (h1 : x < 4294967296) : 0 ≤ turn s x ∧ turn s x < 4294967296 := by
  cases s with
  | zero => exact ⟨h0, h1⟩
  | succ s => exact stepL_lo _
theorem turnR_lo (s : Nat) (x : Int) (h0 : 0 ≤ x) (h1 : x < 4294967296) : 0 ≤ turnR s x ∧ turnR s x < 4294967296 := by
  induction s with
  | zero => exact ⟨h0, h1⟩
  | succ s ih => exact stepR_lo _ ih.1 ih.2
theorem turn_add (a b : Nat) (x : Int) : turn a (turn b x) = turn (a + b) x := by
  induction a with
  | zero => simp [turn]
  | succ a ih => rw [show a + 1 + b = (a + b) + 1 by omega]; simp only [turn, ih]
theorem turn_in (s : Nat) (x : Int) : stepL (turn s x) = turn s (stepL x) := by
  induction s with
  | zero => rfl
  | succ s ih => simp only [turn, ih]
theorem turnR_turn (s : Nat) (y : Int) (h0 : 0 ≤ y) (h1 : y < 4294967296) : turnR s (turn s y) = y := by
  have g : ∀ k y, turnR (k + 1) y = turnR k (stepR y) := by
    intro k
    induction k with
    | zero => intro y; rfl
    | succ k ih => intro y; rw [turnR, ih]; rfl
  induction s with
  | zero => rfl
  | succ s ih =>
    rw [g, turn, stepR_stepL _ (turn_lo s y h0 h1).1 (turn_lo s y h0 h1).2, ih]
theorem rot_nat (X P M : Nat) (hP : P * M = 2147483648) (hX : X < 4294967296) (hM : 0 < M) :
    ((P * (X % (2 * M)) + X / (2 * M)) * 2 + (P * (X % (2 * M)) + X / (2 * M)) / 2147483648) % 4294967296 = 2 * P * (X % M) + X / M := by
  obtain ⟨q, hq⟩ : ∃ q, q = X / (2 * M) := ⟨_, rfl⟩
  obtain ⟨t, ht⟩ : ∃ t, t = X % (2 * M) / M := ⟨_, rfl⟩
  obtain ⟨u, hu⟩ : ∃ u, u = X % M := ⟨_, rfl⟩
  have hr : X % (2 * M) = M * t + u := by
    have h1 := Nat.div_add_mod (X % (2 * M)) M
    rw [Nat.mod_mul_left_mod, ← hu, ← ht] at h1
    exact h1.symm
  have ht2 : t < 2 := by
    rw [ht, Nat.div_lt_iff_lt_mul hM]; exact Nat.mod_lt _ (by omega)
  have huM : u < M := by rw [hu]; exact Nat.mod_lt _ hM
  have hx := Nat.div_add_mod X (2 * M)
  rw [← hq, hr] at hx
  have hqP : q < P := by
    rw [hq, Nat.div_lt_iff_lt_mul (by omega)]
    have : P * (2 * M) = 2 * (P * M) := by rw [Nat.mul_left_comm]
    omega
  have hd : X / M = 2 * q + t := by
    rw [← hx, show 2 * M * q + (M * t + u) = u + M * (2 * q + t) by rw [Nat.mul_add, ← Nat.mul_assoc, Nat.mul_comm M 2]; omega, Nat.add_mul_div_left _ _ hM, Nat.div_eq_of_lt huM]
    omega
  have hA : P * u + P ≤ 2147483648 := by
    rw [← hP, ← Nat.mul_succ]; exact Nat.mul_le_mul_left P huM
  have hB : P * (M * t + u) = 2147483648 * t + P * u := by rw [Nat.mul_add, ← Nat.mul_assoc, hP]
  have hC : 2 * P * u = 2 * (P * u) := Nat.mul_assoc _ _ _
  rw [hr, hB, ← hq, ← hu, hd, hC]
  obtain ⟨A, hAe⟩ : ∃ A, A = P * u := ⟨_, rfl⟩
  rw [← hAe] at hA ⊢
  clear hx hd hB hC hr ht hu hAe
  have h31 : (2147483648 * t + A + q) / 2147483648 = t := by omega
  rw [h31]
  omega
theorem rotl_nat (X s : Nat) (hs : s ≤ 31) : rotl (X : Int) s = ((2 ^ s * (X % 2 ^ (32 - s)) + X / 2 ^ (32 - s) : Nat) : Int) := by
  have hps : 2 ^ s * 2 ^ (32 - s) = 4294967296 := by rw [← Nat.pow_add, show s + (32 - s) = 32 by omega]
  have e3 : X * 2 ^ s % 4294967296 = 2 ^ s * (X % 2 ^ (32 - s)) := by
    rw [← hps, Nat.mul_comm X, Nat.mul_mod_mul_left]
  unfold rotl
  rw [← e3]
  simp
theorem rotl_step (x : Int) (h0 : 0 ≤ x) (h1 : x < 4294967296) (s : Nat) (hs : s < 31) : stepL (rotl x s) = rotl x (s + 1) := by
  obtain ⟨X, rfl⟩ := Int.eq_ofNat_of_zero_le h0
  rw [rotl_nat X s (by omega), rotl_nat X (s + 1) (by omega)]
  have e1 : (32 - (s + 1)) = 31 - s := by omega
  have e2 : 2 ^ (32 - s) = 2 * 2 ^ (31 - s) := by rw [show 32 - s = (31 - s) + 1 by omega, Nat.pow_succ, Nat.mul_comm]
  have e3 : 2 ^ (s + 1) = 2 * 2 ^ s := by rw [Nat.pow_succ, Nat.mul_comm]
  have hP : 2 ^ s * 2 ^ (31 - s) = 2147483648 := by rw [← Nat.pow_add, show s + (31 - s) = 31 by omega]
  have h := rot_nat X (2 ^ s) (2 ^ (31 - s)) hP (by omega) (Nat.pow_pos (by omega))
  rw [e1, e2, e3, ← h]
  unfold stepL
  omega
theorem turn_rotl (x : Int) (h0 : 0 ≤ x) (h1 : x < 4294967296) (s : Nat) (hs : s ≤ 31) : turn s x = rotl x s := by
  induction s with
  | zero => simp only [turn, rotl]; omega
  | succ s ih => rw [turn, ih (by omega), rotl_step x h0 h1 s (by omega)]
theorem turn_32 (x : Int) (h0 : 0 ≤ x) (h1 : x < 4294967296) : turn 32 x = x := by
  show stepL (turn 31 x) = x
  rw [turn_rotl x h0 h1 31 (by omega)]
  obtain ⟨X, rfl⟩ := Int.eq_ofNat_of_zero_le h0
  rw [rotl_nat X 31 (by omega)]
  unfold stepL
  simp only [show 32 - 31 = 1 from rfl, Nat.pow_one]
  obtain ⟨q, hq⟩ : ∃ q, q = X / 2 := ⟨_, rfl⟩
  obtain ⟨t, ht⟩ : ∃ t, t = X % 2 := ⟨_, rfl⟩
  have hX : X = 2 * q + t := by omega
  have ht2 : t < 2 := by omega
  rw [← hq, ← ht]
  clear hq ht
  subst hX
  have h31 : ((2 ^ 31 * t + q : Nat) : Int) / 2147483648 = (t : Int) := by omega
  rw [h31]
  omega
theorem turn_mod (s : Nat) (x : Int) (h0 : 0 ≤ x) (h1 : x < 4294967296) : turn (s % 32) x = turn s x := by
  have g : ∀ q r, turn (32 * q + r) x = turn r x := by
    intro q
    induction q with
    | zero => intro r; simp
    | succ q ih =>
      intro r
      rw [show 32 * (q + 1) + r = (32 * q + r) + 32 by omega, ← turn_add, turn_32 x h0 h1, ih]
  conv => rhs; rw [show s = 32 * (s / 32) + s % 32 by omega]
  rw [g]

/-- The or of two parts that share no bit is their sum. -/
theorem rot_or (x : Int) (s : Nat) (hs : s ≤ 31) (h0 : 0 ≤ x) (h1 : x < 4294967296) :
    bits .or .u32 (IntKind.u32.wrap (x * 2 ^ s)) (x / 2 ^ (32 - s)) = rotl x s := by
  obtain ⟨X, rfl⟩ := Int.eq_ofNat_of_zero_le h0
  have hX : X < 4294967296 := by omega
  have e1 : IntKind.u32.wrap ((X : Int) * 2 ^ s) = ((X * 2 ^ s % 4294967296 : Nat) : Int) := by
    rw [IntKind.wrap_u32']; simp
  have e2 : (X : Int) / 2 ^ (32 - s) = ((X / 2 ^ (32 - s) : Nat) : Int) := by simp
  have hp : 0 < 2 ^ (32 - s) := Nat.pow_pos (by omega)
  have hps : 2 ^ s * 2 ^ (32 - s) = 4294967296 := by rw [← Nat.pow_add, show s + (32 - s) = 32 by omega]
  have hlt : X / 2 ^ (32 - s) < 2 ^ s := by
    rw [Nat.div_lt_iff_lt_mul hp, hps]; exact hX
  have e3 : X * 2 ^ s % 4294967296 = 2 ^ s * (X % 2 ^ (32 - s)) := by
    rw [← hps, Nat.mul_comm X, Nat.mul_mod_mul_left]
  have hlt2 : X / 2 ^ (32 - s) < 4294967296 := Nat.lt_of_le_of_lt (Nat.div_le_self _ _) hX
  rw [e1, e2, u32_or_nat _ _ (Nat.mod_lt _ (by omega)) hlt2]
  unfold rotl
  rw [e2, show (X : Int) * 2 ^ s % 4294967296 = ((X * 2 ^ s % 4294967296 : Nat) : Int) by simp, e3, ← Nat.two_pow_add_eq_or_of_lt hlt]
  simp

theorem and31_i64 (n : Int) : bits .and .i64 n 31 = n % 32 := by
  have h : (BitVec.ofInt 64 n &&& BitVec.ofInt 64 31).toNat = (n % 32).toNat := by
    rw [BitVec.toNat_and, BitVec.toNat_ofInt, show (BitVec.ofInt 64 31).toNat = 2 ^ 5 - 1 from rfl, Nat.and_two_pow_sub_one_eq_mod]
    omega
  show IntKind.i64.wrap ((BitVec.ofInt 64 n &&& BitVec.ofInt 64 31).toNat : Int) = _
  rw [h, IntWalk.i64_in _ ⟨by omega, by omega⟩]
  omega
theorem and31_u64 (n : Int) : bits .and .u64 (IntKind.u64.wrap n) 31 = n % 32 := by
  have h : (BitVec.ofInt 64 (IntKind.u64.wrap n) &&& BitVec.ofInt 64 31).toNat = (n % 32).toNat := by
    rw [BitVec.toNat_and, BitVec.toNat_ofInt, show (BitVec.ofInt 64 31).toNat = 2 ^ 5 - 1 from rfl, Nat.and_two_pow_sub_one_eq_mod, IntKind.wrap_u64]
    omega
  show IntKind.u64.wrap ((BitVec.ofInt 64 (IntKind.u64.wrap n) &&& BitVec.ofInt 64 31).toNat : Int) = _
  rw [h, IntWalk.u64_in _ ⟨by omega, by omega⟩]
  omega
theorem stepL_walk (x : Int) (h0 : 0 ≤ x) (h1 : x < 4294967296) : x * 2 % 4294967296 + x / 2147483648 = stepL x := by
  unfold stepL
  obtain ⟨t, ht⟩ : ∃ t, t = x / 2147483648 := ⟨_, rfl⟩
  rw [← ht]
  have e1 : (x * 2 + t) % 4294967296 = x * 2 + t - 4294967296 * t := by omega
  have e2 : x * 2 % 4294967296 = x * 2 - 4294967296 * t := by omega
  rw [e1, e2]
  omega
/-- Go's remainder of a number below 0 by 32. -/
theorem tmod32_neg (n : Int) (h : n < 0) : n.tmod 32 = -((-n) % 32) := by
  have e : n = -(-n) := by omega
  conv => lhs; rw [e]
  rw [Int.neg_tmod, Int.tmod_eq_emod_of_nonneg (by omega)]
end Go.Proofs.Ytikhhijbabllfaa
