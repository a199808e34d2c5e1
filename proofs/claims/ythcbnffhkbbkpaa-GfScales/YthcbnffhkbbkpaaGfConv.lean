/- The document's product, as plain arithmetic: coefficients as the bits of a number; it is the product by doubling. No Go text is named here. -/
import Derived.Test.YthcbnffhkbbkpaaGf
namespace Go.Proofs.Ythcbnffhkbbkpaa
open Go.RowKit

/-- The coefficient of a number at a place. -/
def co (N j : Nat) : Nat := N / 2 ^ j % 2
theorem co_lt (N j : Nat) : co N j < 2 := Nat.mod_lt _ (by omega)
theorem co_xor (a b j : Nat) : co (a ^^^ b) j = co a j ^^^ co b j := by
  unfold co; rw [Nat.xor_div_two_pow, xor_odd]
theorem co_pow (b j i : Nat) (hb : b < 2) : co (b * 2 ^ j) i = if i = j then b else 0 := by
  have hb' : b = 0 ∨ b = 1 := by omega
  unfold co
  rcases hb' with rfl | rfl
  · simp
  · rw [Nat.one_mul]
    rcases Nat.lt_trichotomy i j with h | h | h
    · rw [if_neg (by omega), show 2 ^ j = 2 * 2 ^ (j - i - 1) * 2 ^ i by rw [Nat.mul_comm 2, ← Nat.pow_succ, ← Nat.pow_add]; congr 1; omega, Nat.mul_div_cancel _ (Nat.pow_pos (by omega))]
      omega
    · subst h; rw [if_pos rfl, Nat.div_self (Nat.pow_pos (by omega))]
    · rw [if_neg (by omega), Nat.div_eq_of_lt (Nat.pow_lt_pow_right (by omega) h)]
theorem xor_bit (p q : Nat) (hp : p < 2) (hq : q < 2) : p ^^^ q = (p + q) % 2 := by
  have hp' : p = 0 ∨ p = 1 := by omega
  have hq' : q = 0 ∨ q = 1 := by omega
  rcases hp' with rfl | rfl <;> rcases hq' with rfl | rfl <;> rfl
theorem bit_mul (p q : Nat) (hp : p < 2) (hq : q < 2) : p * q < 2 := by
  have hp' : p = 0 ∨ p = 1 := by omega
  rcases hp' with rfl | rfl <;> omega
theorem mul_pow_xor (a b s : Nat) : (a ^^^ b) * 2 ^ s = (a * 2 ^ s) ^^^ (b * 2 ^ s) := by
  have := Nat.shiftLeft_xor_distrib (a := a) (b := b) (i := s)
  simpa [Nat.shiftLeft_eq] using this

/-- One row of the products of coefficients. -/
def cin (a b i N : Nat) : Nat → Nat
  | 0 => N
  | k + 1 => cin a b i N k ^^^ (co a i * co b k) * 2 ^ (i + k)
/-- All products of coefficients. -/
def cout (a b : Nat) : Nat → Nat
  | 0 => 0
  | i + 1 => cin a b i (cout a b i) 8
/-- The modulus taken away, coefficient by coefficient. -/
def rin (s N : Nat) : Nat → Nat
  | 0 => N
  | k + 1 => rin s N k ^^^ co 285 k * 2 ^ (s + k)
/-- The remainder behind t rounds. -/
def rout (N : Nat) : Nat → Nat
  | 0 => N
  | t + 1 => rout N t ^^^ co (rout N t) (15 - t) * (285 * 2 ^ (7 - t))
theorem mod_bits : ∀ k, k < 9 → 285 % 2 ^ (k + 1) = (285 % 2 ^ k) ^^^ (co 285 k * 2 ^ k) := by decide
theorem rin_is (s N k : Nat) (hk : k ≤ 9) : rin s N k = N ^^^ (285 % 2 ^ k) * 2 ^ s := by
  induction k with
  | zero => simp [rin, Nat.mod_one]
  | succ k ih =>
    rw [rin, ih (by omega), mod_bits k (by omega), mul_pow_xor, Nat.xor_assoc, Nat.mul_assoc, ← Nat.pow_add, Nat.add_comm k s]
theorem rin_9 (s N : Nat) : rin s N 9 = N ^^^ 285 * 2 ^ s := rin_is s N 9 (by omega)
theorem cinL (a a' b i N M k : Nat) : cin (a ^^^ a') b i (N ^^^ M) k = cin a b i N k ^^^ cin a' b i M k := by
  induction k with
  | zero => rfl
  | succ k ih =>
    simp only [cin]
    rw [ih, co_xor, bit_times_xor _ _ _ (co_lt a i) (co_lt a' i), mul_pow_xor, xor_four]
theorem cinR (a b b' i N M k : Nat) : cin a (b ^^^ b') i (N ^^^ M) k = cin a b i N k ^^^ cin a b' i M k := by
  induction k with
  | zero => rfl
  | succ k ih =>
    simp only [cin]
    rw [ih, co_xor, Nat.mul_comm (co a i), bit_times_xor _ _ _ (co_lt b k) (co_lt b' k), Nat.mul_comm _ (co a i), Nat.mul_comm _ (co a i), mul_pow_xor, xor_four]
theorem coutL (a a' b i : Nat) : cout (a ^^^ a') b i = cout a b i ^^^ cout a' b i := by
  induction i with
  | zero => simp [cout]
  | succ i ih => simp only [cout]; rw [ih, cinL]
theorem coutR (a b b' i : Nat) : cout a (b ^^^ b') i = cout a b i ^^^ cout a b' i := by
  induction i with
  | zero => simp [cout]
  | succ i ih => simp only [cout]; rw [ih, cinR]
theorem rout_xor (N M t : Nat) : rout (N ^^^ M) t = rout N t ^^^ rout M t := by
  induction t with
  | zero => rfl
  | succ t ih => simp only [rout]; rw [ih, co_xor, bit_times_xor _ _ _ (co_lt _ _) (co_lt _ _), xor_four]
/-- The document's product. -/
def dm (a b : Nat) : Nat := rout (cout a b 8) 8 % 256
theorem mod_xor (a b : Nat) : (a ^^^ b) % 256 = (a % 256) ^^^ (b % 256) := Nat.xor_mod_two_pow (a := a) (b := b) (n := 8)
theorem dmL (a a' b : Nat) : dm (a ^^^ a') b = dm a b ^^^ dm a' b := by unfold dm; rw [coutL, rout_xor, mod_xor]
theorem dmR (a b b' : Nat) : dm a (b ^^^ b') = dm a b ^^^ dm a b' := by unfold dm; rw [coutR, rout_xor, mod_xor]
theorem dm_bits : ∀ i, i < 8 → ∀ j, j < 8 → dm (2 ^ i) (2 ^ j) = gm (2 ^ i) (2 ^ j) := by decide +kernel
theorem dm_gm (a b : Nat) (ha : a < 256) (hb : b < 256) : dm a b = gm a b := by
  refine lin_ext (fun a => dm a b) (fun a => gm a b) (fun x y => dmL x y b) (fun x y => gm_xorL x y b) (fun i hi => ?_) a ha
  exact lin_ext (fun b => dm (2 ^ i) b) (fun b => gm (2 ^ i) b) (fun x y => dmR _ x y) (fun x y => gm_xorR _ x y) (fun j hj => dm_bits i hi j hj) b hb

/-- The row of coefficients, as values. -/
def rowOf (N : Nat) : List Value := (List.range 16).map fun j => .int .i64 (co N j : Int)
theorem rowOf_length (N : Nat) : (rowOf N).length = 16 := by simp [rowOf]
theorem rowOf_get (N j : Nat) (h : j < 16) : (rowOf N)[j]? = some (.int .i64 (co N j : Int)) := by simp [rowOf, h]
theorem rowOf_set (N j b : Nat) (hb : b < 2) : (rowOf N).set j (.int .i64 (((co N j + b) % 2 : Nat) : Int)) = rowOf (N ^^^ b * 2 ^ j) := by
  unfold rowOf
  apply List.ext_getElem
  · simp
  · intro i h1 h2
    simp only [List.length_set, List.length_map, List.length_range] at h1
    rw [List.getElem_set, List.getElem_map, List.getElem_map, List.getElem_range]
    rw [co_xor, co_pow b j i hb]
    by_cases e : j = i
    · subst e; rw [if_pos rfl, if_pos rfl, xor_bit _ _ (co_lt N j) hb]
    · rw [if_neg e, if_neg (by omega), Nat.xor_zero]
theorem rowOf_zero : rowOf 0 = List.replicate 16 (.int .i64 0) := by
  unfold rowOf; exact List.eq_replicate_iff.2 ⟨by simp, by simp [co]⟩
end Go.Proofs.Ythcbnffhkbbkpaa
