/- Numbers of texts, the lowest byte first, and texts of numbers; words and parts of such numbers; no Go text is named here. -/
import Derived.Test.YtnpebabffnjmmaaPoMath
import Derived.Test.YtnpebabffnjmmaaCut
namespace Go.Proofs.Ytnpebabffnjmmaa
open Go.RowKit Go.PlainAid
set_option linter.unusedVariables false

/-- The bytes of a text, as natural numbers. -/
def bn (s : ByteArray) (i : Nat) : Nat := (bt s i).toNat
theorem bn_lt (s : ByteArray) (i : Nat) : bn s i < 2 ^ 8 := by
  have := bt_nonneg s i
  have := bt_le s i
  unfold bn
  show _ < 256
  omega
theorem bn_int (s : ByteArray) (i : Nat) : ((bn s i : Nat) : Int) = bt s i := by
  have := bt_nonneg s i
  unfold bn; omega
/-- The number of a text. -/
def nt (s : ByteArray) : Nat := num 8 (bn s) s.size
theorem nt_lt (s : ByteArray) : nt s < 2 ^ (8 * s.size) := num_lt 8 _ _ fun i _ => bn_lt s i
theorem bt_out (s : ByteArray) (i : Nat) (h : s.size ≤ i) : bt s i = 0 := by
  unfold bt; rw [dif_neg (by omega)]
theorem dg_nt (s : ByteArray) (i : Nat) : dg 8 (nt s) i = bn s i := by
  rw [nt, dg_num 8 _ _ _ fun j _ => bn_lt s j]
  split
  · rfl
  · rename_i h
    unfold bn; rw [bt_out s i (by omega)]; rfl
/-- The text of the n lowest bytes of a number. -/
def leL (N n : Nat) : List Int := (List.range n).map fun i => ((dg 8 N i : Nat) : Int)
def leB (N n : Nat) : ByteArray := strOfNums (leL N n)
theorem leB_size (N n : Nat) : (leB N n).size = n := by simp [leB, leL, strOfNums_size]
theorem leL_range (N n : Nat) : ∀ x ∈ leL N n, 0 ≤ x ∧ x ≤ 255 := by
  intro x hx
  obtain ⟨i, _, rfl⟩ := List.mem_map.1 hx
  have := dg_lt 8 N i
  have e : (2 : Nat) ^ 8 = 256 := rfl
  omega
theorem bt_leB (N n i : Nat) (h : i < n) : bt (leB N n) i = ((dg 8 N i : Nat) : Int) := by
  unfold leB
  rw [bt_str _ (leL_range N n) i (by simpa [leL] using h)]
  simp [leL]
theorem bn_leB (N n i : Nat) (h : i < n) : bn (leB N n) i = dg 8 N i := by
  unfold bn; rw [bt_leB N n i h]; simp
theorem nt_leB (N n : Nat) : nt (leB N n) = N % 2 ^ (8 * n) := by
  rw [nt, leB_size, num_congr 8 _ (dg 8 N) n (fun i hi => bn_leB N n i hi), num_dg]
theorem leB_nt (s : ByteArray) : leB (nt s) s.size = s := by
  apply bt_ext
  · rw [leB_size]
  · intro i hi
    rw [leB_size] at hi
    rw [bt_leB _ _ i hi, dg_nt, bn_int]
theorem leB_congr (N M n : Nat) (h : N % 2 ^ (8 * n) = M % 2 ^ (8 * n)) : leB N n = leB M n := by
  apply bt_ext
  · rw [leB_size, leB_size]
  · intro i hi
    rw [leB_size] at hi
    have e : ∀ X : Nat, dg 8 X i = dg 8 (X % 2 ^ (8 * n)) i := by
      intro X
      apply Nat.eq_of_testBit_eq
      intro b
      rw [dg_test, dg_test, Nat.testBit_mod_two_pow]
      by_cases h : b < 8
      · rw [show decide (8 * i + b < 8 * n) = true by simp; omega]; simp
      · simp [h]
    rw [bt_leB _ _ i hi, bt_leB _ _ i hi, e N, e M, h]

/-! Words of four bytes. -/
theorem word_dg (N j : Nat) : le4 ((dg 8 N (j * 4) : Nat) : Int) ((dg 8 N (j * 4 + 1) : Nat) : Int) ((dg 8 N (j * 4 + 2) : Nat) : Int) ((dg 8 N (j * 4 + 3) : Nat) : Int) = ((dg 32 N j : Nat) : Int) := by
  have s0 : N / 2 ^ (8 * (j * 4)) = dg 8 N (j * 4) + 2 ^ 8 * (N / 2 ^ (8 * (j * 4 + 1))) := dg_step 8 N (j * 4)
  have s1 : N / 2 ^ (8 * (j * 4 + 1)) = dg 8 N (j * 4 + 1) + 2 ^ 8 * (N / 2 ^ (8 * (j * 4 + 2))) := dg_step 8 N (j * 4 + 1)
  have s2 : N / 2 ^ (8 * (j * 4 + 2)) = dg 8 N (j * 4 + 2) + 2 ^ 8 * (N / 2 ^ (8 * (j * 4 + 3))) := dg_step 8 N (j * 4 + 2)
  have s3 : N / 2 ^ (8 * (j * 4 + 3)) = dg 8 N (j * 4 + 3) + 2 ^ 8 * (N / 2 ^ (8 * (j * 4 + 4))) := dg_step 8 N (j * 4 + 3)
  have l0 := dg_lt 8 N (j * 4)
  have l1 := dg_lt 8 N (j * 4 + 1)
  have l2 := dg_lt 8 N (j * 4 + 2)
  have l3 := dg_lt 8 N (j * 4 + 3)
  have e : dg 32 N j = N / 2 ^ (8 * (j * 4)) % 2 ^ 32 := by rw [dg, show 32 * j = 8 * (j * 4) by omega]
  rw [e]
  unfold le4
  simp only [show (2 : Nat) ^ 8 = 256 from rfl, show (2 : Nat) ^ 32 = 4294967296 from rfl] at *
  generalize N / 2 ^ (8 * (j * 4)) = X at *
  omega
/-- The byte i of words that are a number's. -/
theorem four_dg (N j : Nat) : four ((dg 32 N j : Nat) : Int) = [((dg 8 N (4 * j) : Nat) : Int), ((dg 8 N (4 * j + 1) : Nat) : Int), ((dg 8 N (4 * j + 2) : Nat) : Int), ((dg 8 N (4 * j + 3) : Nat) : Int)] := by
  have h := word_dg N j
  rw [Nat.mul_comm j 4] at h
  have l0 := dg_lt 8 N (4 * j)
  have l1 := dg_lt 8 N (4 * j + 1)
  have l2 := dg_lt 8 N (4 * j + 2)
  have l3 := dg_lt 8 N (4 * j + 3)
  rw [← h]
  unfold le4 four
  simp only [show (2 : Nat) ^ 8 = 256 from rfl] at *
  generalize dg 8 N (4 * j) = a at *
  generalize dg 8 N (4 * j + 1) = b at *
  generalize dg 8 N (4 * j + 2) = c at *
  generalize dg 8 N (4 * j + 3) = d at *
  congr 1
  · omega
  congr 1
  · omega
  congr 1
  · omega
  congr 1
  · omega
theorem join_dg (N n : Nat) : joinF four (fun j => ((dg 32 N j : Nat) : Int)) n = leL N (4 * n) := by
  induction n with
  | zero => rfl
  | succ n ih =>
    rw [joinF_succ, ih, four_dg]
    unfold leL
    rw [show 4 * (n + 1) = 4 * n + 1 + 1 + 1 + 1 by omega, List.range_succ, List.range_succ, List.range_succ, List.range_succ]
    simp

/-! Parts of 26 bits out of words of 32 bits, and back. -/
theorem part_dg (N k q sh : Nat) (hq : 26 * k / 32 = q) (hs : 26 * k % 32 = sh) : ((dg 32 N q ||| dg 32 N (q + 1) * 2 ^ 32) / 2 ^ sh) % 2 ^ 26 = dg 26 N k := by
  apply Nat.eq_of_testBit_eq
  intro b
  have e : 26 * k = 32 * q + sh := by omega
  have hsl : sh < 32 := by omega
  rw [dg_test, Nat.testBit_mod_two_pow, Nat.testBit_div_two_pow, Nat.testBit_or, dg_test, Nat.mul_comm _ (2 ^ 32), Nat.testBit_two_pow_mul, dg_test]
  by_cases hb : b < 26
  · by_cases h2 : b + sh < 32
    · have h3 : ¬ (32 ≤ b + sh) := by omega
      simp only [hb, h2, h3, decide_true, decide_false, Bool.true_and, Bool.false_and, Bool.or_false]
      congr 1; omega
    · have h3 : 32 ≤ b + sh := by omega
      have h4 : b + sh - 32 < 32 := by omega
      simp only [hb, h2, h3, h4, decide_true, decide_false, Bool.true_and, Bool.false_and, Bool.false_or]
      congr 1; omega
  · simp [hb]
/-- The word j behind k parts. -/
def wd (N k j : Nat) : Nat := dg 32 (N % 2 ^ (26 * k)) j
theorem wd_test (N k j b : Nat) : (wd N k j).testBit b = (decide (b < 32) && (decide (32 * j + b < 26 * k) && N.testBit (32 * j + b))) := by
  rw [wd, dg_test, Nat.testBit_mod_two_pow]
theorem wd_other (N k j q : Nat) (hk : k < 5) (hq : 26 * k / 32 = q) (h1 : j ≠ q) (h2 : j ≠ q + 1) : wd N (k + 1) j = wd N k j := by
  apply Nat.eq_of_testBit_eq
  intro b
  rw [wd_test, wd_test]
  by_cases hb : b < 32
  · have h : 32 * j + b < 26 * (k + 1) ↔ 32 * j + b < 26 * k := by omega
    simp [hb, h]
  · simp [hb]
theorem wd_low (N k q sh : Nat) (hk : k < 5) (hq : 26 * k / 32 = q) (hs : 26 * k % 32 = sh) : wd N k q ||| dg 26 N k * 2 ^ sh % 2 ^ 32 = wd N (k + 1) q := by
  apply Nat.eq_of_testBit_eq
  intro b
  rw [Nat.testBit_or, wd_test, wd_test, Nat.testBit_mod_two_pow, Nat.mul_comm _ (2 ^ sh), Nat.testBit_two_pow_mul, dg_test]
  by_cases hb : b < 32
  · by_cases h1 : 32 * q + b < 26 * k
    · have h2 : 32 * q + b < 26 * (k + 1) := by omega
      have h3 : ¬ (sh ≤ b) := by omega
      simp [hb, h1, h2, h3]
    · have h3 : sh ≤ b := by omega
      by_cases h4 : b - sh < 26
      · have h2 : 32 * q + b < 26 * (k + 1) := by omega
        have e : 26 * k + (b - sh) = 32 * q + b := by omega
        simp [hb, h1, h2, h3, h4, e]
      · have h2 : ¬ (32 * q + b < 26 * (k + 1)) := by omega
        simp [hb, h1, h2, h3, h4]
  · simp [hb]
theorem wd_high (N k q sh : Nat) (hk : k < 5) (hq : 26 * k / 32 = q) (hs : 26 * k % 32 = sh) : wd N k (q + 1) ||| dg 26 N k * 2 ^ sh / 2 ^ 32 = wd N (k + 1) (q + 1) := by
  apply Nat.eq_of_testBit_eq
  intro b
  rw [Nat.testBit_or, wd_test, wd_test, Nat.testBit_div_two_pow, Nat.mul_comm _ (2 ^ sh), Nat.testBit_two_pow_mul, dg_test]
  have h1 : ¬ (32 * (q + 1) + b < 26 * k) := by omega
  have h3 : sh ≤ b + 32 := by omega
  by_cases h4 : b + 32 - sh < 26
  · have h2 : 32 * (q + 1) + b < 26 * (k + 1) := by omega
    have hb : b < 32 := by omega
    have e : 26 * k + (b + 32 - sh) = 32 * (q + 1) + b := by omega
    simp [hb, h1, h2, h3, h4, e]
  · have h2 : ¬ (32 * (q + 1) + b < 26 * (k + 1)) := by omega
    simp [h1, h2, h3, h4]
theorem wd_zero (N j : Nat) : wd N 0 j = 0 := by simp [wd, Nat.mod_one, dg_zero]
theorem wd_all (N j : Nat) (h : N < 2 ^ 130) : wd N 5 j = dg 32 N j := by rw [wd, Nat.mod_eq_of_lt (by simpa using h)]
theorem wd_lt (N k j : Nat) : wd N k j < 2 ^ 32 := dg_lt 32 _ _
end Go.Proofs.Ytnpebabffnjmmaa
