/- What the document's own combination of two texts answers, for every two texts: bit by bit it is the exclusive or of the bytes. -/
import Derived.Test.YtikhhijbabllfaaXor
import Derived.Deep.QuietTactic
import Derived.BigQuiet
namespace Go.Proofs.Ytikhhijbabllfaa
open Go.RowKit Go.PlainAid
set_option linter.unusedVariables false

/-- What has been gathered behind k rounds. -/
def ulN (a b : Int) : Nat → Int
  | 0 => 0
  | k + 1 => if (a / 2 ^ k) % 2 = (b / 2 ^ k) % 2 then ulN a b k else (ulN a b k + 2 ^ k % 256) % 256

theorem ulN_nat (A B k : Nat) (hk : k ≤ 8) : ulN (A : Int) (B : Int) k = (((A ^^^ B) % 2 ^ k : Nat) : Int) := by
  induction k with
  | zero => simp [ulN, Nat.mod_one]
  | succ k ih =>
    have ih := ih (by omega)
    have hlt : (A ^^^ B) % 2 ^ k < 2 ^ k := Nat.mod_lt _ (Nat.pow_pos (by omega))
    have hz := Nat.mod_pow_succ (x := A ^^^ B) (b := 2) (k := k)
    have hx : (A ^^^ B) / 2 ^ k % 2 = (A / 2 ^ k + B / 2 ^ k) % 2 := by
      rw [Nat.xor_div_two_pow]
      have := Nat.xor_mod_two_eq_one (a := A / 2 ^ k) (b := B / 2 ^ k)
      omega
    have hp : 2 ^ k ≤ 128 := Nat.pow_le_pow_right (n := 2) (by omega) (show k ≤ 7 by omega)
    have e1 : ((A : Int) / 2 ^ k) % 2 = ((A / 2 ^ k % 2 : Nat) : Int) := by simp
    have e2 : ((B : Int) / 2 ^ k) % 2 = ((B / 2 ^ k % 2 : Nat) : Int) := by simp
    have e3 : (2 : Int) ^ k = ((2 ^ k : Nat) : Int) := by simp
    unfold ulN
    rw [ih, e1, e2, e3, hz, hx]
    split
    · rename_i h
      have : (A / 2 ^ k + B / 2 ^ k) % 2 = 0 := by omega
      rw [this]; simp
    · rename_i h
      have : (A / 2 ^ k + B / 2 ^ k) % 2 = 1 := by omega
      rw [this]; omega

theorem ulN_range (a b : Int) (k : Nat) : 0 ≤ ulN a b k ∧ ulN a b k ≤ 255 := by
  induction k with
  | zero => simp [ulN]
  | succ k ih => unfold ulN; split <;> omega

theorem ulN_xor (a b : Int) (h1 : 0 ≤ a) (h2 : a ≤ 255) (h3 : 0 ≤ b) (h4 : b ≤ 255) : ulN a b 8 = bits .xor .u8 a b := by
  rw [u8_xor a b h1 (by omega) h3 (by omega)]
  obtain ⟨A, rfl⟩ := Int.eq_ofNat_of_zero_le h1
  obtain ⟨B, rfl⟩ := Int.eq_ofNat_of_zero_le h3
  rw [ulN_nat A B 8 (by omega)]
  have hx : A ^^^ B < 2 ^ 8 := Nat.xor_lt_two_pow (by omega) (by omega)
  rw [Nat.mod_eq_of_lt hx]
  simp

theorem half_on (a : Int) (k : Nat) : a / 2 ^ k / 2 = a / 2 ^ (k + 1) := by
  rw [Int.ediv_ediv_of_nonneg (by exact Int.pow_nonneg (by omega)), ← Int.pow_succ]
theorem pow_on (k : Nat) : 2 * ((2 : Int) ^ k % 256) % 256 = 2 ^ (k + 1) % 256 := by
  rw [Int.pow_succ]; omega
theorem pow_range (k : Nat) : 0 ≤ (2 : Int) ^ k % 256 ∧ (2 : Int) ^ k % 256 ≤ 255 := by omega
theorem div_range (a : Int) (k : Nat) (h1 : 0 ≤ a) (h2 : a ≤ 255) : 0 ≤ a / 2 ^ k ∧ a / 2 ^ k ≤ 255 := by
  obtain ⟨A, rfl⟩ := Int.eq_ofNat_of_zero_le h1
  have e1 : ((A : Int) / 2 ^ k) = ((A / 2 ^ k : Nat) : Int) := by simp
  have : A / 2 ^ k ≤ A := Nat.div_le_self _ _
  rw [e1]
  generalize A / 2 ^ k = q at this
  omega

/-- Bytes that the call itself gathered, as a text. -/
theorem convert_owned {w : World} {base : Nat} {v : Value} {n : Nat} {xs : List Int} (h : w.ownsRow base 5 1 v n (xs.map (Value.int .u8))) (hn : xs.length = n) :
    (convert 39 9 v).run Try.prog w = .ok (.string (strOfNums xs)) w := by
  have hc := h
  rcases h.2 with ⟨rfl, h0⟩ | ⟨g, cap, cur, rfl, hb, hg, _⟩
  · have : xs = [] := List.eq_nil_of_length_eq_zero (by omega)
    subst this
    rw [run_convert_bytes_nil w 39 5 Try.underlying39 Try.underlying5 0 0 9 Try.underlying9]
    rfl
  · refine run_convert_bytes_arg w 39 5 Try.underlying39 Try.underlying5 g 0 n cap xs hn (fun i hi => ?_) 9 Try.underlying9
    rw [Nat.zero_add, hc.cellAt i (by omega)]
    have : i < xs.length := by omega
    simp [List.getD, this]

def xorF (a b : ByteArray) (k : Nat) : List Int := (List.range k).map fun i => bits .xor .u8 (bt a i) (bt b i)
theorem xorF_succ (a b : ByteArray) (k : Nat) : xorF a b (k + 1) = xorF a b k ++ [bits .xor .u8 (bt a k) (bt b k)] := by
  unfold xorF; rw [List.range_succ, List.map_append]; rfl
theorem xorF_length (a b : ByteArray) (k : Nat) : (xorF a b k).length = k := by simp [xorF]

end Go.Proofs.Ytikhhijbabllfaa
