/- What the Go functions that read words out of a text answer, for every text. -/
import Derived.Test.YtnfdpcinifppcaaXor
import Derived.Deep.QuietTactic
import Derived.BigQuiet
import Derived.Deep.RegionWith
import Derived.Deep.RegionHeld3
namespace Go.Proofs.Ytnfdpcinifppcaa
open Go.RowKit Go.PlainAid
set_option linter.unusedVariables false

/-- A word of four bytes, the lowest first; the highest first. -/
def le4 (a b c d : Int) : Int := a + 256 * b + 65536 * c + 16777216 * d
def be4 (a b c d : Int) : Int := le4 d c b a

/-- The or of parts that share no bit is their sum. -/
theorem or_high (k : Nat) (K lo m : Int) (hK : K = 2 ^ k) (h0 : 0 ≤ lo) (h1 : lo < K) (h2 : 0 ≤ m) (h3 : m * K + lo < 4294967296) :
    bits .or .u32 lo (m * K) = lo + m * K := by
  obtain ⟨L, rfl⟩ := Int.eq_ofNat_of_zero_le h0
  obtain ⟨M, rfl⟩ := Int.eq_ofNat_of_zero_le h2
  have e : (M : Int) * K = ((2 ^ k * M : Nat) : Int) := by rw [hK]; simp [Int.mul_comm]
  have hL : L < 2 ^ k := by
    have : (L : Int) < ((2 ^ k : Nat) : Int) := by rw [hK] at h1; simpa using h1
    omega
  rw [e] at h3 ⊢
  rw [u32_or_nat L (2 ^ k * M) (by omega) (by omega), Nat.or_comm, ← Nat.two_pow_add_eq_or_of_lt hL]
  omega
theorem or_low (k : Nat) (K lo m : Int) (hK : K = 2 ^ k) (h0 : 0 ≤ lo) (h1 : lo < K) (h2 : 0 ≤ m) (h3 : m * K + lo < 4294967296) :
    bits .or .u32 (m * K) lo = lo + m * K := by
  obtain ⟨L, rfl⟩ := Int.eq_ofNat_of_zero_le h0
  obtain ⟨M, rfl⟩ := Int.eq_ofNat_of_zero_le h2
  have e : (M : Int) * K = ((2 ^ k * M : Nat) : Int) := by rw [hK]; simp [Int.mul_comm]
  have hL : L < 2 ^ k := by
    have : (L : Int) < ((2 ^ k : Nat) : Int) := by rw [hK] at h1; simpa using h1
    omega
  rw [e] at h3 ⊢
  rw [u32_or_nat (2 ^ k * M) L (by omega) (by omega), ← Nat.two_pow_add_eq_or_of_lt hL]
  omega

theorem le4_or (a b c d : Int) (ha : 0 ≤ a ∧ a ≤ 255) (hb : 0 ≤ b ∧ b ≤ 255) (hc : 0 ≤ c ∧ c ≤ 255) (hd : 0 ≤ d ∧ d ≤ 255) :
    bits .or .u32 (bits .or .u32 (bits .or .u32 a (b * 256)) (c * 65536)) (d * 16777216) = le4 a b c d := by
  rw [or_high 8 256 a b (by decide) (by omega) (by omega) (by omega) (by omega),
    or_high 16 65536 _ c (by decide) (by omega) (by omega) (by omega) (by omega),
    or_high 24 16777216 _ d (by decide) (by omega) (by omega) (by omega) (by omega)]
  unfold le4; omega
theorem be4_or (a b c d : Int) (ha : 0 ≤ a ∧ a ≤ 255) (hb : 0 ≤ b ∧ b ≤ 255) (hc : 0 ≤ c ∧ c ≤ 255) (hd : 0 ≤ d ∧ d ≤ 255) :
    bits .or .u32 (bits .or .u32 (bits .or .u32 (a * 16777216) (b * 65536)) (c * 256)) d = be4 a b c d := by
  have e1 : bits .or .u32 (a * 16777216) (b * 65536) = (a * 256 + b) * 65536 := by
    rw [or_low 24 16777216 _ a (by decide) (by omega) (by omega) (by omega) (by omega)]; omega
  have e2 : bits .or .u32 ((a * 256 + b) * 65536) (c * 256) = (a * 65536 + b * 256 + c) * 256 := by
    rw [or_low 16 65536 _ _ (by decide) (by omega) (by omega) (by omega) (by omega)]; omega
  rw [e1, e2, or_low 8 256 _ _ (by decide) (by omega) (by omega) (by omega) (by omega)]
  unfold be4 le4; omega

theorem bt_range (s : ByteArray) (i : Nat) : 0 ≤ bt s i ∧ bt s i ≤ 255 := ⟨bt_nonneg s i, bt_le s i⟩

/-- What the call owns stays owned behind a callee that turned nothing that was there. -/
theorem owns_below {w w' : World} {base : Nat} {e : TypeId} {size : Nat} {v : Value} {n : Nat} {xs : List Value} (h : w.ownsRow base e size v n xs) (hb : Below w.heap.size w w') : w'.ownsRow base e size v n xs :=
  h.kept (row := none) ⟨hb.os, hb.tape, hb.output, hb.size, fun k hk _ => hb.block k hk⟩ (by
    cases hv : v.ownBlock with
    | none => exact .inl rfl
    | some g => exact .inr (by simp))

/-- The words of a text, each of four bytes by f. -/
def wordsL (f : Int → Int → Int → Int → Int) (s : ByteArray) (i : Nat) : Int := f (bt s (i * 4)) (bt s (i * 4 + 1)) (bt s (i * 4 + 2)) (bt s (i * 4 + 3))

theorem Try.info55 : (Try.prog.info? 55).map (fun i => (i.zero, i.size, i.bytes)) = some (some (.int .u32 0), 1, 4) := by kernel_rfl

end Go.Proofs.Ytnfdpcinifppcaa
