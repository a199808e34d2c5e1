/- Numbers that are used once: their bytes, and what is read of such bytes; no Go function is walked here. -/
import Derived.Test.YtikhhijbabllfaaCdPlain
import Derived.Test.YtikhhijbabllfaaCdCat
namespace Go.Proofs.Ytikhhijbabllfaa
open Go.RowKit Go.PlainAid
set_option linter.unusedVariables false

/-- The number of four bytes. -/
def rd4 (s : ByteArray) (p : Nat) : Int := acc s (fun k => p + k) 4
/-- The bytes of an epoch and a number. -/
def nonB (e n : Int) : ByteArray := numB e ++ strOfNums (fourB n)
/-- What Next tells, its error, and the next number then. -/
def nxT (e n : Int) : ByteArray := if n = 4294967296 then noB else nonB e n
def nxE (n : Int) : Int := if n = 4294967296 then 25 else 0
def nxN (n : Int) : Int := if n = 4294967296 then n else n + 1
/-- May an epoch be? What Read tells. -/
def mayE (e : Int) : Bool := decide (e ≠ 0) && decide (e ≤ 4294967295)
def nrE (s : ByteArray) : Int := if s.size = 12 then (if mayE (rd8 s 0) then 0 else 2) else 7
def nrP (s : ByteArray) : Int := if nrE s = 0 then rd8 s 0 else 0
def nrQ (s : ByteArray) : Int := if nrE s = 0 then rd4 s 8 else 0

theorem nxT_ok (e : Int) {n : Int} (h : n < 4294967296) : nxT e n = nonB e n := if_neg (by omega)
theorem nxE_ok {n : Int} (h : n < 4294967296) : nxE n = 0 := if_neg (by omega)
theorem nxN_ok {n : Int} (h : n < 4294967296) : nxN n = n + 1 := if_neg (by omega)
theorem nxN_range {n : Int} (h0 : 0 ≤ n) (h1 : n ≤ 4294967296) : 0 ≤ nxN n ∧ nxN n ≤ 4294967296 := by unfold nxN; split <;> omega
theorem mayE_iff (e : Int) : mayE e = true ↔ (e ≠ 0 ∧ e ≤ 4294967295) := by unfold mayE; rw [Bool.and_eq_true, decide_eq_true_eq, decide_eq_true_eq]
theorem rd4_range (s : ByteArray) (p : Nat) : 0 ≤ rd4 s p ∧ rd4 s p < 4294967296 := by
  have h0 := bt_range s (p + 0)
  have h1 := bt_range s (p + 1)
  have h2 := bt_range s (p + 2)
  have h3 := bt_range s (p + 3)
  simp only [rd4, acc]; omega
theorem rd4_congr {s t : ByteArray} {p q : Nat} (h : ∀ i, i < 4 → bt s (p + i) = bt t (q + i)) : rd4 s p = rd4 t q := by
  have h0 := h 0 (by omega)
  have h1 := h 1 (by omega)
  have h2 := h 2 (by omega)
  have h3 := h 3 (by omega)
  simp only [rd4, acc]; rw [h0, h1, h2, h3]
theorem rd4_words (s : ByteArray) : wordsL be4 s 0 = rd4 s 0 := by
  simp only [rd4, acc, wordsL, be4, le4, Nat.zero_mul, Nat.zero_add]; omega
theorem four_range (n : Int) (h0 : 0 ≤ n) (h1 : n < 4294967296) : ∀ x ∈ fourB n, 0 ≤ x ∧ x ≤ 255 := by
  intro x hx
  simp only [fourB, List.mem_cons, List.not_mem_nil, or_false] at hx
  rcases hx with rfl | rfl | rfl | rfl <;> omega
theorem nonB_size (e n : Int) : (nonB e n).size = 12 := by unfold nonB; rw [ByteArray.size_append, numB_size, strOfNums_size]; rfl
theorem rd8_non (e n : Int) (h0 : 0 ≤ e) (h1 : e ≤ 18446744073709551615) : rd8 (nonB e n) 0 = e := rd8_left e h0 h1 _
theorem rd4_non (e n : Int) (h0 : 0 ≤ n) (h1 : n < 4294967296) : rd4 (nonB e n) 8 = n := by
  have hr : rd4 (nonB e n) 8 = rd4 (strOfNums (fourB n)) 0 := rd4_congr fun i hi => by
    unfold nonB
    rw [bt_right _ _ _ (by rw [numB_size]; omega), numB_size]
    congr 1; omega
  rw [hr]
  simp only [rd4, acc, Nat.zero_add]
  rw [bt_str _ (four_range n h0 h1) 0 (show 0 < 4 by decide), bt_str _ (four_range n h0 h1) 1 (show 1 < 4 by decide), bt_str _ (four_range n h0 h1) 2 (show 2 < 4 by decide), bt_str _ (four_range n h0 h1) 3 (show 3 < 4 by decide)]
  simp only [fourB, List.getElem_cons_zero, List.getElem_cons_succ]
  omega
theorem nr_non {e n : Int} (h0 : 1 ≤ e) (h1 : e ≤ 4294967295) (h2 : 0 ≤ n) (h3 : n < 4294967296) : nrE (nonB e n) = 0 ∧ nrP (nonB e n) = e ∧ nrQ (nonB e n) = n := by
  have e1 : nrE (nonB e n) = 0 := by
    unfold nrE
    rw [if_pos (nonB_size e n), rd8_non e n (by omega) (by omega), if_pos ((mayE_iff e).2 ⟨by omega, h1⟩)]
  exact ⟨e1, (if_pos e1).trans (rd8_non e n (by omega) (by omega)), (if_pos e1).trans (rd4_non e n h2 h3)⟩
theorem nonB_inj {e n f m : Int} (h0 : 0 ≤ e) (h1 : e ≤ 4294967295) (h2 : 0 ≤ f) (h3 : f ≤ 4294967295) (h4 : 0 ≤ n) (h5 : n < 4294967296) (h6 : 0 ≤ m) (h7 : m < 4294967296) (h : nonB e n = nonB f m) : e = f ∧ n = m :=
  ⟨by rw [← rd8_non e n h0 (by omega), h, rd8_non f m h2 (by omega)], by rw [← rd4_non e n h4 h5, h, rd4_non f m h6 h7]⟩
theorem nrE_shape {s : ByteArray} (h : s.size ≠ 12) : nrE s = 7 := if_neg h
theorem nrE_arg {s : ByteArray} (h : s.size = 12) (h' : mayE (rd8 s 0) = false) : nrE s = 2 := by unfold nrE; rw [if_pos h, h']; rfl
theorem nrE_ok {s : ByteArray} (h : s.size = 12) (h' : mayE (rd8 s 0) = true) : nrE s = 0 := by unfold nrE; rw [if_pos h, h']; rfl
theorem nr_bad {s : ByteArray} (h : nrE s ≠ 0) : nrP s = 0 ∧ nrQ s = 0 := ⟨if_neg h, if_neg h⟩
theorem nr_good {s : ByteArray} (h : nrE s = 0) : nrP s = rd8 s 0 ∧ nrQ s = rd4 s 8 := ⟨if_pos h, if_pos h⟩
theorem nr_range (s : ByteArray) : 0 ≤ nrP s ∧ nrP s ≤ 4294967295 ∧ 0 ≤ nrQ s ∧ nrQ s < 4294967296 := by
  by_cases h : nrE s = 0
  · obtain ⟨e1, e2⟩ := nr_good h
    rw [e1, e2]
    have h1 : mayE (rd8 s 0) = true := by
      unfold nrE at h
      split at h
      · split at h
        · assumption
        · omega
      · omega
    have h2 := (mayE_iff _).1 h1
    have h3 := rd8_range s 0
    have h4 := rd4_range s 8
    omega
  · obtain ⟨e1, e2⟩ := nr_bad h
    rw [e1, e2]; omega
end Go.Proofs.Ytikhhijbabllfaa
