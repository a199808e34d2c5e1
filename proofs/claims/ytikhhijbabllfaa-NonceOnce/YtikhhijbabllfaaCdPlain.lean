/- Numbers as eight bytes, texts with their lengths ahead, and what a reader has of a text; no Go function is walked here. -/
import Derived.Test.YtikhhijbabllfaaCut
import Derived.Test.YtikhhijbabllfaaKept
namespace Go.Proofs.Ytikhhijbabllfaa
open Go.RowKit Go.PlainAid
set_option linter.unusedVariables false

/-- The two words of a number, the higher one first. -/
def hiW (n : Int) (i : Nat) : Int := if i = 0 then n / 4294967296 else n % 4294967296
/-- A number as eight bytes; a text, its length ahead. -/
def numB (n : Int) : ByteArray := strOfNums (joinF fourB (hiW n) 2)
def ctxB (s : ByteArray) : ByteArray := numB (s.size : Int) ++ s
/-- The number that eight bytes are. -/
def rd8 (s : ByteArray) (p : Nat) : Int := acc s (fun k => p + k) 8

set_option maxRecDepth 20000 in
theorem numB_size (n : Int) : (numB n).size = 8 := by unfold numB; rw [strOfNums_size, joinF_length fourB (fun _ => rfl)]
set_option maxRecDepth 20000 in
theorem ctxB_size (s : ByteArray) : (ctxB s).size = 8 + s.size := by unfold ctxB; rw [ByteArray.size_append, numB_size]
set_option maxRecDepth 20000 in
theorem rd8_range (s : ByteArray) (p : Nat) : 0 ≤ rd8 s p ∧ rd8 s p ≤ 18446744073709551615 := by
  have h0 := bt_range s (p + 0)
  have h1 := bt_range s (p + 1)
  have h2 := bt_range s (p + 2)
  have h3 := bt_range s (p + 3)
  have h4 := bt_range s (p + 4)
  have h5 := bt_range s (p + 5)
  have h6 := bt_range s (p + 6)
  have h7 := bt_range s (p + 7)
  simp only [rd8, acc]; omega
set_option maxRecDepth 20000 in
theorem rd8_congr {s t : ByteArray} {p q : Nat} (h : ∀ i, i < 8 → bt s (p + i) = bt t (q + i)) : rd8 s p = rd8 t q := by
  have h0 := h 0 (by omega)
  have h1 := h 1 (by omega)
  have h2 := h 2 (by omega)
  have h3 := h 3 (by omega)
  have h4 := h 4 (by omega)
  have h5 := h 5 (by omega)
  have h6 := h 6 (by omega)
  have h7 := h 7 (by omega)
  simp only [rd8, acc]; rw [h0, h1, h2, h3, h4, h5, h6, h7]
set_option maxRecDepth 20000 in
theorem rd8_words (s : ByteArray) : rd8 s 0 = wordsL be4 s 0 * 4294967296 + wordsL be4 s 1 := by
  simp only [rd8, acc, wordsL, be4, le4, Nat.zero_add, Nat.zero_mul, Nat.one_mul, Nat.add_zero, show 4 + 1 = 5 from rfl, show 4 + 2 = 6 from rfl, show 4 + 3 = 7 from rfl]
  omega
set_option maxRecDepth 20000 in
theorem eight_is (n : Int) : joinF fourB (hiW n) 2 = [n / 4294967296 / 16777216, n / 4294967296 / 65536 % 256, n / 4294967296 / 256 % 256, n / 4294967296 % 256, n % 4294967296 / 16777216, n % 4294967296 / 65536 % 256, n % 4294967296 / 256 % 256, n % 4294967296 % 256] := rfl
set_option maxRecDepth 20000 in
theorem eight_range (n : Int) (h0 : 0 ≤ n) (h1 : n ≤ 18446744073709551615) : ∀ x ∈ joinF fourB (hiW n) 2, 0 ≤ x ∧ x ≤ 255 := by
  rw [eight_is]
  intro x hx
  simp only [List.mem_cons, List.not_mem_nil, or_false] at hx
  rcases hx with rfl | rfl | rfl | rfl | rfl | rfl | rfl | rfl <;> omega
set_option maxRecDepth 20000 in
theorem numB_bt (n : Int) (h0 : 0 ≤ n) (h1 : n ≤ 18446744073709551615) (i : Nat) (hi : i < 8) : bt (numB n) i = ([n / 4294967296 / 16777216, n / 4294967296 / 65536 % 256, n / 4294967296 / 256 % 256, n / 4294967296 % 256, n % 4294967296 / 16777216, n % 4294967296 / 65536 % 256, n % 4294967296 / 256 % 256, n % 4294967296 % 256] : List Int)[i]'hi := by
  unfold numB
  exact bt_str _ (eight_range n h0 h1) i hi
set_option maxRecDepth 20000 in
theorem rd8_num (n : Int) (h0 : 0 ≤ n) (h1 : n ≤ 18446744073709551615) : rd8 (numB n) 0 = n := by
  simp only [rd8, acc, Nat.zero_add]
  rw [numB_bt n h0 h1 0 (by omega), numB_bt n h0 h1 1 (by omega), numB_bt n h0 h1 2 (by omega), numB_bt n h0 h1 3 (by omega), numB_bt n h0 h1 4 (by omega), numB_bt n h0 h1 5 (by omega), numB_bt n h0 h1 6 (by omega), numB_bt n h0 h1 7 (by omega)]
  simp only [List.getElem_cons_zero, List.getElem_cons_succ]
  omega
set_option maxRecDepth 20000 in
theorem rd8_left (n : Int) (h0 : 0 ≤ n) (h1 : n ≤ 18446744073709551615) (X : ByteArray) : rd8 (numB n ++ X) 0 = n := by
  rw [← rd8_num n h0 h1]
  refine rd8_congr fun i hi => ?_
  rw [bt_left _ _ _ (by rw [numB_size]; omega), rd8_num n h0 h1]

/-- The next n bytes, of what is left and the error that was met; what is left then, and the error. -/
def tkT (L : ByteArray) (e n : Int) : ByteArray := if e = 0 ∧ n ≤ (L.size : Int) then L.extract 0 n.toNat else noB
def tkL (L : ByteArray) (e n : Int) : ByteArray := if e = 0 ∧ n ≤ (L.size : Int) then L.extract n.toNat L.size else L
def tkE (L : ByteArray) (e n : Int) : Int := if e = 0 ∧ (L.size : Int) < n then 3 else e
/-- The next number; what is left then, and the error. -/
def nmV (L : ByteArray) (e : Int) : Int := if e = 0 ∧ (8 : Int) ≤ (L.size : Int) then rd8 L 0 else 0
def nmL (L : ByteArray) (e : Int) : ByteArray := tkL L e 8
def nmE (L : ByteArray) (e : Int) : Int := tkE L e 8
/-- The next number below a bound, and the error. -/
def cblV (L : ByteArray) (e b : Int) : Int := if 1 ≤ b ∧ nmV L e < b then nmV L e else 0
def blE (L : ByteArray) (e b : Int) : Int := if (1 ≤ b ∧ nmV L e < b) ∨ nmE L e ≠ 0 then nmE L e else 4
/-- The next text; what is left then, and the error. -/
def txV (L : ByteArray) (e : Int) : ByteArray := tkT (nmL L e) (nmE L e) (nmV L e)
def txL (L : ByteArray) (e : Int) : ByteArray := tkL (nmL L e) (nmE L e) (nmV L e)
def txE (L : ByteArray) (e : Int) : Int := tkE (nmL L e) (nmE L e) (nmV L e)
/-- Was all right, and is nothing left? -/
def dnE (L : ByteArray) (e : Int) : Int := if e = 0 then (if L.size = 0 then 0 else 5) else e

set_option maxRecDepth 20000 in
theorem tkT_ok {L : ByteArray} {n : Int} (h : n ≤ (L.size : Int)) : tkT L 0 n = L.extract 0 n.toNat := if_pos ⟨rfl, h⟩
set_option maxRecDepth 20000 in
theorem tkL_ok {L : ByteArray} {n : Int} (h : n ≤ (L.size : Int)) : tkL L 0 n = L.extract n.toNat L.size := if_pos ⟨rfl, h⟩
set_option maxRecDepth 20000 in
theorem tkE_ok {L : ByteArray} {n : Int} (h : n ≤ (L.size : Int)) : tkE L 0 n = 0 := if_neg (by omega)
set_option maxRecDepth 20000 in
theorem tkT_short {L : ByteArray} {e n : Int} (h : (L.size : Int) < n) : tkT L e n = noB := if_neg (by omega)
set_option maxRecDepth 20000 in
theorem tkL_short {L : ByteArray} {e n : Int} (h : (L.size : Int) < n) : tkL L e n = L := if_neg (by omega)
set_option maxRecDepth 20000 in
theorem tkE_short {L : ByteArray} {n : Int} (h : (L.size : Int) < n) : tkE L 0 n = 3 := if_pos ⟨rfl, h⟩
set_option maxRecDepth 20000 in
theorem tkT_bad {L : ByteArray} {e n : Int} (h : e ≠ 0) : tkT L e n = noB := if_neg (by omega)
set_option maxRecDepth 20000 in
theorem tkL_bad {L : ByteArray} {e n : Int} (h : e ≠ 0) : tkL L e n = L := if_neg (by omega)
set_option maxRecDepth 20000 in
theorem tkE_bad {L : ByteArray} {e n : Int} (h : e ≠ 0) : tkE L e n = e := if_neg (by omega)
set_option maxRecDepth 20000 in
theorem nmV_ok {L : ByteArray} (h : 8 ≤ L.size) : nmV L 0 = rd8 L 0 := if_pos ⟨rfl, by omega⟩
set_option maxRecDepth 20000 in
theorem nmV_short {L : ByteArray} {e : Int} (h : L.size < 8) : nmV L e = 0 := if_neg (by omega)
set_option maxRecDepth 20000 in
theorem nmV_bad {L : ByteArray} {e : Int} (h : e ≠ 0) : nmV L e = 0 := if_neg (by omega)
set_option maxRecDepth 20000 in
theorem nmV_range (L : ByteArray) (e : Int) : 0 ≤ nmV L e ∧ nmV L e ≤ 18446744073709551615 := by
  unfold nmV; split
  · exact rd8_range L 0
  · omega
set_option maxRecDepth 20000 in
theorem tkL_size (L : ByteArray) (e n : Int) : (tkL L e n).size ≤ L.size := by
  unfold tkL; split
  · rw [ByteArray.size_extract]; omega
  · exact Nat.le_refl _
set_option maxRecDepth 20000 in
theorem nmL_size (L : ByteArray) (e : Int) : (nmL L e).size ≤ L.size := tkL_size L e 8
set_option maxRecDepth 20000 in
theorem txL_size (L : ByteArray) (e : Int) : (txL L e).size ≤ L.size := Nat.le_trans (tkL_size _ _ _) (nmL_size L e)
set_option maxRecDepth 20000 in
/-- Behind an error nothing is read. -/
theorem nmL_bad {L : ByteArray} {e : Int} (h : e ≠ 0) : nmL L e = L := tkL_bad h
set_option maxRecDepth 20000 in
theorem nmE_bad {L : ByteArray} {e : Int} (h : e ≠ 0) : nmE L e = e := tkE_bad h
set_option maxRecDepth 20000 in
theorem txV_bad {L : ByteArray} {e : Int} (h : e ≠ 0) : txV L e = noB := tkT_bad (by rw [nmE_bad h]; exact h)
set_option maxRecDepth 20000 in
theorem txL_bad {L : ByteArray} {e : Int} (h : e ≠ 0) : txL L e = L := by unfold txL; rw [nmE_bad h, nmL_bad h]; exact tkL_bad h
set_option maxRecDepth 20000 in
theorem txE_bad {L : ByteArray} {e : Int} (h : e ≠ 0) : txE L e = e := by unfold txE; rw [nmE_bad h]; exact tkE_bad h
set_option maxRecDepth 20000 in
theorem cblV_bad {L : ByteArray} {e b : Int} (h : e ≠ 0) : cblV L e b = 0 := by unfold cblV; rw [nmV_bad h]; exact ite_self _
set_option maxRecDepth 20000 in
theorem blE_bad {L : ByteArray} {e b : Int} (h : e ≠ 0) : blE L e b = e := by unfold blE; rw [nmE_bad h]; exact if_pos (.inr h)
set_option maxRecDepth 20000 in
/-- What was written is read. -/
theorem cut_behind (a X : ByteArray) : (a ++ X).extract a.size (a ++ X).size = X := by
  apply bt_ext
  · rw [ByteArray.size_extract, ByteArray.size_append]; omega
  · intro i hi
    rw [ByteArray.size_extract, ByteArray.size_append] at hi
    rw [bt_cut _ _ _ _ (Nat.le_refl _) (by rw [ByteArray.size_append]; omega), bt_right _ _ _ (by omega)]
    congr 1; omega
set_option maxRecDepth 20000 in
theorem cut_ahead (a X : ByteArray) : (a ++ X).extract 0 a.size = a := by
  apply bt_ext
  · rw [ByteArray.size_extract, ByteArray.size_append]; omega
  · intro i hi
    rw [ByteArray.size_extract, ByteArray.size_append] at hi
    rw [bt_cut _ _ _ _ (by rw [ByteArray.size_append]; omega) (by omega), Nat.zero_add, bt_left _ _ _ (by omega)]
set_option maxRecDepth 20000 in
theorem nm_num (n : Int) (h0 : 0 ≤ n) (h1 : n ≤ 18446744073709551615) (X : ByteArray) : nmV (numB n ++ X) 0 = n ∧ nmL (numB n ++ X) 0 = X ∧ nmE (numB n ++ X) 0 = 0 := by
  have hs : (numB n ++ X).size = 8 + X.size := by rw [ByteArray.size_append, numB_size]
  refine ⟨?_, ?_, ?_⟩
  · rw [nmV_ok (by omega), rd8_left n h0 h1]
  · unfold nmL; rw [tkL_ok (by omega)]
    have := cut_behind (numB n) X
    rw [numB_size] at this; exact this
  · exact tkE_ok (by omega)
set_option maxRecDepth 20000 in
theorem tx_text (s X : ByteArray) (hs : s.size ≤ 18446744073709551615) : txV (ctxB s ++ X) 0 = s ∧ txL (ctxB s ++ X) 0 = X ∧ txE (ctxB s ++ X) 0 = 0 := by
  have e : ctxB s ++ X = numB (s.size : Int) ++ (s ++ X) := by unfold ctxB; exact join_assoc _ _ _
  obtain ⟨e1, e2, e3⟩ := nm_num (s.size : Int) (by omega) (by omega) (s ++ X)
  have hz : (s ++ X).size = s.size + X.size := ByteArray.size_append
  unfold txV txL txE
  rw [e, e1, e2, e3]
  refine ⟨?_, ?_, tkE_ok (by omega)⟩
  · rw [tkT_ok (by omega)]; exact cut_ahead s X
  · rw [tkL_ok (by omega)]; exact cut_behind s X
end Go.Proofs.Ytikhhijbabllfaa
