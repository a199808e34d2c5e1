/- Plain facts on texts cut and joined, on words combined, and a number reckoned before one goes on; no Go function is walked here. -/
import Derived.Test.YtikhhijbabllfaaText
namespace Go.Proofs.Ytikhhijbabllfaa
open Go.RowKit Go.PlainAid
set_option linter.unusedVariables false

set_option maxRecDepth 20000 in
theorem xor_lo (a b : Int) : 0 ≤ bits .xor .u32 a b ∧ bits .xor .u32 a b < 4294967296 := by
  show 0 ≤ IntKind.u32.wrap _ ∧ IntKind.u32.wrap _ < 4294967296
  rw [IntKind.wrap_u32']; omega
set_option maxRecDepth 20000 in
theorem joinF_congr (g : Int → List Int) (f f' : Nat → Int) (n : Nat) (h : ∀ i, i < n → f i = f' i) : joinF g f n = joinF g f' n := by
  induction n with
  | zero => rfl
  | succ n ih => rw [joinF_succ, joinF_succ, ih (fun i hi => h i (by omega)), h n (by omega)]
set_option maxRecDepth 20000 in
theorem bt_left (a b : ByteArray) (i : Nat) (h : i < a.size) : bt (a ++ b) i = bt a i := by
  unfold bt
  rw [dif_pos (by rw [ByteArray.size_append]; omega), dif_pos h, ByteArray.getElem_append_left h]
set_option maxRecDepth 20000 in
theorem bt_right (a b : ByteArray) (i : Nat) (h : a.size ≤ i) : bt (a ++ b) i = bt b (i - a.size) := by
  unfold bt
  by_cases h2 : i - a.size < b.size
  · rw [dif_pos (by rw [ByteArray.size_append]; omega), dif_pos h2, ByteArray.getElem_append_right h]
  · rw [dif_neg (by rw [ByteArray.size_append]; omega), dif_neg h2]
set_option maxRecDepth 20000 in
theorem bt_cut (s : ByteArray) (p q i : Nat) (hq : q ≤ s.size) (h : p + i < q) : bt (s.extract p q) i = bt s (p + i) := by
  unfold bt
  have hs : i < (s.extract p q).size := by rw [ByteArray.size_extract]; omega
  rw [dif_pos hs, dif_pos (by omega), ByteArray.getElem_extract]
set_option maxRecDepth 20000 in
theorem cut_all (s : ByteArray) : s.extract 0 s.size = s := by
  apply bt_ext
  · rw [ByteArray.size_extract]; omega
  · intro i hi
    rw [ByteArray.size_extract] at hi
    rw [bt_cut s 0 s.size i (Nat.le_refl _) (by omega), Nat.zero_add]
set_option maxRecDepth 20000 in
theorem cut_cut (s : ByteArray) (p k : Nat) (hp : p + k ≤ s.size) : (s.extract p s.size).extract k (s.extract p s.size).size = s.extract (p + k) s.size := by
  apply bt_ext
  · simp only [ByteArray.size_extract]; omega
  · intro i hi
    simp only [ByteArray.size_extract] at hi
    rw [bt_cut _ k _ i (Nat.le_refl _) (by simp only [ByteArray.size_extract]; omega), bt_cut s p s.size _ (Nat.le_refl _) (by omega), bt_cut s (p + k) s.size i (Nat.le_refl _) (by omega), Nat.add_assoc]
set_option maxRecDepth 20000 in
theorem cut_join (s : ByteArray) (p q : Nat) (hpq : p ≤ q) (hq : q ≤ s.size) : s.extract 0 p ++ s.extract p q = s.extract 0 q := by
  apply bt_ext
  · rw [ByteArray.size_append]; simp only [ByteArray.size_extract]; omega
  · intro i hi
    rw [ByteArray.size_append] at hi
    simp only [ByteArray.size_extract] at hi
    rw [bt_cut s 0 q i hq (by omega)]
    by_cases h : i < p
    · rw [bt_left _ _ _ (by simp only [ByteArray.size_extract]; omega), bt_cut s 0 p i (by omega) (by omega)]
    · rw [bt_right _ _ _ (by simp only [ByteArray.size_extract]; omega), bt_cut s p q _ hq (by simp only [ByteArray.size_extract]; omega)]
      simp only [ByteArray.size_extract]
      congr 1
      omega
set_option maxRecDepth 20000 in
theorem join_assoc (a b c : ByteArray) : a ++ b ++ c = a ++ (b ++ c) := by
  apply ByteArray.ext
  simp [ByteArray.data_append, Array.append_assoc]
set_option maxRecDepth 20000 in
theorem bt_take (s : ByteArray) (q i : Nat) (h1 : i < q) (h2 : i < s.size) : bt (s.extract 0 q) i = bt s i := by
  rcases Nat.le_total q s.size with h | h
  · rw [bt_cut s 0 q i h (by omega), Nat.zero_add]
  · have e : s.extract 0 q = s := by
      apply bt_ext
      · rw [ByteArray.size_extract]; omega
      · intro j hj
        rw [ByteArray.size_extract] at hj
        unfold bt
        rw [dif_pos (by rw [ByteArray.size_extract]; omega), dif_pos (by omega), ByteArray.getElem_extract]
        simp
    rw [e]
set_option maxRecDepth 20000 in
theorem take_all (s : ByteArray) (q : Nat) (h : s.size ≤ q) : s.extract 0 q = s := by
  apply bt_ext
  · rw [ByteArray.size_extract]; omega
  · intro i hi
    rw [ByteArray.size_extract] at hi
    exact bt_take s q i (by omega) (by omega)
/-- A number is reckoned before one goes on. -/
def fz {α : Type} (n : Nat) (k : Nat → α) : α := match n with
  | 0 => k 0
  | m + 1 => k (m + 1)
set_option maxRecDepth 20000 in
theorem fz_eq {α : Type} (n : Nat) (k : Nat → α) : fz n k = k n := by cases n <;> rfl
/-- A text's length, of a value. -/
def strLen : Value → Nat
  | .string s => s.size
  | _ => 0
end Go.Proofs.Ytikhhijbabllfaa
