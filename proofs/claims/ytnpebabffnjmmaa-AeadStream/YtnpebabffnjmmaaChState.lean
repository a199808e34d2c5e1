/- Plain facts on texts cut and joined, and the words of the state that a block is made of; no Go function is walked here. -/
import Derived.Test.YtnpebabffnjmmaaChPlain
namespace Go.Proofs.Ytnpebabffnjmmaa
open Go.RowKit Go.PlainAid
set_option linter.unusedVariables false

/-- The first four words, as bytes. -/
def cB : ByteArray := ⟨#[101, 120, 112, 97, 110, 100, 32, 51, 50, 45, 98, 121, 116, 101, 32, 107]⟩
theorem cB_words (i : Nat) (h : i < 4) : wordsL le4 cB i = cst i := by
  have e : i = 0 ∨ i = 1 ∨ i = 2 ∨ i = 3 := by omega
  rcases e with rfl | rfl | rfl | rfl <;> decide +kernel
/-- A word as four bytes. -/
def wB (c : Int) : ByteArray := strOfNums (joinF four (fun _ => c) 1)
theorem wB_size (c : Int) : (wB c).size = 4 := by unfold wB; rw [strOfNums_size, joinF_length four four_length]
theorem wB_word (c : Int) (h : W32 c) : le4 (bt (wB c) 0) (bt (wB c) 1) (bt (wB c) 2) (bt (wB c) 3) = c := by
  obtain ⟨h0, h1⟩ := h
  have e : wB c = strOfNums (four c) := rfl
  have hl : ∀ x ∈ four c, 0 ≤ x ∧ x ≤ 255 := by
    intro x hx
    simp only [four, List.mem_cons, List.not_mem_nil, or_false] at hx
    rcases hx with rfl | rfl | rfl | rfl <;> omega
  rw [e, bt_str _ hl 0 (by rw [four_length]; decide), bt_str _ hl 1 (by rw [four_length]; decide), bt_str _ hl 2 (by rw [four_length]; decide), bt_str _ hl 3 (by rw [four_length]; decide)]
  simp only [four, le4, List.getElem_cons_zero, List.getElem_cons_succ]
  omega
/-- What the state's words are read out of. -/
def tB (key nonce : ByteArray) (c : Int) : ByteArray := cB ++ key ++ wB c ++ nonce
theorem tB_size (key nonce : ByteArray) (c : Int) (hk : key.size = 32) (hn : nonce.size = 12) : (tB key nonce c).size = 64 := by
  unfold tB
  simp only [ByteArray.size_append, wB_size, hk, hn, show cB.size = 16 from rfl]
theorem bt_tB_c (key nonce : ByteArray) (c : Int) (hk : key.size = 32) (j : Nat) (h : j < 16) : bt (tB key nonce c) j = bt cB j := by
  unfold tB
  rw [bt_left _ _ _ (by simp only [ByteArray.size_append, hk, show cB.size = 16 from rfl, wB_size]; omega), bt_left _ _ _ (by simp only [ByteArray.size_append, hk, show cB.size = 16 from rfl]; omega), bt_left _ _ _ (by rw [show cB.size = 16 from rfl]; exact h)]
theorem bt_tB_k (key nonce : ByteArray) (c : Int) (hk : key.size = 32) (j : Nat) (h : j < 32) : bt (tB key nonce c) (16 + j) = bt key j := by
  unfold tB
  rw [bt_left _ _ _ (by simp only [ByteArray.size_append, hk, show cB.size = 16 from rfl, wB_size]; omega), bt_left _ _ _ (by simp only [ByteArray.size_append, hk, show cB.size = 16 from rfl]; omega), bt_right _ _ _ (by rw [show cB.size = 16 from rfl]; omega), show cB.size = 16 from rfl, Nat.add_sub_cancel_left]
theorem bt_tB_w (key nonce : ByteArray) (c : Int) (hk : key.size = 32) (j : Nat) (h : j < 4) : bt (tB key nonce c) (48 + j) = bt (wB c) j := by
  unfold tB
  rw [bt_left _ _ _ (by simp only [ByteArray.size_append, hk, show cB.size = 16 from rfl, wB_size]; omega), bt_right _ _ _ (by simp only [ByteArray.size_append, hk, show cB.size = 16 from rfl]; omega)]
  simp only [ByteArray.size_append, hk, show cB.size = 16 from rfl]
  rw [show 48 + j - (16 + 32) = j by omega]
theorem bt_tB_n (key nonce : ByteArray) (c : Int) (hk : key.size = 32) (j : Nat) : bt (tB key nonce c) (52 + j) = bt nonce j := by
  unfold tB
  rw [bt_right _ _ _ (by simp only [ByteArray.size_append, hk, show cB.size = 16 from rfl, wB_size]; omega)]
  simp only [ByteArray.size_append, hk, show cB.size = 16 from rfl, wB_size]
  rw [show 52 + j - (16 + 32 + 4) = j by omega]
theorem tB_words (key nonce : ByteArray) (c : Int) (hk : key.size = 32) (hc : W32 c) (i : Nat) (h : i < 16) : wordsL le4 (tB key nonce c) i = stI key nonce c i := by
  unfold stI
  by_cases h1 : i < 4
  · rw [if_pos h1, ← cB_words i h1]
    unfold wordsL
    rw [bt_tB_c key nonce c hk _ (by omega), bt_tB_c key nonce c hk _ (by omega), bt_tB_c key nonce c hk _ (by omega), bt_tB_c key nonce c hk _ (by omega)]
  · rw [if_neg h1]
    by_cases h2 : i < 12
    · rw [if_pos h2]
      unfold wordsL
      have e : i * 4 = 16 + (i - 4) * 4 := by omega
      rw [e]
      simp only [Nat.add_assoc]
      rw [bt_tB_k key nonce c hk _ (by omega), bt_tB_k key nonce c hk _ (by omega), bt_tB_k key nonce c hk _ (by omega), bt_tB_k key nonce c hk _ (by omega)]
    · rw [if_neg h2]
      by_cases h3 : i < 13
      · rw [if_pos h3]
        obtain rfl : i = 12 := by omega
        unfold wordsL
        rw [show 12 * 4 = 48 + 0 from rfl, show 48 + 0 + 1 = 48 + 1 from rfl, show 48 + 0 + 2 = 48 + 2 from rfl, show 48 + 0 + 3 = 48 + 3 from rfl, bt_tB_w key nonce c hk 0 (by omega), bt_tB_w key nonce c hk 1 (by omega), bt_tB_w key nonce c hk 2 (by omega), bt_tB_w key nonce c hk 3 (by omega)]
        exact wB_word c hc
      · rw [if_neg h3]
        unfold wordsL
        have e : i * 4 = 52 + (i - 13) * 4 := by omega
        rw [e]
        simp only [Nat.add_assoc]
        rw [bt_tB_n key nonce c hk, bt_tB_n key nonce c hk, bt_tB_n key nonce c hk, bt_tB_n key nonce c hk]
end Go.Proofs.Ytnpebabffnjmmaa
