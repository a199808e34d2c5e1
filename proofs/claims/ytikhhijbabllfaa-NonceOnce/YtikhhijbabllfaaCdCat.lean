/- Texts one behind the other, and what is read of them; no Go function is walked here. -/
import Derived.Test.YtikhhijbabllfaaCdPlain
import Derived.Test.YtikhhijbabllfaaNums
namespace Go.Proofs.Ytikhhijbabllfaa
open Go.RowKit Go.PlainAid
set_option linter.unusedVariables false

/-- n texts one behind the other, from the i-th on. -/
def cat (A : Nat → ByteArray) (i : Nat) : Nat → ByteArray
  | 0 => noB
  | n + 1 => A i ++ cat A (i + 1) n
set_option maxRecDepth 20000 in
theorem noB_size : noB.size = 0 := rfl
set_option maxRecDepth 20000 in
theorem app_noB (a : ByteArray) : a ++ noB = a := by
  apply bt_ext
  · rw [ByteArray.size_append, noB_size]; rfl
  · intro i hi
    rw [ByteArray.size_append, noB_size] at hi
    exact bt_left _ _ _ (by omega)
set_option maxRecDepth 20000 in
theorem noB_app (a : ByteArray) : noB ++ a = a := by
  apply bt_ext
  · rw [ByteArray.size_append, noB_size]; omega
  · intro i hi
    rw [bt_right _ _ _ (by rw [noB_size]; omega), noB_size]; rfl
set_option maxRecDepth 20000 in
theorem size_zero {a : ByteArray} (h : a.size = 0) : a = noB := bt_ext (by rw [h]; rfl) (fun i hi => by omega)
set_option maxRecDepth 20000 in
theorem cat_snoc (A : Nat → ByteArray) (n : Nat) : ∀ i, cat A i (n + 1) = cat A i n ++ A (i + n) := by
  induction n with
  | zero => intro i; show A i ++ noB = noB ++ A (i + 0); rw [app_noB, noB_app]; rfl
  | succ n ih =>
    intro i
    show A i ++ cat A (i + 1) (n + 1) = (A i ++ cat A (i + 1) n) ++ A (i + (n + 1))
    rw [ih (i + 1), join_assoc, show i + 1 + n = i + (n + 1) by omega]
set_option maxRecDepth 20000 in
theorem cat_next (A : Nat → ByteArray) (k m : Nat) (h : k < m) : cat A k (m - k) = A k ++ cat A (k + 1) (m - (k + 1)) := by
  rw [show m - k = (m - (k + 1)) + 1 by omega]; rfl
set_option maxRecDepth 20000 in
theorem cat_size (A : Nat → ByteArray) (K : Nat) (n : Nat) : ∀ i, (∀ j, j < n → (A (i + j)).size ≤ K) → (cat A i n).size ≤ n * K := by
  induction n with
  | zero => intro i h; show noB.size ≤ _; rw [noB_size]; omega
  | succ n ih =>
    intro i h
    show (A i ++ cat A (i + 1) n).size ≤ _
    have h0 : (A i).size ≤ K := h 0 (by omega)
    have h1 := ih (i + 1) (fun j hj => by have := h (j + 1) (by omega); rwa [show i + (j + 1) = i + 1 + j by omega] at this)
    rw [ByteArray.size_append, Nat.succ_mul]; omega
set_option maxRecDepth 20000 in
theorem cat_congr (A B : Nat → ByteArray) (n : Nat) : ∀ i, (∀ j, j < n → A (i + j) = B (i + j)) → cat A i n = cat B i n := by
  induction n with
  | zero => intro i h; rfl
  | succ n ih =>
    intro i h
    show A i ++ cat A (i + 1) n = B i ++ cat B (i + 1) n
    rw [show A i = B i from h 0 (by omega), ih (i + 1) (fun j hj => by have := h (j + 1) (by omega); rwa [show i + (j + 1) = i + 1 + j by omega] at this)]
/-- A text of at most n bytes of s. -/
def cutT (n : Nat) (s : ByteArray) : ByteArray := s.extract 0 (min s.size n)
set_option maxRecDepth 20000 in
theorem cutT_size (n : Nat) (s : ByteArray) : (cutT n s).size ≤ n := by unfold cutT; rw [ByteArray.size_extract]; omega
set_option maxRecDepth 20000 in
/-- Unlike lists of texts are written unlike. -/
theorem text_inj {s t X Y : ByteArray} (hs : s.size ≤ 140737488355328) (ht : t.size ≤ 140737488355328) (h : ctxB s ++ X = ctxB t ++ Y) : s = t ∧ X = Y := by
  obtain ⟨a1, a2, -⟩ := tx_text s X (by omega)
  obtain ⟨b1, b2, -⟩ := tx_text t Y (by omega)
  rw [h] at a1 a2
  exact ⟨a1.symm.trans b1, a2.symm.trans b2⟩
set_option maxRecDepth 20000 in
theorem cat_inj (f g : Nat → ByteArray) (hf : ∀ i, (f i).size ≤ 140737488355328) (hg : ∀ i, (g i).size ≤ 140737488355328) (n : Nat) : ∀ i m, cat (fun j => ctxB (f j)) i n = cat (fun j => ctxB (g j)) i m → n = m ∧ ∀ j, j < n → f (i + j) = g (i + j) := by
  induction n with
  | zero =>
    intro i m h
    cases m with
    | zero => exact ⟨rfl, fun j hj => by omega⟩
    | succ m =>
      have h2 := congrArg ByteArray.size h
      change noB.size = (ctxB (g i) ++ cat _ (i + 1) m).size at h2
      rw [noB_size, ByteArray.size_append, ctxB_size] at h2
      omega
  | succ n ih =>
    intro i m h
    cases m with
    | zero =>
      have h2 := congrArg ByteArray.size h
      change (ctxB (f i) ++ cat _ (i + 1) n).size = noB.size at h2
      rw [noB_size, ByteArray.size_append, ctxB_size] at h2
      omega
    | succ m =>
      obtain ⟨e1, e2⟩ := text_inj (hf i) (hg i) h
      obtain ⟨e3, e4⟩ := ih (i + 1) m e2
      refine ⟨by omega, fun j hj => ?_⟩
      cases j with
      | zero => exact e1
      | succ j => have := e4 j (by omega); rwa [show i + 1 + j = i + (j + 1) by omega] at this
set_option maxRecDepth 20000 in
/-- What is cut off is met as that. -/
theorem ext_short (A X : ByteArray) (c : Nat) (h : c ≤ A.size) : (A ++ X).extract 0 c = A.extract 0 c := by
  apply bt_ext
  · simp only [ByteArray.size_extract, ByteArray.size_append]; omega
  · intro i hi
    simp only [ByteArray.size_extract, ByteArray.size_append] at hi
    rw [bt_take _ _ _ (by omega) (by rw [ByteArray.size_append]; omega), bt_take _ _ _ (by omega) (by omega), bt_left _ _ _ (by omega)]
set_option maxRecDepth 20000 in
theorem ext_long (A X : ByteArray) (c : Nat) (h : A.size ≤ c) : (A ++ X).extract 0 c = A ++ X.extract 0 (c - A.size) := by
  apply bt_ext
  · simp only [ByteArray.size_extract, ByteArray.size_append]; omega
  · intro i hi
    simp only [ByteArray.size_extract, ByteArray.size_append] at hi
    rw [bt_take _ _ _ (by omega) (by rw [ByteArray.size_append]; omega)]
    by_cases h2 : i < A.size
    · rw [bt_left _ _ _ h2, bt_left _ _ _ h2]
    · rw [bt_right _ _ _ (by omega), bt_right _ _ _ (by omega), bt_take _ _ _ (by omega) (by omega)]
set_option maxRecDepth 20000 in
theorem cut_step (t X : ByteArray) (ht : t.size ≤ 140737488355328) (c : Nat) (hc : c < (ctxB t ++ X).size) : txE ((ctxB t ++ X).extract 0 c) 0 = 3 ∨ (txE ((ctxB t ++ X).extract 0 c) 0 = 0 ∧ ∃ d, d < X.size ∧ txL ((ctxB t ++ X).extract 0 c) 0 = X.extract 0 d) := by
  have hA := ctxB_size t
  rw [ByteArray.size_append, hA] at hc
  by_cases h : (ctxB t).size ≤ c
  · rw [ext_long _ _ _ h]
    obtain ⟨-, h2, h3⟩ := tx_text t (X.extract 0 (c - (ctxB t).size)) (by omega)
    exact .inr ⟨h3, c - (ctxB t).size, by omega, h2⟩
  · left
    rw [ext_short _ _ _ (by omega)]
    have hz : ((ctxB t).extract 0 c).size = c := by rw [ByteArray.size_extract]; omega
    unfold txE
    by_cases h8 : c < 8
    · have he : nmE ((ctxB t).extract 0 c) 0 = 3 := tkE_short (by omega)
      rw [he]; exact tkE_bad (by decide)
    · have he : nmE ((ctxB t).extract 0 c) 0 = 0 := tkE_ok (by omega)
      have hv : nmV ((ctxB t).extract 0 c) 0 = (t.size : Int) := by
        rw [nmV_ok (by omega), ← rd8_left (t.size : Int) (by omega) (by omega) t]
        exact rd8_congr fun i hi => bt_take _ _ _ (by omega) (by show 0 + i < (ctxB t).size; omega)
      have hl : (nmL ((ctxB t).extract 0 c) 0).size = c - 8 := by
        unfold nmL; rw [tkL_ok (by omega), ByteArray.size_extract]
        show min _ _ - 8 = _; omega
      rw [he, hv]
      exact tkE_short (by omega)
/-- Texts, numbers that came in: they are the same all the while. -/
def Tx (W : World) (a : Option Addr) (n : Nat) (T : Nat → ByteArray) : Prop := ∀ w, Below W.heap.size W w → ∀ i, i < n → ∃ b o, a = some ⟨b, o, none⟩ ∧ (T i).size ≤ maxLen ∧ w.cell? ⟨b, o + i, none⟩ = some (.string (T i))
def Nx (W : World) (a : Option Addr) (n : Nat) (N : Nat → Int) : Prop := ∀ w, Below W.heap.size W w → ∀ i, i < n → ∃ b o, a = some ⟨b, o, none⟩ ∧ (0 ≤ N i ∧ N i ≤ 18446744073709551615) ∧ w.cell? ⟨b, o + i, none⟩ = some (.int .u64 (N i))
set_option maxRecDepth 20000 in
theorem Tx.cut {W : World} {a : Option Addr} {n m : Nat} {T : Nat → ByteArray} (h : Tx W a n T) (hm : m ≤ n) : Tx W a m T := fun w hb i hi => h w hb i (by omega)
set_option maxRecDepth 20000 in
theorem Nx.cut {W : World} {a : Option Addr} {n m : Nat} {T : Nat → Int} (h : Nx W a n T) (hm : m ≤ n) : Nx W a m T := fun w hb i hi => h w hb i (by omega)
set_option maxRecDepth 20000 in
theorem Tx.came {W : World} {a : Option Addr} {len cap : Nat} (h : Came (fun s : ByteArray => s.size ≤ maxLen) (fun s => [.string s]) 1 W a len cap) : ∃ T, Tx W a len T := by
  obtain ⟨A, hA⟩ := came_fun h
  refine ⟨A, fun w hb i hi => ?_⟩
  obtain ⟨b, o, e, h1, h2⟩ := hA w hb i hi
  exact ⟨b, o, e, h1, by have := h2 0 _ rfl; simpa using this⟩
set_option maxRecDepth 20000 in
theorem Nx.came {W : World} {a : Option Addr} {len cap : Nat} (h : Came (fun n : Int => 0 ≤ n ∧ n ≤ 18446744073709551615) (fun n => [.int .u64 n]) 1 W a len cap) : ∃ T, Nx W a len T := by
  obtain ⟨A, hA⟩ := came_fun h
  refine ⟨A, fun w hb i hi => ?_⟩
  obtain ⟨b, o, e, h1, h2⟩ := hA w hb i hi
  exact ⟨b, o, e, h1, by have := h2 0 _ rfl; simpa using this⟩
end Go.Proofs.Ytikhhijbabllfaa
