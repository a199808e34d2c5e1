/- Cells and the writes that wait, as plain functions and lists: what a row of writes makes of cells, what a crash keeps of it, what a change by somebody else leaves of it. No Go text is named here. -/
import Derived.WalkKit
namespace Go.Proofs.YtbbgagpompgagabDoor
open Go.RowKit
set_option linter.unusedVariables false

/-- A write: the cell, the bytes. -/
abbrev Wr := Nat × ByteArray
/-- Cells with one write made. -/
def upd (f : Nat → ByteArray) (p : Wr) : Nat → ByteArray := fun j => if j = p.1 then p.2 else f j
/-- Cells with a row of writes made, in order. -/
def app (f : Nat → ByteArray) : List Wr → (Nat → ByteArray)
  | [] => f
  | p :: r => app (upd f p) r
/-- The writes whose places, from i on, are kept. -/
def keep (k : Nat → Bool) : Nat → List Wr → List Wr
  | _, [] => []
  | i, p :: r => if k i = true then p :: keep k (i + 1) r else keep k (i + 1) r

set_option maxRecDepth 20000 in
theorem app_append (a : List Wr) : ∀ (f : Nat → ByteArray) (b : List Wr), app f (a ++ b) = app (app f a) b := by
  induction a with
  | nil => intro f b; rfl
  | cons p r ih => intro f b; exact ih (upd f p) b
set_option maxRecDepth 20000 in
theorem app_snoc (f : Nat → ByteArray) (q : List Wr) (p : Wr) : app f (q ++ [p]) = upd (app f q) p := app_append q f [p]
set_option maxRecDepth 20000 in
theorem keep_snoc (k : Nat → Bool) (q : List Wr) (p : Wr) : ∀ i, keep k i (q ++ [p]) = keep k i q ++ (if k (i + q.length) = true then [p] else []) := by
  induction q with
  | nil => intro i; simp [keep]
  | cons a r ih =>
    intro i
    have h := ih (i + 1)
    rw [show i + 1 + r.length = i + (a :: r).length by simp; omega] at h
    show (if k i = true then a :: keep k (i + 1) (r ++ [p]) else keep k (i + 1) (r ++ [p])) = _
    rw [h]
    simp only [keep]
    split <;> simp
set_option maxRecDepth 20000 in
theorem take_snoc (q : List Wr) (i : Nat) (p : Wr) (h : q[i]? = some p) : q.take (i + 1) = q.take i ++ [p] := by
  rw [List.take_add_one, h]; rfl
set_option maxRecDepth 20000 in
theorem keep_step (k : Nat → Bool) (q : List Wr) (i : Nat) (p : Wr) (h : q[i]? = some p) : keep k 0 (q.take (i + 1)) = keep k 0 (q.take i) ++ (if k i = true then [p] else []) := by
  obtain ⟨hi, _⟩ := List.getElem?_eq_some_iff.1 h
  rw [take_snoc q i p h, keep_snoc, Nat.zero_add, List.length_take, Nat.min_eq_left (by omega)]
set_option maxRecDepth 20000 in
theorem keep_congr (k k' : Nat → Bool) : ∀ (q : List Wr) (i : Nat), (∀ j, i ≤ j → j < i + q.length → k j = k' j) → keep k i q = keep k' i q := by
  intro q
  induction q with
  | nil => intro i _; rfl
  | cons p r ih =>
    intro i h
    have h0 := h i (Nat.le_refl _) (by simp)
    have h1 := ih (i + 1) (fun j h1 h2 => h j (by omega) (by simp; omega))
    simp only [keep]
    rw [h0, h1]
set_option maxRecDepth 20000 in
theorem keep_none (q : List Wr) : ∀ i, keep (fun _ => false) i q = [] := by
  induction q with
  | nil => intro i; rfl
  | cons p r ih => intro i; simp [keep, ih]
set_option maxRecDepth 20000 in
theorem keep_all (q : List Wr) : ∀ i, keep (fun _ => true) i q = q := by
  induction q with
  | nil => intro i; rfl
  | cons p r ih => intro i; simp [keep, ih]
set_option maxRecDepth 20000 in
theorem keep_stop (k : Nat → Bool) (q : List Wr) (m : Nat) (h : ∀ j, m ≤ j → k j = false) : keep k 0 q = keep k 0 (q.take m) := by
  have g : ∀ (q : List Wr) (i m : Nat), (∀ j, m ≤ j → k j = false) → keep k i q = keep k i (q.take (m - i)) := by
    intro q
    induction q with
    | nil => intro i m _; simp [keep]
    | cons p r ih =>
      intro i m h
      by_cases hi : i < m
      · rw [show m - i = (m - (i + 1)) + 1 by omega, List.take_succ_cons]
        simp only [keep]
        rw [ih (i + 1) m h]
      · rw [show m - i = 0 by omega, List.take_zero]
        simp only [keep]
        rw [h i (by omega), ih (i + 1) m h, show m - (i + 1) = 0 by omega, List.take_zero]
        simp [keep]
  exact g q 0 m h
set_option maxRecDepth 20000 in
theorem keep_mem (k : Nat → Bool) (q : List Wr) : ∀ i p, p ∈ keep k i q → p ∈ q := by
  induction q with
  | nil => intro i p h; exact h
  | cons a r ih =>
    intro i p h
    simp only [keep] at h
    split at h
    · rcases List.mem_cons.1 h with rfl | h
      · exact List.mem_cons_self
      · exact List.mem_cons_of_mem _ (ih _ _ h)
    · exact List.mem_cons_of_mem _ (ih _ _ h)
set_option maxRecDepth 20000 in
/-- A cell of which no write waits has what lasts. -/
theorem app_none (q : List Wr) (at_ : Nat) : ∀ f : Nat → ByteArray, (∀ p ∈ q, p.1 ≠ at_) → app f q at_ = f at_ := by
  induction q with
  | nil => intro f _; rfl
  | cons p r ih =>
    intro f h
    show app (upd f p) r at_ = _
    rw [ih _ (fun x hx => h x (List.mem_cons_of_mem _ hx))]
    unfold upd
    rw [if_neg (fun e => h p List.mem_cons_self e.symm)]
set_option maxRecDepth 20000 in
/-- One of which some wait has the last one's bytes. -/
theorem app_last (q : List Wr) (at_ : Nat) : ∀ (f : Nat → ByteArray) (i : Nat) (p : Wr), q[i]? = some p → p.1 = at_ → (∀ j x, i < j → q[j]? = some x → x.1 ≠ at_) → app f q at_ = p.2 := by
  induction q with
  | nil => intro f i p h; simp at h
  | cons a r ih =>
    intro f i p h he hl
    show app (upd f a) r at_ = _
    cases i with
    | zero =>
      simp at h
      subst h
      rw [app_none r at_ _ (fun x hx => by
        obtain ⟨j, hj⟩ := List.getElem?_of_mem hx
        exact hl (j + 1) x (by omega) (by simpa using hj))]
      unfold upd
      rw [if_pos he.symm]
    | succ i => exact ih _ i p (by simpa using h) he (fun j x hj hx => hl (j + 1) x (by omega) (by simpa using hx))
set_option maxRecDepth 20000 in
/-- What a cell may have: what it had, or what it was written with. -/
theorem app_or (q : List Wr) (at_ : Nat) : ∀ f : Nat → ByteArray, app f q at_ = f at_ ∨ ∃ p ∈ q, p.1 = at_ ∧ app f q at_ = p.2 := by
  induction q with
  | nil => intro f; exact .inl rfl
  | cons a r ih =>
    intro f
    rcases ih (upd f a) with h | ⟨p, hp, h1, h2⟩
    · have e : app f (a :: r) at_ = upd f a at_ := h
      by_cases ha : at_ = a.1
      · exact .inr ⟨a, List.mem_cons_self, ha.symm, by rw [e]; unfold upd; rw [if_pos ha]⟩
      · exact .inl (by rw [e]; unfold upd; rw [if_neg ha])
    · exact .inr ⟨p, List.mem_cons_of_mem _ hp, h1, h2⟩
/-- The writes of other cells. -/
def others (a : Nat) (q : List Wr) : List Wr := q.filter fun p => !(p.1 == a)
set_option maxRecDepth 20000 in
theorem app_others (a : Nat) (s : ByteArray) (q : List Wr) : ∀ f : Nat → ByteArray, app (upd f (a, s)) (others a q) = upd (app f q) (a, s) := by
  induction q with
  | nil => intro f; rfl
  | cons p r ih =>
    intro f
    have h := ih (upd f p)
    by_cases e : p.1 = a
    · have h1 : others a (p :: r) = others a r := by simp [others, e]
      have h2 : upd (upd f p) (a, s) = upd f (a, s) := by
        funext j; unfold upd; simp only
        by_cases ej : j = a
        · rw [if_pos ej, if_pos ej]
        · rw [if_neg ej, if_neg ej, if_neg (by rw [e]; exact ej)]
      rw [h1, ← h2]; exact h
    · have h1 : others a (p :: r) = p :: others a r := by simp [others, e]
      have h2 : upd (upd f p) (a, s) = upd (upd f (a, s)) p := by
        funext j; unfold upd; simp only
        by_cases ej : j = a
        · rw [if_pos ej, if_pos ej, if_neg (fun h => e (h.symm.trans ej))]
        · rw [if_neg ej, if_neg ej]
      rw [h1]
      show app (upd (upd f (a, s)) p) (others a r) = _
      rw [← h2]; exact h
set_option maxRecDepth 20000 in
theorem others_mem {a : Nat} {q : List Wr} {p : Wr} (h : p ∈ others a q) : p ∈ q := (List.mem_filter.1 h).1
set_option maxRecDepth 20000 in
theorem others_length (a : Nat) (q : List Wr) : (others a q).length ≤ q.length := List.length_filter_le _ _
set_option maxRecDepth 20000 in
theorem others_snoc (a : Nat) (q : List Wr) (p : Wr) : others a (q ++ [p]) = others a q ++ (if p.1 = a then [] else [p]) := by
  unfold others
  rw [List.filter_append]
  by_cases e : p.1 = a <;> simp [e]
set_option maxRecDepth 20000 in
theorem app_congr (q : List Wr) (n : Nat) : ∀ f f' : Nat → ByteArray, (∀ i, i < n → f i = f' i) → ∀ i, i < n → app f q i = app f' q i := by
  induction q with
  | nil => intro f f' h; exact h
  | cons p r ih =>
    intro f f' h
    refine ih (upd f p) (upd f' p) (fun i hi => ?_)
    unfold upd
    rw [h i hi]
end Go.Proofs.YtbbgagpompgagabDoor
