/- Logs: which writes may be logged, their cells, their digest, and what is read of cells; no Go function is walked here. -/
import Derived.Test.YtegebaomhbogmaaDoorCdCat
import Derived.Test.YtegebaomhbogmaaDoorSha
namespace Go.Proofs.YtegebaomhbogmaaDoor
open Go.RowKit Go.PlainAid
set_option linter.unusedVariables false

/-- Why a write may not be logged (0: it may); of the first n writes, the first reason. -/
def wrE (a : Int) (c : ByteArray) : Int := if a < 100 ∨ 140 ≤ a then 2 else if 2032 < c.size then 5 else 0
def fsE (A : Nat → Int) (C : Nat → ByteArray) : Nat → Int
  | 0 => 0
  | n + 1 => if fsE A C n = 0 then wrE (A n) (C n) else fsE A C n
/-- What Put of n writes answers: the error, how many cells, the cells, the digest. -/
def lgE (n : Nat) (A : Nat → Int) (C : Nat → ByteArray) : Int := if 95 < n then 10 else fsE A C n
def celF (n : Nat) (A : Nat → Int) (C : Nat → ByteArray) : Nat → ByteArray
  | 0 => numB (n : Int)
  | k + 1 => numB (A k) ++ ctxB (C k)
def dgT (f : Nat → ByteArray) (n : Nat) : ByteArray := digest (⟨#[2]⟩ ++ cat (fun i => ctxB (f i)) 0 n)
def lgN (n : Nat) (A : Nat → Int) (C : Nat → ByteArray) : Nat := if lgE n A C = 0 then n + 1 else 0
def lgD (n : Nat) (A : Nat → Int) (C : Nat → ByteArray) : ByteArray := if lgE n A C = 0 then dgT (celF n A C) (n + 1) else noB

theorem wrE_zero {a : Int} {c : ByteArray} : wrE a c = 0 ↔ 100 ≤ a ∧ a < 140 ∧ c.size ≤ 2032 := by
  unfold wrE; split
  · omega
  · split <;> omega
theorem wrE_arg {a : Int} {c : ByteArray} (h : a < 100 ∨ 140 ≤ a) : wrE a c = 2 := if_pos h
theorem wrE_long {a : Int} {c : ByteArray} (h0 : 100 ≤ a) (h1 : a < 140) (h : 2032 < c.size) : wrE a c = 5 := by
  unfold wrE; rw [if_neg (by omega), if_pos h]
section
variable {A : Nat → Int} {C : Nat → ByteArray}
theorem fsE_step {k : Nat} (h : fsE A C k = 0) : fsE A C (k + 1) = wrE (A k) (C k) := by show (if _ then _ else _) = _; rw [if_pos h]
theorem fsE_keep {k : Nat} (h : fsE A C k ≠ 0) (n : Nat) (hn : k ≤ n) : fsE A C n = fsE A C k := by
  induction n with
  | zero => rw [show k = 0 by omega]
  | succ n ih =>
    by_cases e : k = n + 1
    · rw [e]
    · have := ih (by omega)
      show (if _ then _ else _) = _
      rw [this, if_neg h]
/-- The first that may not be logged is told. -/
theorem fsE_stop {k n : Nat} (h : fsE A C k = 0) (hk : k < n) (hw : wrE (A k) (C k) ≠ 0) : fsE A C n = wrE (A k) (C k) := by
  have e := fsE_step h
  rw [fsE_keep (k := k + 1) (by rw [e]; exact hw) n (by omega), e]
theorem fsE_all {n : Nat} (h : fsE A C n = 0) : ∀ k, k < n → wrE (A k) (C k) = 0 := by
  induction n with
  | zero => intro k hk; omega
  | succ n ih =>
    have h : (if fsE A C n = 0 then wrE (A n) (C n) else fsE A C n) = 0 := h
    by_cases e : fsE A C n = 0
    · rw [if_pos e] at h
      intro k hk
      by_cases e2 : k = n
      · rw [e2]; exact h
      · exact ih e k (by omega)
    · rw [if_neg e] at h; exact absurd h e
theorem fsE_of {n : Nat} (h : ∀ k, k < n → wrE (A k) (C k) = 0) : fsE A C n = 0 := by
  induction n with
  | zero => rfl
  | succ n ih =>
    show (if _ then _ else _) = _
    rw [if_pos (ih fun k hk => h k (by omega))]; exact h n (by omega)
theorem fsE_congr {B : Nat → Int} {D : Nat → ByteArray} {n : Nat} (h : ∀ k, k < n → A k = B k ∧ C k = D k) : fsE A C n = fsE B D n := by
  induction n with
  | zero => rfl
  | succ n ih =>
    show (if _ then _ else _) = (if _ then _ else _)
    rw [ih fun k hk => h k (by omega), (h n (by omega)).1, (h n (by omega)).2]
theorem celF_size (n : Nat) (k : Nat) (h : ∀ i, i < n → (C i).size ≤ 2032) (hk : k < n + 1) : (celF n A C k).size ≤ 2048 := by
  cases k with
  | zero => show (numB _).size ≤ _; rw [numB_size]; omega
  | succ k =>
    show (numB _ ++ ctxB _).size ≤ _
    rw [ByteArray.size_append, numB_size, ctxB_size]
    have := h k (by omega)
    omega
end
theorem dgT_congr {f g : Nat → ByteArray} {n : Nat} (h : ∀ i, i < n → f i = g i) : dgT f n = dgT g n := by
  unfold dgT
  rw [cat_congr _ (fun i => ctxB (g i)) n 0 (fun j hj => by rw [Nat.zero_add]; show ctxB (f j) = ctxB (g j); rw [h j hj])]
/-- Is a text a number from 0 to 95? -/
def isN (s : ByteArray) : Bool := decide (s.size = 8 ∧ rd8 s 0 < 96)
def szE (s : ByteArray) : Int := if isN s then 0 else 4
def szV (s : ByteArray) : Nat := if isN s then (rd8 s 0).toNat + 1 else 0
theorem rd8_inj {s t : ByteArray} (hs : s.size = 8) (ht : t.size = 8) (h : rd8 s 0 = rd8 t 0) : s = t := by
  refine bt_ext (by omega) fun i hi => ?_
  have s0 := bt_range s 0
  have s1 := bt_range s 1
  have s2 := bt_range s 2
  have s3 := bt_range s 3
  have s4 := bt_range s 4
  have s5 := bt_range s 5
  have s6 := bt_range s 6
  have s7 := bt_range s 7
  have t0 := bt_range t 0
  have t1 := bt_range t 1
  have t2 := bt_range t 2
  have t3 := bt_range t 3
  have t4 := bt_range t 4
  have t5 := bt_range t 5
  have t6 := bt_range t 6
  have t7 := bt_range t 7
  simp only [rd8, acc, Nat.zero_add] at h
  have e : bt s 0 = bt t 0 ∧ bt s 1 = bt t 1 ∧ bt s 2 = bt t 2 ∧ bt s 3 = bt t 3 ∧ bt s 4 = bt t 4 ∧ bt s 5 = bt t 5 ∧ bt s 6 = bt t 6 ∧ bt s 7 = bt t 7 := by omega
  obtain ⟨e0, e1, e2, e3, e4, e5, e6, e7⟩ := e
  have hc : i = 0 ∨ i = 1 ∨ i = 2 ∨ i = 3 ∨ i = 4 ∨ i = 5 ∨ i = 6 ∨ i = 7 := by omega
  rcases hc with rfl | rfl | rfl | rfl | rfl | rfl | rfl | rfl <;> assumption
theorem num_isN {n : Nat} (hn : n < 96) : isN (numB (n : Int)) = true := by
  unfold isN
  exact decide_eq_true ⟨numB_size _, by rw [rd8_num _ (by omega) (by omega)]; omega⟩
theorem isN_num {s : ByteArray} (h : isN s = true) : ∃ n : Nat, n < 96 ∧ s = numB (n : Int) ∧ rd8 s 0 = (n : Int) := by
  obtain ⟨h8, hv⟩ := of_decide_eq_true h
  have h0 := (rd8_range s 0).1
  refine ⟨(rd8 s 0).toNat, by omega, ?_, by omega⟩
  exact rd8_inj h8 (numB_size _) (by rw [rd8_num _ (by omega) (by omega)]; omega)
theorem num_inj {n m : Nat} (hn : n < 96) (hm : m < 96) (h : numB (n : Int) = numB (m : Int)) : n = m := by
  have := congrArg (fun s => rd8 s 0) h
  simp only [rd8_num _ (show (0 : Int) ≤ (n : Int) by omega) (by omega), rd8_num _ (show (0 : Int) ≤ (m : Int) by omega) (by omega)] at this
  omega
theorem szV_num {n : Nat} (hn : n < 96) : szV (numB (n : Int)) = n + 1 := by
  unfold szV; rw [if_pos (num_isN hn), rd8_num _ (by omega) (by omega)]; omega
theorem szE_num {n : Nat} (hn : n < 96) : szE (numB (n : Int)) = 0 := by unfold szE; rw [if_pos (num_isN hn)]
theorem szV_le (s : ByteArray) : szV s ≤ 96 := by
  unfold szV; split
  · rename_i h
    have := (of_decide_eq_true h).2
    omega
  · omega
theorem szV_pos {s : ByteArray} (h : isN s = true) : 1 ≤ szV s := by unfold szV; rw [if_pos h]; omega
/-- As the program finds it out. -/
theorem isN_yes {s : ByteArray} (h : isN s = true) : blE s 0 96 = 0 ∧ dnE (nmL s 0) 0 = 0 ∧ cblV s 0 96 = rd8 s 0 := by
  obtain ⟨h8, hv⟩ := of_decide_eq_true h
  have e1 : nmV s 0 = rd8 s 0 := nmV_ok (by omega)
  have e2 : nmE s 0 = 0 := tkE_ok (by omega)
  refine ⟨?_, ?_, ?_⟩
  · unfold blE; rw [if_pos (.inl ⟨by decide, by rw [e1]; exact hv⟩), e2]
  · unfold dnE nmL; rw [if_pos rfl, tkL_ok (by omega), if_pos (by rw [ByteArray.size_extract]; show min s.size s.size - 8 = 0; omega)]
  · unfold cblV; rw [if_pos ⟨by decide, by rw [e1]; exact hv⟩, e1]
theorem isN_no {s : ByteArray} (h : isN s = false) : dnE (nmL s 0) (blE s 0 96) ≠ 0 := by
  have hn := of_decide_eq_false h
  by_cases h8 : 8 ≤ s.size
  · have e1 : nmV s 0 = rd8 s 0 := nmV_ok h8
    have e2 : nmE s 0 = 0 := tkE_ok (by omega)
    by_cases hv : rd8 s 0 < 96
    · have e3 : blE s 0 96 = 0 := by unfold blE; rw [if_pos (.inl ⟨by decide, by rw [e1]; exact hv⟩), e2]
      rw [e3]
      unfold dnE nmL
      rw [if_pos rfl, tkL_ok (by omega), if_neg (by rw [ByteArray.size_extract]; show ¬ min s.size s.size - 8 = 0; omega)]
      decide
    · have e3 : blE s 0 96 = 4 := by
        unfold blE; rw [if_neg]
        rintro (⟨_, h⟩ | h)
        · rw [e1] at h; exact hv h
        · exact h e2
      rw [e3]; unfold dnE; rw [if_neg (by decide)]; decide
  · have e2 : nmE s 0 = 3 := tkE_short (by omega)
    have e3 : blE s 0 96 = 3 := by unfold blE; rw [if_pos (.inr (by rw [e2]; decide)), e2]
    rw [e3]; unfold dnE; rw [if_neg (by decide)]; decide
/-- Is a cell that of a write that may be logged? Of which one. -/
def atC (s : ByteArray) : Int := nmV s 0
def ceC (s : ByteArray) : ByteArray := txV (nmL s 0) 0
def okC (s : ByteArray) : Bool := decide (nmE s 0 = 0 ∧ txE (nmL s 0) 0 = 0 ∧ (txL (nmL s 0) 0).size = 0 ∧ wrE (atC s) (ceC s) = 0)
theorem okC_at {s : ByteArray} (h : okC s = true) : 100 ≤ atC s ∧ atC s < 140 ∧ (ceC s).size ≤ 2032 := wrE_zero.1 (of_decide_eq_true h).2.2.2
/-- As the program finds it out. -/
def e1C (s : ByteArray) : Int := blE s 0 140
theorem okC_yes {s : ByteArray} (h : okC s = true) : e1C s = 0 ∧ cblV s 0 140 = atC s ∧ txV (nmL s 0) (e1C s) = ceC s ∧ dnE (txL (nmL s 0) (e1C s)) (txE (nmL s 0) (e1C s)) = 0 ∧ wrE (atC s) (ceC s) = 0 := by
  obtain ⟨h1, h2, h3, h4⟩ := of_decide_eq_true h
  obtain ⟨a0, a1, _⟩ := wrE_zero.1 h4
  have e : e1C s = 0 := by unfold e1C blE; rw [if_pos (.inl ⟨by decide, a1⟩), h1]
  refine ⟨e, ?_, by rw [e]; rfl, ?_, h4⟩
  · unfold cblV; exact if_pos ⟨by decide, a1⟩
  · rw [e, h2]; unfold dnE; rw [if_pos rfl, if_pos h3]
theorem e1C_or (s : ByteArray) : (e1C s = 0 ∧ cblV s 0 140 = atC s ∧ nmE s 0 = 0 ∧ atC s < 140) ∨ (e1C s ≠ 0 ∧ (nmE s 0 = 0 → 140 ≤ atC s)) := by
  unfold e1C blE cblV atC
  have hr := nmV_range s 0
  by_cases h : nmV s 0 < 140
  · rw [if_pos (.inl ⟨by decide, h⟩), if_pos ⟨by decide, h⟩]
    by_cases e : nmE s 0 = 0
    · exact .inl ⟨e, rfl, e, h⟩
    · exact .inr ⟨e, fun h => absurd h e⟩
  · right
    by_cases e : nmE s 0 = 0
    · rw [if_neg (by rintro (h2 | h2); exact h h2.2; exact h2 e)]; exact ⟨by decide, fun _ => by omega⟩
    · rw [if_pos (.inr e)]; exact ⟨e, fun h => absurd h e⟩
theorem txE_bad' {L : ByteArray} {e : Int} (h : e ≠ 0) : dnE (txL L e) (txE L e) ≠ 0 := by
  rw [txE_bad h]; unfold dnE; rw [if_neg h]; exact h
/-- Not that of one: Done tells it, or fault does. -/
theorem okC_no {s : ByteArray} (h : okC s = false) : dnE (txL (nmL s 0) (e1C s)) (txE (nmL s 0) (e1C s)) ≠ 0 ∨ (dnE (txL (nmL s 0) (e1C s)) (txE (nmL s 0) (e1C s)) = 0 ∧ wrE (cblV s 0 140) (txV (nmL s 0) (e1C s)) ≠ 0) := by
  have hn := of_decide_eq_false h
  rcases e1C_or s with ⟨e, e2, e3, e4⟩ | ⟨e, _⟩
  · rw [e, e2]
    by_cases hd : dnE (txL (nmL s 0) 0) (txE (nmL s 0) 0) = 0
    · right
      refine ⟨hd, fun hw => hn ?_⟩
      unfold dnE at hd
      by_cases ht : txE (nmL s 0) 0 = 0
      · rw [if_pos ht] at hd
        by_cases hz : (txL (nmL s 0) 0).size = 0
        · exact ⟨e3, ht, hz, hw⟩
        · rw [if_neg hz] at hd; exact absurd hd (by decide)
      · rw [if_neg ht] at hd; exact absurd hd ht
    · exact .inl hd
  · exact .inl (txE_bad' e)
/-- As the document finds it out. -/
def rdD (s : ByteArray) : Int := dnE (txL (nmL s 0) (nmE s 0)) (txE (nmL s 0) (nmE s 0))
theorem okC_doc (s : ByteArray) : okC s = true ↔ rdD s = 0 ∧ 100 ≤ atC s ∧ atC s < 140 ∧ (txV (nmL s 0) (nmE s 0)).size ≤ 2032 := by
  unfold okC rdD
  rw [decide_eq_true_iff]
  by_cases e : nmE s 0 = 0
  · rw [e, wrE_zero]
    unfold dnE ceC
    by_cases ht : txE (nmL s 0) 0 = 0
    · rw [if_pos ht]
      by_cases hz : (txL (nmL s 0) 0).size = 0
      · rw [if_pos hz]; exact ⟨fun h => ⟨rfl, h.2.2.2.1, h.2.2.2.2.1, h.2.2.2.2.2⟩, fun h => ⟨rfl, ht, hz, h.2.1, h.2.2.1, h.2.2.2⟩⟩
      · rw [if_neg hz]; exact ⟨fun h => absurd h.2.2.1 hz, fun h => absurd h.1 (by decide)⟩
    · rw [if_neg ht]; exact ⟨fun h => absurd h.2.1 ht, fun h => absurd h.1 ht⟩
  · exact ⟨fun h => absurd h.1 e, fun h => absurd h.1 (txE_bad' e)⟩
theorem okC_ce {s : ByteArray} (h : okC s = true) : txV (nmL s 0) (nmE s 0) = ceC s := by rw [(of_decide_eq_true h).1]; rfl
/-- A write that was logged is read back. -/
theorem okC_cel {a : Int} {c : ByteArray} (h : wrE a c = 0) : okC (numB a ++ ctxB c) = true ∧ atC (numB a ++ ctxB c) = a ∧ ceC (numB a ++ ctxB c) = c := by
  obtain ⟨a0, a1, a2⟩ := wrE_zero.1 h
  obtain ⟨e1, e2, e3⟩ := nm_num a (by omega) (by omega) (ctxB c)
  obtain ⟨t1, t2, t3⟩ := tx_text c noB (by omega)
  rw [app_noB] at t1 t2 t3
  have ha : atC (numB a ++ ctxB c) = a := e1
  have hc : ceC (numB a ++ ctxB c) = c := by unfold ceC; rw [e2]; exact t1
  refine ⟨?_, ha, hc⟩
  unfold okC
  rw [ha, hc, e2]
  exact decide_eq_true ⟨e3, t3, by rw [t2]; rfl, h⟩
/-- Are the m cells behind the first all such? -/
def alC (f : Nat → ByteArray) : Nat → Bool
  | 0 => true
  | m + 1 => alC f m && okC (f (m + 1))
theorem alC_all {f : Nat → ByteArray} {m : Nat} (h : alC f m = true) : ∀ i, i < m → okC (f (i + 1)) = true := by
  induction m with
  | zero => intro i hi; omega
  | succ m ih =>
    have h : (alC f m && okC (f (m + 1))) = true := h
    rw [Bool.and_eq_true] at h
    intro i hi
    by_cases e : i = m
    · rw [e]; exact h.2
    · exact ih h.1 i (by omega)
theorem alC_of {f : Nat → ByteArray} {m : Nat} (h : ∀ i, i < m → okC (f (i + 1)) = true) : alC f m = true := by
  induction m with
  | zero => rfl
  | succ m ih => show (alC f m && okC (f (m + 1))) = true; rw [ih fun i hi => h i (by omega), h m (by omega)]; rfl
theorem alC_not {f : Nat → ByteArray} {m i : Nat} (hi : i < m) (h : okC (f (i + 1)) = false) : alC f m = false := by
  cases e : alC f m with
  | false => rfl
  | true => rw [alC_all e i hi] at h; cases h
theorem alC_congr {f g : Nat → ByteArray} {m : Nat} (h : ∀ i, i < m + 1 → f i = g i) : alC f m = alC g m := by
  induction m with
  | zero => rfl
  | succ m ih => show (_ && _) = (_ && _); rw [ih fun i hi => h i (by omega), h (m + 1) (by omega)]
/-- What Get of n cells answers: the error, how many writes. -/
def gtE (n : Nat) (f : Nat → ByteArray) (d : ByteArray) : Int :=
  if n = 0 then 4 else if isN (f 0) = false then 4 else if n < szV (f 0) then 3 else if d ≠ dgT f (szV (f 0)) then 22 else if alC f (szV (f 0) - 1) = true then 0 else 4
def gtN (n : Nat) (f : Nat → ByteArray) (d : ByteArray) : Nat := if gtE n f d = 0 then szV (f 0) - 1 else 0
def gtA (f : Nat → ByteArray) (i : Nat) : Int := atC (f (i + 1))
def gtC (f : Nat → ByteArray) (i : Nat) : ByteArray := ceC (f (i + 1))
theorem gtE_none {f : Nat → ByteArray} {d : ByteArray} : gtE 0 f d = 4 := if_pos rfl
theorem gtE_form {n : Nat} {f : Nat → ByteArray} {d : ByteArray} (h0 : n ≠ 0) (h : isN (f 0) = false) : gtE n f d = 4 := by unfold gtE; rw [if_neg h0, if_pos h]
theorem gtE_short {n : Nat} {f : Nat → ByteArray} {d : ByteArray} (h0 : n ≠ 0) (h : isN (f 0) = true) (h1 : n < szV (f 0)) : gtE n f d = 3 := by
  unfold gtE; rw [if_neg h0, if_neg (by rw [h]; decide), if_pos h1]
theorem gtE_sum {n : Nat} {f : Nat → ByteArray} {d : ByteArray} (h0 : n ≠ 0) (h : isN (f 0) = true) (h1 : ¬ n < szV (f 0)) (h2 : d ≠ dgT f (szV (f 0))) : gtE n f d = 22 := by
  unfold gtE; rw [if_neg h0, if_neg (by rw [h]; decide), if_neg h1, if_pos h2]
theorem gtE_all {n : Nat} {f : Nat → ByteArray} {d : ByteArray} (h0 : n ≠ 0) (h : isN (f 0) = true) (h1 : ¬ n < szV (f 0)) (h2 : d = dgT f (szV (f 0))) : gtE n f d = if alC f (szV (f 0) - 1) = true then 0 else 4 := by
  unfold gtE; rw [if_neg h0, if_neg (by rw [h]; decide), if_neg h1, if_neg (by simpa using h2)]
theorem gtN_bad {n : Nat} {f : Nat → ByteArray} {d : ByteArray} {x : Int} (h : gtE n f d = x) (hx : x ≠ 0) : gtN n f d = 0 := if_neg (by rw [h]; exact hx)
end Go.Proofs.YtegebaomhbogmaaDoor
