/- Records: which are good, their bytes, and what is read of bytes; no Go function is walked here. -/
import Derived.Test.YtbjmhpbelkndpaaDoorCdCat
namespace Go.Proofs.YtbjmhpbelkndpaaDoor
open Go.RowKit Go.PlainAid
set_option linter.unusedVariables false

/-- How many numbers below n have p. -/
def nOf (p : Nat → Bool) : Nat → Nat
  | 0 => 0
  | n + 1 => nOf p n + (if p n then 1 else 0)
theorem nOf_le (p : Nat → Bool) (n : Nat) : nOf p n ≤ n := by
  induction n with
  | zero => exact Nat.le_refl _
  | succ n ih => unfold nOf; split <;> omega
theorem nOf_all (p : Nat → Bool) (n : Nat) : nOf p n = n ↔ ∀ i, i < n → p i = true := by
  induction n with
  | zero => exact ⟨fun _ i h => absurd h (by omega), fun _ => rfl⟩
  | succ n ih =>
    have hl := nOf_le p n
    unfold nOf
    constructor
    · intro h i hi
      have hp : p n = true := by
        cases hp : p n
        · rw [hp] at h; simp at h; omega
        · rfl
      rw [hp] at h
      simp at h
      by_cases e : i = n
      · rw [e]; exact hp
      · exact ih.1 h i (by omega)
    · intro h
      rw [h n (by omega), ih.2 (fun i hi => h i (by omega))]; rfl
theorem nOf_pos (p : Nat → Bool) (n : Nat) : 0 < nOf p n ↔ ∃ i, i < n ∧ p i = true := by
  induction n with
  | zero => exact ⟨fun h => absurd h (Nat.lt_irrefl 0), fun ⟨i, h, _⟩ => absurd h (by omega)⟩
  | succ n ih =>
    unfold nOf
    constructor
    · intro h
      cases hp : p n
      · rw [hp] at h
        simp at h
        obtain ⟨i, hi, h2⟩ := ih.1 (by omega)
        exact ⟨i, by omega, h2⟩
      · exact ⟨n, by omega, hp⟩
    · rintro ⟨i, hi, h2⟩
      by_cases e : i = n
      · subst e; rw [h2]; simp
      · have := ih.2 ⟨i, by omega, h2⟩; omega
theorem nOf_one (p : Nat → Bool) (n : Nat) : nOf p n ≤ 1 ↔ ∀ i j, i < j → j < n → ¬ (p i = true ∧ p j = true) := by
  induction n with
  | zero => exact ⟨fun _ i j _ h => absurd h (by omega), fun _ => Nat.zero_le 1⟩
  | succ n ih =>
    have hp0 := nOf_pos p n
    unfold nOf
    constructor
    · intro h i j hij hj ⟨h1, h2⟩
      by_cases e : j = n
      · subst e
        rw [h2] at h
        simp at h
        have := hp0.2 ⟨i, hij, h1⟩
        omega
      · exact ih.1 (by omega) i j hij (by omega) ⟨h1, h2⟩
    · intro h
      have h1 := ih.2 (fun i j hij hj => h i j hij (by omega))
      cases hp : p n
      · simp; exact h1
      · simp
        rcases Nat.eq_zero_or_pos (nOf p n) with h0 | h0
        · omega
        · obtain ⟨i, hi, h2⟩ := hp0.1 h0
          exact absurd ⟨h2, hp⟩ (h i n hi (by omega))
theorem nOf_congr {p q : Nat → Bool} (n : Nat) (h : ∀ i, i < n → p i = q i) : nOf p n = nOf q n := by
  induction n with
  | zero => rfl
  | succ n ih => unfold nOf; rw [ih (fun i hi => h i (by omega)), h n (by omega)]

/-- A record. -/
structure Rec where
  count : Int
  epoch : Int
  data : Int
  slots : Int
  mark : Int
  built : Int
  grow : Bool
  ns : Nat
  seat : Nat → Int
  nm : Nat
  st : Nat → Int
  top : Nat → ByteArray
  log : Nat → ByteArray
/-- Numbers as they may be in the program's memory; lists that aren't too long. -/
structure Rec.Fine (R : Rec) : Prop where
  c : 0 ≤ R.count ∧ R.count ≤ 18446744073709551615
  e : 0 ≤ R.epoch ∧ R.epoch ≤ 18446744073709551615
  d : -9223372036854775808 ≤ R.data ∧ R.data ≤ 9223372036854775807
  s : -9223372036854775808 ≤ R.slots ∧ R.slots ≤ 9223372036854775807
  m : -9223372036854775808 ≤ R.mark ∧ R.mark ≤ 9223372036854775807
  b : -9223372036854775808 ≤ R.built ∧ R.built ≤ 9223372036854775807
  ns : R.ns ≤ 100
  nm : R.nm ≤ 100
  seat : ∀ i, i < R.ns → -9223372036854775808 ≤ R.seat i ∧ R.seat i ≤ 9223372036854775807
  st : ∀ i, i < R.nm → -9223372036854775808 ≤ R.st i ∧ R.st i ≤ 9223372036854775807
  top : ∀ i, i < R.nm → (R.top i).size ≤ 140737488355328
  log : ∀ i, i < R.nm → (R.log i).size ≤ 140737488355328
/-- Two records are the same. -/
structure Rec.Same (R S : Rec) : Prop where
  c : R.count = S.count
  e : R.epoch = S.epoch
  d : R.data = S.data
  s : R.slots = S.slots
  m : R.mark = S.mark
  b : R.built = S.built
  g : R.grow = S.grow
  ns : R.ns = S.ns
  seat : ∀ i, i < R.ns → R.seat i = S.seat i
  nm : R.nm = S.nm
  st : ∀ i, i < R.nm → R.st i = S.st i
  top : ∀ i, i < R.nm → R.top i = S.top i
  log : ∀ i, i < R.nm → R.log i = S.log i
theorem Rec.Same.symm {R S : Rec} (h : R.Same S) : S.Same R :=
  ⟨h.c.symm, h.e.symm, h.d.symm, h.s.symm, h.m.symm, h.b.symm, h.g.symm, h.ns.symm, fun i hi => (h.seat i (by rw [h.ns]; exact hi)).symm, h.nm.symm, fun i hi => (h.st i (by rw [h.nm]; exact hi)).symm, fun i hi => (h.top i (by rw [h.nm]; exact hi)).symm, fun i hi => (h.log i (by rw [h.nm]; exact hi)).symm⟩
theorem Rec.Same.trans {R S T : Rec} (h : R.Same S) (k : S.Same T) : R.Same T :=
  ⟨h.c.trans k.c, h.e.trans k.e, h.d.trans k.d, h.s.trans k.s, h.m.trans k.m, h.b.trans k.b, h.g.trans k.g, h.ns.trans k.ns, fun i hi => (h.seat i hi).trans (k.seat i (by rw [← h.ns]; exact hi)), h.nm.trans k.nm, fun i hi => (h.st i hi).trans (k.st i (by rw [← h.nm]; exact hi)), fun i hi => (h.top i hi).trans (k.top i (by rw [← h.nm]; exact hi)), fun i hi => (h.log i hi).trans (k.log i (by rw [← h.nm]; exact hi))⟩
theorem Rec.Same.refl (R : Rec) : R.Same R := ⟨rfl, rfl, rfl, rfl, rfl, rfl, rfl, rfl, fun _ _ => rfl, rfl, fun _ _ => rfl, fun _ _ => rfl, fun _ _ => rfl⟩

/-- How many of the first n members are built anew; how often a number is a seat. -/
def bld (R : Rec) (n : Nat) : Nat := nOf (fun i => R.st i == 3) n
def cnt (R : Rec) (x : Int) (n : Nat) : Nat := nOf (fun j => R.seat j == x) n
def okMark (n slots : Int) (u : Bool) : Bool := n == 0 || (u && decide (0 < n) && decide (n ≤ slots))
def wid (R : Rec) : Int := R.data + (if R.grow then 3 else 2)
def mst (R : Rec) : Int := if R.grow then 7 else 8
def fitB (st : Int) (u : Bool) : Bool := st == 2 || ((st == 1 || st == 3) && u) || (st == 0 && !u)
/-- Is a seat a member's number, and was it no seat ahead? -/
def fresh (R : Rec) (j : Nat) : Bool := decide (0 ≤ R.seat j) && decide (R.seat j < (R.nm : Int)) && cnt R (R.seat j) j == 0
/-- What the program asks. -/
def gdA (R : Rec) : Bool := decide (2 ≤ R.data) && decide (R.data ≤ mst R) && (R.slots == 2 || R.slots == 4 || R.slots == 8 || R.slots == 16)
def gdT (R : Rec) : Prop := ∀ i, i < R.nm → (R.top i).size = 32 ∧ (R.log i).size = 32
instance (R : Rec) : Decidable (gdT R) := by unfold gdT; infer_instance
def gdB (R : Rec) : Bool := decide (1 ≤ R.nm) && decide (R.nm ≤ 12) && decide (gdT R) && decide (bld R R.nm ≤ 1)
def gdC (R : Rec) : Bool := okMark R.mark R.slots R.grow && okMark R.built R.slots (decide (0 < bld R R.nm))
def gdF (R : Rec) : Prop := ∀ i, i < R.nm → fitB (R.st i) (decide (0 < cnt R (i : Int) R.ns)) = true
instance (R : Rec) : Decidable (gdF R) := by unfold gdF; infer_instance
def gdD (R : Rec) : Bool := decide ((R.ns : Int) = wid R) && decide (gdF R) && nOf (fresh R) R.ns == R.ns
def gd (R : Rec) : Bool := gdA R && gdB R && gdC R && gdD R
/-- What the document asks. -/
def mOk (R : Rec) (i : Nat) : Prop := 0 ≤ R.st i ∧ R.st i ≤ 3 ∧ (R.top i).size = 32 ∧ (R.log i).size = 32 ∧ cnt R (i : Int) R.ns ≤ 1 ∧ ¬ (cnt R (i : Int) R.ns = 1 ∧ R.st i = 0) ∧ ¬ (cnt R (i : Int) R.ns = 0 ∧ (R.st i = 1 ∨ R.st i = 3))
def hOk (R : Rec) : Prop := 2 ≤ R.data ∧ R.data ≤ mst R ∧ (R.ns : Int) = wid R ∧ (R.slots = 2 ∨ R.slots = 4 ∨ R.slots = 8 ∨ R.slots = 16) ∧ 0 ≤ R.mark ∧ R.mark ≤ R.slots ∧ 0 ≤ R.built ∧ R.built ≤ R.slots ∧ ¬ (0 < R.mark ∧ R.grow = false) ∧ 1 ≤ R.nm ∧ R.nm ≤ 12
def rOk (R : Rec) : Prop := hOk R ∧ (∀ i, i < R.nm → mOk R i) ∧ (∀ j, j < R.ns → 0 ≤ R.seat j ∧ R.seat j < (R.nm : Int)) ∧ (bld R R.nm = 1 ∨ (bld R R.nm = 0 ∧ R.built = 0))
theorem cnt_zero (R : Rec) (x : Int) (n : Nat) : cnt R x n = 0 ↔ ∀ j, j < n → R.seat j ≠ x := by
  have h := nOf_pos (fun j => R.seat j == x) n
  change 0 < cnt R x n ↔ _ at h
  constructor
  · intro h0 j hj e
    have := h.2 ⟨j, hj, by simpa using e⟩
    omega
  · intro h1
    rcases Nat.eq_zero_or_pos (cnt R x n) with h0 | h0
    · exact h0
    · obtain ⟨j, hj, h2⟩ := h.1 h0
      exact absurd (by simpa using h2) (h1 j hj)
/-- Each seat is another member's. -/
theorem fresh_all (R : Rec) : nOf (fresh R) R.ns = R.ns ↔ (∀ j, j < R.ns → 0 ≤ R.seat j ∧ R.seat j < (R.nm : Int)) ∧ ∀ i, i < R.nm → cnt R (i : Int) R.ns ≤ 1 := by
  rw [nOf_all]
  constructor
  · intro h
    refine ⟨fun j hj => ?_, fun i hi => ?_⟩
    · have := h j hj
      simp only [fresh, Bool.and_eq_true, decide_eq_true_eq] at this
      exact this.1
    · refine (nOf_one _ _).2 fun a b hab hb ⟨h1, h2⟩ => ?_
      have h3 := h b hb
      simp only [fresh, Bool.and_eq_true, beq_iff_eq] at h3 h1 h2
      exact (cnt_zero R _ _).1 h3.2 a hab (h1.trans h2.symm)
  · rintro ⟨h1, h2⟩ j hj
    obtain ⟨a, b⟩ := h1 j hj
    simp only [fresh, Bool.and_eq_true, decide_eq_true_eq, beq_iff_eq]
    refine ⟨⟨a, b⟩, (cnt_zero R _ _).2 fun i hi e => ?_⟩
    have h3 := h2 (R.seat j).toNat (by omega)
    rw [show (((R.seat j).toNat : Nat) : Int) = R.seat j by omega] at h3
    exact (nOf_one _ _).1 h3 i j hi hj ⟨by simpa using e, by simp⟩
theorem gd_iff (R : Rec) : gd R = true ↔ rOk R := by
  unfold rOk hOk gd gdA gdB gdC gdD
  simp only [Bool.and_eq_true, decide_eq_true_eq, Bool.or_eq_true, beq_iff_eq, okMark, fresh_all]
  constructor
  · rintro ⟨⟨⟨⟨⟨a1, a2⟩, a3⟩, ⟨⟨⟨b1, b2⟩, b3⟩, b4⟩⟩, c1, c2⟩, ⟨d1, d2⟩, d3, d4⟩
    refine ⟨⟨a1, a2, d1, by omega, by omega, by omega, by omega, by omega, ?_, b1, b2⟩, fun i hi => ?_, d3, by omega⟩
    · rintro ⟨g1, g2⟩
      rcases c1 with c1 | c1
      · omega
      · rw [g2] at c1; exact absurd c1.1.1 (by decide)
    · have h1 := d2 i hi
      have h2 := d4 i hi
      obtain ⟨h3, h4⟩ := b3 i hi
      simp only [fitB, Bool.or_eq_true, Bool.and_eq_true, beq_iff_eq, decide_eq_true_eq, Bool.not_eq_true', decide_eq_false_iff_not] at h1
      unfold mOk
      omega
  · rintro ⟨⟨a1, a2, d1, a3, m1, m2, m3, m4, m5, b1, b2⟩, hm, d3, hb⟩
    refine ⟨⟨⟨⟨⟨a1, a2⟩, by omega⟩, ⟨⟨⟨b1, b2⟩, fun i hi => ⟨(hm i hi).2.2.1, (hm i hi).2.2.2.1⟩⟩, by omega⟩⟩, ?_, ?_⟩, ⟨d1, fun i hi => ?_⟩, d3, fun i hi => (hm i hi).2.2.2.2.1⟩
    · by_cases h0 : R.mark = 0
      · exact .inl h0
      · refine .inr ⟨⟨?_, by omega⟩, m2⟩
        cases hg : R.grow
        · exact absurd ⟨by omega, hg⟩ m5
        · rfl
    · by_cases h0 : R.built = 0
      · exact .inl h0
      · exact .inr ⟨⟨by omega, by omega⟩, m4⟩
    · have h := hm i hi
      unfold mOk at h
      simp only [fitB, Bool.or_eq_true, Bool.and_eq_true, beq_iff_eq, decide_eq_true_eq, Bool.not_eq_true', decide_eq_false_iff_not]
      omega
theorem gd_congr {R S : Rec} (h : R.Same S) : gd R = gd S := by
  have hb : ∀ n, n ≤ R.nm → bld R n = bld S n := fun n hn => nOf_congr n fun i hi => by rw [h.st i (by omega)]
  have hc : ∀ x n, n ≤ R.ns → cnt R x n = cnt S x n := fun x n hn => nOf_congr n fun i hi => by rw [h.seat i (by omega)]
  have hmst : mst R = mst S := by unfold mst; rw [h.g]
  have hwid : wid R = wid S := by unfold wid; rw [h.g, h.d]
  have e : rOk R ↔ rOk S := by
    unfold rOk hOk
    rw [h.d, h.s, h.m, h.b, h.g, hmst, hwid, hb _ (Nat.le_refl _), h.ns, h.nm]
    refine and_congr Iff.rfl (and_congr (forall_congr' fun i => imp_congr_right fun hi => ?_) (and_congr (forall_congr' fun i => imp_congr_right fun hi => ?_) Iff.rfl))
    · have hi' : i < R.nm := by rw [h.nm]; exact hi
      unfold mOk
      rw [h.st i hi', h.top i hi', h.log i hi', hc _ _ (Nat.le_refl _), h.ns]
    · rw [h.seat i (by rw [h.ns]; exact hi)]
  rw [Bool.eq_iff_iff, gd_iff, gd_iff]; exact e
/-- The bytes of a record. -/
def hdN (R : Rec) (i : Nat) : Int := if i = 0 then R.count else if i = 1 then R.epoch else if i = 2 then R.data else if i = 3 then R.slots else if i = 4 then R.mark else if i = 5 then R.built else if i = 6 then (if R.grow then 1 else 0) else if i = 7 then (R.ns : Int) else if i < 8 + R.ns then R.seat (i - 8) else (R.nm : Int)
def mbB (st : Nat → Int) (top log : Nat → ByteArray) (i : Nat) : ByteArray := numB (st i) ++ (ctxB (top i) ++ ctxB (log i))
def nmB (v : Nat → Int) (i : Nat) : ByteArray := numB (v i)
def byB (R : Rec) : ByteArray := cat (nmB (hdN R)) 0 (9 + R.ns) ++ cat (mbB R.st R.top R.log) 0 R.nm
theorem cat_add (A : Nat → ByteArray) (m : Nat) : ∀ n i, cat A i (n + m) = cat A i n ++ cat A (i + n) m := by
  intro n
  induction n with
  | zero => intro i; rw [Nat.zero_add]; show _ = noB ++ _; rw [noB_app]; rfl
  | succ n ih =>
    intro i
    rw [show n + 1 + m = (n + m) + 1 by omega]
    show A i ++ cat A (i + 1) (n + m) = (A i ++ cat A (i + 1) n) ++ _
    rw [ih (i + 1), join_assoc, show i + 1 + n = i + (n + 1) by omega]
theorem cat_shift (A B : Nat → ByteArray) (n : Nat) : ∀ i j, (∀ k, k < n → A (i + k) = B (j + k)) → cat A i n = cat B j n := by
  induction n with
  | zero => intro i j h; rfl
  | succ n ih =>
    intro i j h
    show A i ++ cat A (i + 1) n = B j ++ cat B (j + 1) n
    rw [show A i = B j from h 0 (by omega), ih (i + 1) (j + 1) (fun k hk => by have := h (k + 1) (by omega); rwa [show i + (k + 1) = i + 1 + k by omega, show j + (k + 1) = j + 1 + k by omega] at this)]
theorem hd_split (R : Rec) (X : ByteArray) : byB R ++ X = cat (nmB (hdN R)) 0 8 ++ (cat (nmB R.seat) 0 R.ns ++ (cat (nmB fun _ => (R.nm : Int)) 0 1 ++ (cat (mbB R.st R.top R.log) 0 R.nm ++ X))) := by
  unfold byB
  rw [show 9 + R.ns = 8 + (R.ns + 1) by omega, cat_add, cat_add, cat_shift (nmB (hdN R)) (nmB R.seat) R.ns (0 + 8) 0 (fun k hk => by
    unfold nmB hdN; simp only [show ¬ (0 + 8 + k = 0) by omega, show ¬ (0 + 8 + k = 1) by omega, show ¬ (0 + 8 + k = 2) by omega, show ¬ (0 + 8 + k = 3) by omega, show ¬ (0 + 8 + k = 4) by omega, show ¬ (0 + 8 + k = 5) by omega, show ¬ (0 + 8 + k = 6) by omega, show ¬ (0 + 8 + k = 7) by omega, if_false, show 0 + 8 + k < 8 + R.ns by omega, if_true, show 0 + 8 + k - 8 = 0 + k by omega]),
    cat_shift (nmB (hdN R)) (nmB fun _ => (R.nm : Int)) 1 (0 + 8 + R.ns) 0 (fun k hk => by
    unfold nmB hdN; simp only [show ¬ (0 + 8 + R.ns + k = 0) by omega, show ¬ (0 + 8 + R.ns + k = 1) by omega, show ¬ (0 + 8 + R.ns + k = 2) by omega, show ¬ (0 + 8 + R.ns + k = 3) by omega, show ¬ (0 + 8 + R.ns + k = 4) by omega, show ¬ (0 + 8 + R.ns + k = 5) by omega, show ¬ (0 + 8 + R.ns + k = 6) by omega, show ¬ (0 + 8 + R.ns + k = 7) by omega, if_false, show ¬ (0 + 8 + R.ns + k < 8 + R.ns) by omega])]
  simp only [join_assoc]
theorem by_congr {R S : Rec} (h : R.Same S) : byB R = byB S := by
  unfold byB
  rw [← h.ns, ← h.nm]
  congr 1
  · refine cat_congr _ _ _ _ fun j hj => ?_
    unfold nmB hdN
    rw [h.c, h.e, h.d, h.s, h.m, h.b, h.g, ← h.ns, ← h.nm]
    by_cases h8 : 0 + j < 8
    · rcases (by omega : 0 + j = 0 ∨ 0 + j = 1 ∨ 0 + j = 2 ∨ 0 + j = 3 ∨ 0 + j = 4 ∨ 0 + j = 5 ∨ 0 + j = 6 ∨ 0 + j = 7) with e | e | e | e | e | e | e | e <;> rw [e] <;> rfl
    · by_cases h9 : 0 + j < 8 + R.ns
      · rw [h.seat (0 + j - 8) (by omega)]
      · simp only [if_neg h9]
  · refine cat_congr _ _ _ _ fun j hj => ?_
    unfold mbB
    rw [h.st _ (by omega), h.top _ (by omega), h.log _ (by omega)]
end Go.Proofs.YtbjmhpbelkndpaaDoor
