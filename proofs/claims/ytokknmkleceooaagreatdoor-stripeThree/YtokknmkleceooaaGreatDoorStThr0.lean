/- Three disks dead or not used: plain facts. -/
import Derived.Test.YtokknmkleceooaaGreatDoorStMap
import Derived.Test.YtokknmkleceooaaGreatDoorStWakes
namespace Go.Proofs.YtokknmkleceooaaGreatDoor
open Go.RowKit Go.PlainAid
open Go.Maps (Keyed IsMap Tidy)
set_option linter.unusedVariables false
set_option maxRecDepth 20000

theorem cnt_cg {p q : Nat → Bool} : ∀ {n : Nat}, (∀ i, i < n → p i = q i) → cnt p n = cnt q n
  | 0, _ => rfl
  | n + 1, h => by simp only [cnt]; rw [h n (by omega), cnt_cg fun i hi => h i (by omega)]
theorem cnt_flip {T : Nat → Bool} {i : Nat} : ∀ {n : Nat}, i < n → T i = false → cnt (fun j => T j || decide (j = i)) n = cnt T n + 1
  | 0, h, _ => by omega
  | n + 1, h, ht => by
    by_cases e : i = n
    · subst e
      rw [cnt_succ_true (by simp), cnt_succ_false ht, cnt_cg (q := T) fun j hj => by
        have : decide (j = i) = false := by simp; omega
        rw [this, Bool.or_false]]
    · have h2 := cnt_flip (n := n) (by omega) ht
      have h3 : (T n || decide (n = i)) = T n := by
        have : decide (n = i) = false := by simp; omega
        rw [this, Bool.or_false]
      cases hn : T n with
      | true => rw [cnt_succ_true (by rw [h3]; exact hn), cnt_succ_true hn, h2]
      | false => rw [cnt_succ_false (by rw [h3]; exact hn), cnt_succ_false hn, h2]
theorem cnt_three {T : Nat → Bool} {n a b c : Nat} (ha : a < n) (hb : b < n) (hc : c < n) (hab : a ≠ b) (hac : a ≠ c) (hbc : b ≠ c) (ta : T a = false) (tb : T b = false) (tc : T c = false) : cnt T n + 3 ≤ n := by
  have h1 := cnt_flip ha ta
  have h2 := cnt_flip (T := fun j => T j || decide (j = a)) hb (by simp [tb]; omega)
  have h3 := cnt_flip (T := fun j => (T j || decide (j = a)) || decide (j = b)) hc (by simp [tc]; omega)
  have h4 := cnt_le (fun j => ((T j || decide (j = a)) || decide (j = b)) || decide (j = c)) n
  omega
/-- Of the disks, those in Z are dead or not used. -/
structure Thr (N : Nat) (b0 b : Bs) (u : Nat → Bool) (Z : Nat → Prop) : Prop where
  p : b.p = b0.p
  ok : Okn N b
  yes : ∀ j, j < N → ¬ Z j → b.D j = b0.D j ∧ u j = true
  no : ∀ j, j < N → Z j → u j = false ∨ (b.D j).dead = true
theorem Thr.start {N : Nat} {b0 : Bs} {Z : Nat → Prop} (h : Okn N b0) (hZ : ∀ j, ¬ Z j) : Thr N b0 b0 (fun _ => true) Z := ⟨rfl, h, fun j _ _ => ⟨rfl, rfl⟩, fun j _ h => absurd h (hZ j)⟩
section
variable {N i : Nat} {b0 b : Bs} {u : Nat → Bool} {Z Z' : Nat → Prop}
theorem Thr.fail (h : Thr N b0 b u Z) (i : Nat) (hZ : ∀ j, Z' j ↔ Z j ∨ j = i) : Thr N b0 (faB b i) u Z' := by
  have e1 : (faB b i).D i = ⟨(b.D i).g, (b.D i).n, fun _ => noB, [], true⟩ := by show updD b.D i _ i = _; exact updD_same _ _ _
  have e2 : ∀ j, j ≠ i → (faB b i).D j = b.D j := fun j hj => by show updD b.D i _ j = _; exact updD_ne _ _ _ _ hj
  refine ⟨h.p, h.ok.fa i, fun j hj hz => ?_, fun j hj hz => ?_⟩
  · have hz' := fun x => hz ((hZ j).2 x)
    rw [e2 j fun e => hz' (.inr e)]
    exact h.yes j hj fun x => hz' (.inl x)
  · by_cases e : j = i
    · subst e; rw [e1]; exact .inr rfl
    · rw [e2 j e]
      exact h.no j hj (((hZ j).1 hz).resolve_right e)
theorem Thr.unuse (h : Thr N b0 b u Z) (i : Nat) (hZ : ∀ j, Z' j ↔ Z j ∨ j = i) : Thr N b0 b (fun j => if j = i then false else u j) Z' := by
  refine ⟨h.p, h.ok, fun j hj hz => ?_, fun j hj hz => ?_⟩
  · have hz' := fun x => hz ((hZ j).2 x)
    rw [if_neg fun e => hz' (.inr e)]
    exact h.yes j hj fun x => hz' (.inl x)
  · by_cases e : j = i
    · rw [if_pos e]; exact .inl rfl
    · rw [if_neg e]
      exact h.no j hj (((hZ j).1 hz).resolve_right e)
/-- What the shelves tell then. -/
theorem Thr.told {d slot k : Nat} {b' : Bs} {F P : Nat → ByteArray} (h : Thr N b0 b u Z) (hL : LyS N N d slot b0 b' (ceC slot (mkC k F)) P) (hd : 1 ≤ d ∧ d ≤ 4) (hs : slot < 2 ^ d) {j : Nat} (hj : j < N) :
    (¬ Z j → feE b d P u (slot : Int) j = 0 ∧ feT b d P u (slot : Int) j = mkC k F j) ∧ (Z j → feE b d P u (slot : Int) j = 11 ∨ feE b d P u (slot : Int) j = 20) := by
  refine ⟨fun hz => ?_, fun hz => ?_⟩
  · obtain ⟨e1, e2⟩ := h.yes j hj hz
    obtain ⟨l, h2, h3⟩ := hL.done j hj
    have h4 := gt_congr (b := b0) (b2 := b) (i := j) h.p e1 d kB19 (P j) (slot : Int)
    have h5 := get_lv (F := mkC k F) h2 hd.2 hs h3
    unfold feE feT
    rw [if_pos e2, if_pos e2, h4.1, h4.2]
    exact h5
  · unfold feE
    rcases h.no j hj hz with e | e
    · rw [if_neg (by rw [e]; decide)]; exact .inl rfl
    · by_cases hu : u j = true
      · rw [if_pos hu]
        exact .inr (get_dead hs (by rw [h.p, hL.p]; exact fun h => by cases h) e)
      · rw [if_neg hu]; exact .inl rfl
end
/-- The q-th of those that go, from r on. -/
def thI (N r q : Nat) : Nat := (r + q) % N
def thZ (N r k : Nat) (j : Nat) : Prop := ∃ q, q < k ∧ j = thI N r q
def thJ (N r k : Nat) (v : Value) : Prop := ∃ j : Nat, v = .int .i64 (j : Int) ∧ thZ N r k j
theorem thZ_next (N r k j : Nat) : thZ N r (k + 1) j ↔ thZ N r k j ∨ j = thI N r k := by
  constructor
  · rintro ⟨q, h1, h2⟩
    by_cases e : q = k
    · subst e; exact .inr h2
    · exact .inl ⟨q, by omega, h2⟩
  · rintro (⟨q, h1, h2⟩ | h)
    · exact ⟨q, by omega, h2⟩
    · exact ⟨k, by omega, h⟩
theorem thJ_next (N r k : Nat) (v : Value) : thJ N r k v ∨ v = .int .i64 (thI N r k : Int) ↔ thJ N r (k + 1) v := by
  constructor
  · rintro (⟨j, h1, h2⟩ | h)
    · exact ⟨j, h1, (thZ_next N r k j).2 (.inl h2)⟩
    · exact ⟨_, h, (thZ_next N r k _).2 (.inr rfl)⟩
  · rintro ⟨j, h1, h2⟩
    rcases (thZ_next N r k j).1 h2 with h | h
    · exact .inl ⟨j, h1, h⟩
    · exact .inr (by rw [h1, h])
theorem thJ_iff (N r k j : Nat) : thJ N r k (.int .i64 (j : Int)) ↔ thZ N r k j := by
  constructor
  · rintro ⟨i, h1, h2⟩
    cases h1
    exact h2
  · exact fun h => ⟨j, rfl, h⟩
theorem thI_lt {N r : Nat} (hN : 4 ≤ N) (q : Nat) : thI N r q < N := Nat.mod_lt _ (by omega)
theorem thI_ne {N r p q : Nat} (hN : 4 ≤ N) (hr : r < N) (hp : p < 3) (hq : q < 3) (h : p ≠ q) : thI N r p ≠ thI N r q := by
  unfold thI
  have e : ∀ x, x < 3 → (r + x) % N = if r + x < N then r + x else r + x - N := fun x hx => by
    by_cases h : r + x < N
    · rw [if_pos h, Nat.mod_eq_of_lt h]
    · rw [if_neg h, Nat.mod_eq_sub_mod (by omega), Nat.mod_eq_of_lt (by omega)]
  rw [e p hp, e q hq]
  split <;> split <;> omega
theorem thZ_new {N r k : Nat} (hN : 4 ≤ N) (hr : r < N) (hk : k < 3) : ¬ thZ N r k (thI N r k) := fun ⟨q, h1, h2⟩ => thI_ne hN hr hk (by omega) (by omega) h2
/-- What is answered then. -/
theorem thr_load {N d k r : Nat} {b0 b b' : Bs} {u : Nat → Bool} {F P : Nat → ByteArray} (hN : 4 ≤ N ∧ N ≤ 10) (hr : r < N) (h : Thr N b0 b u (thZ N r 3)) (hL : LyS N N d 1 b0 b' (ceC 1 (mkC k F)) P) (hd : 1 ≤ d ∧ d ≤ 4) {er : Int} {G : Nat → ByteArray} (hl : LdR N (feT b d P u 1) (feE b d P u 1) er G) : er = 24 := by
  have hs : 1 < 2 ^ d := Nat.one_lt_two_pow (by omega)
  have ht : ∀ j, j < N → _ := fun j hj => h.told hL hd hs (j := j) hj
  have hz : ∀ q, q < 3 → decide (feE b d P u 1 (thI N r q) = 0) = false := fun q hq => by
    rcases (ht _ (thI_lt hN.1 q)).2 ⟨q, hq, rfl⟩ with e | e
    · exact decide_eq_false (by rw [show (1 : Int) = ((1 : Nat) : Int) from rfl, e]; decide)
    · exact decide_eq_false (by rw [show (1 : Int) = ((1 : Nat) : Int) from rfl, e]; decide)
  have hc := cnt_three (T := fun i => decide (feE b d P u 1 i = 0)) (thI_lt (r := r) hN.1 0) (thI_lt (r := r) hN.1 1) (thI_lt (r := r) hN.1 2) (thI_ne hN.1 hr (by decide) (by decide) (by decide)) (thI_ne hN.1 hr (by decide) (by decide) (by decide)) (thI_ne hN.1 hr (by decide) (by decide) (by decide)) (hz 0 (by decide)) (hz 1 (by decide)) (hz 2 (by decide))
  rcases hl with ⟨a1, _⟩ | ⟨_, ⟨i, ai, a2⟩, _⟩ | ⟨_, _, a3⟩
  · exact absurd hN a1
  · by_cases hzi : thZ N r 3 i
    · rcases (ht i ai).2 hzi with e | e
      · rw [show (1 : Int) = ((1 : Nat) : Int) from rfl, e] at a2; cases a2
      · rw [show (1 : Int) = ((1 : Nat) : Int) from rfl, e] at a2; cases a2
    · have e := ((ht i ai).1 hzi).1
      rw [show (1 : Int) = ((1 : Nat) : Int) from rfl, e] at a2; cases a2
  · rcases a3 with ⟨_, b1⟩ | ⟨b1, _⟩ | ⟨b1, _⟩
    · exact b1
    · omega
    · omega
theorem thr_one {N d k r : Nat} {b0 b b' : Bs} {u : Nat → Bool} {F P : Nat → ByteArray} (hN : 4 ≤ N ∧ N ≤ 10) (hr : r < N) (h : Thr N b0 b u (thZ N r 3)) (hL : LyS N N d 1 b0 b' (ceC 1 (mkC k F)) P) (hd : 1 ≤ d ∧ d ≤ 4) {i : Nat} (hi : i < N) {er : Int} {s : ByteArray} (ho : OnR N (feT b d P u 1) (feE b d P u 1) (i : Int) s er) :
    (thZ N r 3 i → er = 24) ∧ (¬ thZ N r 3 i → er = 0 ∧ s = mkC k F i) := by
  have hs : 1 < 2 ^ d := Nat.one_lt_two_pow (by omega)
  have ht := h.told hL hd hs (j := i) hi
  rw [show ((1 : Nat) : Int) = 1 from rfl] at ht
  rcases ho with ⟨a1, _⟩ | ⟨j, e, _, _, a2⟩
  · exact absurd ⟨hN, by omega, by omega⟩ a1
  · obtain rfl : i = j := by omega
    refine ⟨fun hz => ?_, fun hz => ?_⟩
    · rcases a2 with ⟨a3, _⟩ | ⟨_, G, a4, _⟩
      · rcases ht.2 hz with e | e <;> rw [e] at a3 <;> rcases a3 with a3 | a3 <;> cases a3
      · exact thr_load hN hr h hL hd a4
    · obtain ⟨e1, e2⟩ := ht.1 hz
      rcases a2 with ⟨_, a3, a4⟩ | ⟨a3, _⟩
      · exact ⟨by rw [a4, e1], by rw [a3, e2]⟩
      · exact absurd (.inl e1) a3
theorem thr_whole {N d k r : Nat} {b0 b b' : Bs} {u : Nat → Bool} {F P : Nat → ByteArray} (hN : 4 ≤ N ∧ N ≤ 10) (h : Thr N b0 b u (thZ N r 3)) (hL : LyS N N d 1 b0 b' (ceC 1 (mkC k F)) P) (hd : 1 ≤ d ∧ d ≤ 4) : whB N (feT b d P u 1) (feE b d P u 1) = false := by
  have hs : 1 < 2 ^ d := Nat.one_lt_two_pow (by omega)
  have ht := h.told hL hd hs (j := thI N r 0) (thI_lt hN.1 0)
  rw [show ((1 : Nat) : Int) = 1 from rfl] at ht
  refine whB_no fun h' => ?_
  have e0 := h'.2 _ (thI_lt (r := r) hN.1 0)
  rcases ht.2 ⟨0, by decide, rfl⟩ with e | e <;> rw [e] at e0 <;> cases e0
section
variable {B : Nat} {w0 z : World} {g gr N n c gm : Nat} {b b' : Bs} {vl vm vc : Value} {S S' : Nat → Sh} {F : Nat → ByteArray} {J J' : Value → Prop}
theorem Lw.mapv (h : Lw B w0 z g gr N b b' vl vm vc S S' F (star (mapV 3 gm n J) nought)) : MapV 3 z gm n J := Hold.mapv (Hold.left (Hold.right h))
theorem Lw.mapvNew (h : Lw B w0 z g gr N b b' vl vm vc S S' F nought) (hJ : ∀ v, ¬ J v) : Lw B w0 (z.alloc (.map #[] 0)) g gr N b b' vl vm vc S S' F (star (mapV 3 z.heap.size 0 J) nought) :=
  (Hold.swap ((Hold.mapvNew (lw_firm firm_nought) h 3).mapvMono fun v => ⟨fun h => h.elim, hJ v⟩)).monoR fun F h => star_unassoc h
theorem Lw.mapvPut {M : TypeId} (ht : Tryz.prog.underlying M = some (.map 3 4)) (h : Lw B w0 z g gr N b b' vl vm vc S S' F (star (mapV 3 gm n J) nought)) (hn : n ≤ 1000000) {key : Value} {x : Lit} (hkey : keyOf Tryz.prog 3 key = some x) (hJ : ¬ J key) (hJ' : ∀ v, (J v ∨ v = key) ↔ J' v) :
    ∃ w', (Instr.mapUpdate M (.map (some gm)) key (.bool true)).run Tryz.prog z = .ok () w' ∧ Lw B w0 w' g gr N b b' vl vm vc S S' F (star (mapV 3 gm (n + 1) J') nought) := by
  have h1 := Hold.swap (Hold.monoR h fun F h => star_assoc h)
  obtain ⟨w', hrun, h2⟩ := Hold.mapvPut key1 ht (lw_firm firm_nought) h1 hn hkey hJ
  exact ⟨w', hrun, (Hold.swap (h2.mapvMono hJ')).monoR fun F h => star_unassoc h⟩
end
end Go.Proofs.YtokknmkleceooaaGreatDoor
