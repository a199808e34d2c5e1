import Derived.Test.YtokknmkleceooaaGreatDoorStCall
import Derived.Maps.OwnSet
import Derived.StringKeys
import Derived.Test.YtokknmkleceooaaGreatDoorStWakes
import Derived.Test.YtokknmkleceooaaGreatDoorStHM
namespace Go.Proofs.YtokknmkleceooaaGreatDoor
open Go.RowKit Go.PlainAid
open Go.Maps (Keyed IsMap Tidy)
set_option linter.unusedVariables false
set_option maxRecDepth 20000
def MapV (T : TypeId) (w : World) (b n : Nat) (J : Value → Prop) : Prop := ∃ D : DataW Unit, w.ownsMap Tryz.prog T (plainElem Tryz.prog 4) b n D ∧ Tidy D ∧ Maps.size D = n ∧ ∀ v l, keyOf Tryz.prog T v = some l → ((J v → D.atKey l (.lit (.bool false)) = .lit (.bool true) ∧ Maps.has D l = true) ∧ (¬ J v → D.atKey l (.lit (.bool false)) = .lit (.bool false) ∧ Maps.has D l = false))
section
variable {T M : TypeId} {w w' : World} {b n : Nat} {J J' : Value → Prop}
theorem MapV.lt (h : MapV T w b n J) : b < w.heap.size := by obtain ⟨D, h1, _⟩ := h; exact h1.lt
theorem MapV.kept {F : Nat → Prop} (h : MapV T w b n J) (hk : Kept F w w') (hb : ¬ F b) : MapV T w' b n J := by
  have hl := h.lt
  obtain ⟨D, ⟨es, clock, h1, h2⟩, h3⟩ := h
  exact ⟨D, ⟨es, clock, (hk.block b hl hb).trans h1, h2⟩, h3⟩
theorem MapV.look (K : Keyed Tryz.prog T) (ht : Tryz.prog.underlying M = some (.map T 4)) (h : MapV T w b n J) {key : Value} {x : Lit} (hkey : keyOf Tryz.prog T key = some x) (hJ : ¬ J key) : (Instr.lookup M (.map (some b)) key false).run Tryz.prog w = .ok (.bool false) w := by
  obtain ⟨D, h1, h2, _, h3⟩ := h
  obtain ⟨v, ps, hrun, hv⟩ := h1.lookup K ht (z := .bool false) (by
    obtain ⟨i0, hi, hz0, hz1, hz2⟩ := info_parts (show (Tryz.prog.info? 4).map (fun i => (i.zero, i.size, i.bytes)) = some (some (.bool false), 1, 1) by kernel_rfl)
    simp [zeroValue, typeInfo, hi, hz0]) (plainElem_bool Tryz.underlying4 false) hkey
  rw [((h3 key x hkey).2 hJ).1] at hv
  have hb : v = .bool false := by
    unfold plainElem at hv
    rw [Tryz.underlying4] at hv
    cases v <;> simp at hv ⊢
    exact hv.1
  rw [← hb]; exact hrun
theorem MapV.len (ht : Tryz.prog.underlying M = some (.map T 4)) (h : MapV T w b n J) (ty : TypeId) : (Builtin.len_ #[M] ty #[.map (some b)]).run Tryz.prog w = .ok (.int .i64 (n : Int)) w := by
  obtain ⟨D, h1, h2, h4, h3⟩ := h
  have := h1.len ht ty
  rw [h4] at this; exact this
theorem MapV.put (K : Keyed Tryz.prog T) (ht : Tryz.prog.underlying M = some (.map T 4)) (h : MapV T w b n J) (hn : n ≤ 1000000) {key : Value} {x : Lit} (hkey : keyOf Tryz.prog T key = some x) (hJ : ¬ J key) :
    ∃ w', (Instr.mapUpdate M (.map (some b)) key (.bool true)).run Tryz.prog w = .ok () w' ∧ MapV T w' b (n + 1) (fun y => J y ∨ y = key) ∧ Kept (fun k => k = b) w w' := by
  obtain ⟨D, h1, h2, h4, h3⟩ := h
  obtain ⟨w', hrun, h5, h6⟩ := h1.update K ht (by unfold maxLen; omega) hkey (plainElem_bool Tryz.underlying4 true)
  have hx := K.key hkey
  refine ⟨w', hrun, ⟨_, h5, h2.put hx _, ?_, fun v l hv => ?_⟩, ⟨h6.os, h6.tape, h6.output, h6.size, fun k hk hne => h6.block k hk (fun e => hne (Option.some.inj e))⟩⟩
  · rw [Go.Maps.size_put h2, ((h3 key x hkey).2 hJ).2, h4]; rfl
  · by_cases e : l = x
    · subst e
      have hvk := K.inj hv hkey
      subst hvk
      exact ⟨fun _ => ⟨Go.Maps.atKey_put_same h2.isMap hx _ _, Go.Maps.has_put_same h2.isMap hx _⟩, fun h => (h (.inr rfl)).elim⟩
    · have hne : v ≠ key := fun e2 => e (by rw [e2, hkey] at hv; exact (Option.some.inj hv).symm)
      rw [Go.Maps.atKey_put_other e, Go.Maps.has_put_other e]
      exact ⟨fun h => (h3 v l hv).1 (h.resolve_right hne), fun h => (h3 v l hv).2 (fun h' => h (.inl h'))⟩
end
structure Thr (N : Nat) (b0 b : Bs) (u : Nat → Bool) (Z : Nat → Prop) : Prop where
  p : b.p = b0.p
  ok : Okn N b
  yes : ∀ j, j < N → ¬ Z j → b.D j = b0.D j ∧ u j = true
  no : ∀ j, j < N → Z j → u j = false ∨ (b.D j).dead = true
theorem Thr.start {N : Nat} {b0 : Bs} {Z : Nat → Prop} (h : Okn N b0) (hZ : ∀ j, ¬ Z j) : Thr N b0 b0 (fun _ => true) Z := ⟨rfl, h, fun j _ _ => ⟨rfl, rfl⟩, fun j _ h => absurd h (hZ j)⟩
section
variable {N i : Nat} {b0 b : Bs} {u : Nat → Bool} {Z Z' : Nat → Prop}
theorem Thr.fail (h : Thr N b0 b u Z) (i : Nat) (hZ : ∀ j, Z' j ↔ Z j ∨ j = i) : Thr N b0 (faB b i) u Z' := by
  have e1 : (faB b i).D i = ⟨(b.D i).g, (b.D i).n, fun _ => noB, [], true⟩ := by show updD b.D i _ i = _; exact updD_same _ _ _
  have e2 : ∀ j, j ≠ i → (faB b i).D j = b.D j := fun j hj => by show updD b.D i _ j = _; exact updD_ne _ _ _ _ hj
  refine ⟨h.p, h.ok.fa i, fun j hj hz => ?_, fun j hj hz => ?_⟩
  · have hz' := fun x => hz ((hZ j).2 x)
    rw [e2 j fun e => hz' (.inr e)]
    exact h.yes j hj fun x => hz' (.inl x)
  · by_cases e : j = i
    · subst e; rw [e1]; exact .inr rfl
    · rw [e2 j e]
      exact h.no j hj (((hZ j).1 hz).resolve_right e)
theorem Thr.unuse (h : Thr N b0 b u Z) (i : Nat) (hZ : ∀ j, Z' j ↔ Z j ∨ j = i) : Thr N b0 b (fun j => if j = i then false else u j) Z' := by
  refine ⟨h.p, h.ok, fun j hj hz => ?_, fun j hj hz => ?_⟩
  · have hz' := fun x => hz ((hZ j).2 x)
    rw [if_neg fun e => hz' (.inr e)]
    exact h.yes j hj fun x => hz' (.inl x)
  · by_cases e : j = i
    · rw [if_pos e]; exact .inl rfl
    · rw [if_neg e]
      exact h.no j hj (((hZ j).1 hz).resolve_right e)
theorem Thr.told {d slot k : Nat} {b' : Bs} {F P : Nat → ByteArray} (h : Thr N b0 b u Z) (hL : LyS N N d slot b0 b' (ceC slot (mkC k F)) P) (hd : 1 ≤ d ∧ d ≤ 4) (hs : slot < 2 ^ d) {j : Nat} (hj : j < N) :
    (¬ Z j → feE b d P u (slot : Int) j = 0 ∧ feT b d P u (slot : Int) j = mkC k F j) ∧ (Z j → feE b d P u (slot : Int) j = 11 ∨ feE b d P u (slot : Int) j = 20) := by
  refine ⟨fun hz => ?_, fun hz => ?_⟩
  · obtain ⟨e1, e2⟩ := h.yes j hj hz
    obtain ⟨l, h2, h3⟩ := hL.done j hj
    have h4 := gt_congr (b := b0) (b2 := b) (i := j) h.p e1 d kB19 (P j) (slot : Int)
    have h5 := get_lv (F := mkC k F) h2 hd.2 hs h3
    unfold feE feT
    rw [if_pos e2, if_pos e2, h4.1, h4.2]
    exact h5
  · unfold feE
    rcases h.no j hj hz with e | e
    · rw [if_neg (by rw [e]; decide)]; exact .inl rfl
    · by_cases hu : u j = true
      · rw [if_pos hu]
        exact .inr (get_dead hs (by rw [h.p, hL.p]; exact fun h => by cases h) e)
      · rw [if_neg hu]; exact .inl rfl
end
theorem ea_zero {N : Nat} {T : Nat → ByteArray} {E : Nat → Int} {er f : Int} {G : Nat → ByteArray} {s : ByteArray} {i : Nat} (hN : 4 ≤ N ∧ N ≤ 10) (hi : i < N) (hl : LdR N T E er G) (ho : OnR N T E (i : Int) s f) : er = 0 → f = 0 ∧ (E i ≠ 0 → s = G i) := fun h0 => by
  subst h0
  rcases ho with ⟨a1, _⟩ | ⟨j, e, _, _, a2⟩
  · exact absurd ⟨hN, by omega, by omega⟩ a1
  · obtain rfl : i = j := by omega
    have h21 : E i ≠ 21 := by
      rcases hl with ⟨_, b⟩ | ⟨_, _, b⟩ | ⟨_, b, _⟩
      · cases b
      · cases b
      · exact b i hi
    rcases a2 with ⟨a3, a4, a5⟩ | ⟨a3, F, a4, a5⟩
    · rcases a3 with a3 | a3
      · exact ⟨by rw [a5, a3], fun h => absurd a3 h⟩
      · exact absurd a3 h21
    · obtain ⟨e1, e2⟩ := a4.one hl
      subst e1
      rw [if_pos rfl] at a5
      exact ⟨rfl, fun _ => by rw [a5, e2 rfl]⟩
theorem ea_lost {N : Nat} {T : Nat → ByteArray} {E : Nat → Int} {er f : Int} {G : Nat → ByteArray} {s : ByteArray} {i : Nat} (hN : 4 ≤ N ∧ N ≤ 10) (hi : i < N) (hl : LdR N T E er G) (ho : OnR N T E (i : Int) s f) : er = 24 → f = 0 ∨ f = 24 := fun h0 => by
  subst h0
  rcases ho with ⟨a1, _⟩ | ⟨j, e, _, _, a2⟩
  · exact absurd ⟨hN, by omega, by omega⟩ a1
  · obtain rfl : i = j := by omega
    have h21 : E i ≠ 21 := by
      rcases hl with ⟨_, b⟩ | ⟨_, _, b⟩ | ⟨_, b, _⟩
      · cases b
      · cases b
      · exact b i hi
    rcases a2 with ⟨a3, a4, a5⟩ | ⟨a3, F, a4, a5⟩
    · rcases a3 with a3 | a3
      · exact .inl (by rw [a5, a3])
      · exact absurd a3 h21
    · exact .inr (a4.one hl).1
theorem ea_had {N : Nat} {T : Nat → ByteArray} {E : Nat → Int} {f : Int} {s : ByteArray} {i : Nat} (hN : 4 ≤ N ∧ N ≤ 10) (hi : i < N) (ho : OnR N T E (i : Int) s f) : E i = 0 → f = 0 ∧ s = T i := fun h0 => by
  rcases ho with ⟨a1, _⟩ | ⟨j, e, _, _, a2⟩
  · exact absurd ⟨hN, by omega, by omega⟩ a1
  · obtain rfl : i = j := by omega
    rcases a2 with ⟨_, a4, a5⟩ | ⟨a3, _⟩
    · exact ⟨by rw [a5, h0], a4⟩
    · exact absurd (.inl h0) a3
theorem misL_mem (T : Nat → Bool) (n i : Nat) : i ∈ misL T n ↔ i < n ∧ T i = false := by
  induction n with
  | zero => exact ⟨fun h => (by cases h), fun h => by omega⟩
  | succ n ih =>
    rw [misL_succ, List.mem_append, ih]
    constructor
    · rintro (⟨h1, h2⟩ | h)
      · exact ⟨by omega, h2⟩
      · cases hT : T n with
        | true => rw [hT] at h; simp at h
        | false => rw [hT] at h; simp at h; subst h; exact ⟨by omega, hT⟩
    · rintro ⟨h1, h2⟩
      by_cases e : i = n
      · subst e; exact .inr (by rw [h2]; simp)
      · exact .inl ⟨by omega, h2⟩
theorem Lh.slab {B : Nat} {w0 z : World} {g gr N n hl cl hm cm i : Nat} {b b' : Bs} {vc : Value} {F : Nat → ByteArray} {R : Asn} {P : Nat → ByteArray} {u : Nat → Bool} (h : Lh B w0 z g gr N n hl cl hm cm b b' vc P u F R) (hi : i < N) : z.rangeAt hl (i * 6) [.pointer (some ⟨g, 0, none⟩), .int .i64 (i : Int), .int .i64 (n : Int), .string kB19] ∧ z.cell? ⟨hl, i * 6 + 4, none⟩ = some (.string (P i)) :=
  ⟨fun j v hv => (Lw.cell h (i := i) (j := j) hi (by
    match j, hv with
    | 0, hv => exact hv
    | 1, hv => exact hv
    | 2, hv => exact hv
    | 3, hv => exact hv)).1, (Lw.cell h (i := i) (j := 4) hi rfl).1⟩
theorem Lw.boxset {B : Nat} {w0 z : World} {g gr N gx : Nat} {b b' : Bs} {vl vm vc : Value} {S S' : Nat → Sh} {F : Nat → ByteArray} {R : Asn} {T : TypeId} {L : List Value} (hR : Firm R) (h : Lw B w0 z g gr N b b' vl vm vc S S' F (star (blkA gx T L) R)) (i : Nat) (v : Value) : Lw B w0 (z.setCell ⟨gx, i, none⟩ v) g gr N b b' vl vm vc S S' F (star (blkA gx T (L.set i v)) R) :=
  (Hold.swap (Hold.setBlk (lw_firm hR) (Hold.swap (Hold.monoR h fun F h => star_assoc h)) i v)).monoR fun F h => star_unassoc h
theorem Lw.boxed2 {B : Nat} {w0 z : World} {g gr N gx gy : Nat} {b b' : Bs} {vl vm vc : Value} {S S' : Nat → Sh} {F : Nat → ByteArray} {R : Asn} {T U : TypeId} {L M : List Value} (h : Lw B w0 z g gr N b b' vl vm vc S S' F (star (blkA gx T L) (star (blkA gy U M) R))) : Blk z gy U M := Hold.blk (Hold.right (Hold.left (Hold.right h)))
theorem whole_own {n : Nat} {T F : Nat → ByteArray} {E : Nat → Int} (hn : 4 ≤ n ∧ n ≤ 10) (hE : ∀ i, i < n → E i = 0) (hT : ∀ i, i < n → T i = mkC (n - 2) F i) : whB n T E = true := by
  have hM : ∀ c, c < n → (T c).size = 32 := fun c hc => by rw [hT c hc, mkC_size]
  have hY : ∀ i, i < n → ∀ c, c < 32 → teE (T i) c = St (n - 2) (fun i => teE (F i)) i c := fun i hi c hc => by
    rw [hT i hi]; unfold mkC; exact teE_strE 32 _ c hc
  have h0 : encE (n - 2) (fun i => (T i).size) = 0 := encE_zero.2 ⟨by omega, fun c hc => by show (T c).size = (T 0).size; rw [hM c (by omega), hM 0 (by omega)], by show (T 0).size ≤ _; rw [hM 0 (by omega)]; decide⟩
  have hr : ∀ r, r < 2 → encS (n - 2) (fun i => (T i).size) (fun i => teE (T i)) r = strE (T (n - 2 + r)).size (teE (T (n - 2 + r))) := fun r hr => by
    unfold encS
    rw [if_pos h0]
    show strE (T 0).size _ = _
    rw [hM 0 (by omega), hM (n - 2 + r) (by omega)]
    refine strE_congr fun c hc => ?_
    rw [hY (n - 2 + r) (by omega) c hc, St_parity]
    unfold mulM
    refine S_congr fun k hk => ?_
    show powM r k * teE (T k) c = powM r k * teE (F k) c
    rw [hY k (by omega) c hc, St_data hk]
  have e1 : n - 2 + 1 = n - 1 := by omega
  have h3 := hr 0 (by decide)
  have h4 := hr 1 (by decide)
  rw [e1] at h4
  unfold whB
  refine decide_eq_true ⟨hn, hE, ?_⟩
  unfold chkB
  exact decide_eq_true ⟨by omega, by omega, h0, h3, h4⟩
theorem feE_on {b : Bs} (hp : b.p = none) (d : Nat) (P : Nat → ByteArray) (u : Nat → Bool) (t : Int) (i : Nat) : feE b d P u t i ≠ 21 := by
  have hr : Go.Proofs.YtokknmkleceooaaGreatDoor.eR b.p (b.D i) ≠ 21 := by
    unfold Go.Proofs.YtokknmkleceooaaGreatDoor.eR
    rw [if_neg (by rw [hp]; exact fun h => by cases h)]
    unfold errD
    split <;> decide
  unfold feE
  split
  · unfold gtE
    split
    · unfold slGE
      split
      · split
        · unfold opE
          repeat' split
          all_goals decide
        · decide
      · exact hr
    · decide
  · decide
def Tw (t0 t1 : Nat) (b bq : Bs) (P P' : Nat → ByteArray) (u' : Nat → Bool) : Prop := ∀ j, j ≠ t0 → j ≠ t1 → bq.D j = b.D j ∧ P' j = P j ∧ u' j = true
theorem Tw.start {t0 t1 : Nat} {b : Bs} {P : Nat → ByteArray} : Tw t0 t1 b b P P (fun _ => true) := fun _ _ _ => ⟨rfl, rfl, rfl⟩
theorem Tw.next {t0 t1 i : Nat} {b bq br : Bs} {P P' Pr : Nat → ByteArray} {u' ur : Nat → Bool} (h : Tw t0 t1 b bq P P' u') (hu : Un i bq br P' Pr u' ur) (hi : i = t0 ∨ i = t1) : Tw t0 t1 b br P Pr ur := fun j h0 h1 => by
  have hj : j ≠ i := fun e => hi.elim (fun e' => h0 (e.trans e')) (fun e' => h1 (e.trans e'))
  obtain ⟨a1, a2, a3⟩ := h j h0 h1
  obtain ⟨b1, b2, b3⟩ := hu j hj
  exact ⟨by rw [b1, a1], by rw [b2, a2], by rw [b3, a3]⟩
theorem Tw.told {N d slot k t0 t1 : Nat} {b b' bq : Bs} {F P P' : Nat → ByteArray} {u' : Nat → Bool} (h : Tw t0 t1 b bq P P' u') (hp : bq.p = none) (hL : LyS N N d slot b b' (ceC slot (mkC k F)) P) (hd : 1 ≤ d ∧ d ≤ 4) (hs : slot < 2 ^ d) {j : Nat} (hj : j < N) (h0 : j ≠ t0) (h1 : j ≠ t1) :
    feE bq d P' u' (slot : Int) j = 0 ∧ feT bq d P' u' (slot : Int) j = mkC k F j := by
  obtain ⟨e1, e2, e3⟩ := h j h0 h1
  obtain ⟨l, h2, h3⟩ := hL.done j hj
  have h4 := gt_congr (b := b) (b2 := bq) (i := j) (by rw [hp, hL.p]) e1 d kB19 (P j) (slot : Int)
  have h5 := get_lv (F := mkC k F) h2 hd.2 hs h3
  unfold feE feT
  rw [if_pos e3, if_pos e3, e2, h4.1, h4.2]
  exact h5
theorem cnt_two {n a b : Nat} {T : Nat → Bool} (h : ∀ j, j < n → j ≠ a → j ≠ b → T j = true) : n - 2 ≤ cnt T n := by
  have h1 := cnt_not T n
  have h2 := cnt_or (fun x => decide (x = a)) (fun x => decide (x = b)) (fun i => !T i) n fun i hi hT => by
    by_cases ea : i = a
    · exact .inl (decide_eq_true ea)
    · by_cases eb : i = b
      · exact .inr (decide_eq_true eb)
      · rw [h i hi ea eb] at hT; cases hT
  have h3 := cnt_eq_le a n
  have h4 := cnt_eq_le b n
  split at h3 <;> split at h4 <;> omega
structure Tg (n : Nat) (C T : Nat → ByteArray) (E : Nat → Int) : Prop where
  n4 : 4 ≤ n ∧ n ≤ 10
  own : ∃ F, C = mkC (n - 2) F
  on : ∀ i, i < n → E i ≠ 21
  had : ∀ i, i < n → E i = 0 → T i = C i
  few : n - 2 ≤ cnt (fun i => decide (E i = 0)) n
section
variable {n : Nat} {C T G : Nat → ByteArray} {E : Nat → Int} {er f : Int} {s : ByteArray} {i : Nat}
theorem Tg.load (h : Tg n C T E) (hl : LdR n T E er G) : er = 0 ∧ G = C := by
  obtain ⟨F, e⟩ := h.own
  obtain ⟨h1, h2⟩ := ld_back (F := F) h.n4 h.on h.few (fun i hi h0 => by rw [h.had i hi h0, e]) hl
  exact ⟨h1, by rw [h2, e]⟩
theorem Tg.one (h : Tg n C T E) (hi : i < n) (ho : OnR n T E (i : Int) s f) : f = 0 ∧ s = C i := by
  rcases ho with ⟨a1, _⟩ | ⟨j, e, _, _, a2⟩
  · exact absurd ⟨h.n4, by omega, by omega⟩ a1
  · obtain rfl : i = j := by omega
    rcases a2 with ⟨a3, a4, a5⟩ | ⟨a3, F, a4, a5⟩
    · have h0 : E i = 0 := a3.resolve_right (h.on i hi)
      exact ⟨by rw [a5, h0], by rw [a4, h.had i hi h0]⟩
    · obtain ⟨e1, e2⟩ := h.load a4
      subst e1
      rw [if_pos rfl] at a5
      exact ⟨rfl, by rw [a5, e2]⟩
theorem Tg.lost (h : Tg n C T E) : (misL (fun i => decide (E i = 0)) n).length ≤ 2 := by
  have h1 := misL_cnt (fun i => decide (E i = 0)) n
  have h2 := h.few
  have h3 := h.n4
  omega
theorem Tg.whole (h : Tg n C T E) : whB n T E = decide ((misL (fun i => decide (E i = 0)) n).length = 0) := by
  by_cases e : (misL (fun i => decide (E i = 0)) n).length = 0
  · rw [decide_eq_true e]
    have hE : ∀ i, i < n → E i = 0 := fun i hi => Classical.byContradiction fun h0 => by
      have := (misL_mem (fun i => decide (E i = 0)) n i).2 ⟨hi, decide_eq_false h0⟩
      rw [List.eq_nil_of_length_eq_zero e] at this
      cases this
    obtain ⟨F, eC⟩ := h.own
    exact whole_own h.n4 hE fun i hi => by rw [h.had i hi (hE i hi), eC]
  · rw [decide_eq_false e]
    refine whB_no fun h' => e ?_
    cases hm : misL (fun i => decide (E i = 0)) n with
    | nil => rfl
    | cons a l =>
      have := (misL_mem (fun i => decide (E i = 0)) n a).1 (by rw [hm]; exact List.mem_cons_self)
      have h2 : decide (E a = 0) = false := this.2
      exact absurd (h'.2 a this.1) (of_decide_eq_false h2)
end
theorem Tw.tg {N d slot t0 t1 : Nat} {b b' bq : Bs} {F P P' : Nat → ByteArray} {u' : Nat → Bool} (hN : 4 ≤ N ∧ N ≤ 10) (h : Tw t0 t1 b bq P P' u') (hp : bq.p = none) (hL : LyS N N d slot b b' (ceC slot (mkC (N - 2) F)) P) (hd : 1 ≤ d ∧ d ≤ 4) (hs : slot < 2 ^ d)
    (h0 : feE bq d P' u' (slot : Int) t0 = 0 → feT bq d P' u' (slot : Int) t0 = mkC (N - 2) F t0) (h1 : feE bq d P' u' (slot : Int) t1 = 0 → feT bq d P' u' (slot : Int) t1 = mkC (N - 2) F t1) : Tg N (mkC (N - 2) F) (feT bq d P' u' (slot : Int)) (feE bq d P' u' (slot : Int)) := by
  refine ⟨hN, ⟨F, rfl⟩, fun i _ => feE_on hp d P' u' _ i, fun i hi e => ?_, cnt_two (a := t0) (b := t1) fun j hj e0 e1 => decide_eq_true (h.told hp hL hd hs hj e0 e1).1⟩
  by_cases e0 : i = t0
  · subst e0; exact h0 e
  · by_cases e1 : i = t1
    · subst e1; exact h1 e
    · exact (h.told hp hL hd hs hi e0 e1).2
end Go.Proofs.YtokknmkleceooaaGreatDoor
