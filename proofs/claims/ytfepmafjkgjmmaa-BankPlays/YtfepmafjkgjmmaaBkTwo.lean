/- Both banks side by side, the program's and the document's: they answer the same. -/
import Derived.Test.YtfepmafjkgjmmaaBkApart
namespace Go.Proofs.Ytfepmafjkgjmmaa
open Go.RowKit Go.PlainAid
set_option linter.unusedVariables false

/-- Both have the same cells, if they aren't dead. -/
def Rel (dead : Bool) (n : Nat) (l l' : Nat → ByteArray) : Prop := dead = false → ∀ i, i < n → l i = l' i
/-- Two disks that answer the same. -/
def SameD (d d' : Dk) : Prop := d.n = d'.n ∧ d.q = d'.q ∧ d.dead = d'.dead ∧ Rel d.dead d.n d.l d'.l
def Same (N : Nat) (D D' : Nat → Dk) : Prop := ∀ i, i < N → SameD (D i) (D' i)
theorem SameD.read {d d' : Dk} (h : SameD d d') (a : Int) : readB d'.l d'.q d'.dead d'.n a = readB d.l d.q d.dead d.n a := by
  obtain ⟨h1, h2, h3, h4⟩ := h
  rw [← h1, ← h2, ← h3]
  unfold readB
  rcases errA_cases d.dead d.n a with hd | ⟨hd, ha⟩ | ⟨hd, k, rfl, hk⟩
  · rw [hd]; rfl
  · rw [hd, errA_low _ a ha]; rfl
  · rw [hd, errA_ok _ k hk, if_pos rfl, if_pos rfl, Int.toNat_natCast, app_congr d.q d.n d'.l d.l (fun i hi => (h4 hd i hi).symm) k hk]
theorem SameD.put {d d' : Dk} (h : SameD d d') (a : Int) (t : ByteArray) : SameD (putD d a t) (putD d' a t) := by
  obtain ⟨h1, h2, h3, h4⟩ := h
  exact ⟨h1, by show putQ _ _ _ _ _ = putQ _ _ _ _ _; rw [h1, h2, h3], h3, h4⟩
theorem SameD.flush {d d' : Dk} (h : SameD d d') : SameD (flushD d) (flushD d') := by
  obtain ⟨h1, h2, h3, h4⟩ := h
  refine ⟨h1, by show flushQ _ _ = flushQ _ _; rw [h2, h3], h3, ?_⟩
  intro hd
  have hd : d.dead = false := hd
  show ∀ i, i < d.n → flushL d.l d.q d.dead i = flushL d'.l d'.q d'.dead i
  rw [← h2, ← h3, hd]
  exact app_congr d.q d.n d.l d'.l (h4 hd)
theorem SameD.crash {d d' : Dk} (h : SameD d d') (k : Nat → Bool) : SameD (crashD d k) (crashD d' k) := by
  obtain ⟨h1, h2, h3, h4⟩ := h
  refine ⟨h1, by show flushQ _ _ = flushQ _ _; rw [h2, h3], h3, ?_⟩
  intro hd
  have hd : d.dead = false := hd
  show ∀ i, i < d.n → crashL d.l d.q d.dead k i = crashL d'.l d'.q d'.dead k i
  rw [← h2, ← h3, hd]
  exact app_congr _ d.n d.l d'.l (h4 hd)
/-- A disk that has failed. -/
def failD (d : Dk) : Dk := ⟨d.g, d.n, fun _ => noB, [], true⟩
def rfailD (d : Dk) : Dk := ⟨d.g, d.n, d.l, [], true⟩
theorem SameD.fail {d d' : Dk} (h : SameD d d') : SameD (failD d) (rfailD d') := ⟨h.1, rfl, rfl, fun h => by cases h⟩
theorem Same.upd {N : Nat} {D D' : Nat → Dk} (h : Same N D D') (k : Nat) {d d' : Dk} (hd : SameD d d') : Same N (updD D k d) (updD D' k d') := by
  intro i hi
  by_cases e : i = k
  · subst e; rw [updD_same, updD_same]; exact hd
  · rw [updD_ne _ _ _ _ e, updD_ne _ _ _ _ e]; exact h i hi
theorem Same.st {N : Nat} {D D' : Nat → Dk} (h : Same N D D') (p : Option Nat) (i : Int) {d d' : Dk} (hd : ∀ k : Nat, i = (k : Int) → k < N → SameD d d') : Same N (stD N p i D d) (stD N p i D' d') := by
  rcases out_cases N i with ho | ⟨k, rfl, hk, ho⟩
  · unfold stD; rw [if_pos ho, if_pos ho]; exact h
  · unfold stD; rw [if_neg ho, if_neg ho]
    split
    · exact h
    · exact h.upd _ (hd k rfl hk)
theorem Same.errW {N : Nat} {D D' : Nat → Dk} (h : Same N D D') (p : Option Nat) (i a : Int) (t : ByteArray) : stE N p i (Go.Proofs.Ytfepmafjkgjmmaa.errW (D' i.toNat).dead (D' i.toNat).n a t) = stE N p i (Go.Proofs.Ytfepmafjkgjmmaa.errW (D i.toNat).dead (D i.toNat).n a t) := by
  rcases out_cases N i with ho | ⟨k, rfl, hk, ho⟩
  · unfold stE; rw [if_pos ho, if_pos ho]
  · rw [Int.toNat_natCast, (h k hk).1, (h k hk).2.2.1]
theorem Same.errD {N : Nat} {D D' : Nat → Dk} (h : Same N D D') (p : Option Nat) (i : Int) : stE N p i (Go.Proofs.Ytfepmafjkgjmmaa.errD (D' i.toNat).dead) = stE N p i (Go.Proofs.Ytfepmafjkgjmmaa.errD (D i.toNat).dead) := by
  rcases out_cases N i with ho | ⟨k, rfl, hk, ho⟩
  · unfold stE; rw [if_pos ho, if_pos ho]
  · rw [Int.toNat_natCast, (h k hk).2.2.1]
theorem Same.errA {N : Nat} {D D' : Nat → Dk} (h : Same N D D') (p : Option Nat) (i a : Int) : stE N p i (Go.Proofs.Ytfepmafjkgjmmaa.errA (D' i.toNat).dead (D' i.toNat).n a) = stE N p i (Go.Proofs.Ytfepmafjkgjmmaa.errA (D i.toNat).dead (D i.toNat).n a) := by
  rcases out_cases N i with ho | ⟨k, rfl, hk, ho⟩
  · unfold stE; rw [if_pos ho, if_pos ho]
  · rw [Int.toNat_natCast, (h k hk).1, (h k hk).2.2.1]
theorem Same.read {N : Nat} {D D' : Nat → Dk} (h : Same N D D') (p : Option Nat) (i a : Int) : rdB N p i (readB (D' i.toNat).l (D' i.toNat).q (D' i.toNat).dead (D' i.toNat).n a) = rdB N p i (readB (D i.toNat).l (D i.toNat).q (D i.toNat).dead (D i.toNat).n a) := by
  rcases out_cases N i with ho | ⟨k, rfl, hk, ho⟩
  · unfold rdB; rw [if_pos ho, if_pos ho]
  · rw [Int.toNat_natCast, (h k hk).read a]
/-- Not more than z writes wait on each disk. -/
def Few (N : Nat) (D : Nat → Dk) (z : Nat) : Prop := ∀ i, i < N → (D i).q.length ≤ z
theorem Few.same {N : Nat} {D D' : Nat → Dk} {z : Nat} (h : Few N D z) (hs : Same N D D') : Few N D' z := fun i hi => by rw [← (hs i hi).2.1]; exact h i hi
theorem Few.more {N : Nat} {D : Nat → Dk} {z : Nat} (h : Few N D z) : Few N D (z + 1) := fun i hi => Nat.le_succ_of_le (h i hi)
theorem Few.upd {N : Nat} {D : Nat → Dk} {z : Nat} (h : Few N D z) (k : Nat) (d : Dk) (hd : d.q.length ≤ z + 1) : Few N (updD D k d) (z + 1) := fun i hi => by
  by_cases e : i = k
  · subst e; rw [updD_same]; exact hd
  · rw [updD_ne _ _ _ _ e]; exact Nat.le_succ_of_le (h i hi)
theorem Few.st {N : Nat} {D : Nat → Dk} {z : Nat} (h : Few N D z) (p : Option Nat) (i : Int) (d : Dk) (hd : ∀ k : Nat, i = (k : Int) → k < N → d.q.length ≤ z + 1) : Few N (stD N p i D d) (z + 1) := by
  rcases out_cases N i with ho | ⟨k, rfl, hk, ho⟩
  · unfold stD; rw [if_pos ho]; exact h.more
  · unfold stD; rw [if_neg ho]
    split
    · exact h.more
    · exact h.upd _ _ (hd k rfl hk)
theorem Few.put {N : Nat} {D : Nat → Dk} {z : Nat} (h : Few N D z) (p : Option Nat) (i a : Int) (t : ByteArray) : Few N (stD N p i D (putD (D i.toNat) a t)) (z + 1) := h.st p i _ (fun k e hk => by
  subst e; rw [Int.toNat_natCast]
  have := h k hk
  have := putQ_length (D k).q (D k).dead (D k).n a t
  show (putQ (D k).q (D k).dead (D k).n a t).length ≤ _
  omega)
theorem Few.flush {N : Nat} {D : Nat → Dk} {z : Nat} (h : Few N D z) (p : Option Nat) (i : Int) : Few N (stD N p i D (flushD (D i.toNat))) (z + 1) := h.st p i _ (fun k e hk => by
  subst e; rw [Int.toNat_natCast]
  have := h k hk
  have := flushQ_length (D k).q (D k).dead
  show (flushQ (D k).q (D k).dead).length ≤ _
  omega)
theorem Few.crash {N : Nat} {D : Nat → Dk} {z : Nat} (h : Few N D z) (K : Nat → Nat → Bool) : Few N (fun i => crashD (D i) (K i)) (z + 1) := fun i hi => by
  have := h i hi
  have := flushQ_length (D i).q (D i).dead
  show (flushQ (D i).q (D i).dead).length ≤ _
  omega
theorem Few.big {N : Nat} {D : Nat → Dk} {z : Nat} (h : Few N D z) (hz : z ≤ 1000) : ∀ j, j < N → (D j).q.length ≤ 1000000 := fun j hj => by have := h j hj; omega

/-- Both banks. -/
def Two (R : Asn) (W w : World) (g g' N : Nat) (D D' : Nat → Dk) (s s' : Nat) (p p' : Option Nat) : Prop := Hold W.heap.size W w (star (bnk g N D s p) (star (rbk g' N D' s' p') R))
section
variable {R : Asn} {W w : World} {g g' N : Nat} {D D' : Nat → Dk} {s s' : Nat} {p p' : Option Nat}
theorem firm_two (hR : Firm R) : Firm (star (bnk g N D s p) (star (rbk g' N D' s' p') R)) := (firm_bnk _ _ _ _ _).star ((firm_rbk _ _ _ _ _).star hR)
theorem Two.low (h : Two R W w g g' N D D' s s' p p') : Below W.heap.size W w := Hold.low h
theorem Two.below {w' : World} (hR : Firm R) (h : Two R W w g g' N D D' s s' p p') (hb : Below w.heap.size w w') : Two R W w' g g' N D D' s s' p p' := Hold.below h (firm_two hR) hb
theorem Two.box (h : Two nought W w g g' N D D' s s' p p') (T : TypeId) (A : Array Value) : Two (star (blkA w.heap.size T A.toList) nought) W (w.alloc (.cells A T)) g g' N D D' s s' p p' :=
  (Hold.newBlk (firm_two firm_nought) h T A).swap.monoR (fun F h => star_swap h)
theorem Two.unbox {bx : Nat} {T : TypeId} {L : List Value} (h : Two (star (blkA bx T L) nought) W w g g' N D D' s s' p p') : Two nought W w g g' N D D' s s' p p' :=
  (Hold.monoR h (fun F h => star_swap h)).swap.right
theorem Two.blk {bx : Nat} {T : TypeId} {L : List Value} (h : Two (star (blkA bx T L) nought) W w g g' N D D' s s' p p') : Blk w bx T L := (Hold.monoR h (fun F h => star_swap h)).swap.blk
theorem t_write (hR : Firm R) (h : Two R W w g g' N D D' s s' p p') (hs : s ≤ 1000) (hq : ∀ j, j < N → (D j).q.length ≤ 1000000) (i a : Int) (t : ByteArray) : Calls Try.prog 21 #[.pointer (some ⟨g, 0, none⟩), .int .i64 i, .int .i64 a, .string t] w fun e w' => e = .returned (.int .i64 (stE N p i (errW (D i.toNat).dead (D i.toNat).n a t))) ∧ Two R W w' g g' N (stD N p i D (putD (D i.toNat) a t)) D' (stS N p i s) s' (stP N p i) p' :=
  bwrite_any ((firm_rbk _ _ _ _ _).star hR) h (by omega) hq i a t
theorem t_put (hR : Firm R) (h : Two R W w g g' N D D' s s' p p') (hs : s' ≤ 1000) (hq : ∀ j, j < N → (D' j).q.length ≤ 1000000) (i a : Int) (t : ByteArray) : Calls Try.prog 36 #[.pointer (some ⟨g', 0, none⟩), .int .i64 i, .int .i64 a, .string t] w fun e w' => e = .returned (.int .i64 (stE N p' i (errW (D' i.toNat).dead (D' i.toNat).n a t))) ∧ Two R W w' g g' N D (stD N p' i D' (putD (D' i.toNat) a t)) s (stS N p' i s') p (stP N p' i) :=
  (rwrite_any ((firm_bnk _ _ _ _ _).star hR) (Hold.swap h) (by omega) hq i a t).mono fun e w' ⟨he, h'⟩ => ⟨he, Hold.swap h'⟩
theorem t_flush (hR : Firm R) (h : Two R W w g g' N D D' s s' p p') (hs : s ≤ 1000) (i : Int) : Calls Try.prog 20 #[.pointer (some ⟨g, 0, none⟩), .int .i64 i] w fun e w' => e = .returned (.int .i64 (stE N p i (errD (D i.toNat).dead))) ∧ Two R W w' g g' N (stD N p i D (flushD (D i.toNat))) D' (stS N p i s) s' (stP N p i) p' :=
  bflush_any ((firm_rbk _ _ _ _ _).star hR) h (by omega) i
theorem t_rflush (hR : Firm R) (h : Two R W w g g' N D D' s s' p p') (hs : s' ≤ 1000) (hq : ∀ j, j < N → (D' j).q.length ≤ 1000000) (i : Int) : Calls Try.prog 30 #[.pointer (some ⟨g', 0, none⟩), .int .i64 i] w fun e w' => e = .returned (.int .i64 (stE N p' i (errD (D' i.toNat).dead))) ∧ Two R W w' g g' N D (stD N p' i D' (flushD (D' i.toNat))) s (stS N p' i s') p (stP N p' i) :=
  (rflush_any ((firm_bnk _ _ _ _ _).star hR) (Hold.swap h) (by omega) hq i).mono fun e w' ⟨he, h'⟩ => ⟨he, Hold.swap h'⟩
theorem t_spend (hR : Firm R) (h : Two R W w g g' N D D' s s' p p') (hs : s ≤ 1000) : Calls Try.prog 19 #[.pointer (some ⟨g, 0, none⟩)] w fun e w' => e = .returned (.int .i64 (spendE p)) ∧ Two R W w' g g' N D D' (spendS p s) s' (spendP p) p' :=
  bspend_any ((firm_rbk _ _ _ _ _).star hR) h (by omega)
theorem t_rspend (hR : Firm R) (h : Two R W w g g' N D D' s s' p p') (hs : s' ≤ 1000) : Calls Try.prog 31 #[.pointer (some ⟨g', 0, none⟩)] w fun e w' => e = .returned (.int .i64 (spendE p')) ∧ Two R W w' g g' N D D' s (spendS p' s') p (spendP p') :=
  (rspend_any ((firm_bnk _ _ _ _ _).star hR) (Hold.swap h) (by omega)).mono fun e w' ⟨he, h'⟩ => ⟨he, Hold.swap h'⟩
theorem t_cut (hR : Firm R) (h : Two R W w g g' N D D' s s' p p') (n : Int) (hn : n ≤ 9223372036854775807) : Calls Try.prog 18 #[.pointer (some ⟨g, 0, none⟩), .int .i64 n] w fun e w' => e = .returned (.tuple #[]) ∧ Two R W w' g g' N D D' s s' (some n.toNat) p' :=
  bcut_any ((firm_rbk _ _ _ _ _).star hR) h n hn
theorem t_rcut (hR : Firm R) (h : Two R W w g g' N D D' s s' p p') (n : Int) (hn : n ≤ 9223372036854775807) : Calls Try.prog 32 #[.pointer (some ⟨g', 0, none⟩), .int .i64 n] w fun e w' => e = .returned (.tuple #[]) ∧ Two R W w' g g' N D D' s s' p (some n.toNat) :=
  (rcut_any ((firm_bnk _ _ _ _ _).star hR) (Hold.swap h) n hn).mono fun e w' ⟨he, h'⟩ => ⟨he, Hold.swap h'⟩
theorem t_read (h : Two R W w g g' N D D' s s' p p') (i a : Int) : Calls Try.prog 22 #[.pointer (some ⟨g, 0, none⟩), .int .i64 i, .int .i64 a] w fun e w' => e = .returned (.tuple #[.string (rdB N p i (readB (D i.toNat).l (D i.toNat).q (D i.toNat).dead (D i.toNat).n a)), .int .i64 (stE N p i (errA (D i.toNat).dead (D i.toNat).n a))]) ∧ w' = w := bread_any h i a
theorem t_rread (h : Two R W w g g' N D D' s s' p p') (hq : ∀ j, j < N → (D' j).q.length ≤ 1000000) (i a : Int) : Calls Try.prog 29 #[.pointer (some ⟨g', 0, none⟩), .int .i64 i, .int .i64 a] w fun e w' => e = .returned (.tuple #[.string (rdB N p' i (readB (D' i.toNat).l (D' i.toNat).q (D' i.toNat).dead (D' i.toNat).n a)), .int .i64 (stE N p' i (errA (D' i.toNat).dead (D' i.toNat).n a))]) ∧ w' = w := rread_any (Hold.swap h) hq i a
theorem t_lists (hR : Firm R) (h : Two R W w g g' N D D' s s' p p') (d i at_ : Int) (t : ByteArray) (a : Option Addr) (m c : Nat) (x : Bool) (L : Nat → Bl) (hL : ListsIn W.heap.size W a m c L) :
    Calls Try.prog 24 #[bactV d i at_ t (.slice a m c) x] w fun e w' => ∃ v, e = .returned v ∧ Two (star (rowA 80 v (min m 20) (blV (min m 20) fun i => cutBl (L i))) R) W w' g g' N D D' s s' p p' := by
  refine (lists_any (firm_two hR) h d i at_ t a m c x L hL).mono ?_
  rintro e w' ⟨v, he, h'⟩
  exact ⟨v, he, h'.swap.monoR (fun F h => star_swap h)⟩
theorem lists_fine {B : Nat} {a : Option Addr} {m c : Nat} {L : Nat → Bl} (hL : ListsIn B W a m c L) : ∀ i, i < min m 20 → BlOk B W (cutBl (L i)) := fun i hi => cutBl_ok (hL.2.2.1 i (by omega)).1 (hL.2.2.1 i (by omega)).2
theorem t_crash (hR : Firm R) {v : Value} {m : Nat} {L : Nat → Bl} (h : Two (star (rowA 80 v m (blV m L)) R) W w g g' N D D' s s' p p') (hL : ∀ i, i < m → BlOk W.heap.size W (L i)) (hm : m ≤ 1000) (hq : ∀ j, j < N → (D j).q.length ≤ 1000000) : Calls Try.prog 23 #[.pointer (some ⟨g, 0, none⟩), v] w fun e w' => e = .returned (.tuple #[]) ∧ Two R W w' g g' N (fun i => crashD (D i) (keptK m L i)) D' s s' none p' :=
  (bcrash_any ((firm_rbk _ _ _ _ _).star hR) (Hold.monoR h (fun F h => star_swap h)) hL hm hq).mono fun e w' ⟨he, h'⟩ => ⟨he, h'.swap.right⟩
theorem t_rcrash (hR : Firm R) {v : Value} {m : Nat} {L : Nat → Bl} (h : Two (star (rowA 80 v m (blV m L)) R) W w g g' N D D' s s' p p') (hL : ∀ i, i < m → BlOk W.heap.size W (L i)) (hm : m ≤ 1000) (hq : ∀ j, j < N → (D' j).q.length ≤ 1000000) : Calls Try.prog 33 #[.pointer (some ⟨g', 0, none⟩), v] w fun e w' => e = .returned (.tuple #[]) ∧ Two R W w' g g' N D (fun i => crashD (D' i) (keptK m L i)) s s' p none :=
  (rcrash_any ((firm_bnk _ _ _ _ _).star hR) ((Hold.swap h).monoR (fun F h => star_swap h)) hL hm hq).mono fun e w' ⟨he, h'⟩ => ⟨he, h'.swap.right.swap⟩
theorem t_disk (h : Two R W w g g' N D D' s s' p p') (k : Nat) (hk : k < N) : Calls Try.prog 14 #[.pointer (some ⟨g, 0, none⟩), .int .i64 (k : Int)] w fun e w' => e = .returned (.pointer (some ⟨(D k).g, 0, none⟩)) ∧ w' = w := bdisk_in h k hk
theorem t_fail (hR : Firm R) (h : Two R W w g g' N D D' s s' p p') (k : Nat) (hk : k < N) : Calls Try.prog 34 #[.pointer (some ⟨(D k).g, 0, none⟩)] w fun e w' => e = .returned (.tuple #[]) ∧ Two R W w' g g' N (updD D k (failD (D k))) D' s s' p p' :=
  (h_fail ((firm_bnkX k).star ((firm_rbk _ _ _ _ _).star hR)) (Hold.openD h k hk)).mono fun e w' ⟨he, h'⟩ => ⟨he, Hold.shutD k hk (failD (D k)) rfl h'⟩
theorem t_rfail (hR : Firm R) (h : Two R W w g g' N D D' s s' p p') (k : Nat) (hk : k < N) : Calls Try.prog 35 #[.pointer (some ⟨(D' k).g, 0, none⟩)] w fun e w' => e = .returned (.tuple #[]) ∧ Two R W w' g g' N D (updD D' k (rfailD (D' k))) s s' p p' :=
  (h_rfail ((firm_rbkX k).star ((firm_bnk _ _ _ _ _).star hR)) ((Hold.swap h).openR k hk)).mono fun e w' ⟨he, h'⟩ => ⟨he, Hold.swap (Hold.shutR k hk (rfailD (D' k)) rfl h')⟩
theorem t_steps (h : Two R W w g g' N D D' s s' p p') : Calls Try.prog 13 #[.pointer (some ⟨g, 0, none⟩)] w fun e w' => e = .returned (.int .i64 (s : Int)) ∧ w' = w := bsteps_any h
theorem t_size (h : Two R W w g g' N D D' s s' p p') : Calls Try.prog 11 #[.pointer (some ⟨g, 0, none⟩)] w fun e w' => e = .returned (.int .i64 (N : Int)) ∧ w' = w := bsize_any h
theorem Two.rtop (h : Two R W w g g' N D D' s s' p p') : ∃ gd cap, w.cell? ⟨g', 0, none⟩ = some (.slice (some ⟨gd, 0, none⟩) N cap) ∧ w.cell? ⟨g', 1, none⟩ = some (.int .i64 (s' : Int)) ∧ ∀ i, i < N → w.cell? ⟨gd, i, none⟩ = some (.pointer (some ⟨(D' i).g, 0, none⟩)) := by
  obtain ⟨gd, cap, hb, hr, -⟩ := (Hold.swap h).rbkTop
  exact ⟨gd, cap, hb.cell (i := 0) rfl, hb.cell (i := 1) rfl, fun i hi => by rw [World.ownsRow.cellAt hr i (by omega), ptrs_at N D' i hi]⟩
end
end Go.Proofs.Ytfepmafjkgjmmaa
