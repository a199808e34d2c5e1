import Derived.Test.YtokknmkleceooaaGreatDoorSlBad
namespace Go.Proofs.YtokknmkleceooaaGreatDoor
open Go.RowKit Go.PlainAid
set_option linter.unusedVariables false
set_option maxRecDepth 20000
def prR (rd : Nat → ByteArray) (E : Int) (d : Nat) : Sl → List (Int × ByteArray) → Int × Sl
  | S, [] => (0, S)
  | S, p :: r => if ovE rd E S d p.1.toNat = 0 then prR rd E d (sl1 rd S d p.1.toNat p.2) r else (ovE rd E S d p.1.toNat, S)
theorem prR_ok {rd : Nat → ByteArray} {E : Int} {d : Nat} {S : Sl} {p : Int × ByteArray} {r : List (Int × ByteArray)} (h : ovE rd E S d p.1.toNat = 0) : prR rd E d S (p :: r) = prR rd E d (sl1 rd S d p.1.toNat p.2) r := if_pos h
theorem prR_bad {rd : Nat → ByteArray} {E : Int} {d : Nat} {S : Sl} {p : Int × ByteArray} {r : List (Int × ByteArray)} (h : ovE rd E S d p.1.toNat ≠ 0) : prR rd E d S (p :: r) = (ovE rd E S d p.1.toNat, S) := if_neg h
theorem rfE_all {n : Int} : ∀ {l : List (Int × ByteArray)}, rfE n l = 0 → ∀ p ∈ l, (0 ≤ p.1 ∧ p.1 < n) ∧ p.2.size ≤ 2032
  | [], _, p, hp => by cases hp
  | q :: r, h, p, hp => by
    have h' : (if slE17 n q.1 = 0 then (if 2032 < q.2.size then 5 else rfE n r) else slE17 n q.1) = 0 := h
    by_cases e : slE17 n q.1 = 0
    · rw [if_pos e] at h'
      by_cases e2 : 2032 < q.2.size
      · rw [if_pos e2] at h'; cases h'
      · rw [if_neg e2] at h'
        rcases List.mem_cons.1 hp with rfl | hp
        · refine ⟨?_, by omega⟩
          unfold slE17 at e
          by_cases e3 : p.1 < 0 ∨ n ≤ p.1
          · rw [if_pos e3] at e; cases e
          · omega
        · exact rfE_all h' p hp
    · rw [if_neg e] at h'; exact absurd h' e
def chJ (f : Nat → Option ByteArray) (d s : Nat) (x : Nat → ByteArray) : Nat → Nat → Option ByteArray
  | 0 => f
  | j + 1 => pF (chJ f d s x j) (nd d s j) (x j)
theorem chJ_on {f : Nat → Option ByteArray} {d s : Nat} {x : Nat → ByteArray} (hs : s < 2 ^ d) : ∀ j, j ≤ d → ∀ k, k < j → chJ f d s x j (nd d s k) = some (x k)
  | 0, _, k, hk => by omega
  | j + 1, hj, k, hk => by
    show pF (chJ f d s x j) (nd d s j) (x j) (nd d s k) = _
    by_cases e : k = j
    · subst e; exact pF_same _ _ _
    · rw [pF_ne _ _ (nd_ne d s k j hs (by omega) (by omega) e)]
      exact chJ_on hs j (by omega) k (by omega)
theorem chJ_off {f : Nat → Option ByteArray} {d s : Nat} {x : Nat → ByteArray} : ∀ j i, (∀ k, k < j → i ≠ nd d s k) → chJ f d s x j i = f i
  | 0, i, _ => rfl
  | j + 1, i, h => by
    show pF (chJ f d s x j) (nd d s j) (x j) i = _
    rw [pF_ne _ _ (h j (by omega))]
    exact chJ_off j i (fun k hk => h k (by omega))
theorem chJ_all {rd : Nat → ByteArray} {S : Sl} {d s : Nat} {c : ByteArray} (hs : s < 2 ^ d) : chJ S.ch d s (neu d s (slk rd S d s) (lH c)) d = slCh rd S d s c := by
  funext i
  by_cases e : ∃ k, k < d ∧ i = nd d s k
  · obtain ⟨k, hk, rfl⟩ := e
    rw [chJ_on hs d (Nat.le_refl _) k hk, slCh_on rd S d s c k hs hk]
  · have e' : ∀ k, k < d → i ≠ nd d s k := fun k hk he => e ⟨k, hk, he⟩
    rw [chJ_off d i e', slCh_off rd S d s c i e']
theorem fol_sizes {d s : Nat} {p : Nat → ByteArray} {top t : ByteArray} (h : fol d s p top d = some t) : ∀ k, k < d → (p k).size = 64 := fun k hk => by
  cases hf : fol d s p top (k + 1) with
  | none => rw [fol_none' hf (by omega)] at h; cases h
  | some x => exact (fol_inv hf).1
theorem app_none17 (w : World) (a : Option Addr) (n c : Nat) (h : n ≤ c) : (Builtin.append_ #[85, 85] 85 #[.slice a n c, .slice none 0 0]).run Tryz.prog w = .ok (.slice a n c) w := by
  have hu := run_underlying Tryz.underlying85
  cases a with
  | none => simp [Builtin.append_, Builtin.lenOf, Builtin.firstCells, hu, Result.andThen, h]
  | some a => simp [Builtin.append_, Builtin.lenOf, Builtin.firstCells, hu, Result.andThen, h, storeCells]
section
variable {B : Nat} {w0 w w' : World} {P Q R T U : Asn}
theorem Hold.tail (h : Hold B w0 w (star P Q)) : Hold B w0 w Q := h.right
theorem Hold.pull3 (h : Hold B w0 w (star P (star Q (star R T)))) : Hold B w0 w (star R (star P (star Q T))) := (h.monoR fun F h => star_swap h).swap
theorem Hold.pull4 (h : Hold B w0 w (star P (star Q (star R (star T U))))) : Hold B w0 w (star T (star P (star Q (star R U)))) := ((h.monoR fun F h => star_monoR h fun F h => star_swap h).monoR fun F h => star_swap h).swap
theorem Hold.back4 (h : Hold B w0 w (star T (star P (star Q (star R U))))) : Hold B w0 w (star P (star Q (star R (star T U)))) := (h.swap.monoR fun F h => star_swap h).monoR fun F h => star_monoR h fun F h => star_swap h
theorem Hold.pull5 {V : Asn} (h : Hold B w0 w (star P (star Q (star R (star T (star U V)))))) : Hold B w0 w (star U (star P (star Q (star R (star T V))))) := (((h.monoR fun F h => star_monoR h fun F h => star_monoR h fun F h => star_swap h).monoR fun F h => star_monoR h fun F h => star_swap h).monoR fun F h => star_swap h).swap
theorem Hold.back5 {V : Asn} (h : Hold B w0 w (star U (star P (star Q (star R (star T V)))))) : Hold B w0 w (star P (star Q (star R (star T (star U V))))) := ((h.swap.monoR fun F h => star_swap h).monoR fun F h => star_monoR h fun F h => star_swap h).monoR fun F h => star_monoR h fun F h => star_monoR h fun F h => star_swap h
theorem Hold.back3 (h : Hold B w0 w (star R (star P (star Q T)))) : Hold B w0 w (star P (star Q (star R T))) := h.swap.monoR fun F h => star_swap h
end
theorem app_two {B : Nat} {w0 w : World} {v1 v2 : Value} {q1 q2 : List Wr} {b : Nat} (h : Hold B w0 w (star (rowK 144 2 v1 q1.length (pairs q1)) nought)) (h2 : w.ownsRow b 144 2 v2 q2.length (pairs q2)) (hn : q2 = [] → v2 = .slice none 0 0) (l1 : q1.length ≤ 1000) (l2 : q2.length ≤ 1000) :
    ∃ v' w', (Builtin.append_ #[85, 85] 85 #[v1, v2]).run Tryz.prog w = .ok v' w' ∧ Hold B w0 w' (star (rowK 144 2 v' (q1 ++ q2).length (pairs (q1 ++ q2))) nought) := by
  by_cases e : q2 = []
  · rw [hn e, e, List.append_nil]
    obtain ⟨a, c, rfl⟩ := owns_form h.rowK
    exact ⟨_, w, app_none17 w a _ c (own_cap h.rowK), h⟩
  · obtain ⟨a2, c2, rfl⟩ := owns_form h2
    obtain ⟨p, r, hq⟩ := List.exists_cons_of_ne_nil e
    obtain ⟨g2, rfl, _⟩ := owns_cell h2 (i := 0) (u := .int .i64 (p.1 : Int)) (by rw [hq]; rfl)
    obtain ⟨v', w', hrun, h3⟩ := rowK_app firm_nought 85 144 85 _ 2 24 Tryz.underlying85 Tryz.infoWr17 rfl (by decide) (by decide) h ⟨g2, 0, none⟩ q2.length c2 (pairs q2) (pairs_length q2) (fun j u hu => by
      rw [Go.WideShapes.add_plain, Nat.zero_add]
      obtain ⟨g', e1, e2⟩ := owns_cell h2 hu
      cases e1; exact e2) (pairs_one q2) (by omega)
    refine ⟨v', w', hrun, ?_⟩
    rw [List.length_append, pairs_append]; exact h3
def Pp (w z : World) (sb : List Value) (b1 b2 n1 n2 : Nat) (f e : Nat → Option ByteArray) : Prop := Hold w.heap.size w z (star (mapW b1 100 n1 f) (star (mapW b2 120 n2 e) (star (blkA w.heap.size 45 sb) nought)))
def Pq (w z : World) (sb : List Value) (b1 b2 n1 n2 : Nat) (f e : Nat → Option ByteArray) (nv cv : Value) (d s : Nat) (x : Nat → ByteArray) (gc : Nat) (ch : List Value) : Prop :=
  Hold w.heap.size w z (star (rowK 9 1 cv d (strs d x)) (star (rowK 3 1 nv d (nr .i64 d (nd d s))) (star (blkA gc 92 ch) (star (mapW b1 100 n1 f) (star (mapW b2 120 n2 e) (star (blkA w.heap.size 45 sb) nought))))))
section
variable {w z z' : World} {sb ch : List Value} {b1 b2 n1 n2 : Nat} {f e : Nat → Option ByteArray} {nv cv : Value} {d s gc : Nat} {x : Nat → ByteArray}
theorem pp_firm : Firm (star (mapW b1 100 n1 f) (star (mapW b2 120 n2 e) (star (blkA w.heap.size 45 sb) nought))) := (firm_mapW _ _ _ _).star ((firm_mapW _ _ _ _).star ((firm_blk _ _ _).star firm_nought))
theorem Pp.below (h : Pp w z sb b1 b2 n1 n2 f e) (hb : Below z.heap.size z z') : Pp w z' sb b1 b2 n1 n2 f e := Hold.below h pp_firm hb
theorem Pp.low (h : Pp w z sb b1 b2 n1 n2 f e) : Below w.heap.size w z := Hold.low h
theorem Pp.m1 (h : Pp w z sb b1 b2 n1 n2 f e) : MapW z b1 100 n1 f := Hold.mapw h
theorem Pp.m2 (h : Pp w z sb b1 b2 n1 n2 f e) : MapW z b2 120 n2 e := Hold.mapw (Hold.right h)
theorem Pp.box (h : Pp w z sb b1 b2 n1 n2 f e) : Blk z w.heap.size 45 sb := (Hold.right (Hold.right h)).blk
theorem Pq.low (h : Pq w z sb b1 b2 n1 n2 f e nv cv d s x gc ch) : Below w.heap.size w z := Hold.low h
theorem pq_firm : Firm (star (rowK 9 1 cv d (strs d x)) (star (rowK 3 1 nv d (nr .i64 d (nd d s))) (star (blkA gc 92 ch) (star (mapW b1 100 n1 f) (star (mapW b2 120 n2 e) (star (blkA w.heap.size 45 sb) nought)))))) := (firm_rowK _ _ _ _ _).star ((firm_rowK _ _ _ _ _).star ((firm_blk _ _ _).star pp_firm))
theorem Pq.below (h : Pq w z sb b1 b2 n1 n2 f e nv cv d s x gc ch) (hb : Below z.heap.size z z') : Pq w z' sb b1 b2 n1 n2 f e nv cv d s x gc ch := Hold.below h pq_firm hb
theorem Pq.crow (h : Pq w z sb b1 b2 n1 n2 f e nv cv d s x gc ch) : z.ownsRow 0 9 1 cv d (strs d x) := Hold.rowK h
theorem Pq.nrow (h : Pq w z sb b1 b2 n1 n2 f e nv cv d s x gc ch) : z.ownsRow 0 3 1 nv d (nr .i64 d (nd d s)) := Hold.rowK (Hold.right h)
theorem Pq.chg (h : Pq w z sb b1 b2 n1 n2 f e nv cv d s x gc ch) : Blk z gc 92 ch := (Hold.right (Hold.right h)).blk
theorem Pq.pp (h : Pq w z sb b1 b2 n1 n2 f e nv cv d s x gc ch) : Pp w z sb b1 b2 n1 n2 f e := Hold.right (Hold.right (Hold.right h))
theorem Pq.start {zl : World} (h : Pp w zl sb b1 b2 n1 n2 f e) (c : List Value) {zb : World} (hb : Below (zl.alloc (.cells c.toArray 92)).heap.size (zl.alloc (.cells c.toArray 92)) zb) (hn : zb.ownsRow (zl.alloc (.cells c.toArray 92)).heap.size 3 1 nv d (nr .i64 d (nd d s))) {zc : World} (hc : Below zb.heap.size zb zc) (hx : zc.ownsRow zb.heap.size 9 1 cv d (strs d x)) : Pq w zc sb b1 b2 n1 n2 f e nv cv d s x zl.heap.size c := by
  have h1 := Hold.newBlk pp_firm h 92 c.toArray
  rw [List.toList_toArray] at h1
  have h2 := h1.newRow ((firm_blk _ _ _).star pp_firm) hb hn
  exact h2.newRow ((firm_rowK _ _ _ _ _).star ((firm_blk _ _ _).star pp_firm)) hc hx
theorem Pq.put1 (h : Pq w z sb b1 b2 n1 n2 f e nv cv d s x gc ch) (hn : n1 ≤ 1000000) {k : Nat} (hk : k < 16) (c : ByteArray) :
    ∃ z', (Instr.mapUpdate 149 (.map (some b1)) (.int .i64 (k : Int)) (wrW ((100 + k : Nat) : Int) c)).run Tryz.prog z = .ok () z' ∧ Pq w z' sb b1 b2 (n1 + 1) n2 (pF f k c) e nv cv d s x gc ch := by
  have h1 := Hold.pull4 h
  obtain ⟨z', hr, h2⟩ := h1.mapwPut ((firm_rowK _ _ _ _ _).star ((firm_rowK _ _ _ _ _).star ((firm_blk _ _ _).star ((firm_mapW _ _ _ _).star ((firm_blk _ _ _).star firm_nought))))) hn hk c
  exact ⟨z', hr, h2.back4⟩
theorem Pq.put2 (h : Pq w z sb b1 b2 n1 n2 f e nv cv d s x gc ch) (hn : n2 ≤ 1000000) {k : Nat} (hk : k < 16) (c : ByteArray) :
    ∃ z', (Instr.mapUpdate 149 (.map (some b2)) (.int .i64 (k : Int)) (wrW ((120 + k : Nat) : Int) c)).run Tryz.prog z = .ok () z' ∧ Pq w z' sb b1 b2 n1 (n2 + 1) f (pF e k c) nv cv d s x gc ch := by
  have h1 := Hold.pull5 h
  obtain ⟨z', hr, h2⟩ := h1.mapwPut ((firm_rowK _ _ _ _ _).star ((firm_rowK _ _ _ _ _).star ((firm_blk _ _ _).star ((firm_mapW _ _ _ _).star ((firm_blk _ _ _).star firm_nought))))) hn hk c
  exact ⟨z', hr, h2.back5⟩
theorem Pp.start (w : World) (sb : List Value) {z : World} (h : Hold w.heap.size w z (star (blkA w.heap.size 45 sb) nought)) : Pp w ((z.alloc (.map #[] 0)).alloc (.map #[] 0)) sb z.heap.size (z.heap.size + 1) 0 0 (fun _ => none) (fun _ => none) := by
  have h1 := h.mapwNew ((firm_blk _ _ _).star firm_nought) 100
  have h2 := h1.mapwNew ((firm_mapW _ _ _ _).star ((firm_blk _ _ _).star firm_nought)) 120
  have e : (z.alloc (.map #[] 0)).heap.size = z.heap.size + 1 := by simp
  rw [e] at h2
  exact h2.swap
end
end Go.Proofs.YtokknmkleceooaaGreatDoor
