/- Two records, of which one is changed. -/
import Derived.Test.YtbjmhpbelkndpaaSuSt
import Derived.Test.YtbjmhpbelkndpaaSuRow
namespace Go.Proofs.Ytbjmhpbelkndpaa
open Go.RowKit Go.PlainAid
set_option linter.unusedVariables false

/-- A record with lists of its own, in a variable. -/
def Ap (w2 : World) (g : Nat) (sa ma : Option Addr) (sc mc : Nat) (R : Rec) (w : World) : Prop := ∃ ys, memP ys R.nm R.st R.top R.log ∧ Hold w2.heap.size w2 w (star (rowK 3 1 (.slice sa R.ns sc) R.ns (si R.ns R.seat)) (star (rowK 50 3 (.slice ma R.nm mc) R.nm ys) (star (blkA g 29 (supV R sa ma sc mc)) nought)))
section
variable {w2 w : World} {g : Nat} {R : Rec} {sa ma : Option Addr} {sc mc : Nat}
theorem firm_ap {R : Rec} {ys L : List Value} : Firm (star (rowK 3 1 (.slice sa R.ns sc) R.ns (si R.ns R.seat)) (star (rowK 50 3 (.slice ma R.nm mc) R.nm ys) (star (blkA g 29 L) nought))) := (firm_rowK _ _ _ _ _).star ((firm_rowK _ _ _ _ _).star ((firm_blk _ _ _).star firm_nought))
theorem Ap.below {w' : World} (h : Ap w2 g sa ma sc mc R w) (hb : Below w.heap.size w w') : Ap w2 g sa ma sc mc R w' := by
  obtain ⟨ys, hy, h⟩ := h
  exact ⟨ys, hy, h.below firm_ap hb⟩
theorem Ap.low (h : Ap w2 g sa ma sc mc R w) : Below w2.heap.size w2 w := by obtain ⟨ys, hy, h⟩ := h; exact h.low
theorem Ap.blk (h : Ap w2 g sa ma sc mc R w) : Blk w g 29 (supV R sa ma sc mc) := by obtain ⟨ys, hy, h⟩ := h; exact h.right.right.blk
theorem Ap.lies (h : Ap w2 g sa ma sc mc R w) : Lies w R sa ma := by obtain ⟨ys, hy, h⟩ := h; exact ⟨own_sx h.rowK, own_mx h.right.rowK hy⟩
/-- One number of its own laid over. -/
theorem Ap.field (h : Ap w2 g sa ma sc mc R w) (i : Nat) (v : Value) (S : Rec) (e : (supV R sa ma sc mc).set i v = supV S sa ma sc mc) (e1 : S.ns = R.ns) (e2 : S.seat = R.seat) (e3 : S.nm = R.nm) (e4 : S.st = R.st) (e5 : S.top = R.top) (e6 : S.log = R.log) : Ap w2 g sa ma sc mc S (w.setCell ⟨g, i, none⟩ v) := by
  obtain ⟨ys, hy, h⟩ := h
  unfold Ap
  rw [e1, e2, e3, e4, e5, e6, ← e]
  refine ⟨ys, hy, ?_⟩
  have h1 : Hold w2.heap.size w2 w (star (blkA g 29 (supV R sa ma sc mc)) (star (rowK 3 1 (.slice sa R.ns sc) R.ns (si R.ns R.seat)) (star (rowK 50 3 (.slice ma R.nm mc) R.nm ys) nought))) := (h.monoR fun F h => star_swap h).swap
  have h2 := h1.setBlk ((firm_rowK _ _ _ _ _).star ((firm_rowK _ _ _ _ _).star firm_nought)) i v
  exact h2.swap.monoR fun F h => star_swap h
/-- The first two seats changed one for the other. -/
def swS (R : Rec) : Rec := { R with seat := fun i => if i = 0 then R.seat 1 else if i = 1 then R.seat 0 else R.seat i }
theorem si_sw (n : Nat) (f : Nat → Int) (hn : 1 < n) : ((si n f).set 0 (.int .i64 (f 1))).set 1 (.int .i64 (f 0)) = si n (fun i => if i = 0 then f 1 else if i = 1 then f 0 else f i) := by
  refine List.ext_getElem? fun i => ?_
  rcases Nat.lt_or_ge i n with hi | hi
  · rw [si_at _ _ _ hi]
    by_cases e1 : i = 1
    · subst e1
      rw [List.getElem?_set_self (by rw [List.length_set, si_len]; exact hi)]; rfl
    · rw [List.getElem?_set_ne (Ne.symm e1)]
      by_cases e0 : i = 0
      · subst e0
        rw [List.getElem?_set_self (by rw [si_len]; exact hi)]; rfl
      · rw [List.getElem?_set_ne (Ne.symm e0), si_at _ _ _ hi, if_neg e0, if_neg e1]
  · rw [List.getElem?_eq_none (by rw [List.length_set, List.length_set, si_len]; exact hi), List.getElem?_eq_none (by rw [si_len]; exact hi)]
theorem Ap.seats (h : Ap w2 g sa ma sc mc R w) (hn : 1 < R.ns) : ∃ q, sa = some ⟨q, 0, none⟩ ∧ w.cell? ⟨q, 0, none⟩ = some (.int .i64 (R.seat 0)) ∧ w.cell? ⟨q, 1, none⟩ = some (.int .i64 (R.seat 1)) ∧ w.frozen? ⟨q, 0, none⟩ = false ∧ w.frozen? ⟨q, 1, none⟩ = false ∧ q ≠ g ∧
    Ap w2 g sa ma sc mc (swS R) ((w.setCell ⟨q, 0, none⟩ (.int .i64 (R.seat 1))).setCell ⟨q, 1, none⟩ (.int .i64 (R.seat 0))) ∧ Ap w2 g sa ma sc mc (swS R) ((w.setCell ⟨q, 1, none⟩ (.int .i64 (R.seat 0))).setCell ⟨q, 0, none⟩ (.int .i64 (R.seat 1))) := by
  obtain ⟨ys, hy, h⟩ := h
  obtain ⟨q, rfl⟩ := rowK_addr h (by omega)
  obtain ⟨c0, f0⟩ := rowK_at h (si_at _ _ 0 (by omega))
  obtain ⟨c1, f1⟩ := rowK_at h (si_at _ _ 1 (by omega))
  have hX : Firm (star (rowK 50 3 (.slice ma R.nm mc) R.nm ys) (star (blkA g 29 (supV R (some ⟨q, 0, none⟩) ma sc mc)) nought)) := (firm_rowK _ _ _ _ _).star ((firm_blk _ _ _).star firm_nought)
  refine ⟨q, rfl, c0, c1, f0, f1, ?_, ⟨ys, hy, ?_⟩, ⟨ys, hy, ?_⟩⟩
  · obtain ⟨_, _, F, ⟨G, H, h3, h4, h5, h6⟩, h7⟩ := h
    intro e
    obtain ⟨G2, H2, k3, k4, k5, k6⟩ := h4
    obtain ⟨G3, H3, m3, m4, m5, m6⟩ := k4
    exact h5 q ((h3.2 q).2 rfl) ((k6 q).2 (.inr ((m6 q).2 (.inl ((m3.2 q).2 e)))))
  · have h1 := rowK_set hX (rowK_set hX h 0 (by omega) (.int .i64 (R.seat 1))) 1 (by omega) (.int .i64 (R.seat 0))
    rw [si_sw _ _ hn] at h1
    exact h1
  · have h1 := rowK_set hX (rowK_set hX h 1 (by omega) (.int .i64 (R.seat 0))) 0 (by omega) (.int .i64 (R.seat 1))
    rw [List.set_comm _ _ (by decide), si_sw _ _ hn] at h1
    exact h1
/-- One cell of the members laid over. -/
theorem Ap.mem (h : Ap w2 g sa ma sc mc R w) (hn : 0 < R.nm) (i : Nat) (hi : i < R.nm * 3) (v : Value) (S : Rec) (e : ∀ ys, memP ys R.nm R.st R.top R.log → memP (ys.set i v) S.nm S.st S.top S.log) (e1 : S.ns = R.ns) (e2 : S.seat = R.seat) (e3 : S.nm = R.nm) (e4 : ∀ a b c d, supV S a b c d = supV R a b c d) : ∃ q, ma = some ⟨q, 0, none⟩ ∧ w.frozen? ⟨q, i, none⟩ = false ∧ q ≠ g ∧
    (∀ j, j < R.nm → w.cell? ⟨q, j * 3, none⟩ = some (.int .i64 (R.st j)) ∧ w.cell? ⟨q, j * 3 + 1, none⟩ = some (.string (R.top j)) ∧ w.cell? ⟨q, j * 3 + 2, none⟩ = some (.string (R.log j))) ∧ Ap w2 g sa ma sc mc S (w.setCell ⟨q, i, none⟩ v) := by
  obtain ⟨ys, hy, h⟩ := h
  have h' := h.swap
  obtain ⟨q, rfl⟩ := rowK_addr h' hn
  have hl : i < ys.length := by rw [hy.1]; exact hi
  refine ⟨q, rfl, (rowK_at h' (List.getElem?_eq_getElem hl)).2, ?_, fun j hj => ?_, ?_⟩
  · obtain ⟨_, _, F, ⟨G, H, h3, h4, h5, h6⟩, h7⟩ := h'
    intro e
    obtain ⟨G2, H2, k3, k4, k5, k6⟩ := h4
    obtain ⟨G3, H3, m3, m4, m5, m6⟩ := k4
    exact h5 q ((h3.2 q).2 rfl) ((k6 q).2 (.inr ((m6 q).2 (.inl ((m3.2 q).2 e)))))
  · obtain ⟨p1, p2, p3⟩ := hy.2 j hj
    exact ⟨(rowK_at h' p1).1, (rowK_at h' p2).1, (rowK_at h' p3).1⟩
  · unfold Ap
    refine ⟨ys.set i v, e ys hy, ?_⟩
    rw [e1, e2, e3, e4]
    exact (rowK_set ((firm_rowK _ _ _ _ _).star ((firm_blk _ _ _).star firm_nought)) h' i hi v).swap
end
theorem memP_st {L : List Value} {n : Nat} {st : Nat → Int} {top log : Nat → ByteArray} (h : memP L n st top log) (k : Nat) (hk : k < n) (v : Int) : memP (L.set (k * 3) (.int .i64 v)) n (fun i => if i = k then v else st i) top log := by
  refine ⟨by rw [List.length_set]; exact h.1, fun i hi => ?_⟩
  obtain ⟨a, b, c⟩ := h.2 i hi
  refine ⟨?_, ?_, ?_⟩
  · by_cases e : i = k
    · subst e
      rw [List.getElem?_set_self (by rw [h.1]; omega)]; dsimp only; rw [if_pos rfl]
    · rw [List.getElem?_set_ne (by omega)]; dsimp only; rw [if_neg e]; exact a
  · rw [List.getElem?_set_ne (by omega)]; exact b
  · rw [List.getElem?_set_ne (by omega)]; exact c
theorem memP_log {L : List Value} {n : Nat} {st : Nat → Int} {top log : Nat → ByteArray} (h : memP L n st top log) (k : Nat) (hk : k < n) (v : ByteArray) : memP (L.set (k * 3 + 2) (.string v)) n st top (fun i => if i = k then v else log i) := by
  refine ⟨by rw [List.length_set]; exact h.1, fun i hi => ?_⟩
  obtain ⟨a, b, c⟩ := h.2 i hi
  refine ⟨?_, ?_, ?_⟩
  · rw [List.getElem?_set_ne (by omega)]; exact a
  · rw [List.getElem?_set_ne (by omega)]; exact b
  · by_cases e : i = k
    · subst e
      rw [List.getElem?_set_self (by rw [h.1]; omega)]; dsimp only; rw [if_pos rfl]
    · rw [List.getElem?_set_ne (by omega)]; dsimp only; rw [if_neg e]; exact c
def stR (R : Rec) (k : Nat) (v : Int) : Rec := { R with st := fun i => if i = k then v else R.st i }
def logR (R : Rec) : Rec := { R with log := fun i => if i = 0 then R.top 0 else R.log i }
theorem wrap_u64r (n : Int) : 0 ≤ IntKind.u64.wrap n ∧ IntKind.u64.wrap n ≤ 18446744073709551615 := by
  have h : IntKind.u64.wrap n = n % 18446744073709551616 := by simp [IntKind.wrap, IntKind.bits, IntKind.signed]
  rw [h]; omega
theorem wrap_i64r (n : Int) : -9223372036854775808 ≤ IntKind.i64.wrap n ∧ IntKind.i64.wrap n ≤ 9223372036854775807 := by
  have h : IntKind.i64.wrap n = if 9223372036854775808 ≤ n % 18446744073709551616 then n % 18446744073709551616 - 18446744073709551616 else n % 18446744073709551616 := by simp [IntKind.wrap, IntKind.bits, IntKind.signed]
  rw [h]; split <;> omega
theorem bits_i64r (op : BinOp) (x y : Int) : -9223372036854775808 ≤ bits op .i64 x y ∧ bits op .i64 x y ≤ 9223372036854775807 := wrap_i64r _
section
variable {R : Rec} (h : R.Fine)
include h
theorem Fine.count (v : Int) (hv : 0 ≤ v ∧ v ≤ 18446744073709551615) : ({ R with count := v } : Rec).Fine := ⟨hv, h.e, h.d, h.s, h.m, h.b, h.ns, h.nm, h.seat, h.st, h.top, h.log⟩
theorem Fine.epoch (v : Int) (hv : 0 ≤ v ∧ v ≤ 18446744073709551615) : ({ R with epoch := v } : Rec).Fine := ⟨h.c, hv, h.d, h.s, h.m, h.b, h.ns, h.nm, h.seat, h.st, h.top, h.log⟩
theorem Fine.mark (v : Int) (hv : -9223372036854775808 ≤ v ∧ v ≤ 9223372036854775807) : ({ R with mark := v } : Rec).Fine := ⟨h.c, h.e, h.d, h.s, hv, h.b, h.ns, h.nm, h.seat, h.st, h.top, h.log⟩
theorem Fine.built (v : Int) (hv : -9223372036854775808 ≤ v ∧ v ≤ 9223372036854775807) : ({ R with built := v } : Rec).Fine := ⟨h.c, h.e, h.d, h.s, h.m, hv, h.ns, h.nm, h.seat, h.st, h.top, h.log⟩
theorem Fine.sw (hn : 1 < R.ns) : (swS R).Fine := ⟨h.c, h.e, h.d, h.s, h.m, h.b, h.ns, h.nm, fun i hi => by
  show _ ≤ (if i = 0 then R.seat 1 else if i = 1 then R.seat 0 else R.seat i) ∧ (if i = 0 then R.seat 1 else if i = 1 then R.seat 0 else R.seat i) ≤ _
  split
  · exact h.seat 1 hn
  · split
    · exact h.seat 0 (by omega)
    · exact h.seat i hi, h.st, h.top, h.log⟩
theorem Fine.stR (k : Nat) (v : Int) (hv : -9223372036854775808 ≤ v ∧ v ≤ 9223372036854775807) : (stR R k v).Fine := ⟨h.c, h.e, h.d, h.s, h.m, h.b, h.ns, h.nm, h.seat, fun i hi => by
  show _ ≤ (if i = k then v else R.st i) ∧ (if i = k then v else R.st i) ≤ _
  split
  · exact hv
  · exact h.st i hi, h.top, h.log⟩
theorem Fine.logR (hn : 0 < R.nm) : (logR R).Fine := ⟨h.c, h.e, h.d, h.s, h.m, h.b, h.ns, h.nm, h.seat, h.st, h.top, fun i hi => by
  show ByteArray.size (if i = 0 then R.top 0 else R.log i) ≤ _
  split
  · exact h.top 0 hn
  · exact h.log i hi⟩
end
/-- The second record as it is made. -/
theorem apart_pack {w2 w3 w4 : World} {R : Rec} {sa ma mb : Option Addr} {sc mc md : Nat} {L3 L4 : List Value} (h1 : Hold w2.heap.size w2 w3 (star (rowK 3 1 (.slice sa R.ns sc) R.ns (si R.ns R.seat)) (star (rowK 50 3 (.slice ma R.nm mc) R.nm (memF R.st R.top R.log R.nm)) (star (rowK 55 3 (.slice mb R.nm md) R.nm (memF R.st R.top R.log R.nm)) nought)))) (pk : Pk w2 w3 R sa ma mb sc mc md L3 L4 w4) : Ap w2 w3.heap.size sa ma sc mc R w4 := by
  have k1 : Hold w2.heap.size w2 w3 (star (rowK 3 1 (.slice sa R.ns sc) R.ns (si R.ns R.seat)) (star (rowK 50 3 (.slice ma R.nm mc) R.nm (memF R.st R.top R.log R.nm)) nought)) := (h1.monoR fun F h => star_swap h).swap.right
  have f1 : Firm (star (rowK 3 1 (.slice sa R.ns sc) R.ns (si R.ns R.seat)) (star (rowK 50 3 (.slice ma R.nm mc) R.nm (memF R.st R.top R.log R.nm)) nought)) := (firm_rowK _ _ _ _ _).star ((firm_rowK _ _ _ _ _).star firm_nought)
  have k2 := k1.newBlk f1 29 zS.toArray
  have k3 := k2.newBlk ((firm_blk _ _ _).star f1) 32 zS.toArray
  rw [World.size_alloc] at k3
  have k4 := k3.swap.setRowBlk ((firm_blk _ _ _).star f1) L3
  have k5 := (k4.swap.setRowBlk ((firm_blk _ _ _).star f1) L4).right
  rw [pk.ew] at k5
  refine ⟨_, memF_P _ _ _ _, ?_⟩
  rw [pk.e1]
  exact k5.swap.monoR fun F h => star_swap h
end Go.Proofs.Ytbjmhpbelkndpaa
