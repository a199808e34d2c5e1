/- slices.DeleteFunc at the program's own row of writes. -/
import Derived.Test.YtfepmafjkgjmmaaDkDel
namespace Go.Proofs.Ytfepmafjkgjmmaa
open Go.RowKit Go.PlainAid
set_option linter.unusedVariables false

/-- The row gw while writes are taken out: those of other cells among the first j lie ahead, the ones from j on as they lay. -/
def MidRow (w : World) (gw cap : Nat) (q : List Wr) (a j : Nat) : Prop := ∃ L : List Value, Blk w gw 84 L ∧ L.length = cap * 2 ∧ L.take ((others a (q.take j)).length * 2) = pairs (others a (q.take j)) ∧
  ∀ m p, j ≤ m → q[m]? = some p → L[m * 2]? = some (.int .i64 (p.1 : Int)) ∧ L[m * 2 + 1]? = some (.string p.2)
theorem others_le (a j : Nat) (q : List Wr) : (others a (q.take j)).length ≤ j := Nat.le_trans (others_length a _) (by rw [List.length_take]; omega)
theorem others_skip (a j : Nat) (q : List Wr) (p : Wr) (h : q[j]? = some p) (hp : p.1 = a) : others a (q.take (j + 1)) = others a (q.take j) := by
  rw [take_snoc q j p h, others_snoc, if_pos hp, List.append_nil]
theorem others_put (a j : Nat) (q : List Wr) (p : Wr) (h : q[j]? = some p) (hp : p.1 ≠ a) : others a (q.take (j + 1)) = others a (q.take j) ++ [p] := by
  rw [take_snoc q j p h, others_snoc, if_neg hp]
theorem others_all (a : Nat) : ∀ q : List Wr, (∀ p ∈ q, p.1 ≠ a) → others a q = q := by
  intro q h
  unfold others
  rw [List.filter_eq_self]
  intro p hp
  simpa using h p hp
theorem MidRow.start {w : World} {gw cap : Nat} {q : List Wr} {a j : Nat} (h : Waits w 84 (.slice (some ⟨gw, 0, none⟩) q.length cap) q) (hp : ∃ p, q[j]? = some p ∧ p.1 = a) (hn : ∀ i p, i < j → q[i]? = some p → p.1 ≠ a) :
    others a (q.take (j + 1)) = q.take j ∧ MidRow w gw cap q a (j + 1) := by
  obtain ⟨p, hp, hpa⟩ := hp
  have e : others a (q.take (j + 1)) = q.take j := by
    rw [others_skip a j q p hp hpa]
    exact others_all a _ fun x hx => by
      obtain ⟨i, hi⟩ := List.getElem?_of_mem hx
      obtain ⟨hlt, _⟩ := List.getElem?_eq_some_iff.1 hi
      rw [List.length_take] at hlt
      rw [List.getElem?_take_of_lt (by omega)] at hi
      exact hn i x (by omega) hi
  refine ⟨e, ?_⟩
  have hlt := (List.getElem?_eq_some_iff.1 hp).1
  rcases h.2 with ⟨h0, _⟩ | ⟨g', cap', cur, hv, _, hg, hnc, hcm, hcs, htake⟩
  · cases h0
  · cases hv
    refine ⟨cur.toList, by unfold Blk; rw [Array.toArray_toList]; exact hg, by rw [Array.length_toList]; exact hcs, ?_, fun m x hm hx => ?_⟩
    · rw [e, List.length_take, Nat.min_eq_left (by omega)]
      have h1 : pairs (q.take j) = (pairs q).take (j * 2) := by
        have h2 : pairs q = pairs (q.take j) ++ pairs (q.drop j) := by rw [← pairs_append, List.take_append_drop]
        rw [h2, List.take_append_of_le_length (by rw [pairs_length, List.length_take]; omega)]
        exact (List.take_of_length_le (by rw [pairs_length, List.length_take]; omega)).symm
      rw [h1, ← htake, List.take_take, Nat.min_eq_left (by omega)]
    · have h1 := pairs_at q m x hx
      have hml := (List.getElem?_eq_some_iff.1 hx).1
      rw [← htake, List.getElem?_take_of_lt (by omega), List.getElem?_take_of_lt (by omega)] at h1
      exact h1
theorem MidRow.alloc {w : World} {gw cap : Nat} {q : List Wr} {a j : Nat} (h : MidRow w gw cap q a j) (o : Obj) : MidRow (w.alloc o) gw cap q a j := by
  obtain ⟨L, h1, h2⟩ := h
  exact ⟨L, h1.alloc o, h2⟩
theorem MidRow.skip {w : World} {gw cap : Nat} {q : List Wr} {a j : Nat} (h : MidRow w gw cap q a j) {p : Wr} (hp : q[j]? = some p) (hpa : p.1 = a) : MidRow w gw cap q a (j + 1) := by
  obtain ⟨L, h1, h2, h3, h4⟩ := h
  exact ⟨L, h1, h2, by rw [others_skip a j q p hp hpa]; exact h3, fun m x hm hx => h4 m x (by omega) hx⟩
theorem MidRow.put {w : World} {gw cap : Nat} {q : List Wr} {a j : Nat} (h : MidRow w gw cap q a j) {p : Wr} (hp : q[j]? = some p) (hpa : p.1 ≠ a) (hc : q.length ≤ cap) :
    MidRow ((w.setCell ⟨gw, (others a (q.take j)).length * 2, none⟩ (.int .i64 (p.1 : Int))).setCell ⟨gw, (others a (q.take j)).length * 2 + 1, none⟩ (.string p.2)) gw cap q a (j + 1) := by
  obtain ⟨L, h1, h2, h3, h4⟩ := h
  have hle := others_le a j q
  have hlt := (List.getElem?_eq_some_iff.1 hp).1
  obtain ⟨c, hcc⟩ : ∃ c, (others a (q.take j)).length = c := ⟨_, rfl⟩
  rw [hcc] at h3 hle ⊢
  refine ⟨_, (h1.setCell _ _).setCell _ _, by simp [h2], ?_, fun m x hm hx => ?_⟩
  · rw [others_put a j q p hp hpa, pairs_append, ← h3, List.length_append, hcc]
    apply List.ext_getElem?
    intro i
    rcases Nat.lt_or_ge i (c * 2) with h | h
    · rw [List.getElem?_take_of_lt (by simp; omega), List.getElem?_set_ne (by omega), List.getElem?_set_ne (by omega), List.getElem?_append_left (by rw [List.length_take, h2]; omega), List.getElem?_take_of_lt h]
    · rw [List.getElem?_append_right (by rw [List.length_take, h2]; omega)]
      have e : (L.take (c * 2)).length = c * 2 := by rw [List.length_take, h2]; omega
      rw [e]
      by_cases e0 : i = c * 2
      · subst e0
        rw [List.getElem?_take_of_lt (by simp <;> omega), List.getElem?_set_ne (by omega), List.getElem?_set_self (by rw [h2]; omega), Nat.sub_self]
        rfl
      · by_cases e1 : i = c * 2 + 1
        · subst e1
          rw [List.getElem?_take_of_lt (by simp; omega), List.getElem?_set_self (by simp [h2]; omega), show c * 2 + 1 - c * 2 = 1 by omega]
          rfl
        · rw [List.getElem?_eq_none (by simp [h2]; omega), List.getElem?_eq_none (by rw [pairs_length]; simp; omega)]
  · have := h4 m x (by omega) hx
    rw [List.getElem?_set_ne (by omega), List.getElem?_set_ne (by omega), List.getElem?_set_ne (by omega), List.getElem?_set_ne (by omega)]
    exact this
theorem MidRow.cells {w : World} {gw cap : Nat} {q : List Wr} {a j : Nat} (h : MidRow w gw cap q a j) (i : Nat) (hi : i < cap * 2) : (∃ u, w.cell? ⟨gw, i, none⟩ = some u) ∧ w.frozen? ⟨gw, i, none⟩ = false := by
  obtain ⟨L, h1, h2, _⟩ := h
  exact ⟨h1.hasCell i (by omega), h1.frozen i⟩
theorem MidRow.at {w : World} {gw cap : Nat} {q : List Wr} {a j : Nat} (h : MidRow w gw cap q a j) {p : Wr} (hp : q[j]? = some p) : w.cell? ⟨gw, j * 2, none⟩ = some (.int .i64 (p.1 : Int)) ∧ w.cell? ⟨gw, j * 2 + 1, none⟩ = some (.string p.2) := by
  obtain ⟨L, h1, h2, _, h4⟩ := h
  have := h4 j p (Nat.le_refl _) hp
  exact ⟨h1.cell this.1, h1.cell this.2⟩
theorem zero_write : ∀ w : World, (zeroValue 84).run Try.prog w = .ok (.agg #[.int .i64 0, .string noB]) w := by
  obtain ⟨i0, hi, hz0, hz1, hz2⟩ := info_parts Try.info84
  intro w
  simp [zeroValue, typeInfo, hi, hz0]
/-- The rest is cleared: what is left is the writes of other cells. -/
theorem MidRow.clear {w : World} {gw cap : Nat} {q : List Wr} {a : Nat} (h : MidRow w gw cap q a q.length) (hc : q.length ≤ cap) (hm : cap ≤ maxLen) (hlt : (others a q).length < q.length) :
    ∃ Z, (∀ ty, (Builtin.clear_ #[74] ty #[.slice (some ⟨gw, (others a q).length * 2, none⟩) (q.length - (others a q).length) (cap - (others a q).length)]).run Try.prog w = .ok (.tuple #[]) (w.setRow gw Z)) ∧ Waits (w.setRow gw Z) 84 (.slice (some ⟨gw, 0, none⟩) (others a q).length cap) (others a q) := by
  obtain ⟨L, h1, h2, h3, _⟩ := h
  rw [List.take_length] at h3
  obtain ⟨c, hcc⟩ : ∃ c, (others a q).length = c := ⟨_, rfl⟩
  have hr := fun ty => run_clear_row w 74 84 ty (.agg #[.int .i64 0, .string noB]) Try.underlying74 zero_write gw (c * 2) (q.length - c) (cap - c) (by omega) L.toArray 84 h1 (by simp [Value.cells, h2]; omega) (by
    intro v hv
    simp only [Builtin.zeroCells, Value.cells] at hv
    rw [Array.mem_toList_iff, Array.mem_map] at hv
    obtain ⟨i, _, rfl⟩ := hv
    have : i % 2 = 0 ∨ i % 2 = 1 := by omega
    simp only [List.size_toArray, List.length_cons, List.length_nil]
    rcases this with h | h <;> rw [show (0 + 1 + 1 : Nat) = 2 from rfl, h] <;> rfl)
  rw [hcc] at h3 hlt ⊢
  refine ⟨_, hr, ?_⟩
  have hlenZ : (Builtin.zeroCells (Value.agg #[.int .i64 0, .string noB]).cells (q.length - c)).toList.length = (q.length - c) * 2 := by rw [Array.length_toList, size_zeroCells]; rfl
  refine ⟨by rw [pairs_length], .inr ⟨gw, cap, _, by rw [hcc], Nat.zero_le _, setRow_heap w gw _ _ 84 _ h1, by omega, hm, ?_, ?_⟩⟩
  · have e2 : (Value.agg #[.int .i64 0, .string noB]).cells.size = 2 := rfl
    rw [List.size_toArray, List.length_append, List.length_append, List.length_take, List.length_drop, hlenZ, e2, List.toList_toArray, h2]
    omega
  · rw [hcc, List.toList_toArray, List.toList_toArray, List.append_assoc, List.take_append_of_le_length (by rw [List.length_take, h2]; omega), List.take_of_length_le (by rw [List.length_take]; omega), h3]
end Go.Proofs.Ytfepmafjkgjmmaa
