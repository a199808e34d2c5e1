/- Rows of texts that are only read; results that lie in two blocks; lengths of pairs. -/
import Derived.Test.YtbbgagpompgagabDoorTrPath
import Derived.Test.YtbbgagpompgagabDoorSum
namespace Go.Proofs.YtbbgagpompgagabDoor
open Go.RowKit Go.PlainAid Go.Shelf
set_option linter.unusedVariables false

/-- n texts p, one behind the other, from a on. -/
def Sa (w : World) (a : Option Addr) (n : Nat) (p : Nat → ByteArray) : Prop :=
  n = 0 ∨ ∃ b o, a = some ⟨b, o, none⟩ ∧ ∀ i, i < n → w.cell? ⟨b, o + i, none⟩ = some (.string (p i))
theorem Sa.below {w w' : World} {a : Option Addr} {n B : Nat} {p : Nat → ByteArray} (h : Sa w a n p) (hb : Below B w w') (hB : w.heap.size ≤ B) : Sa w' a n p := by
  rcases h with h | ⟨b, o, rfl, h⟩
  · exact .inl h
  · exact .inr ⟨b, o, rfl, fun i hi => (hb.cell (p := ⟨b, o + i, none⟩) (Nat.lt_of_lt_of_le (cell_blk_lt (h i hi)) hB)).trans (h i hi)⟩
theorem Sa.later {w w' : World} {a : Option Addr} {n : Nat} {p : Nat → ByteArray} (h : Sa w a n p) (hb : Below w.heap.size w w') : Sa w' a n p := h.below hb (Nat.le_refl _)
theorem Sa.congr {w : World} {a : Option Addr} {n : Nat} {p q : Nat → ByteArray} (h : Sa w a n p) (e : ∀ i, i < n → p i = q i) : Sa w a n q := by
  rcases h with h | ⟨b, o, rfl, h⟩
  · exact .inl h
  · exact .inr ⟨b, o, rfl, fun i hi => by rw [← e i hi]; exact h i hi⟩
theorem Sa.cells {w : World} {a : Option Addr} {n : Nat} {p : Nat → ByteArray} (h : Sa w a n p) (hn : 1 ≤ n) : ∃ b o, a = some ⟨b, o, none⟩ ∧ ∀ i, i < n → w.cell? ⟨b, o + i, none⟩ = some (.string (p i)) := by
  rcases h with h | h
  · omega
  · exact h
theorem Sa.owns {w : World} {base n : Nat} {v : Value} {p : Nat → ByteArray} (h : w.ownsRow base 9 1 v n (strs n p)) : ∃ a cap, v = .slice a n cap ∧ Sa w a n p := by
  have hc := h
  rcases h.2 with ⟨rfl, h0⟩ | ⟨g, cap, cur, rfl, hb, hg, _⟩
  · subst h0; exact ⟨none, 0, rfl, .inl rfl⟩
  · refine ⟨_, cap, rfl, .inr ⟨g, 0, rfl, fun i hi => ?_⟩⟩
    rw [Nat.zero_add, hc.cellAt i (by omega)]
    exact strs_at n p i hi
set_option maxRecDepth 20000 in
theorem results_cells2 {P : Program} {fn : Func} {tmps : Array Value} {w : World} {v u : Value} (s1 s2 : Nat) (t1 t2 : TypeId) (a b : Addr) (h : fn.results = #[.cell s1 t1, .cell s2 t2]) (h1 : tmps.getD s1 undef = .pointer (some a)) (h2 : tmps.getD s2 undef = .pointer (some b))
    (l1 : (loadVar t1 a).run P w = .ok v w) (l2 : (loadVar t2 b).run P w = .ok u w) : (results fn tmps).run P w = .ok (.tuple #[v, u]) w := by
  have e1 : (asAddr (tmps.getD s1 undef)).run P w = .ok a w := by rw [h1]; rfl
  have e2 : (asAddr (tmps.getD s2 undef)).run P w = .ok b w := by rw [h2]; rfl
  unfold results
  rw [h]
  simp [e1, e2, l1, l2, -Array.getD_eq_getD_getElem?]
theorem teq (a b : ByteArray) : (a.toList == b.toList) = decide (a = b) := by
  by_cases h : a = b
  · subst h; simp
  · rw [decide_eq_false h]
    apply beq_eq_false_iff_ne.2
    intro e
    apply h
    rw [ByteArray.toList_eq, ByteArray.toList_eq] at e
    exact ByteArray.ext (Array.toList_inj.1 e)

theorem ne64 (n : Nat) : ((n : Int) != 64) = decide (n ≠ 64) := by
  by_cases h : n = 64
  · subst h; rfl
  · rw [decide_eq_true h]
    exact bne_iff_ne.2 (by omega)
set_option maxRecDepth 20000 in
theorem notPair_any (s : ByteArray) (w : World) : Calls Tryd.prog 21 #[.string s] w fun e w' => e = .returned (.bool (decide (s.size ≠ 64))) ∧ w' = w := by
  go_enter Tryd.func21, Tryd.ntmps21
  go_wp2
  go_ret
  exact ⟨congrArg (fun b => Ending.returned (.bool b)) (ne64 s.size), rfl⟩
theorem load_text (w : World) (g : Nat) (t : ByteArray) (h : Blk w g 9 [.string t]) : (loadVar 9 ⟨g, 0, none⟩).run Tryd.prog w = .ok (.string t) w := by
  have c := h.cell (i := 0) rfl
  simp [loadVar, go_sem, c]
theorem load_err (w : World) (g : Nat) (t : Int) (h : Blk w g 27 [.int .i64 t]) : (loadVar 27 ⟨g, 0, none⟩).run Tryd.prog w = .ok (.int .i64 t) w := by
  have c := h.cell (i := 0) rfl
  simp [loadVar, go_sem, c]
end Go.Proofs.YtbbgagpompgagabDoor
