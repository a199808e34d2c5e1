/- A disk, and the document's own, as they lie in memory; worlds in which nothing but a set of blocks has turned. -/
import Derived.Test.YtbbgagpompgagabDoorKept
import Derived.Test.YtbbgagpompgagabDoorDkPlain
import Derived.Maps.AppendAt
import Derived.Lib.SliceRun
namespace Go.Proofs.YtbbgagpompgagabDoor
open Go.RowKit Go.PlainAid
set_option linter.unusedVariables false

/-- A row of n texts. -/
def strs (n : Nat) (f : Nat → ByteArray) : List Value := (List.range n).map fun i => .string (f i)
set_option maxRecDepth 20000 in
theorem strs_length (n : Nat) (f : Nat → ByteArray) : (strs n f).length = n := by simp [strs]
set_option maxRecDepth 20000 in
theorem strs_at (n : Nat) (f : Nat → ByteArray) (i : Nat) (h : i < n) : (strs n f)[i]? = some (.string (f i)) := by simp [strs, h]
set_option maxRecDepth 20000 in
theorem strs_congr (n : Nat) (f f' : Nat → ByteArray) (h : ∀ i, i < n → f i = f' i) : strs n f = strs n f' := by
  unfold strs; exact List.map_congr_left fun i hi => by rw [h i (List.mem_range.1 hi)]
set_option maxRecDepth 20000 in
theorem strs_set (n : Nat) (f : Nat → ByteArray) (k : Nat) (s : ByteArray) : (strs n f).set k (.string s) = strs n (upd f (k, s)) := by
  apply List.ext_getElem
  · simp [strs]
  · intro j h1 h2
    rw [List.getElem_set]
    simp only [strs, List.getElem_map, List.getElem_range, upd]
    by_cases e : k = j
    · rw [if_pos e, if_pos e.symm]
    · rw [if_neg e, if_neg (fun h => e h.symm)]
set_option maxRecDepth 20000 in
theorem strs_one (n : Nat) (f : Nat → ByteArray) : ∀ v ∈ strs n f, v.oneCell' = true := by
  intro v hv
  obtain ⟨i, _, rfl⟩ := List.mem_map.1 hv
  rfl
set_option maxRecDepth 20000 in
theorem strs_succ (n : Nat) (f : Nat → ByteArray) : strs (n + 1) f = strs n f ++ [.string (f n)] := by
  unfold strs; rw [List.range_succ, List.map_append]; rfl
set_option maxRecDepth 20000 in
theorem strs_same {n : Nat} {f f' : Nat → ByteArray} (h : strs n f = strs n f') : ∀ i, i < n → f i = f' i := by
  intro i hi
  have := congrArg (fun L : List Value => L[i]?) h
  simp only [strs_at _ _ i hi] at this
  exact Value.string.inj (Option.some.inj this)
/-- A row of writes: the cell and the bytes of each. -/
def pairs (q : List Wr) : List Value := q.flatMap fun p => [.int .i64 (p.1 : Int), .string p.2]
set_option maxRecDepth 20000 in
theorem pairs_length (q : List Wr) : (pairs q).length = q.length * 2 := by
  induction q with
  | nil => rfl
  | cons p r ih => simp only [pairs, List.flatMap_cons, List.length_append, List.length_cons, List.length_nil] at ih ⊢; omega
set_option maxRecDepth 20000 in
theorem pairs_append (a b : List Wr) : pairs (a ++ b) = pairs a ++ pairs b := by simp [pairs]
set_option maxRecDepth 20000 in
theorem pairs_at (q : List Wr) : ∀ i p, q[i]? = some p → (pairs q)[i * 2]? = some (.int .i64 (p.1 : Int)) ∧ (pairs q)[i * 2 + 1]? = some (.string p.2) := by
  induction q with
  | nil => intro i p h; simp at h
  | cons a r ih =>
    intro i p h
    cases i with
    | zero => simp at h; subst h; exact ⟨rfl, rfl⟩
    | succ i =>
      have := ih i p (by simpa using h)
      rw [show (i + 1) * 2 = i * 2 + 1 + 1 by omega]
      exact this
set_option maxRecDepth 20000 in
theorem pairs_one (q : List Wr) : ∀ v ∈ pairs q, v.oneCell' = true := by
  intro v hv
  obtain ⟨p, _, hp⟩ := List.mem_flatMap.1 hv
  simp at hp
  rcases hp with rfl | rfl <;> rfl
/-- A row of writes that may grow. -/
def Waits (w : World) (T : TypeId) (v : Value) (q : List Wr) : Prop := w.ownsRow 0 T 2 v q.length (pairs q)
set_option maxRecDepth 20000 in
theorem Waits.nil (w : World) (T : TypeId) : Waits w T (.slice none 0 0) [] := World.ownsRow_nil _ _ _ _
set_option maxRecDepth 20000 in
theorem Waits.kept {F : Nat → Prop} {w w' : World} {T : TypeId} {v : Value} {q : List Wr} (h : Waits w T v q) (ho : Kept F w w') (hk : ∀ k, v.ownBlock = some k → ¬ F k) : Waits w' T v q := owns_kept h ho hk
set_option maxRecDepth 20000 in
theorem Waits.form {w : World} {T : TypeId} {v : Value} {q : List Wr} (h : Waits w T v q) : ∃ a cap, v = .slice a q.length cap := by
  rcases h.2 with ⟨rfl, hn⟩ | ⟨g, cap, cur, rfl, _⟩
  · exact ⟨none, 0, by rw [hn]⟩
  · exact ⟨_, _, rfl⟩
set_option maxRecDepth 20000 in
theorem Waits.lt {w : World} {T : TypeId} {v : Value} {q : List Wr} (h : Waits w T v q) (k : Nat) (hk : v.ownBlock = some k) : k < w.heap.size := (World.ownsRow.lt h k hk).2
set_option maxRecDepth 20000 in
/-- Where one of the writes lies. -/
theorem Waits.at {w : World} {T : TypeId} {v : Value} {q : List Wr} (h : Waits w T v q) {i : Nat} {p : Wr} (hi : q[i]? = some p) :
    ∃ g cap, v = .slice (some ⟨g, 0, none⟩) q.length cap ∧ w.cell? ⟨g, i * 2, none⟩ = some (.int .i64 (p.1 : Int)) ∧ w.cell? ⟨g, i * 2 + 1, none⟩ = some (.string p.2) := by
  obtain ⟨hlt, _⟩ := List.getElem?_eq_some_iff.1 hi
  rcases h.2 with ⟨rfl, hn⟩ | ⟨g, cap, cur, rfl, _⟩
  · omega
  · have h0 := World.ownsRow.cellAt h (i * 2) (by omega)
    have h1 := World.ownsRow.cellAt h (i * 2 + 1) (by omega)
    have hp := pairs_at q i p hi
    exact ⟨g, cap, rfl, h0.trans hp.1, h1.trans hp.2⟩

end Go.Proofs.YtbbgagpompgagabDoor
