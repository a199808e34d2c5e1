/- Layouts: which are good; the program's Good, Blocks, Wide, chunks, still. -/
import Derived.Test.YtbekmjljcjgopabDoorBaseM
import Derived.Handy
namespace Go.Proofs.YtbekmjljcjgopabDoor
open Go.RowKit Go.PlainAid
set_option linter.unusedVariables false
set_option maxRecDepth 20000

/-- A layout as a value; as it lies. -/
def lyL (D S M : Int) (G : Bool) : List Value := [.int .i64 D, .int .i64 S, .int .i64 M, .bool G]
/-- Which are good. -/
def GdD (D : Int) (G : Bool) : Prop := 2 ≤ D ∧ D ≤ (if G then 7 else 8)
def GdS (S : Int) : Prop := S = 2 ∨ S = 4 ∨ S = 8 ∨ S = 16
def GdM (S M : Int) (G : Bool) : Prop := 0 ≤ M ∧ M < S ∧ (G = true ∨ M = 0)
def Gd (D S M : Int) (G : Bool) : Prop := GdD D G ∧ GdS S ∧ GdM S M G
instance (D : Int) (G : Bool) : Decidable (GdD D G) := by unfold GdD; infer_instance
instance (S : Int) : Decidable (GdS S) := by unfold GdS; infer_instance
instance (S M : Int) (G : Bool) : Decidable (GdM S M G) := by unfold GdM; infer_instance
instance (D S M : Int) (G : Bool) : Decidable (Gd D S M G) := by unfold Gd; infer_instance
/-- The table of numbers of slots. -/
def Tabs (w : World) : Prop := w.cell? ⟨0, 0, none⟩ = some (.int .i64 2) ∧ w.cell? ⟨0, 1, none⟩ = some (.int .i64 4) ∧ w.cell? ⟨0, 2, none⟩ = some (.int .i64 8) ∧ w.cell? ⟨0, 3, none⟩ = some (.int .i64 16)
theorem Tabs.lt {w : World} (h : Tabs w) : 0 < w.heap.size := cell_lt h.1
theorem Tabs.below {w w' : World} {B : Nat} (h : Tabs w) (hb : Below B w w') (hB : 0 < B) : Tabs w' :=
  ⟨(hb.cell (p := ⟨0, 0, none⟩) hB).trans h.1, (hb.cell (p := ⟨0, 1, none⟩) hB).trans h.2.1, (hb.cell (p := ⟨0, 2, none⟩) hB).trans h.2.2.1, (hb.cell (p := ⟨0, 3, none⟩) hB).trans h.2.2.2⟩
theorem bx (w : World) (T : TypeId) (L : List Value) : Below w.heap.size w (w.alloc (.cells L.toArray T)) := (Below.refl _ _).alloc (Nat.le_refl _) _
theorem gdata_any (D S M : Int) (G : Bool) (w : World) : Calls Tryd.prog 12 #[.agg #[.int .i64 D, .int .i64 S, .int .i64 M, .bool G]] w fun e w' => e = .returned (.bool (decide (GdD D G))) ∧ Below w.heap.size w w' := by
  have hb : Hid (Below w.heap.size w (w.alloc (.cells #[.int .i64 D, .int .i64 S, .int .i64 M, .bool G] 24))) := bx w 24 (lyL D S M G)
  cases G with
  | true =>
    by_cases h : 2 ≤ D
    · have e : decide (GdD D true) = decide (D ≤ 7) := by unfold GdD; simp [h]
      rw [e]
      go_enter Tryd.func12, Tryd.ntmps12
      go_wp2
      go_ret
      exact ⟨rfl, hb.out⟩
    · have e : decide (GdD D true) = false := by unfold GdD; simp [h]
      rw [e]
      go_enter Tryd.func12, Tryd.ntmps12
      go_wp2
      go_ret
      exact ⟨rfl, hb.out⟩
  | false =>
    by_cases h : 2 ≤ D
    · have e : decide (GdD D false) = decide (D ≤ 8) := by unfold GdD; simp [h]
      rw [e]
      go_enter Tryd.func12, Tryd.ntmps12
      go_wp2
      go_ret
      exact ⟨rfl, hb.out⟩
    · have e : decide (GdD D false) = false := by unfold GdD; simp [h]
      rw [e]
      go_enter Tryd.func12, Tryd.ntmps12
      go_wp2
      go_ret
      exact ⟨rfl, hb.out⟩
theorem ix4 (w : World) : (Instr.index 40 (.agg #[.int .i64 2, .int .i64 4, .int .i64 8, .int .i64 16]) (.int .i64 0)).run Tryd.prog w = .ok (.int .i64 2) w ∧ (Instr.index 40 (.agg #[.int .i64 2, .int .i64 4, .int .i64 8, .int .i64 16]) (.int .i64 1)).run Tryd.prog w = .ok (.int .i64 4) w ∧ (Instr.index 40 (.agg #[.int .i64 2, .int .i64 4, .int .i64 8, .int .i64 16]) (.int .i64 2)).run Tryd.prog w = .ok (.int .i64 8) w ∧ (Instr.index 40 (.agg #[.int .i64 2, .int .i64 4, .int .i64 8, .int .i64 16]) (.int .i64 3)).run Tryd.prog w = .ok (.int .i64 16) w := ⟨by kernel_rfl, by kernel_rfl, by kernel_rfl, by kernel_rfl⟩
theorem gslots_any (D S M : Int) (G : Bool) (w : World) (ht : Tabs w) : Calls Tryd.prog 13 #[.agg #[.int .i64 D, .int .i64 S, .int .i64 M, .bool G]] w fun e w' => e = .returned (.bool (decide (GdS S))) ∧ Below w.heap.size w w' := by
  have hb : Hid (Below w.heap.size w (w.alloc (.cells #[.int .i64 D, .int .i64 S, .int .i64 M, .bool G] 24))) := bx w 24 (lyL D S M G)
  obtain ⟨t0, t1, t2, t3⟩ := ht.below (bx w 24 (lyL D S M G)) ht.lt
  unfold lyL at t0 t1 t2 t3
  have e0 := fun w => (ix4 w).1
  have e1 := fun w => (ix4 w).2.1
  have e2 := fun w => (ix4 w).2.2.1
  have e3 := fun w => (ix4 w).2.2.2
  clear ht
  by_cases hS : S = 2 ∨ S = 4 ∨ S = 8 ∨ S = 16
  · have e : decide (GdS S) = true := decide_eq_true hS
    rw [e]
    rcases hS with rfl | rfl | rfl | rfl <;>
    · go_enter Tryd.func13, Tryd.ntmps13
      go_wp2
      go_rounds 5
      all_goals (go_ret; exact ⟨rfl, hb.out⟩)
  · have e : decide (GdS S) = false := decide_eq_false hS
    rw [e]
    have h2 : (S == 2) = false := by simpa using fun h => hS (.inl h)
    have h4 : (S == 4) = false := by simpa using fun h => hS (.inr (.inl h))
    have h8 : (S == 8) = false := by simpa using fun h => hS (.inr (.inr (.inl h)))
    have h16 : (S == 16) = false := by simpa using fun h => hS (.inr (.inr (.inr h)))
    clear hS
    go_enter Tryd.func13, Tryd.ntmps13
    go_wp2
    go_rounds 5
    all_goals (go_ret; exact ⟨rfl, hb.out⟩)
theorem gmark_any (D S M : Int) (G : Bool) (w : World) : Calls Tryd.prog 14 #[.agg #[.int .i64 D, .int .i64 S, .int .i64 M, .bool G]] w fun e w' => e = .returned (.bool (decide (M = 0 ∨ (G = true ∧ 0 < M ∧ M < S)))) ∧ Below w.heap.size w w' := by
  have hb : Hid (Below w.heap.size w (w.alloc (.cells #[.int .i64 D, .int .i64 S, .int .i64 M, .bool G] 24))) := bx w 24 (lyL D S M G)
  by_cases h0 : M = 0
  · subst h0
    simp only [true_or, decide_true]
    go_enter Tryd.func14, Tryd.ntmps14
    go_wp2
    go_ret
    exact ⟨rfl, hb.out⟩
  · have h0' : (M == 0) = false := by simpa using h0
    cases G with
    | false =>
      rw [show decide (M = 0 ∨ (false = true ∧ 0 < M ∧ M < S)) = false by simp [h0]]
      go_enter Tryd.func14, Tryd.ntmps14
      go_wp2
      go_ret
      exact ⟨rfl, hb.out⟩
    | true =>
      by_cases h1 : 0 < M
      · rw [show decide (M = 0 ∨ (true = true ∧ 0 < M ∧ M < S)) = decide (M < S) by simp [h0, h1]]
        go_enter Tryd.func14, Tryd.ntmps14
        go_wp2
        go_ret
        exact ⟨rfl, hb.out⟩
      · rw [show decide (M = 0 ∨ (true = true ∧ 0 < M ∧ M < S)) = false by simp [h0, h1]]
        go_enter Tryd.func14, Tryd.ntmps14
        go_wp2
        go_ret
        exact ⟨rfl, hb.out⟩
end Go.Proofs.YtbekmjljcjgopabDoor
