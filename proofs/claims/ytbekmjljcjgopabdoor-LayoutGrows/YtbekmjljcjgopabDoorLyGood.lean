/- Layouts: which are good, by the program and by the document; how many blocks, how wide, where. -/
import Derived.Test.YtbekmjljcjgopabDoorLyLow
namespace Go.Proofs.YtbekmjljcjgopabDoor
open Go.RowKit Go.PlainAid
set_option linter.unusedVariables false
set_option maxRecDepth 20000

/-- A boxed struct, and the table. -/
def Bx (w0 w : World) (g : Nat) (T : TypeId) (L : List Value) : Prop := Below w0.heap.size w0 w ∧ Blk w g T L ∧ Tabs w ∧ w0.heap.size ≤ w.heap.size
section
variable {w0 w w' : World} {g : Nat} {T : TypeId} {L : List Value} {D S M : Int} {G : Bool}
theorem Bx.next (h : Bx w0 w g T L) (hb : Below w.heap.size w w') : Bx w0 w' g T L := ⟨h.1.trans (hb.mono h.2.2.2), h.2.1.below hb h.2.1.lt, h.2.2.1.below hb h.2.2.1.lt, Nat.le_trans h.2.2.2 hb.size⟩
theorem Bx.box (w : World) (ht : Tabs w) (T : TypeId) (L : List Value) : Bx w (w.alloc (.cells L.toArray T)) w.heap.size T L := ⟨bx w T L, Blk.box w T L, ht.below (bx w T L) ht.lt, by simp⟩
theorem Bx.cells (h : Bx w0 w g T (lyL D S M G)) : w.cell? ⟨g, 0, none⟩ = some (.int .i64 D) ∧ w.cell? ⟨g, 1, none⟩ = some (.int .i64 S) ∧ w.cell? ⟨g, 2, none⟩ = some (.int .i64 M) ∧ w.cell? ⟨g, 3, none⟩ = some (.bool G) :=
  ⟨h.2.1.cell (i := 0) rfl, h.2.1.cell (i := 1) rfl, h.2.1.cell (i := 2) rfl, h.2.1.cell (i := 3) rfl⟩
theorem Bx.tabs (h : Bx w0 w g T L) : Tabs w := h.2.2.1
theorem Bx.low (h : Bx w0 w g T L) : Below w0.heap.size w0 w := h.1
end
section
variable {D S M : Int} {G : Bool}
theorem good_any (w : World) (ht : Tabs w) : Calls Tryd.prog 7 #[.agg #[.int .i64 D, .int .i64 S, .int .i64 M, .bool G]] w fun e w' => e = .returned (.bool (decide (Gd D S M G))) ∧ Below w.heap.size w w' := by
  have X0 : Hid (Bx w (w.alloc (.cells #[.int .i64 D, .int .i64 S, .int .i64 M, .bool G] 24)) w.heap.size 24 (lyL D S M G)) := Bx.box w ht 24 (lyL D S M G)
  have q1 : Hid (∀ z, Calls Tryd.prog 12 #[.agg #[.int .i64 D, .int .i64 S, .int .i64 M, .bool G]] z fun e w' => e = .returned (.bool (decide (GdD D G))) ∧ Below z.heap.size z w') := fun z => gdata_any D S M G z
  have q2 : Hid (∀ z, Tabs z → Calls Tryd.prog 13 #[.agg #[.int .i64 D, .int .i64 S, .int .i64 M, .bool G]] z fun e w' => e = .returned (.bool (decide (GdS S))) ∧ Below z.heap.size z w') := fun z hz => gslots_any D S M G z hz
  have q3 : Hid (∀ z, Calls Tryd.prog 14 #[.agg #[.int .i64 D, .int .i64 S, .int .i64 M, .bool G]] z fun e w' => e = .returned (.bool (decide (M = 0 ∨ (G = true ∧ 0 < M ∧ M < S)))) ∧ Below z.heap.size z w') := fun z => gmark_any D S M G z
  clear ht
  by_cases hd : GdD D G
  · by_cases hs : GdS S
    · have e3 : decide (Gd D S M G) = decide (M = 0 ∨ (G = true ∧ 0 < M ∧ M < S)) := by
        have h2 : 2 ≤ S := by unfold GdS at hs; omega
        refine decide_eq_decide.2 ⟨fun ⟨_, _, h0, h1, h3⟩ => ?_, fun h => ⟨hd, hs, ?_⟩⟩
        · by_cases hm : M = 0
          · exact .inl hm
          · exact .inr ⟨h3.resolve_right hm, by omega, h1⟩
        · rcases h with h | ⟨h3, h4, h5⟩
          · exact ⟨by omega, by omega, .inr h⟩
          · exact ⟨by omega, h5, .inl h3⟩
      rw [decide_eq_true hd] at q1
      rw [decide_eq_true hs] at q2
      rw [e3]
      generalize decide (M = 0 ∨ (G = true ∧ 0 < M ∧ M < S)) = c at *
      clear e3 hd hs
      go_enter Tryd.func7, Tryd.ntmps7
      go_wp2_with (first
        | (go_at_call 12; refine (q1.out _).mono ?_; rintro x w1 ⟨rfl, h1⟩; have X1 : Hid (Bx w w1 w.heap.size 24 (lyL D S M G)) := X0.out.next h1; obtain ⟨c10, c11, c12, c13⟩ := X1.out.cells; clear h1)
        | (go_at_call 13; refine (q2.out _ X1.out.tabs).mono ?_; rintro x w2 ⟨rfl, h2⟩; have X2 : Hid (Bx w w2 w.heap.size 24 (lyL D S M G)) := X1.out.next h2; obtain ⟨c20, c21, c22, c23⟩ := X2.out.cells; clear h2)
        | (go_at_call 14; refine (q3.out _).mono ?_; rintro x w3 ⟨rfl, h3⟩; have X3 : Hid (Bx w w3 w.heap.size 24 (lyL D S M G)) := X2.out.next h3; obtain ⟨c30, c31, c32, c33⟩ := X3.out.cells; clear h3))
      go_ret
      exact ⟨rfl, X3.out.low⟩
    · have e3 : decide (Gd D S M G) = false := decide_eq_false fun h => hs h.2.1
      rw [decide_eq_true hd] at q1
      rw [decide_eq_false hs] at q2
      rw [e3]
      clear e3 hd hs
      go_enter Tryd.func7, Tryd.ntmps7
      go_wp2_with (first
        | (go_at_call 12; refine (q1.out _).mono ?_; rintro x w1 ⟨rfl, h1⟩; have X1 : Hid (Bx w w1 w.heap.size 24 (lyL D S M G)) := X0.out.next h1; obtain ⟨c10, c11, c12, c13⟩ := X1.out.cells; clear h1)
        | (go_at_call 13; refine (q2.out _ X1.out.tabs).mono ?_; rintro x w2 ⟨rfl, h2⟩; have X2 : Hid (Bx w w2 w.heap.size 24 (lyL D S M G)) := X1.out.next h2; obtain ⟨c20, c21, c22, c23⟩ := X2.out.cells; clear h2))
      go_ret
      exact ⟨rfl, X2.out.low⟩
  · have e3 : decide (Gd D S M G) = false := decide_eq_false fun h => hd h.1
    rw [decide_eq_false hd] at q1
    rw [e3]
    clear e3 hd
    go_enter Tryd.func7, Tryd.ntmps7
    go_wp2_with (first
      | (go_at_call 12; refine (q1.out _).mono ?_; rintro x w1 ⟨rfl, h1⟩; have X1 : Hid (Bx w w1 w.heap.size 24 (lyL D S M G)) := X0.out.next h1; obtain ⟨c10, c11, c12, c13⟩ := X1.out.cells; clear h1))
    go_ret
    exact ⟨rfl, X1.out.low⟩
end
end Go.Proofs.YtbekmjljcjgopabDoor
