/- Layouts, by the program: Blocks, Wide, chunks, still. -/
import Derived.Test.YtbekmjljcjgopabDoorLyGood
namespace Go.Proofs.YtbekmjljcjgopabDoor
open Go.RowKit Go.PlainAid
set_option linter.unusedVariables false
set_option maxRecDepth 20000

/-- How many blocks; how wide a stripe is; how many chunks it has. -/
def bkN (D S M : Int) (G : Bool) : Int := if Gd D S M G then S * D else 0
def wdN (D S M : Int) (G : Bool) (t : Int) : Int := if Gd D S M G ∧ 0 ≤ t ∧ t < S then (if G = true ∧ t < M then D + 1 else D) else 0
def chN (D S M : Int) (G : Bool) (t : Int) : Int := if wdN D S M G t = 0 then 0 else wdN D S M G t + 2
def stE (D S M : Int) (G : Bool) : Int := if Gd D S M G then (if G = true then 0 else 12) else 4
section
variable {D S M : Int} {G : Bool}
theorem Gd.d2 (h : Gd D S M G) : 2 ≤ D := h.1.1
theorem Gd.d8 (h : Gd D S M G) : D ≤ 8 := by have := h.1.2; split at this <;> omega
theorem Gd.s16 (h : Gd D S M G) : 2 ≤ S ∧ S ≤ 16 := by have := h.2.1; unfold GdS at this; omega
theorem Gd.m (h : Gd D S M G) : 0 ≤ M ∧ M < S := ⟨h.2.2.1, h.2.2.2.1⟩
theorem Gd.sd (h : Gd D S M G) : 0 ≤ S * D ∧ S * D ≤ 128 := by
  have h1 := h.d2; have h2 := h.d8
  rcases h.2.1 with rfl | rfl | rfl | rfl <;> omega
theorem wd_le (t : Int) : 0 ≤ wdN D S M G t ∧ wdN D S M G t ≤ 9 := by
  unfold wdN
  split
  · rename_i h
    have h1 := h.1.d2; have h2 := h.1.d8
    split <;> omega
  · omega
theorem wd_in {t : Int} (h : wdN D S M G t ≠ 0) : Gd D S M G ∧ 0 ≤ t ∧ t < S := by
  unfold wdN at h
  by_cases c : Gd D S M G ∧ 0 ≤ t ∧ t < S
  · exact c
  · rw [if_neg c] at h; exact absurd rfl h
theorem wd_two {t : Int} (h : Gd D S M G) (h0 : 0 ≤ t) (h1 : t < S) : 2 ≤ wdN D S M G t := by
  unfold wdN
  rw [if_pos ⟨h, h0, h1⟩]
  have := h.d2
  split <;> omega
theorem ch_le (t : Int) : 0 ≤ chN D S M G t ∧ chN D S M G t ≤ 11 := by
  unfold chN
  have := wd_le (D := D) (S := S) (M := M) (G := G) t
  split <;> omega
theorem blocks_any (w : World) (ht : Tabs w) : Calls Tryd.prog 8 #[.agg #[.int .i64 D, .int .i64 S, .int .i64 M, .bool G]] w fun e w' => e = .returned (.int .i64 (bkN D S M G)) ∧ Below w.heap.size w w' := by
  have X0 : Hid (Bx w (w.alloc (.cells #[.int .i64 D, .int .i64 S, .int .i64 M, .bool G] 24)) w.heap.size 24 (lyL D S M G)) := Bx.box w ht 24 (lyL D S M G)
  have q1 : Hid (∀ z, Tabs z → Calls Tryd.prog 7 #[.agg #[.int .i64 D, .int .i64 S, .int .i64 M, .bool G]] z fun e w' => e = .returned (.bool (decide (Gd D S M G))) ∧ Below z.heap.size z w') := fun z hz => good_any z hz
  clear ht
  by_cases hg : Gd D S M G
  · have e : bkN D S M G = S * D := if_pos hg
    rw [decide_eq_true hg] at q1
    rw [e]
    have hb := hg.sd
    have hb1 : S * D ≤ 140737488355328 := by omega
    have hb0 := hb.1
    clear hb hg e
    go_enter Tryd.func8, Tryd.ntmps8
    go_wp2_with (go_at_call 7; refine (q1.out _ X0.out.tabs).mono ?_; rintro x w1 ⟨rfl, h1⟩; have X1 : Hid (Bx w w1 w.heap.size 24 (lyL D S M G)) := X0.out.next h1; obtain ⟨c0, c1, c2, c3⟩ := X1.out.cells; clear h1)
    go_ret
    exact ⟨rfl, X1.out.low⟩
  · have e : bkN D S M G = 0 := if_neg hg
    rw [decide_eq_false hg] at q1
    rw [e]
    clear hg e
    go_enter Tryd.func8, Tryd.ntmps8
    go_wp2_with (go_at_call 7; refine (q1.out _ X0.out.tabs).mono ?_; rintro x w1 ⟨rfl, h1⟩; have X1 : Hid (Bx w w1 w.heap.size 24 (lyL D S M G)) := X0.out.next h1; obtain ⟨c0, c1, c2, c3⟩ := X1.out.cells; clear h1)
    go_ret
    exact ⟨rfl, X1.out.low⟩
set_option maxHeartbeats 1000000 in
theorem wide_any (w : World) (ht : Tabs w) (t : Int) : Calls Tryd.prog 17 #[.agg #[.int .i64 D, .int .i64 S, .int .i64 M, .bool G], .int .i64 t] w fun e w' => e = .returned (.int .i64 (wdN D S M G t)) ∧ Below w.heap.size w w' := by
  have X0 : Hid (Bx w (w.alloc (.cells #[.int .i64 D, .int .i64 S, .int .i64 M, .bool G] 24)) w.heap.size 24 (lyL D S M G)) := Bx.box w ht 24 (lyL D S M G)
  have q1 : Hid (∀ z, Tabs z → Calls Tryd.prog 7 #[.agg #[.int .i64 D, .int .i64 S, .int .i64 M, .bool G]] z fun e w' => e = .returned (.bool (decide (Gd D S M G))) ∧ Below z.heap.size z w') := fun z hz => good_any z hz
  clear ht
  by_cases hg : Gd D S M G
  · rw [decide_eq_true hg] at q1
    by_cases h0 : t < 0
    · rw [show wdN D S M G t = 0 from if_neg (by omega)]
      clear hg
      go_enter Tryd.func17, Tryd.ntmps17
      go_wp2_with (go_at_call 7; refine (q1.out _ X0.out.tabs).mono ?_; rintro x w1 ⟨rfl, h1⟩; have X1 : Hid (Bx w w1 w.heap.size 24 (lyL D S M G)) := X0.out.next h1; obtain ⟨c0, c1, c2, c3⟩ := X1.out.cells; clear h1)
      go_ret
      exact ⟨rfl, X1.out.low⟩
    · by_cases h1 : S ≤ t
      · rw [show wdN D S M G t = 0 from if_neg (by omega)]
        clear hg
        go_enter Tryd.func17, Tryd.ntmps17
        go_wp2_with (go_at_call 7; refine (q1.out _ X0.out.tabs).mono ?_; rintro x w1 ⟨rfl, h1⟩; have X1 : Hid (Bx w w1 w.heap.size 24 (lyL D S M G)) := X0.out.next h1; obtain ⟨c0, c1, c2, c3⟩ := X1.out.cells; clear h1)
        go_ret
        exact ⟨rfl, X1.out.low⟩
      · rw [show wdN D S M G t = (if G = true ∧ t < M then D + 1 else D) from if_pos ⟨hg, by omega, by omega⟩]
        have hd2 := hg.d2
        have hd8 := hg.d8
        clear hg
        cases G with
        | true =>
          by_cases h2 : t < M
          · rw [if_pos ⟨rfl, h2⟩]
            go_enter Tryd.func17, Tryd.ntmps17
            go_wp2_with (go_at_call 7; refine (q1.out _ X0.out.tabs).mono ?_; rintro x w1 ⟨rfl, h1⟩; have X1 : Hid (Bx w w1 w.heap.size 24 (lyL D S M true)) := X0.out.next h1; obtain ⟨c0, c1, c2, c3⟩ := X1.out.cells; clear h1)
            go_ret
            exact ⟨rfl, X1.out.low⟩
          · rw [if_neg fun h => h2 h.2]
            go_enter Tryd.func17, Tryd.ntmps17
            go_wp2_with (go_at_call 7; refine (q1.out _ X0.out.tabs).mono ?_; rintro x w1 ⟨rfl, h1⟩; have X1 : Hid (Bx w w1 w.heap.size 24 (lyL D S M true)) := X0.out.next h1; obtain ⟨c0, c1, c2, c3⟩ := X1.out.cells; clear h1)
            go_ret
            exact ⟨rfl, X1.out.low⟩
        | false =>
          rw [if_neg fun h => Bool.noConfusion h.1]
          go_enter Tryd.func17, Tryd.ntmps17
          go_wp2_with (go_at_call 7; refine (q1.out _ X0.out.tabs).mono ?_; rintro x w1 ⟨rfl, h1⟩; have X1 : Hid (Bx w w1 w.heap.size 24 (lyL D S M false)) := X0.out.next h1; obtain ⟨c0, c1, c2, c3⟩ := X1.out.cells; clear h1)
          go_ret
          exact ⟨rfl, X1.out.low⟩
  · rw [decide_eq_false hg] at q1
    rw [show wdN D S M G t = 0 from if_neg fun h => hg h.1]
    clear hg
    go_enter Tryd.func17, Tryd.ntmps17
    go_wp2_with (go_at_call 7; refine (q1.out _ X0.out.tabs).mono ?_; rintro x w1 ⟨rfl, h1⟩; have X1 : Hid (Bx w w1 w.heap.size 24 (lyL D S M G)) := X0.out.next h1; obtain ⟨c0, c1, c2, c3⟩ := X1.out.cells; clear h1)
    go_ret
    exact ⟨rfl, X1.out.low⟩
theorem chunks_any (w : World) (ht : Tabs w) (t : Int) : Calls Tryd.prog 16 #[.agg #[.int .i64 D, .int .i64 S, .int .i64 M, .bool G], .int .i64 t] w fun e w' => e = .returned (.int .i64 (chN D S M G t)) ∧ Below w.heap.size w w' := by
  have X0 : Hid (Bx w (w.alloc (.cells #[.int .i64 D, .int .i64 S, .int .i64 M, .bool G] 24)) w.heap.size 24 (lyL D S M G)) := Bx.box w ht 24 (lyL D S M G)
  have q1 : Hid (∀ z, Tabs z → Calls Tryd.prog 17 #[.agg #[.int .i64 D, .int .i64 S, .int .i64 M, .bool G], .int .i64 t] z fun e w' => e = .returned (.int .i64 (wdN D S M G t)) ∧ Below z.heap.size z w') := fun z hz => wide_any z hz t
  have hl := wd_le (D := D) (S := S) (M := M) (G := G) t
  unfold chN
  clear ht
  generalize wdN D S M G t = k at *
  obtain ⟨hl0, hl1⟩ := hl
  by_cases h0 : k = 0
  · subst h0
    rw [if_pos rfl]
    go_enter Tryd.func16, Tryd.ntmps16
    go_wp2_with (go_at_call 17; refine (q1.out _ X0.out.tabs).mono ?_; rintro x w1 ⟨rfl, h1⟩; have X1 : Hid (Bx w w1 w.heap.size 24 (lyL D S M G)) := X0.out.next h1; clear h1)
    go_ret
    exact ⟨rfl, X1.out.low⟩
  · rw [if_neg h0]
    go_enter Tryd.func16, Tryd.ntmps16
    go_wp2_with (go_at_call 17; refine (q1.out _ X0.out.tabs).mono ?_; rintro x w1 ⟨rfl, h1⟩; have X1 : Hid (Bx w w1 w.heap.size 24 (lyL D S M G)) := X0.out.next h1; clear h1)
    go_ret
    exact ⟨rfl, X1.out.low⟩
theorem still_any (w : World) (ht : Tabs w) : Calls Tryd.prog 11 #[.agg #[.int .i64 D, .int .i64 S, .int .i64 M, .bool G]] w fun e w' => e = .returned (.int .i64 (stE D S M G)) ∧ Below w.heap.size w w' := by
  have X0 : Hid (Bx w (w.alloc (.cells #[.int .i64 D, .int .i64 S, .int .i64 M, .bool G] 24)) w.heap.size 24 (lyL D S M G)) := Bx.box w ht 24 (lyL D S M G)
  have q1 : Hid (∀ z, Tabs z → Calls Tryd.prog 7 #[.agg #[.int .i64 D, .int .i64 S, .int .i64 M, .bool G]] z fun e w' => e = .returned (.bool (decide (Gd D S M G))) ∧ Below z.heap.size z w') := fun z hz => good_any z hz
  clear ht
  by_cases hg : Gd D S M G
  · rw [show stE D S M G = (if G = true then 0 else 12) from if_pos hg]
    rw [decide_eq_true hg] at q1
    clear hg
    cases G with
    | true =>
      rw [if_pos rfl]
      go_enter Tryd.func11, Tryd.ntmps11
      go_wp2_with (go_at_call 7; refine (q1.out _ X0.out.tabs).mono ?_; rintro x w1 ⟨rfl, h1⟩; have X1 : Hid (Bx w w1 w.heap.size 24 (lyL D S M true)) := X0.out.next h1; obtain ⟨c0, c1, c2, c3⟩ := X1.out.cells; clear h1)
      go_ret
      exact ⟨rfl, X1.out.low⟩
    | false =>
      rw [if_neg Bool.noConfusion]
      go_enter Tryd.func11, Tryd.ntmps11
      go_wp2_with (go_at_call 7; refine (q1.out _ X0.out.tabs).mono ?_; rintro x w1 ⟨rfl, h1⟩; have X1 : Hid (Bx w w1 w.heap.size 24 (lyL D S M false)) := X0.out.next h1; obtain ⟨c0, c1, c2, c3⟩ := X1.out.cells; clear h1)
      go_ret
      exact ⟨rfl, X1.out.low⟩
  · rw [show stE D S M G = 4 from if_neg hg]
    rw [decide_eq_false hg] at q1
    clear hg
    go_enter Tryd.func11, Tryd.ntmps11
    go_wp2_with (go_at_call 7; refine (q1.out _ X0.out.tabs).mono ?_; rintro x w1 ⟨rfl, h1⟩; have X1 : Hid (Bx w w1 w.heap.size 24 (lyL D S M G)) := X0.out.next h1; obtain ⟨c0, c1, c2, c3⟩ := X1.out.cells; clear h1)
    go_ret
    exact ⟨rfl, X1.out.low⟩
end
end Go.Proofs.YtbekmjljcjgopabDoor
