/- Layouts, by the program: Find, Seat, Chunk. -/
import Derived.Test.YtbekmjljcjgopabDoorLyWide
namespace Go.Proofs.YtbekmjljcjgopabDoor
open Go.RowKit Go.PlainAid
set_option linter.unusedVariables false
set_option maxRecDepth 20000

/-- Where a block lies. -/
def fdE (D S M : Int) (G : Bool) (b : Int) : Int := if Gd D S M G then (if b < 0 ∨ S * D ≤ b then 2 else 0) else 4
def fdK (D M b : Int) : Int := if b < M * (D + 1) then D + 1 else D
def fdT (D S M : Int) (G : Bool) (b : Int) : Int := if fdE D S M G b = 0 then b / fdK D M b else 0
def fdC (D S M : Int) (G : Bool) (b : Int) : Int := if fdE D S M G b = 0 then b % fdK D M b else 0
/-- On which seat a chunk lies; which chunk lies there. -/
def seE (D S M : Int) (G : Bool) (t c : Int) : Int := if Gd D S M G then (if c < 0 ∨ chN D S M G t ≤ c then 2 else 0) else 4
def seV (D S M : Int) (G : Bool) (t c : Int) : Int := if seE D S M G t c = 0 then (c + t) % chN D S M G t else 0
def ckB (D S M : Int) (G : Bool) (t s : Int) : Bool := decide (0 ≤ s ∧ s < chN D S M G t)
def ckV (D S M : Int) (G : Bool) (t s : Int) : Int := if ckB D S M G t s = true then (s + chN D S M G t - t) % chN D S M G t else 0
theorem tdiv_nn (a b : Int) (h : 0 ≤ a) : a.tdiv b = a / b := Int.tdiv_eq_ediv_of_nonneg h
theorem tmod_nn (a b : Int) (h : 0 ≤ a) : a.tmod b = a % b := Int.tmod_eq_emod_of_nonneg h
section
variable {D S M : Int} {G : Bool}
theorem ch_in {t : Int} (h : chN D S M G t ≠ 0) : Gd D S M G ∧ 0 ≤ t ∧ t < S ∧ chN D S M G t = wdN D S M G t + 2 ∧ 2 ≤ wdN D S M G t := by
  unfold chN at h
  by_cases c : wdN D S M G t = 0
  · rw [if_pos c] at h; exact absurd rfl h
  · obtain ⟨h1, h2, h3⟩ := wd_in c
    exact ⟨h1, h2, h3, by unfold chN; rw [if_neg c], wd_two h1 h2 h3⟩
theorem ch_ok {t : Int} (h : Gd D S M G) (h0 : 0 ≤ t) (h1 : t < S) : chN D S M G t = wdN D S M G t + 2 := by
  have := wd_two h h0 h1
  unfold chN; rw [if_neg (by omega)]
set_option maxHeartbeats 2000000 in
theorem find_any (w : World) (ht : Tabs w) (b : Int) : Calls Tryd.prog 9 #[.agg #[.int .i64 D, .int .i64 S, .int .i64 M, .bool G], .int .i64 b] w fun e w' => e = .returned (.tuple #[.int .i64 (fdT D S M G b), .int .i64 (fdC D S M G b), .int .i64 (fdE D S M G b)]) ∧ Below w.heap.size w w' := by
  have X0 : Hid (Bx w (w.alloc (.cells #[.int .i64 D, .int .i64 S, .int .i64 M, .bool G] 24)) w.heap.size 24 (lyL D S M G)) := Bx.box w ht 24 (lyL D S M G)
  have q1 : Hid (∀ z, Tabs z → Calls Tryd.prog 7 #[.agg #[.int .i64 D, .int .i64 S, .int .i64 M, .bool G]] z fun e w' => e = .returned (.bool (decide (Gd D S M G))) ∧ Below z.heap.size z w') := fun z hz => good_any z hz
  have q2 : Hid (∀ z, Tabs z → Calls Tryd.prog 8 #[.agg #[.int .i64 D, .int .i64 S, .int .i64 M, .bool G]] z fun e w' => e = .returned (.int .i64 (bkN D S M G)) ∧ Below z.heap.size z w') := fun z hz => blocks_any z hz
  clear ht
  by_cases hg : Gd D S M G
  · rw [decide_eq_true hg] at q1
    rw [show bkN D S M G = S * D from if_pos hg] at q2
    have hsd := hg.sd
    by_cases h0 : b < 0
    · have hE : fdE D S M G b = 2 := by unfold fdE; rw [if_pos hg, if_pos (.inl h0)]
      unfold fdT fdC
      rw [hE]
      simp only [if_neg (show ¬ (2 : Int) = 0 by decide)]
      clear hg hE hsd
      go_enter Tryd.func9, Tryd.ntmps9
      go_wp2_with (first
        | (go_at_call 7; refine (q1.out _ X0.out.tabs).mono ?_; rintro x w1 ⟨rfl, h1⟩; have X1 : Hid (Bx w w1 w.heap.size 24 (lyL D S M G)) := X0.out.next h1; obtain ⟨c10, c11, c12, c13⟩ := X1.out.cells; clear h1))
      go_returns
      exact ⟨rfl, X1.out.low⟩
    · by_cases h1 : S * D ≤ b
      · have hE : fdE D S M G b = 2 := by unfold fdE; rw [if_pos hg, if_pos (.inr h1)]
        unfold fdT fdC
        rw [hE]
        simp only [if_neg (show ¬ (2 : Int) = 0 by decide)]
        clear hg hE hsd
        go_enter Tryd.func9, Tryd.ntmps9
        go_wp2_with (first
          | (go_at_call 7; refine (q1.out _ X0.out.tabs).mono ?_; rintro x w1 ⟨rfl, h1⟩; have X1 : Hid (Bx w w1 w.heap.size 24 (lyL D S M G)) := X0.out.next h1; obtain ⟨c10, c11, c12, c13⟩ := X1.out.cells; clear h1)
          | (go_at_call 8; refine (q2.out _ X1.out.tabs).mono ?_; rintro x w2 ⟨rfl, h2⟩; have X2 : Hid (Bx w w2 w.heap.size 24 (lyL D S M G)) := X1.out.next h2; obtain ⟨c20, c21, c22, c23⟩ := X2.out.cells; clear h2))
        go_returns
        exact ⟨rfl, X2.out.low⟩
      · have hE : fdE D S M G b = 0 := by unfold fdE; rw [if_pos hg, if_neg (by omega)]
        unfold fdT fdC
        rw [hE]
        simp only [if_pos]
        have hd2 := hg.d2
        have hd8 := hg.d8
        have hm0 := hg.m.1
        have hm1 : M ≤ 16 := by have := hg.m.2; have := hg.s16.2; omega
        have hb128 : b < 128 := by omega
        have hmd0 : 0 ≤ M * (D + 1) := Int.mul_nonneg hm0 (by omega)
        have hmd : M * (D + 1) ≤ 144 := Int.le_trans (Int.mul_le_mul hm1 (show D + 1 ≤ 9 by omega) (by omega) (by decide)) (by decide)
        have hb0 : 0 ≤ b := by omega
        clear hg hE hsd
        by_cases h2 : b < M * (D + 1)
        · rw [show fdK D M b = D + 1 from if_pos h2]
          have e1 := tdiv_nn b (D + 1) hb0
          have e2 := tmod_nn b (D + 1) hb0
          have hd0 : ¬ D + 1 = 0 := by omega
          have e3 : 0 ≤ b / (D + 1) := Int.ediv_nonneg hb0 (by omega)
          have e4 : b / (D + 1) ≤ b := Int.ediv_le_self _ hb0
          have e5 : 0 ≤ b % (D + 1) := Int.emod_nonneg _ hd0
          have e6 : b % (D + 1) < D + 1 := Int.emod_lt_of_pos _ (by omega)
          go_enter Tryd.func9, Tryd.ntmps9
          go_wp2_with (first
            | (go_at_call 7; refine (q1.out _ X0.out.tabs).mono ?_; rintro x w1 ⟨rfl, h1⟩; have X1 : Hid (Bx w w1 w.heap.size 24 (lyL D S M G)) := X0.out.next h1; obtain ⟨c10, c11, c12, c13⟩ := X1.out.cells; clear h1)
            | (go_at_call 8; refine (q2.out _ X1.out.tabs).mono ?_; rintro x w2 ⟨rfl, h2⟩; have X2 : Hid (Bx w w2 w.heap.size 24 (lyL D S M G)) := X1.out.next h2; obtain ⟨c20, c21, c22, c23⟩ := X2.out.cells; clear h2))
          go_region
          all_goals (go_wp2)
          all_goals (go_returns; exact ⟨rfl, X2.out.low.drew⟩)
        · rw [show fdK D M b = D from if_neg h2]
          have e1 := tdiv_nn b D hb0
          have e2 := tmod_nn b D hb0
          have hd0 : ¬ D = 0 := by omega
          have e3 : 0 ≤ b / D := Int.ediv_nonneg hb0 (by omega)
          have e4 : b / D ≤ b := Int.ediv_le_self _ hb0
          have e5 : 0 ≤ b % D := Int.emod_nonneg _ hd0
          have e6 : b % D < D := Int.emod_lt_of_pos _ (by omega)
          go_enter Tryd.func9, Tryd.ntmps9
          go_wp2_with (first
            | (go_at_call 7; refine (q1.out _ X0.out.tabs).mono ?_; rintro x w1 ⟨rfl, h1⟩; have X1 : Hid (Bx w w1 w.heap.size 24 (lyL D S M G)) := X0.out.next h1; obtain ⟨c10, c11, c12, c13⟩ := X1.out.cells; clear h1)
            | (go_at_call 8; refine (q2.out _ X1.out.tabs).mono ?_; rintro x w2 ⟨rfl, h2⟩; have X2 : Hid (Bx w w2 w.heap.size 24 (lyL D S M G)) := X1.out.next h2; obtain ⟨c20, c21, c22, c23⟩ := X2.out.cells; clear h2))
          go_region
          all_goals (go_wp2)
          all_goals (go_returns; exact ⟨rfl, X2.out.low.drew⟩)
  · rw [decide_eq_false hg] at q1
    have hE : fdE D S M G b = 4 := if_neg hg
    unfold fdT fdC
    rw [hE]
    simp only [if_neg (show ¬ (4 : Int) = 0 by decide)]
    clear hg hE
    go_enter Tryd.func9, Tryd.ntmps9
    go_wp2_with (first
      | (go_at_call 7; refine (q1.out _ X0.out.tabs).mono ?_; rintro x w1 ⟨rfl, h1⟩; have X1 : Hid (Bx w w1 w.heap.size 24 (lyL D S M G)) := X0.out.next h1; obtain ⟨c10, c11, c12, c13⟩ := X1.out.cells; clear h1))
    go_returns
    exact ⟨rfl, X1.out.low⟩
set_option maxHeartbeats 2000000 in
theorem seat_any (w : World) (ht : Tabs w) (t c : Int) : Calls Tryd.prog 15 #[.agg #[.int .i64 D, .int .i64 S, .int .i64 M, .bool G], .int .i64 t, .int .i64 c] w fun e w' => e = .returned (.tuple #[.int .i64 (seV D S M G t c), .int .i64 (seE D S M G t c)]) ∧ Below w.heap.size w w' := by
  have X0 : Hid (Bx w (w.alloc (.cells #[.int .i64 D, .int .i64 S, .int .i64 M, .bool G] 24)) w.heap.size 24 (lyL D S M G)) := Bx.box w ht 24 (lyL D S M G)
  have q1 : Hid (∀ z, Tabs z → Calls Tryd.prog 7 #[.agg #[.int .i64 D, .int .i64 S, .int .i64 M, .bool G]] z fun e w' => e = .returned (.bool (decide (Gd D S M G))) ∧ Below z.heap.size z w') := fun z hz => good_any z hz
  have q2 : Hid (∀ z, Tabs z → Calls Tryd.prog 16 #[.agg #[.int .i64 D, .int .i64 S, .int .i64 M, .bool G], .int .i64 t] z fun e w' => e = .returned (.int .i64 (chN D S M G t)) ∧ Below z.heap.size z w') := fun z hz => chunks_any z hz t
  clear ht
  by_cases hg : Gd D S M G
  · rw [decide_eq_true hg] at q1
    have hcl := ch_le (D := D) (S := S) (M := M) (G := G) t
    by_cases h0 : c < 0
    · have hE : seE D S M G t c = 2 := by unfold seE; rw [if_pos hg, if_pos (.inl h0)]
      unfold seV
      rw [hE]
      simp only [if_neg (show ¬ (2 : Int) = 0 by decide)]
      generalize chN D S M G t = n at *
      clear hg hE
      go_enter Tryd.func15, Tryd.ntmps15
      go_wp2_with (first
        | (go_at_call 7; refine (q1.out _ X0.out.tabs).mono ?_; rintro x w1 ⟨rfl, h1⟩; have X1 : Hid (Bx w w1 w.heap.size 24 (lyL D S M G)) := X0.out.next h1; obtain ⟨c10, c11, c12, c13⟩ := X1.out.cells; clear h1)
        | (go_at_call 16; refine (q2.out _ X1.out.tabs).mono ?_; rintro x w2 ⟨rfl, h2⟩; have X2 : Hid (Bx w w2 w.heap.size 24 (lyL D S M G)) := X1.out.next h2; obtain ⟨c20, c21, c22, c23⟩ := X2.out.cells; clear h2))
      go_ret2
      exact ⟨rfl, X2.out.low⟩
    · by_cases h1 : chN D S M G t ≤ c
      · have hE : seE D S M G t c = 2 := by unfold seE; rw [if_pos hg, if_pos (.inr h1)]
        unfold seV
        rw [hE]
        simp only [if_neg (show ¬ (2 : Int) = 0 by decide)]
        generalize chN D S M G t = n at *
        clear hg hE
        go_enter Tryd.func15, Tryd.ntmps15
        go_wp2_with (first
          | (go_at_call 7; refine (q1.out _ X0.out.tabs).mono ?_; rintro x w1 ⟨rfl, h1⟩; have X1 : Hid (Bx w w1 w.heap.size 24 (lyL D S M G)) := X0.out.next h1; obtain ⟨c10, c11, c12, c13⟩ := X1.out.cells; clear h1)
          | (go_at_call 16; refine (q2.out _ X1.out.tabs).mono ?_; rintro x w2 ⟨rfl, h2⟩; have X2 : Hid (Bx w w2 w.heap.size 24 (lyL D S M G)) := X1.out.next h2; obtain ⟨c20, c21, c22, c23⟩ := X2.out.cells; clear h2))
        go_ret2
        exact ⟨rfl, X2.out.low⟩
      · have hE : seE D S M G t c = 0 := by unfold seE; rw [if_pos hg, if_neg (by omega)]
        have hin := ch_in (D := D) (S := S) (M := M) (G := G) (t := t) (by omega)
        have ht0 := hin.2.1
        have ht1 : t ≤ 16 := by have := hin.2.2.1; have := hg.s16.2; omega
        unfold seV
        rw [hE]
        simp only [if_pos]
        generalize chN D S M G t = n at *
        have hn0 : ¬ n = 0 := by omega
        have e2 := tmod_nn (c + t) n (by omega)
        have e5 : 0 ≤ (c + t) % n := Int.emod_nonneg _ hn0
        have e6 : (c + t) % n < n := Int.emod_lt_of_pos _ (by omega)
        have hc0 : 0 ≤ c := by omega
        have hc1 : c < 11 := by omega
        clear hg hE hin
        go_enter Tryd.func15, Tryd.ntmps15
        go_wp2_with (first
          | (go_at_call 7; refine (q1.out _ X0.out.tabs).mono ?_; rintro x w1 ⟨rfl, h1⟩; have X1 : Hid (Bx w w1 w.heap.size 24 (lyL D S M G)) := X0.out.next h1; obtain ⟨c10, c11, c12, c13⟩ := X1.out.cells; clear h1)
          | (go_at_call 16; refine (q2.out _ X1.out.tabs).mono ?_; rintro x w2 ⟨rfl, h2⟩; have X2 : Hid (Bx w w2 w.heap.size 24 (lyL D S M G)) := X1.out.next h2; obtain ⟨c20, c21, c22, c23⟩ := X2.out.cells; clear h2))
        go_ret2
        exact ⟨rfl, X2.out.low⟩
  · rw [decide_eq_false hg] at q1
    have hE : seE D S M G t c = 4 := if_neg hg
    unfold seV
    rw [hE]
    simp only [if_neg (show ¬ (4 : Int) = 0 by decide)]
    clear hg hE
    go_enter Tryd.func15, Tryd.ntmps15
    go_wp2_with (first
      | (go_at_call 7; refine (q1.out _ X0.out.tabs).mono ?_; rintro x w1 ⟨rfl, h1⟩; have X1 : Hid (Bx w w1 w.heap.size 24 (lyL D S M G)) := X0.out.next h1; obtain ⟨c10, c11, c12, c13⟩ := X1.out.cells; clear h1))
    go_ret2
    exact ⟨rfl, X1.out.low⟩
end
end Go.Proofs.YtbekmjljcjgopabDoor
