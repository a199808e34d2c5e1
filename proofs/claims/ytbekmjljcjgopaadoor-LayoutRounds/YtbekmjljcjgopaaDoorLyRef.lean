/- Layouts, by the document: Wide, Seat, Chunk. -/
import Derived.Test.YtbekmjljcjgopaaDoorLyFind
namespace Go.Proofs.YtbekmjljcjgopaaDoor
open Go.RowKit Go.PlainAid
set_option linter.unusedVariables false
set_option maxRecDepth 20000

section
variable {D S M : Int} {G : Bool}
set_option maxHeartbeats 1000000 in
theorem rwide_any (w : World) (ht : Tabs w) (t : Int) : Calls Tryd.prog 14 #[.agg #[.int .i64 D, .int .i64 S, .int .i64 M, .bool G], .int .i64 t] w fun e w' => e = .returned (.int .i64 (wdN D S M G t)) ∧ Below w.heap.size w w' := by
  have X0 : Hid (Bx w (w.alloc (.cells #[.int .i64 D, .int .i64 S, .int .i64 M, .bool G] 25)) w.heap.size 25 (lyL D S M G)) := Bx.box w ht 25 (lyL D S M G)
  have q1 : Hid (∀ z, Calls Tryd.prog 9 #[.agg #[.int .i64 D, .int .i64 S, .int .i64 M, .bool G]] z fun e w' => e = .returned (.bool (decide (Gd D S M G))) ∧ Below z.heap.size z w') := fun z => rgood_any z
  clear ht
  by_cases hg : Gd D S M G
  · rw [decide_eq_true hg] at q1
    by_cases h0 : t < 0
    · rw [show wdN D S M G t = 0 from if_neg (by omega)]
      clear hg
      go_enter Tryd.func14, Tryd.ntmps14
      go_wp2_with (go_at_call 9; refine (q1.out _).mono ?_; rintro x w1 ⟨rfl, h1⟩; have X1 : Hid (Bx w w1 w.heap.size 25 (lyL D S M G)) := X0.out.next h1; obtain ⟨c0, c1, c2, c3⟩ := X1.out.cells; clear h1)
      go_ret
      exact ⟨rfl, X1.out.low⟩
    · by_cases h1 : S ≤ t
      · rw [show wdN D S M G t = 0 from if_neg (by omega)]
        clear hg
        go_enter Tryd.func14, Tryd.ntmps14
        go_wp2_with (go_at_call 9; refine (q1.out _).mono ?_; rintro x w1 ⟨rfl, h1⟩; have X1 : Hid (Bx w w1 w.heap.size 25 (lyL D S M G)) := X0.out.next h1; obtain ⟨c0, c1, c2, c3⟩ := X1.out.cells; clear h1)
        go_ret
        exact ⟨rfl, X1.out.low⟩
      · rw [show wdN D S M G t = (if G = true ∧ t < M then D + 1 else D) from if_pos ⟨hg, by omega, by omega⟩]
        have hd2 := hg.d2
        have hd8 := hg.d8
        clear hg
        cases G with
        | true =>
          by_cases h2 : t < M
          · rw [if_pos ⟨rfl, h2⟩]
            go_enter Tryd.func14, Tryd.ntmps14
            go_wp2_with (go_at_call 9; refine (q1.out _).mono ?_; rintro x w1 ⟨rfl, h1⟩; have X1 : Hid (Bx w w1 w.heap.size 25 (lyL D S M true)) := X0.out.next h1; obtain ⟨c0, c1, c2, c3⟩ := X1.out.cells; clear h1)
            go_ret
            exact ⟨rfl, X1.out.low⟩
          · rw [if_neg fun h => h2 h.2]
            go_enter Tryd.func14, Tryd.ntmps14
            go_wp2_with (go_at_call 9; refine (q1.out _).mono ?_; rintro x w1 ⟨rfl, h1⟩; have X1 : Hid (Bx w w1 w.heap.size 25 (lyL D S M true)) := X0.out.next h1; obtain ⟨c0, c1, c2, c3⟩ := X1.out.cells; clear h1)
            go_ret
            exact ⟨rfl, X1.out.low⟩
        | false =>
          rw [if_neg fun h => Bool.noConfusion h.1]
          go_enter Tryd.func14, Tryd.ntmps14
          go_wp2_with (go_at_call 9; refine (q1.out _).mono ?_; rintro x w1 ⟨rfl, h1⟩; have X1 : Hid (Bx w w1 w.heap.size 25 (lyL D S M false)) := X0.out.next h1; obtain ⟨c0, c1, c2, c3⟩ := X1.out.cells; clear h1)
          go_ret
          exact ⟨rfl, X1.out.low⟩
  · rw [decide_eq_false hg] at q1
    rw [show wdN D S M G t = 0 from if_neg fun h => hg h.1]
    clear hg
    go_enter Tryd.func14, Tryd.ntmps14
    go_wp2_with (go_at_call 9; refine (q1.out _).mono ?_; rintro x w1 ⟨rfl, h1⟩; have X1 : Hid (Bx w w1 w.heap.size 25 (lyL D S M G)) := X0.out.next h1; obtain ⟨c0, c1, c2, c3⟩ := X1.out.cells; clear h1)
    go_ret
    exact ⟨rfl, X1.out.low⟩
set_option maxHeartbeats 2000000 in
theorem rseat_any (w : World) (ht : Tabs w) (t c : Int) : Calls Tryd.prog 19 #[.agg #[.int .i64 D, .int .i64 S, .int .i64 M, .bool G], .int .i64 t, .int .i64 c] w fun e w' => e = .returned (.tuple #[.int .i64 (seV D S M G t c), .int .i64 (seE D S M G t c)]) ∧ Below w.heap.size w w' := by
  have X0 : Hid (Bx w (w.alloc (.cells #[.int .i64 D, .int .i64 S, .int .i64 M, .bool G] 25)) w.heap.size 25 (lyL D S M G)) := Bx.box w ht 25 (lyL D S M G)
  have q1 : Hid (∀ z, Calls Tryd.prog 9 #[.agg #[.int .i64 D, .int .i64 S, .int .i64 M, .bool G]] z fun e w' => e = .returned (.bool (decide (Gd D S M G))) ∧ Below z.heap.size z w') := fun z => rgood_any z
  have q2 : Hid (∀ z, Tabs z → Calls Tryd.prog 14 #[.agg #[.int .i64 D, .int .i64 S, .int .i64 M, .bool G], .int .i64 t] z fun e w' => e = .returned (.int .i64 (wdN D S M G t)) ∧ Below z.heap.size z w') := fun z hz => rwide_any z hz t
  clear ht
  by_cases hg : Gd D S M G
  · rw [decide_eq_true hg] at q1
    have hcl := wd_le (D := D) (S := S) (M := M) (G := G) t
    by_cases hk : wdN D S M G t = 0
    · have hE : seE D S M G t c = 2 := by unfold seE; rw [if_pos hg, if_pos (by unfold chN; rw [if_pos hk]; omega)]
      unfold seV
      rw [hE]
      rw [hk] at q2
      simp only [if_neg (show ¬ (2 : Int) = 0 by decide)]
      clear hg hE hk hcl
      go_enter Tryd.func19, Tryd.ntmps19
      go_wp2_with (first
        | (go_at_call 9; refine (q1.out _).mono ?_; rintro x w1 ⟨rfl, h1⟩; have X1 : Hid (Bx w w1 w.heap.size 25 (lyL D S M G)) := X0.out.next h1; obtain ⟨c10, c11, c12, c13⟩ := X1.out.cells; clear h1)
        | (go_at_call 14; refine (q2.out _ X1.out.tabs).mono ?_; rintro x w2 ⟨rfl, h2⟩; have X2 : Hid (Bx w w2 w.heap.size 25 (lyL D S M G)) := X1.out.next h2; obtain ⟨c20, c21, c22, c23⟩ := X2.out.cells; clear h2))
      go_ret2
      exact ⟨rfl, X2.out.low⟩
    · have hn : chN D S M G t = wdN D S M G t + 2 := if_neg hk
      have hin := wd_in hk
      have ht0 := hin.2.1
      have ht1 : t ≤ 16 := by have := hin.2.2; have := hg.s16.2; omega
      have hk' : (wdN D S M G t == 0) = false := by simpa using hk
      by_cases h0 : c < 0
      · have hE : seE D S M G t c = 2 := by unfold seE; rw [if_pos hg, if_pos (.inl h0)]
        unfold seV
        rw [hE]
        simp only [if_neg (show ¬ (2 : Int) = 0 by decide)]
        clear hg hE hn hin
        generalize wdN D S M G t = n at *
        go_enter Tryd.func19, Tryd.ntmps19
        go_wp2_with (first
          | (go_at_call 9; refine (q1.out _).mono ?_; rintro x w1 ⟨rfl, h1⟩; have X1 : Hid (Bx w w1 w.heap.size 25 (lyL D S M G)) := X0.out.next h1; obtain ⟨c10, c11, c12, c13⟩ := X1.out.cells; clear h1)
          | (go_at_call 14; refine (q2.out _ X1.out.tabs).mono ?_; rintro x w2 ⟨rfl, h2⟩; have X2 : Hid (Bx w w2 w.heap.size 25 (lyL D S M G)) := X1.out.next h2; obtain ⟨c20, c21, c22, c23⟩ := X2.out.cells; clear h2))
        go_ret2
        exact ⟨rfl, X2.out.low⟩
      · by_cases h1 : wdN D S M G t + 2 ≤ c
        · have hE : seE D S M G t c = 2 := by unfold seE; rw [if_pos hg, if_pos (.inr (by rw [hn]; exact h1))]
          unfold seV
          rw [hE]
          simp only [if_neg (show ¬ (2 : Int) = 0 by decide)]
          clear hg hE hn hin
          generalize wdN D S M G t = n at *
          go_enter Tryd.func19, Tryd.ntmps19
          go_wp2_with (first
            | (go_at_call 9; refine (q1.out _).mono ?_; rintro x w1 ⟨rfl, h1⟩; have X1 : Hid (Bx w w1 w.heap.size 25 (lyL D S M G)) := X0.out.next h1; obtain ⟨c10, c11, c12, c13⟩ := X1.out.cells; clear h1)
            | (go_at_call 14; refine (q2.out _ X1.out.tabs).mono ?_; rintro x w2 ⟨rfl, h2⟩; have X2 : Hid (Bx w w2 w.heap.size 25 (lyL D S M G)) := X1.out.next h2; obtain ⟨c20, c21, c22, c23⟩ := X2.out.cells; clear h2))
          go_ret2
          exact ⟨rfl, X2.out.low⟩
        · have hE : seE D S M G t c = 0 := by unfold seE; rw [if_pos hg, if_neg (by rw [hn]; omega)]
          unfold seV
          rw [hE, hn]
          simp only [if_pos]
          clear hg hE hn hin
          generalize wdN D S M G t = n at *
          have hn0 : ¬ n + 2 = 0 := by omega
          have e2 := tmod_nn (c + t) (n + 2) (by omega)
          have e5 : 0 ≤ (c + t) % (n + 2) := Int.emod_nonneg _ hn0
          have e6 : (c + t) % (n + 2) < n + 2 := Int.emod_lt_of_pos _ (by omega)
          have hc0 : 0 ≤ c := by omega
          have hc1 : c < 11 := by omega
          go_enter Tryd.func19, Tryd.ntmps19
          go_wp2_with (first
            | (go_at_call 9; refine (q1.out _).mono ?_; rintro x w1 ⟨rfl, h1⟩; have X1 : Hid (Bx w w1 w.heap.size 25 (lyL D S M G)) := X0.out.next h1; obtain ⟨c10, c11, c12, c13⟩ := X1.out.cells; clear h1)
            | (go_at_call 14; refine (q2.out _ X1.out.tabs).mono ?_; rintro x w2 ⟨rfl, h2⟩; have X2 : Hid (Bx w w2 w.heap.size 25 (lyL D S M G)) := X1.out.next h2; obtain ⟨c20, c21, c22, c23⟩ := X2.out.cells; clear h2))
          go_ret2
          exact ⟨rfl, X2.out.low⟩
  · rw [decide_eq_false hg] at q1
    have hE : seE D S M G t c = 4 := if_neg hg
    unfold seV
    rw [hE]
    simp only [if_neg (show ¬ (4 : Int) = 0 by decide)]
    clear hg hE
    go_enter Tryd.func19, Tryd.ntmps19
    go_wp2_with (first
      | (go_at_call 9; refine (q1.out _).mono ?_; rintro x w1 ⟨rfl, h1⟩; have X1 : Hid (Bx w w1 w.heap.size 25 (lyL D S M G)) := X0.out.next h1; obtain ⟨c10, c11, c12, c13⟩ := X1.out.cells; clear h1))
    go_ret2
    exact ⟨rfl, X1.out.low⟩
/-- The chunk on a seat is the one whose seat it is. -/
theorem ck_iff {t s : Int} (h : chN D S M G t ≠ 0) (c : Int) (h0 : 0 ≤ c) (h1 : c < chN D S M G t) : seV D S M G t c = s ↔ (ckB D S M G t s = true ∧ ckV D S M G t s = c) := by
  obtain ⟨hg, ht0, ht1, _, _⟩ := ch_in h
  have hl := (ch_le (D := D) (S := S) (M := M) (G := G) t).2
  have hE : seE D S M G t c = 0 := by unfold seE; rw [if_pos hg, if_neg (by omega)]
  have hs16 := hg.s16.2
  unfold seV ckV ckB
  rw [hE, if_pos rfl]
  clear hE
  generalize chN D S M G t = n at *
  have hn : 0 < n := by omega
  constructor
  · intro h
    have a1 := Int.emod_nonneg (c + t) (show n ≠ 0 by omega)
    have a2 := Int.emod_lt_of_pos (c + t) hn
    have hs : 0 ≤ s ∧ s < n := by omega
    refine ⟨decide_eq_true hs, ?_⟩
    rw [if_pos (decide_eq_true hs), ← h]
    have e : (c + t) % n + n - t = c + n * (1 - (c + t) / n) := by
      have := Int.emod_add_mul_ediv (c + t) n
      have e2 : n * (1 - (c + t) / n) = n - n * ((c + t) / n) := by rw [Int.mul_sub, Int.mul_one]
      omega
    rw [e, Int.add_mul_emod_self_left]
    exact Int.emod_eq_of_lt h0 h1
  · rintro ⟨h2, h3⟩
    rw [if_pos h2] at h3
    have hs := of_decide_eq_true h2
    rw [← h3]
    have e : (s + n - t) % n + t = s + n * (1 - (s + n - t) / n) := by
      have := Int.emod_add_mul_ediv (s + n - t) n
      have e2 : n * (1 - (s + n - t) / n) = n - n * ((s + n - t) / n) := by rw [Int.mul_sub, Int.mul_one]
      omega
    rw [e, Int.add_mul_emod_self_left]
    exact Int.emod_eq_of_lt hs.1 hs.2
theorem ck_lt {t s : Int} (h : ckB D S M G t s = true) : 0 ≤ ckV D S M G t s ∧ ckV D S M G t s < chN D S M G t := by
  unfold ckV
  rw [if_pos h]
  have hs := of_decide_eq_true h
  exact ⟨Int.emod_nonneg _ (by omega), Int.emod_lt_of_pos _ (by omega)⟩
set_option maxHeartbeats 2000000 in
theorem rchunk_any (w : World) (ht : Tabs w) (t s : Int) : Calls Tryd.prog 21 #[.agg #[.int .i64 D, .int .i64 S, .int .i64 M, .bool G], .int .i64 t, .int .i64 s] w fun e w' => e = .returned (.tuple #[.int .i64 (ckV D S M G t s), .bool (ckB D S M G t s)]) ∧ Below w.heap.size w w' := by
  have X0 : Hid (Bx w (w.alloc (.cells #[.int .i64 D, .int .i64 S, .int .i64 M, .bool G] 25)) w.heap.size 25 (lyL D S M G)) := Bx.box w ht 25 (lyL D S M G)
  have q2 : Hid (∀ z, Tabs z → Calls Tryd.prog 14 #[.agg #[.int .i64 D, .int .i64 S, .int .i64 M, .bool G], .int .i64 t] z fun e w' => e = .returned (.int .i64 (wdN D S M G t)) ∧ Below z.heap.size z w') := fun z hz => rwide_any z hz t
  have hcl := wd_le (D := D) (S := S) (M := M) (G := G) t
  by_cases hk : wdN D S M G t = 0
  · have hn : chN D S M G t = 0 := if_pos hk
    have hB : ckB D S M G t s = false := decide_eq_false (by rw [hn]; omega)
    have hv : ckV D S M G t s = 0 := by unfold ckV; rw [hB]; rfl
    rw [hB, hv]
    rw [hk] at q2
    clear hn hB hv hk hcl ht
    go_enter Tryd.func21, Tryd.ntmps21
    go_wp2_with (first
      | (go_at_call 14; refine (q2.out _ X0.out.tabs).mono ?_; rintro x w1 ⟨rfl, h1⟩; have X1 : Hid (Bx w w1 w.heap.size 25 (lyL D S M G)) := X0.out.next h1; obtain ⟨c10, c11, c12, c13⟩ := X1.out.cells; clear h1))
    go_rounds 1
    all_goals (go_ret2; exact ⟨rfl, X1.out.low⟩)
  · have hn : chN D S M G t = wdN D S M G t + 2 := if_neg hk
    have HI : Hid (∀ c : Int, 0 ≤ c → c < wdN D S M G t + 2 → (seV D S M G t c = s ↔ (ckB D S M G t s = true ∧ ckV D S M G t s = c))) := fun c h0 h1 => ck_iff (by omega) c h0 (by omega)
    have HL : Hid (ckB D S M G t s = true → 0 ≤ ckV D S M G t s ∧ ckV D S M G t s < wdN D S M G t + 2) := fun h => by have := ck_lt h; omega
    have HV0 : Hid (ckB D S M G t s = false → ckV D S M G t s = 0) := fun h => by unfold ckV; rw [h]; rfl
    have q3 : Hid (∀ z, Tabs z → ∀ c : Nat, Calls Tryd.prog 19 #[.agg #[.int .i64 D, .int .i64 S, .int .i64 M, .bool G], .int .i64 t, .int .i64 (c : Int)] z fun e w' => e = .returned (.tuple #[.int .i64 (seV D S M G t (c : Int)), .int .i64 (seE D S M G t (c : Int))]) ∧ Below z.heap.size z w') := fun z hz c => rseat_any z hz t c
    have hk0 : 0 < wdN D S M G t := by omega
    have hcl9 := hcl.2
    clear ht hn hk hcl
    obtain ⟨n, hnn⟩ : ∃ n : Nat, wdN D S M G t = (n : Int) := ⟨(wdN D S M G t).toNat, by omega⟩
    rw [hnn] at q2 HI HL hk0 hcl9
    generalize ckB D S M G t s = cb at *
    generalize ckV D S M G t s = cv at *
    generalize hse : seE D S M G t = se at *
    generalize hsv : seV D S M G t = sv at *
    clear hnn hse hsv
    go_enter Tryd.func21, Tryd.ntmps21
    go_wp2_with (first
      | (go_at_call 14; refine (q2.out _ X0.out.tabs).mono ?_; rintro x w1 ⟨rfl, h1⟩; have X1 : Hid (Bx w w1 w.heap.size 25 (lyL D S M G)) := X0.out.next h1; obtain ⟨c10, c11, c12, c13⟩ := X1.out.cells; clear h1))
    go_loopw [9] (fun j wr => ∃ k : Nat, k ≤ n + 2 ∧ j = .int .i64 (k : Int) ∧ Hid (∀ i : Nat, i < k → sv (i : Int) ≠ s) ∧ Hid (Bx w wr w.heap.size 25 (lyL D S M G))) (fun j _ => n + 2 - (intOf j).toNat)
    case atStart => exact ⟨0, Nat.zero_le _, rfl, fun i hi => absurd hi (Nat.not_lt_zero _), X1.out⟩
    case round =>
      obtain ⟨k, hk, rfl, hno, X5⟩ := hrel
      clear X1 X0 c10 c11 c12 c13
      obtain ⟨c50, c51, c52, c53⟩ := X5.out.cells
      by_cases hlt : k < n + 2
      · have hk' : (k : Int) < (n : Int) + 2 := by omega
        have hq := q3.out wr X5.out.tabs k
        have HI2 : Hid (sv (k : Int) = s ↔ (cb = true ∧ cv = (k : Int))) := HI.out k (by omega) (by omega)
        obtain ⟨vk, hvk⟩ : ∃ vk, sv (k : Int) = vk := ⟨_, rfl⟩
        have HVK : Hid (sv (k : Int) = vk) := hvk
        rw [hvk] at hq HI2
        clear hvk
        generalize se (k : Int) = ek at *
        by_cases he : vk = s
        · obtain ⟨e1, e2⟩ := HI2.out.1 he
          subst he e1 e2
          go_wp2_with (first
            | (go_at_call 19; refine (hq).mono ?_; rintro x w6 ⟨rfl, h6⟩; have X6 : Hid (Bx w w6 w.heap.size 25 (lyL D S M G)) := X5.out.next h6; obtain ⟨c60, c61, c62, c63⟩ := X6.out.cells; clear h6))
          go_ret2
          exact ⟨rfl, X6.out.low⟩
        · have he' : (vk == s) = false := by simpa using he
          go_wp2_with (first
            | (go_at_call 19; refine (hq).mono ?_; rintro x w6 ⟨rfl, h6⟩; have X6 : Hid (Bx w w6 w.heap.size 25 (lyL D S M G)) := X5.out.next h6; obtain ⟨c60, c61, c62, c63⟩ := X6.out.cells; clear h6))
          go_roundw
          case rel => exact ⟨k + 1, by omega, by go_num, (fun i hi => by
            rcases Nat.lt_or_ge i k with h | h
            · exact hno.out i h
            · obtain rfl : i = k := by omega
              rw [HVK.out]; exact he), X6.out⟩
          case measure => simp [intOf]; omega
      · obtain rfl : k = n + 2 := by omega
        have hk' : ¬ ((n : Int) + 2) < (n : Int) + 2 := by omega
        have hcb : cb = false := by
          cases cb with
          | false => rfl
          | true =>
            obtain ⟨g0, g1⟩ := HL.out rfl
            have := (HI.out cv g0 g1).2 ⟨rfl, rfl⟩
            exact absurd (by rw [show ((cv.toNat : Nat) : Int) = cv by omega]; exact this) (hno.out cv.toNat (by omega))
        subst hcb
        have hcv : cv = 0 := HV0.out rfl
        subst hcv
        go_wp2
        go_ret2
        exact ⟨rfl, X5.out.low⟩
end
end Go.Proofs.YtbekmjljcjgopaaDoor
