/- Layouts, by the document: Find. -/
import Derived.Test.YtbekmjljcjgopaaDoorLyRef
namespace Go.Proofs.YtbekmjljcjgopaaDoor
open Go.RowKit Go.PlainAid
set_option linter.unusedVariables false
set_option maxRecDepth 20000

section
variable {D S M : Int} {G : Bool}
theorem fd_one {t i b K : Int} (hK : 0 < K) (h0 : 0 ≤ i) (h1 : i < K) (h : t * K + i = b) : t = b / K ∧ i = b % K := by
  have e : b = i + K * t := by rw [← h, Int.mul_comm, Int.add_comm]
  rw [e, Int.add_mul_ediv_left _ _ (by omega), Int.add_mul_emod_self_left, Int.ediv_eq_zero_of_lt h0 h1, Int.emod_eq_of_lt h0 h1]
  omega
theorem fd_two (b K : Int) : b / K * K + b % K = b := by
  have := Int.emod_add_mul_ediv b K
  rw [Int.mul_comm] at this
  omega
theorem fd_new {b : Int} (hg : Gd D S M G) (hb0 : 0 ≤ b) (hX : b < M * (D + 1)) : G = true ∧ fdK D M b = D + 1 ∧ b / (D + 1) < M := by
  have h1 := hg.d2
  refine ⟨?_, if_pos hX, Int.ediv_lt_of_lt_mul (by omega) hX⟩
  rcases hg.2.2.2.2 with h | h
  · exact h
  · subst h; omega
theorem fd_old {b : Int} (hg : Gd D S M G) (hb : b < S * D) (hX : ¬ b < M * (D + 1)) : fdK D M b = D ∧ b / D < S ∧ M ≤ b / D := by
  have h1 := hg.d2
  have h2 := hg.m.1
  refine ⟨if_neg hX, Int.ediv_lt_of_lt_mul (by omega) hb, Int.le_ediv_of_mul_le (by omega) ?_⟩
  have : M * (D + 1) = M * D + M := by rw [Int.mul_add, Int.mul_one]
  omega
theorem rfind_bad (w : World) (ht : Tabs w) (b : Int) (hE : fdE D S M G b ≠ 0) : Calls Tryd.prog 17 #[.agg #[.int .i64 D, .int .i64 S, .int .i64 M, .bool G], .int .i64 b] w fun e w' => e = .returned (.tuple #[.int .i64 0, .int .i64 0, .int .i64 (fdE D S M G b)]) ∧ Below w.heap.size w w' := by
  have X0 : Hid (Bx w (w.alloc (.cells #[.int .i64 D, .int .i64 S, .int .i64 M, .bool G] 25)) w.heap.size 25 (lyL D S M G)) := Bx.box w ht 25 (lyL D S M G)
  have q1 : Hid (∀ z, Calls Tryd.prog 9 #[.agg #[.int .i64 D, .int .i64 S, .int .i64 M, .bool G]] z fun e w' => e = .returned (.bool (decide (Gd D S M G))) ∧ Below z.heap.size z w') := fun z => rgood_any z
  clear ht
  by_cases hg : Gd D S M G
  · rw [decide_eq_true hg] at q1
    have hsd := hg.sd
    by_cases h0 : b < 0
    · rw [show fdE D S M G b = 2 by unfold fdE; rw [if_pos hg, if_pos (.inl h0)]]
      clear hg hsd hE
      go_enter Tryd.func17, Tryd.ntmps17
      go_wp2_with (first
        | (go_at_call 9; refine (q1.out _).mono ?_; rintro x w1 ⟨rfl, h1⟩; have X1 : Hid (Bx w w1 w.heap.size 25 (lyL D S M G)) := X0.out.next h1; obtain ⟨c10, c11, c12, c13⟩ := X1.out.cells; clear h1))
      go_returns
      exact ⟨rfl, X1.out.low⟩
    · have h1 : S * D ≤ b := by
        rcases Int.lt_or_le b (S * D) with h | h
        · exact absurd (by unfold fdE; rw [if_pos hg, if_neg (by omega)]) hE
        · exact h
      rw [show fdE D S M G b = 2 by unfold fdE; rw [if_pos hg, if_pos (.inr h1)]]
      have hs1 : S * D ≤ 128 := hsd.2
      have hs0 : 0 ≤ S * D := hsd.1
      clear hg hsd hE
      go_enter Tryd.func17, Tryd.ntmps17
      go_wp2_with (first
        | (go_at_call 9; refine (q1.out _).mono ?_; rintro x w1 ⟨rfl, h1⟩; have X1 : Hid (Bx w w1 w.heap.size 25 (lyL D S M G)) := X0.out.next h1; obtain ⟨c10, c11, c12, c13⟩ := X1.out.cells; clear h1))
      go_returns
      exact ⟨rfl, X1.out.low⟩
  · rw [decide_eq_false hg] at q1
    rw [show fdE D S M G b = 4 from if_neg hg]
    clear hg hE
    go_enter Tryd.func17, Tryd.ntmps17
    go_wp2_with (first
      | (go_at_call 9; refine (q1.out _).mono ?_; rintro x w1 ⟨rfl, h1⟩; have X1 : Hid (Bx w w1 w.heap.size 25 (lyL D S M G)) := X0.out.next h1; obtain ⟨c10, c11, c12, c13⟩ := X1.out.cells; clear h1))
    go_returns
    exact ⟨rfl, X1.out.low⟩
set_option maxHeartbeats 4000000 in
theorem rfind_new (w : World) (ht : Tabs w) (b : Int) (Tn Cn K Kf Sn Mn : Nat) (hS : S = (Sn : Int)) (hM : M = (Mn : Int)) (hS16 : Sn ≤ 16) (hMS : Mn < Sn) (hD : 2 ≤ D ∧ D ≤ 8) (hb0 : 0 ≤ b) (hbS : b < S * D) (hsd : S * D ≤ 128) (hg : Gd D S M true)
    (hTS : Tn < Sn) (hCK : Cn < K) (hK9 : K ≤ 9) (hCb : (Tn : Int) * (K : Int) + (Cn : Int) = b) (hmd : 0 ≤ M * (D + 1) ∧ M * (D + 1) ≤ 144) (hKD : (K : Int) = D + 1) (hTM : Tn < Mn) (hX : b < M * (D + 1)) :
    Calls Tryd.prog 17 #[.agg #[.int .i64 D, .int .i64 S, .int .i64 M, .bool true], .int .i64 b] w fun e w' => e = .returned (.tuple #[.int .i64 (Tn : Int), .int .i64 (Cn : Int), .int .i64 0]) ∧ Below w.heap.size w w' := by
  have X0 : Hid (Bx w (w.alloc (.cells #[.int .i64 D, .int .i64 S, .int .i64 M, .bool true] 25)) w.heap.size 25 (lyL D S M true)) := Bx.box w ht 25 (lyL D S M true)
  have q1 : Hid (∀ z, Calls Tryd.prog 9 #[.agg #[.int .i64 D, .int .i64 S, .int .i64 M, .bool true]] z fun e w' => e = .returned (.bool (decide (Gd D S M true))) ∧ Below z.heap.size z w') := fun z => rgood_any z
  rw [decide_eq_true hg] at q1
  have q2 : Hid (∀ z, Tabs z → ∀ t : Int, Calls Tryd.prog 14 #[.agg #[.int .i64 D, .int .i64 S, .int .i64 M, .bool true], .int .i64 t] z fun e w' => e = .returned (.int .i64 (wdN D S M true t)) ∧ Below z.heap.size z w') := fun z hz t => rwide_any z hz t
  have HM0 : Hid (∀ t i : Nat, i < K → (t : Int) * (K : Int) + (i : Int) = b → t = Tn ∧ i = Cn) := fun t i h1 h2 => by
    obtain ⟨a1, a2⟩ := fd_one (by omega) (by omega) (by omega) h2
    obtain ⟨a3, a4⟩ := fd_one (by omega) (by omega) (by omega) hCb
    exact ⟨by omega, by omega⟩
  have HC : Hid ((Tn : Int) * (K : Int) + (Cn : Int) = b) := hCb
  have HW : Hid (∀ t : Nat, t < Sn → (t < Mn → wdN D S M true (t : Int) = (K : Int))) := fun t h => by
    intro h2
    unfold wdN
    rw [if_pos ⟨hg, by omega, by omega⟩, if_pos ⟨rfl, by omega⟩, hKD]
  obtain ⟨hmd0, hmd1⟩ := hmd
  obtain ⟨hD2, hD8⟩ := hD
  clear hg hCb ht hKD
  subst hS hM
  go_enter Tryd.func17, Tryd.ntmps17
  go_wp2_with (first
    | (go_at_call 9; refine (q1.out _).mono ?_; rintro x w1 ⟨rfl, h1⟩; have X1 : Hid (Bx w w1 w.heap.size 25 (lyL D (Sn : Int) (Mn : Int) true)) := X0.out.next h1; obtain ⟨c10, c11, c12, c13⟩ := X1.out.cells; clear h1))
  go_loopw [8] (fun j wr => ∃ t : Nat, t ≤ Tn ∧ j = .int .i64 (t : Int) ∧ Hid (Bx w wr w.heap.size 25 (lyL D (Sn : Int) (Mn : Int) true))) (fun j _ => Sn - (intOf j).toNat)
  case atStart => exact ⟨0, Nat.zero_le _, rfl, X1.out⟩
  case round =>
    obtain ⟨tn, htn, rfl, X5⟩ := hrel
    clear X1 X0 c10 c11 c12 c13
    obtain ⟨c50, c51, c52, c53⟩ := X5.out.cells
    have htS : (tn : Int) < (Sn : Int) := by omega
    have hq := q2.out wr X5.out.tabs (tn : Int)
    rw [(HW.out tn (by omega)) (by omega)] at hq
    have htM : (tn : Int) < (Mn : Int) := by omega
    have hp0 : 0 ≤ (tn : Int) * (K : Int) := Int.mul_nonneg (by omega) (by omega)
    have hp1 : (tn : Int) * (K : Int) ≤ 144 := Int.le_trans (Int.mul_le_mul (show (tn : Int) ≤ 16 by omega) (show (K : Int) ≤ 9 by omega) (by omega) (by decide)) (by decide)
    have HM : Hid (∀ i : Nat, i < K → (tn : Int) * (K : Int) + (i : Int) = b → tn = Tn ∧ i = Cn) := fun i h1 h2 => HM0.out tn i h1 h2
    go_wp2_with (first
      | (go_at_call 14; refine (hq).mono ?_; rintro x w6 ⟨rfl, h6⟩; have X6 : Hid (Bx w w6 w.heap.size 25 (lyL D (Sn : Int) (Mn : Int) true)) := X5.out.next h6; obtain ⟨c60, c61, c62, c63⟩ := X6.out.cells; clear h6))
    obtain ⟨wo, hwo⟩ : ∃ wo, wo = w6 := ⟨_, rfl⟩
    subst hwo
    go_loopw [12] (fun j wr => ∃ i : Nat, i ≤ K ∧ (tn = Tn → i ≤ Cn) ∧ j = .int .i64 (i : Int) ∧ Hid (Bx w wr w.heap.size 25 (lyL D (Sn : Int) (Mn : Int) true))) (fun j _ => K - (intOf j).toNat)
    case atStart => exact ⟨0, Nat.zero_le _, fun _ => Nat.zero_le _, rfl, X6.out⟩
    case round =>
      obtain ⟨i, hi, hiC, rfl, X8⟩ := hrel
      clear X6 X5 c50 c51 c52 c53 c60 c61 c62 c63
      obtain ⟨c80, c81, c82, c83⟩ := X8.out.cells
      by_cases hik : i < K
      · have hik' : (i : Int) < (K : Int) := by omega
        by_cases he : (tn : Int) * (K : Int) + (i : Int) = b
        · obtain ⟨rfl, rfl⟩ := HM.out i hik he
          go_wp2
          go_returns
          exact ⟨rfl, X8.out.low⟩
        · have he' : ((tn : Int) * (K : Int) + (i : Int) == b) = false := by simpa using he
          have hneC : tn = Tn → i ≠ Cn := fun h1 h2 => he (by rw [h1, h2]; exact HC.out)
          go_wp2
          go_roundw
          case rel => exact ⟨i + 1, by omega, fun h => by have := hiC h; have := hneC h; omega, by go_num, X8.out⟩
          case measure => simp [intOf]; omega
      · obtain rfl : i = K := by omega
        have hik' : ¬ (i : Int) < (i : Int) := by omega
        have hlt : tn < Tn := by
          rcases Nat.lt_or_ge tn Tn with h | h
          · exact h
          · have := hiC (by omega); omega
        go_wp2
        go_roundw
        case rel => exact ⟨tn + 1, by omega, by go_num, X8.out⟩
        case measure => simp [intOf]; omega
set_option maxHeartbeats 4000000 in
theorem rfind_still (w : World) (ht : Tabs w) (b : Int) (Tn Cn K Kf Sn Mn : Nat) (hS : S = (Sn : Int)) (hM : M = (Mn : Int)) (hS16 : Sn ≤ 16) (hMS : Mn < Sn) (hD : 2 ≤ D ∧ D ≤ 8) (hb0 : 0 ≤ b) (hbS : b < S * D) (hsd : S * D ≤ 128) (hg : Gd D S M false)
    (hTS : Tn < Sn) (hCK : Cn < K) (hK9 : K ≤ 9) (hCb : (Tn : Int) * (K : Int) + (Cn : Int) = b) (hmd : 0 ≤ M * (D + 1) ∧ M * (D + 1) ≤ 144) (hKD : (K : Int) = D) (hX : ¬ b < M * (D + 1)) :
    Calls Tryd.prog 17 #[.agg #[.int .i64 D, .int .i64 S, .int .i64 M, .bool false], .int .i64 b] w fun e w' => e = .returned (.tuple #[.int .i64 (Tn : Int), .int .i64 (Cn : Int), .int .i64 0]) ∧ Below w.heap.size w w' := by
  have X0 : Hid (Bx w (w.alloc (.cells #[.int .i64 D, .int .i64 S, .int .i64 M, .bool false] 25)) w.heap.size 25 (lyL D S M false)) := Bx.box w ht 25 (lyL D S M false)
  have q1 : Hid (∀ z, Calls Tryd.prog 9 #[.agg #[.int .i64 D, .int .i64 S, .int .i64 M, .bool false]] z fun e w' => e = .returned (.bool (decide (Gd D S M false))) ∧ Below z.heap.size z w') := fun z => rgood_any z
  rw [decide_eq_true hg] at q1
  have q2 : Hid (∀ z, Tabs z → ∀ t : Int, Calls Tryd.prog 14 #[.agg #[.int .i64 D, .int .i64 S, .int .i64 M, .bool false], .int .i64 t] z fun e w' => e = .returned (.int .i64 (wdN D S M false t)) ∧ Below z.heap.size z w') := fun z hz t => rwide_any z hz t
  have HM0 : Hid (∀ t i : Nat, i < K → (t : Int) * (K : Int) + (i : Int) = b → t = Tn ∧ i = Cn) := fun t i h1 h2 => by
    obtain ⟨a1, a2⟩ := fd_one (by omega) (by omega) (by omega) h2
    obtain ⟨a3, a4⟩ := fd_one (by omega) (by omega) (by omega) hCb
    exact ⟨by omega, by omega⟩
  have hXd : decide (b < M * (D + 1)) = false := decide_eq_false hX
  have hXe : (!decide (b < M * (D + 1))) = true := by rw [hXd]; rfl
  have HC : Hid ((Tn : Int) * (K : Int) + (Cn : Int) = b) := hCb
  have HW : Hid (∀ t : Nat, t < Sn → wdN D S M false (t : Int) = (K : Int)) := fun t h => by
    unfold wdN
    rw [if_pos ⟨hg, by omega, by omega⟩, if_neg fun h => Bool.noConfusion h.1, hKD]
  obtain ⟨hmd0, hmd1⟩ := hmd
  obtain ⟨hD2, hD8⟩ := hD
  clear hg hCb ht hKD
  subst hS hM
  go_enter Tryd.func17, Tryd.ntmps17
  go_wp2_with (first
    | (go_at_call 9; refine (q1.out _).mono ?_; rintro x w1 ⟨rfl, h1⟩; have X1 : Hid (Bx w w1 w.heap.size 25 (lyL D (Sn : Int) (Mn : Int) false)) := X0.out.next h1; obtain ⟨c10, c11, c12, c13⟩ := X1.out.cells; clear h1))
  go_loopw [8] (fun j wr => ∃ t : Nat, t ≤ Tn ∧ j = .int .i64 (t : Int) ∧ Hid (Bx w wr w.heap.size 25 (lyL D (Sn : Int) (Mn : Int) false))) (fun j _ => Sn - (intOf j).toNat)
  case atStart => exact ⟨0, Nat.zero_le _, rfl, X1.out⟩
  case round =>
    obtain ⟨tn, htn, rfl, X5⟩ := hrel
    clear X1 X0 c10 c11 c12 c13
    obtain ⟨c50, c51, c52, c53⟩ := X5.out.cells
    have htS : (tn : Int) < (Sn : Int) := by omega
    have hq := q2.out wr X5.out.tabs (tn : Int)
    rw [HW.out tn (by omega)] at hq
    have hp0 : 0 ≤ (tn : Int) * (K : Int) := Int.mul_nonneg (by omega) (by omega)
    have hp1 : (tn : Int) * (K : Int) ≤ 144 := Int.le_trans (Int.mul_le_mul (show (tn : Int) ≤ 16 by omega) (show (K : Int) ≤ 9 by omega) (by omega) (by decide)) (by decide)
    have HM : Hid (∀ i : Nat, i < K → (tn : Int) * (K : Int) + (i : Int) = b → tn = Tn ∧ i = Cn) := fun i h1 h2 => HM0.out tn i h1 h2
    go_wp2_with (first
      | (go_at_call 14; refine (hq).mono ?_; rintro x w6 ⟨rfl, h6⟩; have X6 : Hid (Bx w w6 w.heap.size 25 (lyL D (Sn : Int) (Mn : Int) false)) := X5.out.next h6; obtain ⟨c60, c61, c62, c63⟩ := X6.out.cells; clear h6))
    obtain ⟨wo, hwo⟩ : ∃ wo, wo = w6 := ⟨_, rfl⟩
    subst hwo
    go_loopw [12] (fun j wr => ∃ i : Nat, i ≤ K ∧ (tn = Tn → i ≤ Cn) ∧ j = .int .i64 (i : Int) ∧ Hid (Bx w wr w.heap.size 25 (lyL D (Sn : Int) (Mn : Int) false))) (fun j _ => K - (intOf j).toNat)
    case atStart => exact ⟨0, Nat.zero_le _, fun _ => Nat.zero_le _, rfl, X6.out⟩
    case round =>
      obtain ⟨i, hi, hiC, rfl, X8⟩ := hrel
      clear X6 X5 c50 c51 c52 c53 c60 c61 c62 c63
      obtain ⟨c80, c81, c82, c83⟩ := X8.out.cells
      by_cases hik : i < K
      · have hik' : (i : Int) < (K : Int) := by omega
        by_cases he : (tn : Int) * (K : Int) + (i : Int) = b
        · obtain ⟨rfl, rfl⟩ := HM.out i hik he
          go_wp2
          go_returns
          exact ⟨rfl, X8.out.low⟩
        · have he' : ((tn : Int) * (K : Int) + (i : Int) == b) = false := by simpa using he
          have hneC : tn = Tn → i ≠ Cn := fun h1 h2 => he (by rw [h1, h2]; exact HC.out)
          go_wp2
          go_roundw
          case rel => exact ⟨i + 1, by omega, fun h => by have := hiC h; have := hneC h; omega, by go_num, X8.out⟩
          case measure => simp [intOf]; omega
      · obtain rfl : i = K := by omega
        have hik' : ¬ (i : Int) < (i : Int) := by omega
        have hlt : tn < Tn := by
          rcases Nat.lt_or_ge tn Tn with h | h
          · exact h
          · have := hiC (by omega); omega
        go_wp2
        go_roundw
        case rel => exact ⟨tn + 1, by omega, by go_num, X8.out⟩
        case measure => simp [intOf]; omega
set_option maxHeartbeats 4000000 in
theorem rfind_old (w : World) (ht : Tabs w) (b : Int) (Tn Cn K Kf Sn Mn : Nat) (hS : S = (Sn : Int)) (hM : M = (Mn : Int)) (hS16 : Sn ≤ 16) (hMS : Mn < Sn) (hD : 2 ≤ D ∧ D ≤ 8) (hb0 : 0 ≤ b) (hbS : b < S * D) (hsd : S * D ≤ 128) (hg : Gd D S M true)
    (hTS : Tn < Sn) (hCK : Cn < K) (hK9 : K ≤ 9) (hCb : (Tn : Int) * (K : Int) + (Cn : Int) = b) (hmd : 0 ≤ M * (D + 1) ∧ M * (D + 1) ≤ 144) (hKD : (K : Int) = D) (hKf : (Kf : Int) = D + 1) (hMT : Mn ≤ Tn) (hX : ¬ b < M * (D + 1)) :
    Calls Tryd.prog 17 #[.agg #[.int .i64 D, .int .i64 S, .int .i64 M, .bool true], .int .i64 b] w fun e w' => e = .returned (.tuple #[.int .i64 (Tn : Int), .int .i64 (Cn : Int), .int .i64 0]) ∧ Below w.heap.size w w' := by
  have X0 : Hid (Bx w (w.alloc (.cells #[.int .i64 D, .int .i64 S, .int .i64 M, .bool true] 25)) w.heap.size 25 (lyL D S M true)) := Bx.box w ht 25 (lyL D S M true)
  have q1 : Hid (∀ z, Calls Tryd.prog 9 #[.agg #[.int .i64 D, .int .i64 S, .int .i64 M, .bool true]] z fun e w' => e = .returned (.bool (decide (Gd D S M true))) ∧ Below z.heap.size z w') := fun z => rgood_any z
  rw [decide_eq_true hg] at q1
  have q2 : Hid (∀ z, Tabs z → ∀ t : Int, Calls Tryd.prog 14 #[.agg #[.int .i64 D, .int .i64 S, .int .i64 M, .bool true], .int .i64 t] z fun e w' => e = .returned (.int .i64 (wdN D S M true t)) ∧ Below z.heap.size z w') := fun z hz t => rwide_any z hz t
  have HM0 : Hid (∀ t i : Nat, i < K → (t : Int) * (K : Int) + (i : Int) = b → t = Tn ∧ i = Cn) := fun t i h1 h2 => by
    obtain ⟨a1, a2⟩ := fd_one (by omega) (by omega) (by omega) h2
    obtain ⟨a3, a4⟩ := fd_one (by omega) (by omega) (by omega) hCb
    exact ⟨by omega, by omega⟩
  have hXd : decide (b < M * (D + 1)) = false := decide_eq_false hX
  have hXe : (!decide (b < M * (D + 1))) = true := by rw [hXd]; rfl
  have HC : Hid ((Tn : Int) * (K : Int) + (Cn : Int) = b) := hCb
  have HW : Hid (∀ t : Nat, t < Sn → ((t < Mn → wdN D S M true (t : Int) = (Kf : Int)) ∧ (¬ t < Mn → wdN D S M true (t : Int) = (K : Int)))) := fun t h => by
    unfold wdN
    rw [if_pos ⟨hg, by omega, by omega⟩]
    exact ⟨fun h2 => by rw [if_pos ⟨rfl, by omega⟩, hKf], fun h2 => by rw [if_neg fun h => h2 (by have := h.2; omega), hKD]⟩
  obtain ⟨hmd0, hmd1⟩ := hmd
  obtain ⟨hD2, hD8⟩ := hD
  have hKf9 : Kf ≤ 9 := by omega
  clear hg hCb ht hKD hKf
  subst hS hM
  go_enter Tryd.func17, Tryd.ntmps17
  go_wp2_with (first
    | (go_at_call 9; refine (q1.out _).mono ?_; rintro x w1 ⟨rfl, h1⟩; have X1 : Hid (Bx w w1 w.heap.size 25 (lyL D (Sn : Int) (Mn : Int) true)) := X0.out.next h1; obtain ⟨c10, c11, c12, c13⟩ := X1.out.cells; clear h1))
  go_loopw [8] (fun j wr => ∃ t : Nat, t ≤ Tn ∧ j = .int .i64 (t : Int) ∧ Hid (Bx w wr w.heap.size 25 (lyL D (Sn : Int) (Mn : Int) true))) (fun j _ => Sn - (intOf j).toNat)
  case atStart => exact ⟨0, Nat.zero_le _, rfl, X1.out⟩
  case round =>
    obtain ⟨tn, htn, rfl, X5⟩ := hrel
    clear X1 X0 c10 c11 c12 c13
    obtain ⟨c50, c51, c52, c53⟩ := X5.out.cells
    have htS : (tn : Int) < (Sn : Int) := by omega
    have hq := q2.out wr X5.out.tabs (tn : Int)
    by_cases htM : tn < Mn
    · rw [(HW.out tn (by omega)).1 htM] at hq
      have htM' : (tn : Int) < (Mn : Int) := by omega
      go_wp2_with (first
        | (go_at_call 14; refine (hq).mono ?_; rintro x w6 ⟨rfl, h6⟩; have X6 : Hid (Bx w w6 w.heap.size 25 (lyL D (Sn : Int) (Mn : Int) true)) := X5.out.next h6; obtain ⟨c60, c61, c62, c63⟩ := X6.out.cells; clear h6))
      obtain ⟨wo, hwo⟩ : ∃ wo, wo = w6 := ⟨_, rfl⟩
      subst hwo
      go_loopw [12] (fun j wr => ∃ i : Nat, j = .int .i64 (i : Int) ∧ Hid (i ≤ Kf ∧ Bx w wr w.heap.size 25 (lyL D (Sn : Int) (Mn : Int) true))) (fun j _ => Kf - (intOf j).toNat)
      case atStart => exact ⟨0, rfl, Nat.zero_le _, X6.out⟩
      case round =>
        obtain ⟨i, rfl, hi8⟩ := hrel
        have hi := hi8.out.1
        have X8 : Hid (Bx w wr w.heap.size 25 (lyL D (Sn : Int) (Mn : Int) true)) := hi8.out.2
        clear hi8
        clear X6 X5 c50 c51 c52 c53 c60 c61 c62 c63
        obtain ⟨c80, c81, c82, c83⟩ := X8.out.cells
        by_cases hik : i < Kf
        · have hik' : (i : Int) < (Kf : Nat) := by omega
          go_wp2
          go_roundw
          case rel => exact ⟨i + 1, by go_num, by omega, X8.out⟩
          case measure => simp [intOf]; omega
        · obtain rfl : i = Kf := by omega
          have hik' : ¬ (i : Int) < (i : Int) := by omega
          go_wp2
          go_roundw
          case rel => exact ⟨tn + 1, by omega, by go_num, X8.out⟩
          case measure => simp [intOf]; omega
    · rw [(HW.out tn (by omega)).2 htM] at hq
      have htM' : ¬ (tn : Int) < (Mn : Int) := by omega
      have hp0 : 0 ≤ (tn : Int) * (K : Int) := Int.mul_nonneg (by omega) (by omega)
      have hp1 : (tn : Int) * (K : Int) ≤ 144 := Int.le_trans (Int.mul_le_mul (show (tn : Int) ≤ 16 by omega) (show (K : Int) ≤ 9 by omega) (by omega) (by decide)) (by decide)
      have HM : Hid (∀ i : Nat, i < K → (tn : Int) * (K : Int) + (i : Int) = b → tn = Tn ∧ i = Cn) := fun i h1 h2 => HM0.out tn i h1 h2
      go_wp2_with (first
        | (go_at_call 14; refine (hq).mono ?_; rintro x w6 ⟨rfl, h6⟩; have X6 : Hid (Bx w w6 w.heap.size 25 (lyL D (Sn : Int) (Mn : Int) true)) := X5.out.next h6; obtain ⟨c60, c61, c62, c63⟩ := X6.out.cells; clear h6))
      obtain ⟨wo, hwo⟩ : ∃ wo, wo = w6 := ⟨_, rfl⟩
      subst hwo
      go_loopw [12] (fun j wr => ∃ i : Nat, i ≤ K ∧ (tn = Tn → i ≤ Cn) ∧ j = .int .i64 (i : Int) ∧ Hid (Bx w wr w.heap.size 25 (lyL D (Sn : Int) (Mn : Int) true))) (fun j _ => K - (intOf j).toNat)
      case atStart => exact ⟨0, Nat.zero_le _, fun _ => Nat.zero_le _, rfl, X6.out⟩
      case round =>
        obtain ⟨i, hi, hiC, rfl, X8⟩ := hrel
        clear X6 X5 c50 c51 c52 c53 c60 c61 c62 c63
        obtain ⟨c80, c81, c82, c83⟩ := X8.out.cells
        by_cases hik : i < K
        · have hik' : (i : Int) < (K : Int) := by omega
          by_cases he : (tn : Int) * (K : Int) + (i : Int) = b
          · obtain ⟨rfl, rfl⟩ := HM.out i hik he
            go_wp2
            go_returns
            exact ⟨rfl, X8.out.low⟩
          · have he' : ((tn : Int) * (K : Int) + (i : Int) == b) = false := by simpa using he
            have hneC : tn = Tn → i ≠ Cn := fun h1 h2 => he (by rw [h1, h2]; exact HC.out)
            go_wp2
            go_roundw
            case rel => exact ⟨i + 1, by omega, fun h => by have := hiC h; have := hneC h; omega, by go_num, X8.out⟩
            case measure => simp [intOf]; omega
        · obtain rfl : i = K := by omega
          have hik' : ¬ (i : Int) < (i : Int) := by omega
          have hlt : tn < Tn := by
            rcases Nat.lt_or_ge tn Tn with h | h
            · exact h
            · have := hiC (by omega); omega
          go_wp2
          go_roundw
          case rel => exact ⟨tn + 1, by omega, by go_num, X8.out⟩
          case measure => simp [intOf]; omega
theorem rfind_any (w : World) (ht : Tabs w) (b : Int) : Calls Tryd.prog 17 #[.agg #[.int .i64 D, .int .i64 S, .int .i64 M, .bool G], .int .i64 b] w fun e w' => e = .returned (.tuple #[.int .i64 (fdT D S M G b), .int .i64 (fdC D S M G b), .int .i64 (fdE D S M G b)]) ∧ Below w.heap.size w w' := by
  by_cases hE : fdE D S M G b = 0
  · have hg : Gd D S M G := by
      unfold fdE at hE
      by_cases c : Gd D S M G
      · exact c
      · rw [if_neg c] at hE; cases hE
    have hb : 0 ≤ b ∧ b < S * D := by
      unfold fdE at hE
      rw [if_pos hg] at hE
      by_cases c : b < 0 ∨ S * D ≤ b
      · rw [if_pos c] at hE; cases hE
      · omega
    have hd2 := hg.d2
    have hd8 := hg.d8
    have hs := hg.s16
    have hm := hg.m
    have hmd0 : 0 ≤ M * (D + 1) := Int.mul_nonneg hm.1 (by omega)
    have hmd : M * (D + 1) ≤ 144 := Int.le_trans (Int.mul_le_mul (show M ≤ 16 by omega) (show D + 1 ≤ 9 by omega) (by omega) (by decide)) (by decide)
    unfold fdT fdC
    rw [hE, if_pos rfl, if_pos rfl]
    by_cases hX : b < M * (D + 1)
    · obtain ⟨hG, hK, hT⟩ := fd_new hg hb.1 hX
      rw [hK]
      subst hG
      have a1 := Int.emod_nonneg b (show D + 1 ≠ 0 by omega)
      have a2 := Int.emod_lt_of_pos b (show 0 < D + 1 by omega)
      have a3 := Int.ediv_nonneg hb.1 (show 0 ≤ D + 1 by omega)
      have a4 := fd_two b (D + 1)
      have := rfind_new (D := D) (S := S) (M := M) w ht b (b / (D + 1)).toNat (b % (D + 1)).toNat (D + 1).toNat 0 S.toNat M.toNat (by omega) (by omega) (by omega) (by omega) ⟨hd2, hd8⟩ hb.1 hb.2 hg.sd.2 hg (by omega) (by omega) (by omega) (by rw [Int.toNat_of_nonneg a3, Int.toNat_of_nonneg a1, Int.toNat_of_nonneg (show 0 ≤ D + 1 by omega)]; exact a4) ⟨hmd0, hmd⟩ (by omega) (by omega) hX
      rw [Int.toNat_of_nonneg a3, Int.toNat_of_nonneg a1] at this
      exact this
    · obtain ⟨hK, hT, hMT⟩ := fd_old hg hb.2 hX
      rw [hK]
      have a1 := Int.emod_nonneg b (show D ≠ 0 by omega)
      have a2 := Int.emod_lt_of_pos b (show 0 < D by omega)
      have a3 := Int.ediv_nonneg hb.1 (show 0 ≤ D by omega)
      have a4 := fd_two b D
      cases G with
      | true =>
        have := rfind_old (D := D) (S := S) (M := M) w ht b (b / D).toNat (b % D).toNat D.toNat (D + 1).toNat S.toNat M.toNat (by omega) (by omega) (by omega) (by omega) ⟨hd2, hd8⟩ hb.1 hb.2 hg.sd.2 hg (by omega) (by omega) (by omega) (by rw [Int.toNat_of_nonneg a3, Int.toNat_of_nonneg a1, Int.toNat_of_nonneg (show 0 ≤ D by omega)]; exact a4) ⟨hmd0, hmd⟩ (by omega) (by omega) (by omega) hX
        rw [Int.toNat_of_nonneg a3, Int.toNat_of_nonneg a1] at this
        exact this
      | false =>
        have := rfind_still (D := D) (S := S) (M := M) w ht b (b / D).toNat (b % D).toNat D.toNat 0 S.toNat M.toNat (by omega) (by omega) (by omega) (by omega) ⟨hd2, hd8⟩ hb.1 hb.2 hg.sd.2 hg (by omega) (by omega) (by omega) (by rw [Int.toNat_of_nonneg a3, Int.toNat_of_nonneg a1, Int.toNat_of_nonneg (show 0 ≤ D by omega)]; exact a4) ⟨hmd0, hmd⟩ (by omega) hX
        rw [Int.toNat_of_nonneg a3, Int.toNat_of_nonneg a1] at this
        exact this
  · have h := rfind_bad (D := D) (S := S) (M := M) (G := G) w ht b hE
    unfold fdT fdC
    rw [if_neg hE, if_neg hE]
    exact h
end
end Go.Proofs.YtbekmjljcjgopaaDoor
