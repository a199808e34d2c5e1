/- What the Go function AeadLong answers: true, for every key and nonce and every two numbers. -/
import Derived.Test.YtnpebabffnjmmaaAeWakes
import Derived.Test.YtnpebabffnjmmaaAeKeys
namespace Go.Proofs.Ytnpebabffnjmmaa
open Go.RowKit Go.PlainAid
set_option linter.unusedVariables false

set_option maxHeartbeats 2000000 in
set_option maxRecDepth 20000 in
theorem longLaw_walk (f : Nat → Nat) (m s : Nat) (hm : m ≤ 255) (hs : s ≤ 255) (w : World) :
    Calls Try.prog 8 #[.agg (nr .u8 46 f).toArray, .int .u8 (m : Int), .int .u8 (s : Int)] w fun e w' => e = .returned (.bool true) ∧ Below w.heap.size w w' := by
  have hB : Blk (w.alloc (.cells (nr .u8 46 f).toArray 26)) w.heap.size 26 (nr .u8 46 f) := Blk.box w 26 _
  have hl : Below w.heap.size w (w.alloc (.cells (nr .u8 46 f).toArray 26)) := (Below.refl _ _).alloc (Nat.le_refl _) _
  have hLl : (nr .u8 46 f).length = 46 := nr_length _ _ _
  have HT := fun w => whole_any f w
  generalize nr .u8 46 f = L at *
  obtain ⟨Z, hma, hza⟩ := zeros_at (16384 + m) (by omega)
  obtain ⟨Y, hmb, hzb⟩ := zeros_at 16 (by decide)
  rw [show ((16 : Nat) : Int) = 16 from rfl] at hmb
  have eN : ((16384 + m : Nat) : Int) = 16384 + (m : Int) := by omega
  rw [eN] at hma
  have hSz : (strOfNums (List.replicate (16384 + m) 0)).size = 16384 + m := by rw [strOfNums_size, List.length_replicate]
  have hTz : (strOfNums (List.replicate 16 0)).size = 16 := by rw [strOfNums_size, List.length_replicate]
  have HZ : Hid (∀ z : World, (convert 36 9 (.slice (some ⟨z.heap.size, 0, none⟩) (16384 + m) (16384 + m))).run Try.prog (z.alloc (.cells Z 5 (0, 0))) = .ok (.string (strOfNums (List.replicate (16384 + m) 0))) (z.alloc (.cells Z 5 (0, 0)))) := hza
  have HY : Hid (∀ z : World, (convert 36 9 (.slice (some ⟨z.heap.size, 0, none⟩) 16 16)).run Try.prog (z.alloc (.cells Y 5 (0, 0))) = .ok (.string (strOfNums (List.replicate 16 0))) (z.alloc (.cells Y 5 (0, 0)))) := hzb
  generalize strOfNums (List.replicate (16384 + m) 0) = S at HZ hSz
  generalize strOfNums (List.replicate 16 0) = T at HY hTz
  have HSz : Hid (S.size = 16384 + m) := hSz
  have HTz : Hid (T.size = 16) := hTz
  have HMB : Hid (∀ x : World, (Instr.makeSlice 36 (.int .i64 16) (.int .i64 16)).run Try.prog x = .ok (.slice (some ⟨x.heap.size, 0, none⟩) 16 16) (x.alloc (.cells Y 5 (0, 0)))) := hmb
  clear hza hzb eN hSz hTz hmb
  have hand : bits .and .u8 (s : Int) 1 = ((s % 2 : Nat) : Int) := by
    have h := u8_and_nat s 1 (by omega) (by decide)
    rw [Nat.and_one_is_mod] at h
    exact h
  go_enter Try.func8, Try.ntmps8
  go_wp2_with (refine wpList_load_blk rfl 26 _ rfl w.heap.size rfl 26 L _ hB Try.underlying26 rfl (by rw [Try.size26, hLl]) ?_)
  generalize w.alloc (.cells L.toArray 26) = w1 at hB hl ⊢
  refine (HT w1).mono ?_
  rintro e w2 ⟨k, n, rfl, hk, hn, hb2⟩
  have hl2 : Below w.heap.size w w2 := hl.trans (hb2.mono hl.size)
  have hcv := HZ.out w2
  clear hl hb2 hB hLl HT HZ
  have hl3 : Below w.heap.size w (w2.alloc (.cells Z 5 (0, 0))) := hl2.alloc hl2.size _
  by_cases hpar : s % 2 = 1
  · have hsI : (bits .and .u8 (s : Int) 1 == 1) = true := by rw [hand]; simp; omega
    clear hand
    go_wp2_with fail
    generalize w2.alloc (.cells Z 5 (0, 0)) = w3 at hcv hl3 ⊢
    clear hcv hl2 hma
    by_cases h0 : m = 0
    · subst h0
      have hSs : S.size = 16384 := HSz.out
      have p1 := seal_ok k n ⟨#[119]⟩ S hk hn (by first | (rw [hSs]; omega) | decide) (by first | (rw [hSs]; omega) | decide) w3
      have p2 := fun w => open_back k n ⟨#[119]⟩ S hk hn (by first | (rw [hSs]; omega) | decide) (by first | (rw [hSs]; omega) | decide) w
      have hq := toList_eq S S
      rw [decide_eq_true rfl] at hq
      generalize slB k n ⟨#[119]⟩ S = R at p1 p2
      clear HSz hSs hk hn HY HMB HTz
      refine p1.mono ?_
      rintro e w4 ⟨rfl, hb4⟩
      have hl4 := hl3.trans (hb4.mono hl3.size)
      clear hl3 hb4 p1
      go_wp2_with fail
      refine (p2 w4).mono ?_
      rintro e w6 ⟨rfl, hb6⟩
      have hl6 := hl4.trans (hb6.mono hl4.size)
      clear hl4 hb6 p2
      go_wp2_with (go_at_call 12; refine (wakes_any _).mono ?_; rintro e w7 ⟨rfl, hb7⟩)
      go_ret
      exact ⟨rfl, hl6.trans (hb7.mono hl6.size)⟩
    · have hSs : S.size = 16384 + m := HSz.out
      have hTs : T.size = 16 := HTz.out
      have hX0 : (S ++ T).size = (S : ByteArray).size + 16 := by rw [ByteArray.size_append, hTs]
      have hp1 : (S : ByteArray).size ≤ 17000 := by first | (rw [hSs]; omega) | decide
      have p1 := seal_long k n ⟨#[119]⟩ S hk hn (by unfold maxLen; first | (rw [hSs]; omega) | decide) (by unfold maxLen; first | (rw [hSs]; omega) | decide) (by right; rw [hSs]; omega) w3
      have p2 := fun w => open_long k n ⟨#[119]⟩ (S ++ T) (S : ByteArray).size hk hn hX0 (by unfold maxLen; first | (rw [hSs]; omega) | decide) (by rw [hX0]; omega) (by right; rw [hSs]; omega) w
      have hw : (9223372036854775807 < (S : ByteArray).size + T.size) = False := by simp; omega
      have hw1 : (9223372036854775807 < 1 + T.size) = False := by simp; omega
      have hw2 : (9223372036854775807 < T.size + 1) = False := by simp; omega
      have hmI : ((0 : Int) < (m : Int)) = True := by simp; omega
      clear HSz hk hn hX0 hp1
      refine p1.mono ?_
      rintro e w4 ⟨rfl, hb4⟩
      have hl4 := hl3.trans (hb4.mono hl3.size)
      have hcv := HY.out w4
      have hmb := HMB.out
      have hl5 : Below w.heap.size w (w4.alloc (.cells Y 5 (0, 0))) := hl4.alloc hl4.size _
      clear hl3 hb4 p1 hl4 HY HMB hSs hTs
      go_wp2_with fail
      generalize w4.alloc (.cells Y 5 (0, 0)) = w5 at hcv hl5 ⊢
      clear hcv hmb
      refine (p2 w5).mono ?_
      rintro e w6 ⟨rfl, hb6⟩
      have hl6 := hl5.trans (hb6.mono hl5.size)
      clear hl5 hb6 p2
      go_wp2_with (go_at_call 12; refine (wakes_any _).mono ?_; rintro e w7 ⟨rfl, hb7⟩)
      go_ret
      exact ⟨rfl, hl6.trans (hb7.mono hl6.size)⟩
  · have hsI : (bits .and .u8 (s : Int) 1 == 1) = false := by rw [hand]; simp; omega
    clear hand
    go_wp2_with fail
    generalize w2.alloc (.cells Z 5 (0, 0)) = w3 at hcv hl3 ⊢
    clear hcv hl2 hma
    by_cases h0 : m = 0
    · subst h0
      have hSs : S.size = 16384 := HSz.out
      have p1 := seal_ok k n S ⟨#[112]⟩ hk hn (by first | (rw [hSs]; omega) | decide) (by first | (rw [hSs]; omega) | decide) w3
      have p2 := fun w => open_back k n S ⟨#[112]⟩ hk hn (by first | (rw [hSs]; omega) | decide) (by first | (rw [hSs]; omega) | decide) w
      have hq := toList_eq S S
      rw [decide_eq_true rfl] at hq
      generalize slB k n S ⟨#[112]⟩ = R at p1 p2
      clear HSz hSs hk hn HY HMB HTz
      refine p1.mono ?_
      rintro e w4 ⟨rfl, hb4⟩
      have hl4 := hl3.trans (hb4.mono hl3.size)
      clear hl3 hb4 p1
      go_wp2_with fail
      refine (p2 w4).mono ?_
      rintro e w6 ⟨rfl, hb6⟩
      have hl6 := hl4.trans (hb6.mono hl4.size)
      clear hl4 hb6 p2
      go_wp2_with (go_at_call 12; refine (wakes_any _).mono ?_; rintro e w7 ⟨rfl, hb7⟩)
      go_ret
      exact ⟨rfl, hl6.trans (hb7.mono hl6.size)⟩
    · have hSs : S.size = 16384 + m := HSz.out
      have hTs : T.size = 16 := HTz.out
      have hX0 : (⟨#[112]⟩ ++ T).size = (⟨#[112]⟩ : ByteArray).size + 16 := by rw [ByteArray.size_append, hTs]
      have hp1 : (⟨#[112]⟩ : ByteArray).size ≤ 17000 := by first | (rw [hSs]; omega) | decide
      have p1 := seal_long k n S ⟨#[112]⟩ hk hn (by unfold maxLen; first | (rw [hSs]; omega) | decide) (by unfold maxLen; first | (rw [hSs]; omega) | decide) (by left; rw [hSs]; omega) w3
      have p2 := fun w => open_long k n S (⟨#[112]⟩ ++ T) (⟨#[112]⟩ : ByteArray).size hk hn hX0 (by unfold maxLen; first | (rw [hSs]; omega) | decide) (by rw [hX0]; omega) (by left; rw [hSs]; omega) w
      have hw : (9223372036854775807 < (⟨#[112]⟩ : ByteArray).size + T.size) = False := by simp; omega
      have hw1 : (9223372036854775807 < 1 + T.size) = False := by simp; omega
      have hw2 : (9223372036854775807 < T.size + 1) = False := by simp; omega
      have hmI : ((0 : Int) < (m : Int)) = True := by simp; omega
      clear HSz hk hn hX0 hp1
      refine p1.mono ?_
      rintro e w4 ⟨rfl, hb4⟩
      have hl4 := hl3.trans (hb4.mono hl3.size)
      have hcv := HY.out w4
      have hmb := HMB.out
      have hl5 : Below w.heap.size w (w4.alloc (.cells Y 5 (0, 0))) := hl4.alloc hl4.size _
      clear hl3 hb4 p1 hl4 HY HMB hSs hTs
      go_wp2_with fail
      generalize w4.alloc (.cells Y 5 (0, 0)) = w5 at hcv hl5 ⊢
      clear hcv hmb
      refine (p2 w5).mono ?_
      rintro e w6 ⟨rfl, hb6⟩
      have hl6 := hl5.trans (hb6.mono hl5.size)
      clear hl5 hb6 p2
      go_wp2_with (go_at_call 12; refine (wakes_any _).mono ?_; rintro e w7 ⟨rfl, hb7⟩)
      go_ret
      exact ⟨rfl, hl6.trans (hb7.mono hl6.size)⟩
set_option maxRecDepth 20000 in
theorem longLaw_arg (f : Nat → Nat) (m s : Int) (hf : ∀ i, f i < 256) (hm : 0 ≤ m ∧ m ≤ 255) (hs : 0 ≤ s ∧ s ≤ 255) (w : World) :
    Calls Try.prog 8 #[.agg (nr .u8 46 f).toArray, .int .u8 m, .int .u8 s] w fun e w' => e = .returned (.bool true) ∧ Below w.heap.size w w' := by
  obtain ⟨a, rfl⟩ := Int.eq_ofNat_of_zero_le hm.1
  obtain ⟨b, rfl⟩ := Int.eq_ofNat_of_zero_le hs.1
  exact longLaw_walk f a b (by omega) (by omega) w
end Go.Proofs.Ytnpebabffnjmmaa
