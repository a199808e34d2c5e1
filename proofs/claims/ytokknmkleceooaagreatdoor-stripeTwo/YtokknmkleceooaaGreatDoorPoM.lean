import Derived.WalkKit
import Derived.Test.YtokknmkleceooaaGreatDoorBaseM
import Derived.Test.YtokknmkleceooaaGreatDoorShaM
import Derived.Lib.ConvBytes
namespace Go.Proofs.YtokknmkleceooaaGreatDoor
set_option maxRecDepth 20000
open Go.RowKit
set_option linter.unusedVariables false
def pP : Nat := 1361129467683753853853498429727072845819
theorem pP_pos : 0 < pP := by decide +kernel
def num (q : Nat) (f : Nat → Nat) : Nat → Nat
  | 0 => 0
  | k + 1 => num q f k + f k * 2 ^ (q * k)
def dg (q N i : Nat) : Nat := N / 2 ^ (q * i) % 2 ^ q
theorem dg_lt (q N i : Nat) : dg q N i < 2 ^ q := Nat.mod_lt _ (Nat.pow_pos (by omega))
theorem num_lt (q : Nat) (f : Nat → Nat) (n : Nat) (h : ∀ i, i < n → f i < 2 ^ q) : num q f n < 2 ^ (q * n) := by
  induction n with
  | zero => simp [num]
  | succ n ih =>
    have h1 := ih (fun i hi => h i (by omega))
    have h2 := h n (by omega)
    rw [num, Nat.mul_succ, Nat.pow_add, Nat.mul_comm (2 ^ (q * n))]
    have h3 : (f n + 1) * 2 ^ (q * n) ≤ 2 ^ q * 2 ^ (q * n) := Nat.mul_le_mul_right _ h2
    rw [Nat.add_mul] at h3
    omega
theorem num_congr (q : Nat) (f g : Nat → Nat) (n : Nat) (h : ∀ i, i < n → f i = g i) : num q f n = num q g n := by
  induction n with
  | zero => rfl
  | succ n ih => rw [num, num, ih (fun i hi => h i (by omega)), h n (by omega)]
theorem num_dg (q N n : Nat) : num q (dg q N) n = N % 2 ^ (q * n) := by
  induction n with
  | zero => simp [num, Nat.mod_one]
  | succ n ih =>
    rw [num, ih, dg, Nat.mul_succ, Nat.pow_add, Nat.mod_mul, Nat.mul_comm (2 ^ (q * n))]
theorem num_split (q : Nat) (f : Nat → Nat) (n k : Nat) : num q f (n + k) = num q f n + 2 ^ (q * n) * num q (fun i => f (n + i)) k := by
  induction k with
  | zero => simp [num]
  | succ k ih =>
    rw [← Nat.add_assoc, num, ih, num, Nat.mul_add q, Nat.pow_add, Nat.mul_add (2 ^ (q * n)), Nat.mul_left_comm (f (n + k)), Nat.add_assoc]
theorem dg_num (q : Nat) (f : Nat → Nat) (n i : Nat) (h : ∀ j, j < n → f j < 2 ^ q) : dg q (num q f n) i = if i < n then f i else 0 := by
  by_cases hi : i < n
  · rw [if_pos hi]
    obtain ⟨k, rfl⟩ : ∃ k, n = i + (1 + k) := ⟨n - i - 1, by omega⟩
    have h1 := num_lt q f i (fun j hj => h j (by omega))
    have h2 := h i hi
    rw [dg, num_split, Nat.add_mul_div_left _ _ (Nat.pow_pos (by omega)), Nat.div_eq_of_lt h1, Nat.zero_add, num_split]
    simp only [num, Nat.mul_zero, Nat.pow_zero, Nat.mul_one, Nat.zero_add, Nat.add_zero]
    rw [Nat.add_mul_mod_self_left, Nat.mod_eq_of_lt h2]
  · rw [if_neg hi, dg, Nat.div_eq_of_lt, Nat.zero_mod]
    exact Nat.lt_of_lt_of_le (num_lt q f n h) (Nat.pow_le_pow_right (by omega) (Nat.mul_le_mul_left q (by omega)))
theorem dg_zero (q i : Nat) : dg q 0 i = 0 := by simp [dg]
theorem dg_test (q N i b : Nat) : (dg q N i).testBit b = (decide (b < q) && N.testBit (q * i + b)) := by
  rw [dg, Nat.testBit_mod_two_pow, Nat.testBit_div_two_pow, Nat.add_comm b]
theorem dg_div (q N i : Nat) : N / 2 ^ (q * (i + 1)) = N / 2 ^ (q * i) / 2 ^ q := by
  rw [Nat.mul_succ, Nat.pow_add, Nat.div_div_eq_div_mul]
theorem dg_step (q N i : Nat) : N / 2 ^ (q * i) = dg q N i + 2 ^ q * (N / 2 ^ (q * (i + 1))) := by
  rw [dg_div, dg, Nat.mod_add_div]
def V5 (S : Nat → Nat) : Nat := num 26 S 5
def ov (S : Nat → Nat) (k : Nat) : Nat := num 26 S k / 2 ^ (26 * k)
theorem ov_zero (S : Nat → Nat) : ov S 0 = 0 := by simp [ov, num]
theorem ov_sum (S : Nat → Nat) (k : Nat) : num 26 S (k + 1) / 2 ^ (26 * k) = S k + ov S k := by
  rw [num, Nat.add_mul_div_right _ _ (Nat.pow_pos (by omega)), ov, Nat.add_comm]
theorem ov_succ (S : Nat → Nat) (k : Nat) : ov S (k + 1) = (S k + ov S k) / 2 ^ 26 := by
  rw [← ov_sum, ov, Nat.div_div_eq_div_mul, ← Nat.pow_add, ← Nat.mul_succ]
theorem ov_part (S : Nat → Nat) (k : Nat) (hk : k < 5) : dg 26 (V5 S) k = (S k + ov S k) % 2 ^ 26 := by
  obtain ⟨m, hm⟩ : ∃ m, 5 = (k + 1) + m := ⟨5 - (k + 1), by omega⟩
  rw [← ov_sum, dg, V5, hm, num_split, Nat.mul_succ, Nat.pow_add, Nat.mul_assoc, Nat.add_mul_div_left _ _ (Nat.pow_pos (by omega)), Nat.add_mul_mod_self_left]
theorem ov_lt (S : Nat → Nat) (k B : Nat) (h : ∀ i, i < k → S i < B) : ov S k ≤ B / 67108863 := by
  have e : (2 : Nat) ^ 26 = 67108864 := by decide
  induction k with
  | zero => rw [ov_zero]; exact Nat.zero_le _
  | succ k ih =>
    have h1 := ih (fun i hi => h i (by omega))
    have h2 := h k (by omega)
    rw [ov_succ, e]; omega
theorem V5_dg (N : Nat) (h : N < 2 ^ 130) : V5 (dg 26 N) = N := by
  rw [V5, num_dg, Nat.mod_eq_of_lt (by simpa using h)]
theorem V5_add (S R : Nat → Nat) : V5 (fun i => S i + R i) = V5 S + V5 R := by
  simp only [V5, num, Nat.add_mul]; omega
theorem V5_lt (S : Nat → Nat) (B : Nat) (h : ∀ i, i < 5 → S i ≤ B) : V5 S ≤ B * 2 ^ 105 := by
  have h0 := h 0 (by omega)
  have h1 := h 1 (by omega)
  have h2 := h 2 (by omega)
  have h3 := h 3 (by omega)
  have h4 := h 4 (by omega)
  have m1 : S 1 * 2 ^ 26 ≤ B * 2 ^ 26 := Nat.mul_le_mul_right _ h1
  simp only [V5, num]
  simp only [Nat.reduceMul, Nat.reducePow]
  omega
theorem V5_set (S : Nat → Nat) (m x : Nat) (hm : m < 5) : V5 (fun i => if i = m then S i + x else S i) = V5 S + x * 2 ^ (26 * m) := by
  have h : m = 0 ∨ m = 1 ∨ m = 2 ∨ m = 3 ∨ m = 4 := by omega
  rcases h with rfl | rfl | rfl | rfl | rfl <;> simp [V5, num, Nat.add_mul] <;> omega
theorem settle (V : Nat) (V2 q : Nat) (h2 : V2 = V % 2 ^ 130 + V / 2 ^ 130 * 5) (hV : V < 2 ^ 170) (hq : q = (V2 + 5) / 2 ^ 130) :
    (V2 + q * 5) % 2 ^ 130 = V % pP := by
  have e1 : V % pP = V2 % pP := by
    have : V = V2 + pP * (V / 2 ^ 130) := by rw [h2, pP]; omega
    conv => lhs; rw [this]
    rw [Nat.add_mul_mod_self_left]
  have hb : V2 < 2 * pP := by
    have : V / 2 ^ 130 < 2 ^ 40 := by
      rw [Nat.div_lt_iff_lt_mul (by decide), ← Nat.pow_add]; exact hV
    rw [h2, pP]; omega
  rw [e1]
  by_cases hlt : V2 < pP
  · have hq0 : q = 0 := by rw [hq, Nat.div_eq_of_lt]; rw [pP] at hlt; omega
    rw [hq0, Nat.mod_eq_of_lt hlt, Nat.zero_mul, Nat.add_zero, Nat.mod_eq_of_lt]
    rw [pP] at hlt; omega
  · have hq1 : q = 1 := by rw [hq]; rw [pP] at hlt hb; omega
    have e2 : V2 % pP = V2 - pP := by
      rw [Nat.mod_eq_sub_mod (by omega), Nat.mod_eq_of_lt (by omega)]
    rw [hq1, e2]; rw [pP] at hlt hb ⊢; omega
def sp (a b : Nat → Nat) (i j : Nat) : Nat := num 26 a i * V5 b + a i * 2 ^ (26 * i) * num 26 b j
theorem sp_row (a b : Nat → Nat) (i : Nat) : sp a b i 5 = sp a b (i + 1) 0 := by
  rw [sp, sp, show num 26 a (i + 1) = num 26 a i + a i * 2 ^ (26 * i) from rfl, show num 26 b 0 = 0 from rfl, Nat.add_mul, Nat.mul_zero, Nat.add_zero, V5]
theorem sp_step (a b : Nat → Nat) (i j : Nat) : sp a b i (j + 1) = sp a b i j + a i * b j * 2 ^ (26 * (i + j)) := by
  rw [sp, sp, num, Nat.mul_add, Nat.mul_add 26, Nat.pow_add, ← Nat.add_assoc]
  congr 1
  simp only [Nat.mul_assoc, Nat.mul_left_comm, Nat.mul_comm]
theorem sp_done (a b : Nat → Nat) : sp a b 5 0 = V5 a * V5 b := by
  rw [sp, show num 26 b 0 = 0 from rfl, Nat.mul_zero, Nat.add_zero]; rfl
def tk (i j : Nat) : Nat := if 5 ≤ i + j then 5 else 1
theorem tk_pow (i j : Nat) (hi : i < 5) (hj : j < 5) : tk i j * 2 ^ (26 * ((i + j) % 5)) % pP = 2 ^ (26 * (i + j)) % pP := by
  have h : i = 0 ∨ i = 1 ∨ i = 2 ∨ i = 3 ∨ i = 4 := by omega
  have h' : j = 0 ∨ j = 1 ∨ j = 2 ∨ j = 3 ∨ j = 4 := by omega
  rcases h with rfl | rfl | rfl | rfl | rfl <;> rcases h' with rfl | rfl | rfl | rfl | rfl <;> decide +kernel
theorem add_mul_mod (X Y c k k' m : Nat) (h1 : X % m = Y % m) (h2 : k % m = k' % m) : (X + c * k) % m = (Y + c * k') % m := by
  rw [Nat.add_mod, Nat.mul_mod, h1, h2, ← Nat.mul_mod, ← Nat.add_mod]
theorem times_step (T a b : Nat → Nat) (i j : Nat) (hi : i < 5) (hj : j < 5) (h : V5 T % pP = sp a b i j % pP) :
    V5 (fun m => if m = (i + j) % 5 then T m + a i * b j * tk i j else T m) % pP = sp a b i (j + 1) % pP := by
  rw [V5_set T _ _ (by omega), sp_step, Nat.mul_assoc (a i * b j)]
  exact add_mul_mod _ _ _ _ _ _ h (tk_pow i j hi hj)
open Go.RowKit Go.PlainAid
theorem Tryz.zero282 : (Tryz.prog.info? 282).map (fun i => i.zero) = some (some (.agg (nr .u64 5 (fun _ => 0)).toArray)) := by kernel_rfl
theorem zero282_run (w : World) : (zeroValue 282).run Tryz.prog w = .ok (.agg (nr .u64 5 (fun _ => 0)).toArray) w := by
  obtain ⟨i, hi, hz⟩ := Option.map_eq_some_iff.1 Tryz.zero282
  simp [zeroValue, typeInfo, hi, hz]
theorem Tryz.size282 : (Tryz.prog.info? 282).map (·.size) = some 5 := by kernel_rfl
theorem load282 {w : World} {g : Nat} {T : TypeId} {L : List Value} (h : Blk w g T L) (hl : L.length = 5) : (loadVar 282 ⟨g, 0, none⟩).run Tryz.prog w = .ok (.agg L.toArray) w :=
  run_loadVar_row w g T 282 _ (0, 0) _ h Tryz.underlying282 rfl (by rw [Tryz.size282]; simp [hl])
theorem index282 (w : World) (S : Nat → Nat) (i : Nat) (hi : i < 5) : (Instr.index 282 (.agg (nr .u64 5 S).toArray) (.int .i64 (i : Int))).run Tryz.prog w = .ok (.int .u64 ((S i : Nat) : Int)) w :=
  run_index_agg w 282 198 5 _ i _ Tryz.underlying282 hi (nr_at _ _ _ i hi) Tryz.isAgg198 Tryz.sizeOf198
theorem mask26 (x : Nat) (h : x < 18446744073709551616) : bits .and .u64 (x : Int) 67108863 = ((x % 2 ^ 26 : Nat) : Int) := by
  have e := u64_and_nat x 67108863 h (by decide)
  rw [show (67108863 : Int) = ((67108863 : Nat) : Int) from rfl, e]
  congr 1
  exact Nat.and_two_pow_sub_one_eq_mod x 26
set_option maxHeartbeats 1000000 in
theorem carried_any (S : Nat → Nat) (hS : ∀ i, i < 5 → S i < 9223372036854775808) (w : World) :
    Calls Tryz.prog 237 #[.agg (nr .u64 5 S).toArray] w fun e w' => e = .returned (.tuple #[.agg (nr .u64 5 (dg 26 (V5 S))).toArray, .int .u64 ((ov S 5 : Nat) : Int)]) ∧ Below w.heap.size w w' := by
  have hzr := zero282_run
  have hix0 := fun w i => index282 w S i
  obtain ⟨Z, hZ⟩ : ∃ Z, nr .u64 5 (fun _ => 0) = Z := ⟨_, rfl⟩
  obtain ⟨Y, hY⟩ : ∃ Y, nr .u64 5 S = Y := ⟨_, rfl⟩
  rw [hZ] at hzr
  rw [hY] at hix0 ⊢
  have hYs : Y.length = 5 := by rw [← hY, nr_length]
  have hZs : Z.length = 5 := by rw [← hZ, nr_length]
  have HY : Hid (nr .u64 5 S = Y) := hY
  have hix : Hid (∀ (w : World) (i : Nat), i < 5 → (Instr.index 282 (.agg Y.toArray) (.int .i64 (i : Int))).run Tryz.prog w = .ok (.int .u64 ((S i : Nat) : Int)) w) := hix0
  clear hY hZ hix0
  have hA0 : Blk ((w.alloc (.cells Y.toArray 282)).alloc (.cells Z.toArray 282)) w.heap.size 282 Y := (Blk.box w 282 Y).alloc _
  have hB0 : Blk ((w.alloc (.cells Y.toArray 282)).alloc (.cells Z.toArray 282)) (w.heap.size + 1) 282 Z := by
    have := Blk.box (w.alloc (.cells Y.toArray 282)) 282 Z
    simpa using this
  have hl0 : Below w.heap.size w ((w.alloc (.cells Y.toArray 282)).alloc (.cells Z.toArray 282)) := ((Below.refl _ w).alloc (Nat.le_refl _) _).alloc (by simp) _
  go_enter Tryz.func237, Tryz.ntmps237
  go_wp2_with (refine wpList_load_blk rfl 282 _ rfl w.heap.size rfl 282 Y _ hA0 Tryz.underlying282 rfl (by rw [Tryz.size282, hYs]) ?_)
  generalize (w.alloc (.cells Y.toArray 282)).alloc (.cells Z.toArray 282) = w0 at hA0 hB0 hl0 ⊢
  obtain ⟨g, hgd⟩ : ∃ g, w.heap.size = g := ⟨_, rfl⟩
  rw [hgd] at hA0 hB0 hl0 ⊢
  have HG : Hid (w.heap.size = g) := hgd
  clear hgd hzr
  rw [← HY.out] at hA0
  go_loopw [4, 8] (fun o i wr => ∃ k : Nat, k ≤ 5 ∧ i = .int .i64 k ∧ o = .int .u64 ((ov S k : Nat) : Int) ∧ Blk wr g 282 (nr .u64 5 (fun i => if i < k then dg 26 (V5 S) i else S i)) ∧ Blk wr (g + 1) 282 Z ∧ Below g w wr) (fun _ i _ => (5 - intOf i).toNat)
  case atStart => exact ⟨0, by omega, rfl, by rw [ov_zero]; rfl, hA0, hB0, hl0⟩
  case round =>
    clear hA0 hB0 hl0
    obtain ⟨k, hk, rfl, rfl, hA, hB, hl⟩ := hrel
    by_cases hlt : k < 5
    · have hlt' : (k : Int) < 5 := by omega
      have hi := fun w => hix.out w k hlt
      have hx := hS k hlt
      have ho := ov_lt S k 9223372036854775808 (fun i hi => hS i (by omega))
      have hm := mask26 (S k + ov S k) (by omega)
      rw [← ov_part S k hlt] at hm
      have hv : (S k + ov S k) / 2 ^ 26 = ov S (k + 1) := (ov_succ S k).symm
      have fn := hA.frozen k
      have cn : wr.cell? ⟨g, k, none⟩ = some (.int .u64 ((S k : Nat) : Int)) := by
        have := hA.cell (nr_at .u64 5 _ k hlt)
        rw [if_neg (by omega)] at this; exact this
      have hA2 : Blk (wr.setCell ⟨g, k, none⟩ (.int .u64 ((dg 26 (V5 S) k : Nat) : Int))) g 282 (nr .u64 5 (fun i => if i < k + 1 then dg 26 (V5 S) i else S i)) := by
        have hh := hA.setCell k (.int .u64 ((dg 26 (V5 S) k : Nat) : Int))
        rw [nr_set] at hh
        rw [nr_congr .u64 5 (fun i => if i < k + 1 then dg 26 (V5 S) i else S i) (fun i => if i = k then dg 26 (V5 S) k else if i < k then dg 26 (V5 S) i else S i) ?_]
        · exact hh
        · intro i _
          show (if i < k + 1 then dg 26 (V5 S) i else S i) = if i = k then dg 26 (V5 S) k else if i < k then dg 26 (V5 S) i else S i
          by_cases h1 : i = k
          · subst h1; rw [if_pos (by omega), if_pos rfl]
          · rw [if_neg h1]
            by_cases h2 : i < k
            · rw [if_pos h2, if_pos (by omega)]
            · rw [if_neg h2, if_neg (by omega)]
      have hB2 : Blk (wr.setCell ⟨g, k, none⟩ (.int .u64 ((dg 26 (V5 S) k : Nat) : Int))) (g + 1) 282 Z := hB.setOther (by omega) k _
      have hl2 : Below g w (wr.setCell ⟨g, k, none⟩ (.int .u64 ((dg 26 (V5 S) k : Nat) : Int))) := hl.setCell (Nat.le_refl _) _
      have HV : Hid ((S k + ov S k) / 2 ^ 26 = ov S (k + 1)) := hv
      have hd := dg_lt 26 (V5 S) k
      clear hA hB hl hv
      generalize S k = x at *
      generalize ov S k = y at *
      generalize dg 26 (V5 S) k = z at *
      have hm' : bits .and .u64 ((x : Int) + (y : Int)) 67108863 = (z : Int) := by rw [← hm]; rfl
      clear hm
      go_wp2_with fail
      refine ⟨⟨k + 1, by omega, by go_num, ?_, hA2, hB2, hl2⟩, by simp [intOf]; omega⟩
      rw [← HV.out]
      congr 1
    · have hk5 : k = 5 := by omega
      subst hk5
      rw [show ((5 : Nat) : Int) = (5 : Int) from rfl]
      have hA' : Blk wr g 282 (nr .u64 5 (dg 26 (V5 S))) := by
        rw [nr_congr .u64 5 (dg 26 (V5 S)) (fun i => if i < 5 then dg 26 (V5 S) i else S i) (fun i hi => by rw [if_pos hi])]; exact hA
      obtain ⟨U, hU⟩ : ∃ U, nr .u64 5 (dg 26 (V5 S)) = U := ⟨_, rfl⟩
      have hUl : U.length = 5 := by rw [← hU, nr_length]
      have hUo : ∀ v ∈ U, v.oneCell' = true := by rw [← hU]; exact nr_one _ _ _
      rw [hU] at hA'
      have HU : Hid (nr .u64 5 (dg 26 (V5 S)) = U) := hU
      have hR := load282 (hB.setRow (M := U)) hUl
      have hl' : Below g w (wr.setRow (g + 1) U.toArray) := below_setRow hl (by omega) _
      clear hA hl hU hix
      go_wp2_with (first | (refine wpList_load_blk rfl 282 _ rfl g rfl 282 U _ hA' Tryz.underlying282 rfl (by rw [Tryz.size282, hUl]) ?_) | (refine wpList_store_blk rfl 282 _ _ rfl (g + 1) Z U rfl rfl 282 hB (by rw [Tryz.size282, hUl]) (by rw [hZs, hUl]) hUo ?_))
      refine bodyPost_ret_by (v := .tuple #[.agg U.toArray, .int .u64 ((ov S 5 : Nat) : Int)]) (results_cell_tmp 2 3 282 ⟨g + 1, 0, none⟩ Tryz.results237 rfl hR rfl) rfl ⟨by rw [HU.out], ?_⟩
      rw [HG.out]; exact hl'
set_option maxHeartbeats 1000000 in
theorem plus_any (A B : Nat → Nat) (hAB : ∀ i, i < 5 → A i + B i < 18446744073709551616) (w : World) :
    Calls Tryz.prog 209 #[.agg (nr .u64 5 A).toArray, .agg (nr .u64 5 B).toArray] w fun e w' => e = .returned (.agg (nr .u64 5 (fun i => A i + B i)).toArray) ∧ Below w.heap.size w w' := by
  have hzr := zero282_run
  obtain ⟨Z, hZ⟩ : ∃ Z, nr .u64 5 (fun _ => 0) = Z := ⟨_, rfl⟩
  obtain ⟨Y, hY⟩ : ∃ Y, nr .u64 5 A = Y := ⟨_, rfl⟩
  obtain ⟨X, hX⟩ : ∃ X, nr .u64 5 B = X := ⟨_, rfl⟩
  rw [hZ] at hzr
  rw [hY, hX]
  have hZs : Z.length = 5 := by rw [← hZ, nr_length]
  have HY : Hid (nr .u64 5 A = Y) := hY
  have HX : Hid (nr .u64 5 B = X) := hX
  clear hY hZ hX
  have hA0 : Blk (((w.alloc (.cells Y.toArray 282)).alloc (.cells X.toArray 282)).alloc (.cells Z.toArray 282)) w.heap.size 282 Y := ((Blk.box w 282 Y).alloc _).alloc _
  have hB0 : Blk (((w.alloc (.cells Y.toArray 282)).alloc (.cells X.toArray 282)).alloc (.cells Z.toArray 282)) (w.heap.size + 1) 282 X := by
    have := (Blk.box (w.alloc (.cells Y.toArray 282)) 282 X).alloc (.cells Z.toArray 282)
    simpa using this
  have hC0 : Blk (((w.alloc (.cells Y.toArray 282)).alloc (.cells X.toArray 282)).alloc (.cells Z.toArray 282)) (w.heap.size + 2) 282 Z := by
    have := Blk.box ((w.alloc (.cells Y.toArray 282)).alloc (.cells X.toArray 282)) 282 Z
    simpa using this
  have hl0 : Below w.heap.size w (((w.alloc (.cells Y.toArray 282)).alloc (.cells X.toArray 282)).alloc (.cells Z.toArray 282)) := (((Below.refl _ w).alloc (Nat.le_refl _) _).alloc (by simp) _).alloc (by simp; omega) _
  go_enter Tryz.func209, Tryz.ntmps209
  go_wp2_with fail
  generalize ((w.alloc (.cells Y.toArray 282)).alloc (.cells X.toArray 282)).alloc (.cells Z.toArray 282) = w0 at hA0 hB0 hC0 hl0 ⊢
  obtain ⟨g, hgd⟩ : ∃ g, w.heap.size = g := ⟨_, rfl⟩
  rw [hgd] at hA0 hB0 hC0 hl0 ⊢
  have HG : Hid (w.heap.size = g) := hgd
  clear hgd hzr
  rw [← HY.out] at hA0
  rw [← HX.out] at hB0
  clear HY HX
  go_loopw [6] (fun i wr => ∃ k : Nat, k ≤ 5 ∧ i = .int .i64 k ∧ Blk wr g 282 (nr .u64 5 (fun i => if i < k then A i + B i else A i)) ∧ Blk wr (g + 1) 282 (nr .u64 5 B) ∧ Blk wr (g + 2) 282 Z ∧ Below g w wr) (fun i _ => (5 - intOf i).toNat)
  case atStart => exact ⟨0, by omega, rfl, hA0, hB0, hC0, hl0⟩
  case round =>
    clear hA0 hB0 hC0 hl0
    obtain ⟨q, hq, rfl, hA, hB, hC, hl⟩ := hrel
    by_cases hlt : q < 5
    · have hq' : (q : Int) < 5 := by omega
      have hab := hAB q hlt
      have cn : wr.cell? ⟨g, q, none⟩ = some (.int .u64 ((A q : Nat) : Int)) := by
        have := hA.cell (nr_at .u64 5 _ q hlt)
        rw [if_neg (by omega)] at this; exact this
      have cs := hB.cell (nr_at .u64 5 B q hlt)
      have fn := hA.frozen q
      obtain ⟨V, hV⟩ : ∃ V, A q + B q = V := ⟨_, rfl⟩
      have hn2 : Blk (wr.drew.setCell ⟨g, q, none⟩ (.int .u64 (V : Int))) g 282 (nr .u64 5 (fun i => if i < q + 1 then A i + B i else A i)) := by
        have hh := hA.drew.setCell q (.int .u64 (V : Int))
        rw [nr_set] at hh
        rw [nr_congr .u64 5 (fun i => if i < q + 1 then A i + B i else A i) (fun i => if i = q then V else if i < q then A i + B i else A i) ?_]
        · exact hh
        · intro i _
          show (if i < q + 1 then A i + B i else A i) = if i = q then V else if i < q then A i + B i else A i
          by_cases h1 : i = q
          · subst h1; rw [if_pos (by omega), if_pos rfl, hV]
          · rw [if_neg h1]
            by_cases h2 : i < q
            · rw [if_pos h2, if_pos (by omega)]
            · rw [if_neg h2, if_neg (by omega)]
      have hs2 : Blk (wr.drew.setCell ⟨g, q, none⟩ (.int .u64 (V : Int))) (g + 1) 282 (nr .u64 5 B) := hB.drew.setOther (by omega) q _
      have hc2 : Blk (wr.drew.setCell ⟨g, q, none⟩ (.int .u64 (V : Int))) (g + 2) 282 Z := hC.drew.setOther (by omega) q _
      have hl2 : Below g w (wr.drew.setCell ⟨g, q, none⟩ (.int .u64 (V : Int))) := hl.drew.setCell (Nat.le_refl _) _
      have es := hs2.cell (nr_at .u64 5 B q hlt)
      have hVI : IntKind.u64.wrap (((A q : Nat) : Int) + ((B q : Nat) : Int)) = (V : Int) := by
        rw [← hV, IntWalk.u64_in _ ⟨by omega, by omega⟩]; rfl
      clear hA hB hC hl hV
      generalize A q = x at *
      generalize B q = y at *
      go_wp2_with fail
      refine wp_region_noPanic ?_
      refine wp_region_held_drew (S := fun z => z.cell? ⟨g + 1, q, none⟩ = some (.int .u64 (y : Int))) (by kernel_rfl) cs (fun hHeld => ?_)
      refine tkH 0 ?_; go_simp
      refine tkH 1 ?_; go_simp
      refine tkH 3 ?_; go_simp
      refine tkH 4 ?_; go_simp
      refine tkH 5 ?_; go_simp
      refine rdH 2 fun K hK => ?_
      go_simp
      refine hK.out _ _ cs (fun hHeld => ?_)
      clear hK K
      refine tkH 6 ?_; go_simp
      refine tkH 7 ?_; go_simp
      refine rdH 8 fun K hK => ?_
      go_simp
      refine hK.out _ _ es (fun hHeld => ?_)
      clear hK K
      refine wpAnyH_done (by kernel_rfl) ?_ _
      refine NoPanic.normal ?_
      have hn3 : Blk (wr.setCell ⟨g, q, none⟩ (.int .u64 (V : Int))).drew g 282 _ := hn2
      have hs3 : Blk (wr.setCell ⟨g, q, none⟩ (.int .u64 (V : Int))).drew (g + 1) 282 _ := hs2
      have hc3 : Blk (wr.setCell ⟨g, q, none⟩ (.int .u64 (V : Int))).drew (g + 2) 282 _ := hc2
      have hl3 : Below g w (wr.setCell ⟨g, q, none⟩ (.int .u64 (V : Int))).drew := hl2
      clear hn2 hs2 hc2 hl2 es cs cn fn
      generalize (wr.setCell ⟨g, q, none⟩ (.int .u64 (V : Int))).drew = w4 at hn3 hs3 hc3 hl3 ⊢
      go_wp2_with fail
      go_roundw
      case rel => exact ⟨q + 1, by omega, by go_num, hn3, hs3, hc3, hl3⟩
      case measure => simp [intOf]; omega
    · have hk5 : q = 5 := by omega
      subst hk5
      rw [show ((5 : Nat) : Int) = (5 : Int) from rfl]
      have hA' : Blk wr g 282 (nr .u64 5 (fun i => A i + B i)) := by
        rw [nr_congr .u64 5 (fun i => A i + B i) (fun i => if i < 5 then A i + B i else A i) (fun i hi => by rw [if_pos hi])]; exact hA
      obtain ⟨U, hU⟩ : ∃ U, nr .u64 5 (fun i => A i + B i) = U := ⟨_, rfl⟩
      have hUl : U.length = 5 := by rw [← hU, nr_length]
      have hUo : ∀ v ∈ U, v.oneCell' = true := by rw [← hU]; exact nr_one _ _ _
      rw [hU] at hA'
      have HU : Hid (nr .u64 5 (fun i => A i + B i) = U) := hU
      have hR := load282 (hC.setRow (M := U)) hUl
      have hl' : Below g w (wr.setRow (g + 2) U.toArray) := below_setRow hl (by omega) _
      clear hA hB hl hU
      go_wp2_with (first | (refine wpList_load_blk rfl 282 _ rfl g rfl 282 U _ hA' Tryz.underlying282 rfl (by rw [Tryz.size282, hUl]) ?_) | (refine wpList_store_blk rfl 282 _ _ rfl (g + 2) Z U rfl rfl 282 hC (by rw [Tryz.size282, hUl]) (by rw [hZs, hUl]) hUo ?_))
      refine bodyPost_ret_by (v := .agg U.toArray) (results_cell 4 282 ⟨g + 2, 0, none⟩ Tryz.results209 rfl hR) rfl ⟨by rw [HU.out], ?_⟩
      rw [HG.out]; exact hl'
theorem below_drewN {B : Nat} {a w : World} (h : Below B a w) (n : Nat) : Below B a (w.drewN n) := ⟨h.os, h.tape, h.output, h.size, h.block⟩
set_option maxHeartbeats 1000000 in
theorem times_any (A B : Nat → Nat) (hA : ∀ i, i < 5 → A i < 134217728) (hB : ∀ i, i < 5 → B i < 67108864) (w : World) :
    Calls Tryz.prog 208 #[.agg (nr .u64 5 A).toArray, .agg (nr .u64 5 B).toArray] w fun e w' => ∃ T : Nat → Nat, e = .returned (.agg (nr .u64 5 T).toArray) ∧ (V5 T % pP = V5 A * V5 B % pP) ∧ (∀ m, m < 5 → T m ≤ 1801439850948198400) ∧ Below w.heap.size w w' := by
  have hzr := zero282_run
  obtain ⟨Z, hZ⟩ : ∃ Z, nr .u64 5 (fun _ => 0) = Z := ⟨_, rfl⟩
  obtain ⟨Y, hY⟩ : ∃ Y, nr .u64 5 A = Y := ⟨_, rfl⟩
  obtain ⟨X, hX⟩ : ∃ X, nr .u64 5 B = X := ⟨_, rfl⟩
  rw [hZ] at hzr
  rw [hY, hX]
  have hZs : Z.length = 5 := by rw [← hZ, nr_length]
  have HY : Hid (nr .u64 5 A = Y) := hY
  have HX : Hid (nr .u64 5 B = X) := hX
  have PZ : Hid (nr .u64 5 (fun _ => 0) = Z) := hZ
  clear hY hZ hX
  have hA0 : Blk ((((w.alloc (.cells Y.toArray 282)).alloc (.cells X.toArray 282)).alloc (.cells Z.toArray 282)).alloc (.cells Z.toArray 282)) w.heap.size 282 Y := (((Blk.box w 282 Y).alloc _).alloc _).alloc _
  have hB0 : Blk ((((w.alloc (.cells Y.toArray 282)).alloc (.cells X.toArray 282)).alloc (.cells Z.toArray 282)).alloc (.cells Z.toArray 282)) (w.heap.size + 1) 282 X := by
    have := ((Blk.box (w.alloc (.cells Y.toArray 282)) 282 X).alloc (.cells Z.toArray 282)).alloc (.cells Z.toArray 282)
    simpa using this
  have hC0 : Blk ((((w.alloc (.cells Y.toArray 282)).alloc (.cells X.toArray 282)).alloc (.cells Z.toArray 282)).alloc (.cells Z.toArray 282)) (w.heap.size + 2) 282 Z := by
    have := (Blk.box ((w.alloc (.cells Y.toArray 282)).alloc (.cells X.toArray 282)) 282 Z).alloc (.cells Z.toArray 282)
    simpa using this
  have hD0 : Blk ((((w.alloc (.cells Y.toArray 282)).alloc (.cells X.toArray 282)).alloc (.cells Z.toArray 282)).alloc (.cells Z.toArray 282)) (w.heap.size + 3) 282 Z := by
    have := Blk.box (((w.alloc (.cells Y.toArray 282)).alloc (.cells X.toArray 282)).alloc (.cells Z.toArray 282)) 282 Z
    simpa using this
  have hl0 : Below w.heap.size w ((((w.alloc (.cells Y.toArray 282)).alloc (.cells X.toArray 282)).alloc (.cells Z.toArray 282)).alloc (.cells Z.toArray 282)) := ((((Below.refl _ w).alloc (Nat.le_refl _) _).alloc (by simp) _).alloc (by simp; omega) _).alloc (by simp; omega) _
  go_enter Tryz.func208, Tryz.ntmps208
  go_wp2_with fail
  generalize (((w.alloc (.cells Y.toArray 282)).alloc (.cells X.toArray 282)).alloc (.cells Z.toArray 282)).alloc (.cells Z.toArray 282) = w0 at hA0 hB0 hC0 hD0 hl0 ⊢
  obtain ⟨g, hgd⟩ : ∃ g, w.heap.size = g := ⟨_, rfl⟩
  rw [hgd] at hA0 hB0 hC0 hD0 hl0 ⊢
  have HG : Hid (w.heap.size = g) := hgd
  clear hgd hzr
  rw [← HY.out] at hA0
  rw [← HX.out] at hB0
  rw [← PZ.out] at hD0
  clear HY HX PZ
  have HA : Hid (∀ i, i < 5 → A i < 134217728) := hA
  have HB : Hid (∀ i, i < 5 → B i < 67108864) := hB
  clear hA hB
  go_loopw [9] (fun v wr => ∃ (i : Nat) (T : Nat → Nat), i ≤ 5 ∧ v = .int .i64 i ∧ V5 T % pP = sp A B i 0 % pP ∧ (∀ m, m < 5 → T m ≤ (5 * i) * 72057594037927936) ∧ Blk wr g 282 (nr .u64 5 A) ∧ Blk wr (g + 1) 282 (nr .u64 5 B) ∧ Blk wr (g + 2) 282 Z ∧ Blk wr (g + 3) 282 (nr .u64 5 T) ∧ Below g w wr) (fun v _ => (5 - intOf v).toNat)
  case atStart => exact ⟨0, fun _ => 0, by omega, rfl, by rw [show sp A B 0 0 = 0 by simp [sp, num]]; rfl, fun _ _ => Nat.zero_le _, hA0, hB0, hC0, hD0, hl0⟩
  case round =>
    clear hA0 hB0 hC0 hD0 hl0
    obtain ⟨i, T, hi, rfl, hT, hb, hA, hB, hC, hD, hl⟩ := hrel
    by_cases hlt : i < 5
    · have hi' : (i : Int) < 5 := by omega
      have HT : Hid (V5 T % pP = sp A B i 0 % pP) := hT
      have Hb : Hid (∀ m, m < 5 → T m ≤ (5 * i) * 72057594037927936) := hb
      clear hT hb
      go_wp2_with fail
      go_loopw [12] (fun v wr => ∃ (j : Nat) (T : Nat → Nat), j ≤ 5 ∧ v = .int .i64 j ∧ V5 T % pP = sp A B i j % pP ∧ (∀ m, m < 5 → T m ≤ (5 * i + j) * 72057594037927936) ∧ Blk wr g 282 (nr .u64 5 A) ∧ Blk wr (g + 1) 282 (nr .u64 5 B) ∧ Blk wr (g + 2) 282 Z ∧ Blk wr (g + 3) 282 (nr .u64 5 T) ∧ Below g w wr) (fun v _ => (5 - intOf v).toNat)
      case atStart => exact ⟨0, T, by omega, rfl, HT.out, Hb.out, hA, hB, hC, hD, hl⟩
      case round =>
        clear hA hB hC hD hl HT Hb
        obtain ⟨j, T, hj, rfl, hT, hb, hA, hB, hC, hD, hl⟩ := hrel
        by_cases hlt2 : j < 5
        · have hj' : (j : Int) < 5 := by omega
          have ca := hA.cell (nr_at .u64 5 A i hlt)
          have cb := hB.cell (nr_at .u64 5 B j hlt2)
          obtain ⟨m, hm⟩ : ∃ m : Nat, (i + j) % 5 = m := ⟨_, rfl⟩
          have em : ((i : Int) + (j : Int)) % 5 = (m : Int) := by omega
          have hm5 : m < 5 := by omega
          have hm5' : (m : Int) < 5 := by omega
          have hx := HA.out i hlt
          have hy := HB.out j hlt2
          obtain ⟨p, hp⟩ : ∃ p : Nat, A i * B j = p := ⟨_, rfl⟩
          have hpb : p ≤ 9007199254740992 := by
            rw [← hp]; exact Nat.mul_le_mul (show A i ≤ 134217728 by omega) (show B j ≤ 67108864 by omega)
          have hpw : IntKind.u64.wrap (((A i : Nat) : Int) * ((B j : Nat) : Int)) = (p : Int) := by
            rw [← Int.natCast_mul, hp, IntWalk.u64_in _ ⟨by omega, by omega⟩]
          have hst := times_step T A B i j hlt hlt2 hT
          rw [hm, hp] at hst
          have hTm := hb m hm5
          have hTw : T m + p * tk i j ≤ (5 * i + (j + 1)) * 72057594037927936 ∧ T m + p * tk i j < 18446744073709551616 ∧ T m ≤ 1801439850948198400 := by
            have : tk i j ≤ 5 := by unfold tk; split <;> omega
            have h2 : p * tk i j ≤ 9007199254740992 * 5 := Nat.mul_le_mul hpb this
            omega
          have hd2 : Blk (wr.setCell ⟨g + 3, m, none⟩ (.int .u64 ((T m + p * tk i j : Nat) : Int))) (g + 3) 282 (nr .u64 5 (fun q => if q = m then T q + p * tk i j else T q)) := by
            have hh := hD.setCell m (.int .u64 ((T m + p * tk i j : Nat) : Int))
            rw [nr_set] at hh
            rw [nr_congr .u64 5 (fun q => if q = m then T q + p * tk i j else T q) (fun q => if q = m then T m + p * tk i j else T q) ?_]
            · exact hh
            · intro q _
              show (if q = m then T q + p * tk i j else T q) = if q = m then T m + p * tk i j else T q
              by_cases h1 : q = m
              · subst h1; rfl
              · rw [if_neg h1, if_neg h1]
          have cd := hD.cell (nr_at .u64 5 T m hm5)
          have fd := hD.frozen m
          have hfin : Hid (∀ n : Nat, ∃ T' : Nat → Nat, V5 T' % pP = sp A B i (j + 1) % pP ∧ (∀ q, q < 5 → T' q ≤ (5 * i + (j + 1)) * 72057594037927936) ∧ Blk ((wr.drewN n).setCell ⟨g + 3, m, none⟩ (.int .u64 ((T m + p * tk i j : Nat) : Int))) g 282 (nr .u64 5 A) ∧ Blk ((wr.drewN n).setCell ⟨g + 3, m, none⟩ (.int .u64 ((T m + p * tk i j : Nat) : Int))) (g + 1) 282 (nr .u64 5 B) ∧ Blk ((wr.drewN n).setCell ⟨g + 3, m, none⟩ (.int .u64 ((T m + p * tk i j : Nat) : Int))) (g + 2) 282 Z ∧ Blk ((wr.drewN n).setCell ⟨g + 3, m, none⟩ (.int .u64 ((T m + p * tk i j : Nat) : Int))) (g + 3) 282 (nr .u64 5 T') ∧ Below g w ((wr.drewN n).setCell ⟨g + 3, m, none⟩ (.int .u64 ((T m + p * tk i j : Nat) : Int)))) := by
            intro n
            refine ⟨_, hst, ?_, (hA.drewN n).setOther (by omega) _ _, (hB.drewN n).setOther (by omega) _ _, (hC.drewN n).setOther (by omega) _ _, hd2, (below_drewN hl n).setCell (by show g ≤ g + 3; omega) _⟩
            intro q hq
            show (if q = m then T q + p * tk i j else T q) ≤ _
            have := hb q hq
            by_cases h1 : q = m
            · subst h1; rw [if_pos rfl]; exact hTw.1
            · rw [if_neg h1]; exact Nat.le_trans this (Nat.mul_le_mul_right _ (by omega))
          clear hst hT hb hA hB hC hD hl hd2 hm hp
          obtain ⟨_, hw2, hw3⟩ := hTw
          generalize A i = x at *
          generalize B j = y at *
          generalize T m = t at *
          by_cases h5 : 5 ≤ i + j
          · rw [show tk i j = 5 from if_pos h5] at hfin hw2
            have h5' : (5 : Int) ≤ (i : Int) + (j : Int) := by omega
            go_wp2_with fail
            go_quiet (fail)
            go_wp2_with fail
            obtain ⟨T', h1, h2, h3, h4, h6, h7, h8⟩ := hfin.out nq
            exact ⟨⟨j + 1, T', by omega, by go_num, h1, h2, h3, h4, h6, h7, h8⟩, by simp [intOf]; omega⟩
          · rw [show tk i j = 1 from if_neg h5] at hfin hw2
            have h5' : ¬ (5 : Int) ≤ (i : Int) + (j : Int) := by omega
            rw [Nat.mul_one] at hfin hw2
            go_wp2_with fail
            go_quiet (fail)
            go_wp2_with fail
            obtain ⟨T', h1, h2, h3, h4, h6, h7, h8⟩ := hfin.out nq
            exact ⟨⟨j + 1, T', by omega, by go_num, h1, h2, h3, h4, h6, h7, h8⟩, by simp [intOf]; omega⟩
        · have hj5 : j = 5 := by omega
          subst hj5
          rw [show ((5 : Nat) : Int) = (5 : Int) from rfl]
          rw [sp_row] at hT
          have HT : Hid (V5 T % pP = sp A B (i + 1) 0 % pP) := hT
          have Hb : Hid (∀ m, m < 5 → T m ≤ (5 * i + 5) * 72057594037927936) := hb
          clear hT hb
          go_wp2_with fail
          exact ⟨⟨i + 1, T, by omega, by go_num, HT.out, Hb.out, hA, hB, hC, hD, hl⟩, by simp [intOf]; omega⟩
    · have hi5 : i = 5 := by omega
      subst hi5
      rw [show ((5 : Nat) : Int) = (5 : Int) from rfl]
      rw [sp_done] at hT
      have HF : Hid (∃ T' : Nat → Nat, nr .u64 5 T = nr .u64 5 T' ∧ (V5 T' % pP = V5 A * V5 B % pP) ∧ (∀ m, m < 5 → T' m ≤ 1801439850948198400)) := ⟨T, rfl, hT, hb⟩
      obtain ⟨U, hU⟩ : ∃ U, nr .u64 5 T = U := ⟨_, rfl⟩
      have hUl : U.length = 5 := by rw [← hU, nr_length]
      have hUo : ∀ v ∈ U, v.oneCell' = true := by rw [← hU]; exact nr_one _ _ _
      rw [hU] at hD HF
      have hR := load282 (hC.setRow (M := U)) hUl
      have hl' : Below g w (wr.setRow (g + 2) U.toArray) := below_setRow hl (by omega) _
      clear hA hB hl hU hT hb HA HB
      go_wp2_with (first | (refine wpList_load_blk rfl 282 _ rfl (g + 3) rfl 282 U _ hD Tryz.underlying282 rfl (by rw [Tryz.size282, hUl]) ?_) | (refine wpList_store_blk rfl 282 _ _ rfl (g + 2) Z U rfl rfl 282 hC (by rw [Tryz.size282, hUl]) (by rw [hZs, hUl]) hUo ?_))
      obtain ⟨T', e1, e2, e3⟩ := HF.out
      refine bodyPost_ret_by (v := .agg U.toArray) (results_cell 4 282 ⟨g + 2, 0, none⟩ Tryz.results208 rfl hR) rfl ⟨T', by rw [e1], e2, e3, ?_⟩
      rw [HG.out]; exact hl'
theorem dg_mod (X i : Nat) (hi : i < 5) : dg 26 (X % 2 ^ 130) i = dg 26 X i := by
  apply Nat.eq_of_testBit_eq
  intro b
  rw [dg_test, dg_test, Nat.testBit_mod_two_pow]
  by_cases h : b < 26
  · rw [show decide (26 * i + b < 130) = true by simp; omega]; simp
  · simp [h]
theorem V5_first (N x : Nat) (h : ∀ i, i < 5 → True) : V5 (fun i => if i = 0 then dg 26 N i + x else dg 26 N i) = N % 2 ^ 130 + x := by
  rw [V5_set _ 0 x (by omega), V5, num_dg]; simp
set_option maxHeartbeats 1000000 in
theorem settled_any (S : Nat → Nat) (hS : ∀ i, i < 5 → S i ≤ 1801439850948198400) (w : World) :
    Calls Tryz.prog 207 #[.agg (nr .u64 5 S).toArray] w fun e w' => e = .returned (.agg (nr .u64 5 (dg 26 (V5 S % pP))).toArray) ∧ Below w.heap.size w w' := by
  have hzr := zero282_run
  obtain ⟨Z, hZ⟩ : ∃ Z, nr .u64 5 (fun _ => 0) = Z := ⟨_, rfl⟩
  obtain ⟨F, hF⟩ : ∃ F, nr .u64 5 (fun i => if i = 0 then 5 else 0) = F := ⟨_, rfl⟩
  obtain ⟨V, hV⟩ : ∃ V, V5 S = V := ⟨_, rfl⟩
  have hVb : V < 2 ^ 170 := by
    have := V5_lt S 1801439850948198400 hS
    rw [hV] at this
    exact Nat.lt_of_le_of_lt this (by decide)
  -- the number ahead of the last choice
  obtain ⟨o1, ho1⟩ : ∃ o1, V / 2 ^ 130 = o1 := ⟨_, rfl⟩
  have ho1b : o1 < 2 ^ 40 := by
    rw [← ho1, Nat.div_lt_iff_lt_mul (by decide), ← Nat.pow_add]; exact hVb
  obtain ⟨T2, hT2⟩ : ∃ T2 : Nat → Nat, (fun i => if i = 0 then dg 26 V i + o1 * 5 else dg 26 V i) = T2 := ⟨_, rfl⟩
  have hT2b : ∀ i, i < 5 → T2 i < 9007199254740992 := by
    intro i hi
    have h1 := dg_lt 26 V i
    rw [← hT2]
    show (if i = 0 then dg 26 V i + o1 * 5 else dg 26 V i) < _
    split <;> omega
  have hV2 : V5 T2 = V % 2 ^ 130 + V / 2 ^ 130 * 5 := by
    rw [← hT2, V5_first V _ (fun _ _ => trivial), ho1]
  obtain ⟨o2, ho2⟩ : ∃ o2, (V5 T2 + 5) / 2 ^ 130 = o2 := ⟨_, rfl⟩
  have hset := settle V (V5 T2) o2 hV2 hVb ho2.symm
  have hV2b : V5 T2 < 2 ^ 160 := by
    have := V5_lt T2 9007199254740992 (fun i hi => Nat.le_of_lt (hT2b i hi))
    exact Nat.lt_of_le_of_lt this (by decide)
  have ho2b : o2 < 2 ^ 40 := by
    rw [← ho2, Nat.div_lt_iff_lt_mul (by decide), ← Nat.pow_add]
    exact Nat.lt_of_lt_of_le (Nat.add_lt_add_right hV2b 5) (by decide)
  obtain ⟨T3, hT3⟩ : ∃ T3 : Nat → Nat, (fun i => if i = 0 then T2 i + o2 * 5 else T2 i) = T3 := ⟨_, rfl⟩
  have hT3b : ∀ i, i < 5 → T3 i < 9223372036854775808 := by
    intro i hi
    have h1 := hT2b i hi
    rw [← hT3]
    show (if i = 0 then T2 i + o2 * 5 else T2 i) < _
    split <;> omega
  have hV3 : V5 T3 = V5 T2 + o2 * 5 := by rw [← hT3, V5_set _ 0 _ (by omega)]; simp
  have c1 := fun w => carried_any S (fun i hi => Nat.lt_of_le_of_lt (hS i hi) (by decide)) w
  rw [hV, show ov S 5 = o1 from by rw [← ho1, ← hV]; rfl] at c1
  have c2 := fun w => plus_any T2 (fun i => if i = 0 then 5 else 0) (fun i hi => by have := hT2b i hi; show T2 i + (if i = 0 then 5 else 0) < _; split <;> omega) w
  have c3 := fun w => carried_any (fun i => T2 i + (if i = 0 then 5 else 0)) (fun i hi => by have := hT2b i hi; show T2 i + (if i = 0 then 5 else 0) < _; split <;> omega) w
  have hV4 : V5 (fun i => T2 i + (if i = 0 then 5 else 0)) = V5 T2 + 5 := by
    rw [V5_add]; congr 1
  rw [hV4, show ov (fun i => T2 i + (if i = 0 then 5 else 0)) 5 = o2 from by rw [← ho2, ← hV4]; rfl] at c3
  have c4 := fun w => carried_any T3 hT3b w
  have hlast : nr .u64 5 (dg 26 (V5 T3)) = nr .u64 5 (dg 26 (V % pP)) := by
    apply nr_congr
    intro i hi
    rw [← dg_mod (V5 T3) i hi, hV3, hset]
  rw [hlast] at c4
  rw [hF] at c2
  rw [hV]
  -- the rows
  obtain ⟨Y, hY⟩ : ∃ Y, nr .u64 5 S = Y := ⟨_, rfl⟩
  obtain ⟨Y1, hY1⟩ : ∃ Y1, nr .u64 5 (dg 26 V) = Y1 := ⟨_, rfl⟩
  obtain ⟨Y2, hY2⟩ : ∃ Y2, nr .u64 5 T2 = Y2 := ⟨_, rfl⟩
  obtain ⟨Y3, hY3⟩ : ∃ Y3, nr .u64 5 T3 = Y3 := ⟨_, rfl⟩
  obtain ⟨X, hX⟩ : ∃ X, nr .u64 5 (fun i => T2 i + (if i = 0 then 5 else 0)) = X := ⟨_, rfl⟩
  obtain ⟨X1, hX1⟩ : ∃ X1, nr .u64 5 (dg 26 (V5 T2 + 5)) = X1 := ⟨_, rfl⟩
  obtain ⟨U, hU⟩ : ∃ U, nr .u64 5 (dg 26 (V % pP)) = U := ⟨_, rfl⟩
  rw [hY] at c1
  rw [hY1] at c1
  rw [hY2, hX] at c2
  rw [hX, hX1] at c3
  rw [hY3, hU] at c4
  rw [hY, hU]
  rw [hZ] at hzr
  have lY1 : Y1.length = 5 := by rw [← hY1, nr_length]
  have lY : Y.length = 5 := by rw [← hY, nr_length]
  have lY2 : Y2.length = 5 := by rw [← hY2, nr_length]
  have lY3 : Y3.length = 5 := by rw [← hY3, nr_length]
  have lU : U.length = 5 := by rw [← hU, nr_length]
  have lZ : Z.length = 5 := by rw [← hZ, nr_length]
  have oY1 : ∀ v ∈ Y1, v.oneCell' = true := by rw [← hY1]; exact nr_one _ _ _
  have oU : ∀ v ∈ U, v.oneCell' = true := by rw [← hU]; exact nr_one _ _ _
  have hZn : (Z = []) = False := by
    apply eq_false
    intro e
    rw [e] at lZ
    cases lZ
  have hZF : Z.set 0 (.int .u64 5) = F := by
    rw [← hZ, ← hF]; exact nr_set .u64 5 _ 0 5
  have s1 : Y1.set 0 (.int .u64 ((dg 26 V 0 + o1 * 5 : Nat) : Int)) = Y2 := by
    rw [← hY1, nr_set, ← hY2, ← hT2]
    exact nr_congr _ _ _ _ (fun i _ => by
      show (if i = 0 then dg 26 V 0 + o1 * 5 else dg 26 V i) = if i = 0 then dg 26 V i + o1 * 5 else dg 26 V i
      split
      · rename_i h; rw [h]
      · rfl)
  have s2 : Y2.set 0 (.int .u64 ((T2 0 + o2 * 5 : Nat) : Int)) = Y3 := by
    rw [← hY2, nr_set, ← hY3, ← hT3]
    exact nr_congr _ _ _ _ (fun i _ => by
      show (if i = 0 then T2 0 + o2 * 5 else T2 i) = if i = 0 then T2 i + o2 * 5 else T2 i
      split
      · rename_i h; rw [h]
      · rfl)
  have g1 : Y1[0]? = some (.int .u64 ((dg 26 V 0 : Nat) : Int)) := by rw [← hY1]; exact nr_at _ _ _ 0 (by omega)
  have g2 : Y2[0]? = some (.int .u64 ((T2 0 : Nat) : Int)) := by rw [← hY2]; exact nr_at _ _ _ 0 (by omega)
  have b1 := dg_lt 26 V 0
  have b2 := hT2b 0 (by omega)
  clear hZ hF hY hY1 hY2 hY3 hX hX1 hU hT2 hT3 hset hV2 hV3 hV4 hlast hV2b hT2b hT3b hS hVb ho1 ho2 hV
  generalize dg 26 V 0 = x1 at *
  generalize T2 0 = x2 at *
  generalize ov T3 5 = o3 at *
  have p1 : x1 < 67108864 := b1
  have p2 : o1 < 1099511627776 := ho1b
  have p3 : o2 < 1099511627776 := ho2b
  clear b1 ho1b ho2b
  have hA0 : Blk ((w.alloc (.cells Y.toArray 282)).alloc (.cells Z.toArray 282)) w.heap.size 282 Y := (Blk.box w 282 Y).alloc _
  have hB0 : Blk ((w.alloc (.cells Y.toArray 282)).alloc (.cells Z.toArray 282)) (w.heap.size + 1) 282 Z := by
    have := Blk.box (w.alloc (.cells Y.toArray 282)) 282 Z
    simpa using this
  have hl0 : Below w.heap.size w ((w.alloc (.cells Y.toArray 282)).alloc (.cells Z.toArray 282)) := ((Below.refl _ w).alloc (Nat.le_refl _) _).alloc (by simp) _
  go_enter Tryz.func207, Tryz.ntmps207
  go_wp2_with (refine wpList_load_blk rfl 282 _ rfl w.heap.size rfl 282 Y _ hA0 Tryz.underlying282 rfl (by rw [Tryz.size282, lY]) ?_)
  generalize (w.alloc (.cells Y.toArray 282)).alloc (.cells Z.toArray 282) = w0 at hA0 hB0 hl0 ⊢
  obtain ⟨g, hgd⟩ : ∃ g, w.heap.size = g := ⟨_, rfl⟩
  rw [hgd] at hA0 hB0 hl0 ⊢
  have HG : Hid (w.heap.size = g) := hgd
  clear hgd
  have hg0 : g ≤ w0.heap.size := Nat.le_of_lt hA0.lt
  have HC : Hid (∀ w, Calls Tryz.prog 237 #[Value.agg Y3.toArray] w fun e w' => e = Ending.returned (Value.tuple #[Value.agg U.toArray, Value.int IntKind.u64 ((o3 : Nat) : Int)]) ∧ Below w.heap.size w w') := c4
  have HC3 : Hid (∀ w, Calls Tryz.prog 237 #[Value.agg X.toArray] w fun e w' => e = Ending.returned (Value.tuple #[Value.agg X1.toArray, Value.int IntKind.u64 ((o2 : Nat) : Int)]) ∧ Below w.heap.size w w') := c3
  clear c4 c3
  refine (c1 w0).mono ?_
  rintro e w1 ⟨rfl, hb1⟩
  have hA1 : Blk w1 g 282 Y := hA0.below hb1 hA0.lt
  have hB1 : Blk w1 (g + 1) 282 Z := hB0.below hb1 hB0.lt
  have hl1 : Below g w w1 := hl0.trans (hb1.mono hg0)
  clear hA0 hB0 hl0 hb1 c1
  have hA2 : Blk (w1.setRow g Y1.toArray) g 282 Y1 := hA1.setRow
  have cA2 := hA2.cell g1
  have fA2 := hA2.frozen 0
  have hA3 : Blk ((w1.setRow g Y1.toArray).setCell ⟨g, 0, none⟩ (.int .u64 ((x1 : Int) + (o1 : Int) * 5))) g 282 Y2 := by rw [← s1]; exact hA2.setCell 0 _
  have hB3 : Blk ((w1.setRow g Y1.toArray).setCell ⟨g, 0, none⟩ (.int .u64 ((x1 : Int) + (o1 : Int) * 5))) (g + 1) 282 Z := (hB1.setRowOther (by omega) _).setOther (by omega) _ _
  have hl3 : Below g w ((w1.setRow g Y1.toArray).setCell ⟨g, 0, none⟩ (.int .u64 ((x1 : Int) + (o1 : Int) * 5))) := (below_setRow hl1 (Nat.le_refl _) _).setCell (Nat.le_refl _) _
  go_wp2_with (first | (refine wpList_store_blk rfl 282 _ _ rfl g Y Y1 rfl rfl 282 hA1 (by rw [Tryz.size282, lY1]) (by rw [lY, lY1]) oY1 ?_) | (refine wpList_load_blk rfl 282 _ rfl g rfl 282 Y2 _ hA3 Tryz.underlying282 rfl (by rw [Tryz.size282, lY2]) ?_))
  clear hA2 cA2 fA2 hA1 hB1 hl1
  generalize ((w1.setRow g Y1.toArray).setCell ⟨g, 0, none⟩ (.int .u64 ((x1 : Int) + (o1 : Int) * 5))) = w2 at hA3 hB3 hl3 ⊢
  have hg2 : g ≤ w2.heap.size := Nat.le_of_lt hA3.lt
  refine (c2 w2).mono ?_
  rintro e w3 ⟨rfl, hb3⟩
  have hA4 : Blk w3 g 282 Y2 := hA3.below hb3 hA3.lt
  have hB4 : Blk w3 (g + 1) 282 Z := hB3.below hb3 hB3.lt
  have hl4 : Below g w w3 := hl3.trans (hb3.mono hg2)
  have hg3 : g ≤ w3.heap.size := Nat.le_of_lt hA4.lt
  clear hA3 hB3 hl3 hb3 c2
  go_wp2_with fail
  refine (HC3.out w3).mono ?_
  rintro e w4 ⟨rfl, hb4⟩
  have hA5 : Blk w4 g 282 Y2 := hA4.below hb4 hA4.lt
  have hB5 : Blk w4 (g + 1) 282 Z := hB4.below hb4 hB4.lt
  have hl5 : Below g w w4 := hl4.trans (hb4.mono hg3)
  clear hA4 hB4 hl4 hb4 HC3
  have cA5 := hA5.cell g2
  have fA5 := hA5.frozen 0
  have hA6 : Blk (w4.setCell ⟨g, 0, none⟩ (.int .u64 ((x2 : Int) + (o2 : Int) * 5))) g 282 Y3 := by rw [← s2]; exact hA5.setCell 0 _
  have hB6 : Blk (w4.setCell ⟨g, 0, none⟩ (.int .u64 ((x2 : Int) + (o2 : Int) * 5))) (g + 1) 282 Z := hB5.setOther (by omega) _ _
  have hl6 : Below g w (w4.setCell ⟨g, 0, none⟩ (.int .u64 ((x2 : Int) + (o2 : Int) * 5))) := hl5.setCell (Nat.le_refl _) _
  go_wp2_with (refine wpList_load_blk rfl 282 _ rfl g rfl 282 Y3 _ hA6 Tryz.underlying282 rfl (by rw [Tryz.size282, lY3]) ?_)
  clear hA5 cA5 fA5 hB5 hl5
  generalize (w4.setCell ⟨g, 0, none⟩ (.int .u64 ((x2 : Int) + (o2 : Int) * 5))) = w5 at hA6 hB6 hl6 ⊢
  have hg5 : g ≤ w5.heap.size := Nat.le_of_lt hA6.lt
  refine (HC.out w5).mono ?_
  rintro e w6 ⟨rfl, hb6⟩
  have hA7 : Blk w6 g 282 Y3 := hA6.below hb6 hA6.lt
  have hB7 : Blk w6 (g + 1) 282 Z := hB6.below hb6 hB6.lt
  have hl7 : Below g w w6 := hl6.trans (hb6.mono hg5)
  clear hA6 hB6 hl6 hb6 HC
  have hA8 : Blk (w6.setRow g U.toArray) g 282 U := hA7.setRow
  have hB8 : Blk (w6.setRow g U.toArray) (g + 1) 282 Z := hB7.setRowOther (by omega) _
  have hR := load282 (hB8.setRow (M := U)) lU
  have hl9 : Below g w ((w6.setRow g U.toArray).setRow (g + 1) U.toArray) := below_setRow (below_setRow hl7 (Nat.le_refl _) _) (by omega) _
  go_wp2_with (first | (refine wpList_store_blk rfl 282 _ _ rfl g Y3 U rfl rfl 282 hA7 (by rw [Tryz.size282, lU]) (by rw [lY3, lU]) oU ?_) | (refine wpList_load_blk rfl 282 _ rfl g rfl 282 U _ hA8 Tryz.underlying282 rfl (by rw [Tryz.size282, lU]) ?_) | (refine wpList_store_blk rfl 282 _ _ rfl (g + 1) Z U rfl rfl 282 hB8 (by rw [Tryz.size282, lU]) (by rw [lZ, lU]) oU ?_))
  refine bodyPost_ret_by (v := .agg U.toArray) (results_cell 2 282 ⟨g + 1, 0, none⟩ Tryz.results207 rfl hR) rfl ⟨rfl, ?_⟩
  rw [HG.out]; exact hl9
def bn (s : ByteArray) (i : Nat) : Nat := (bt s i).toNat
theorem bn_lt (s : ByteArray) (i : Nat) : bn s i < 2 ^ 8 := by
  have := bt_nonneg s i
  have := bt_le s i
  unfold bn
  show _ < 256
  omega
theorem bn_int (s : ByteArray) (i : Nat) : ((bn s i : Nat) : Int) = bt s i := by
  have := bt_nonneg s i
  unfold bn; omega
def nt (s : ByteArray) : Nat := num 8 (bn s) s.size
theorem nt_lt (s : ByteArray) : nt s < 2 ^ (8 * s.size) := num_lt 8 _ _ fun i _ => bn_lt s i
theorem bt_out (s : ByteArray) (i : Nat) (h : s.size ≤ i) : bt s i = 0 := by
  unfold bt; rw [dif_neg (by omega)]
theorem dg_nt (s : ByteArray) (i : Nat) : dg 8 (nt s) i = bn s i := by
  rw [nt, dg_num 8 _ _ _ fun j _ => bn_lt s j]
  split
  · rfl
  · rename_i h
    unfold bn; rw [bt_out s i (by omega)]; rfl
def leL (N n : Nat) : List Int := (List.range n).map fun i => ((dg 8 N i : Nat) : Int)
def leB (N n : Nat) : ByteArray := strOfNums (leL N n)
theorem leB_size (N n : Nat) : (leB N n).size = n := by simp [leB, leL, strOfNums_size]
theorem leL_range (N n : Nat) : ∀ x ∈ leL N n, 0 ≤ x ∧ x ≤ 255 := by
  intro x hx
  obtain ⟨i, _, rfl⟩ := List.mem_map.1 hx
  have := dg_lt 8 N i
  have e : (2 : Nat) ^ 8 = 256 := rfl
  omega
theorem bt_leB (N n i : Nat) (h : i < n) : bt (leB N n) i = ((dg 8 N i : Nat) : Int) := by
  unfold leB
  rw [bt_str _ (leL_range N n) i (by simpa [leL] using h)]
  simp [leL]
theorem leB_congr (N M n : Nat) (h : N % 2 ^ (8 * n) = M % 2 ^ (8 * n)) : leB N n = leB M n := by
  apply bt_ext
  · rw [leB_size, leB_size]
  · intro i hi
    rw [leB_size] at hi
    have e : ∀ X : Nat, dg 8 X i = dg 8 (X % 2 ^ (8 * n)) i := by
      intro X
      apply Nat.eq_of_testBit_eq
      intro b
      rw [dg_test, dg_test, Nat.testBit_mod_two_pow]
      by_cases h : b < 8
      · rw [show decide (8 * i + b < 8 * n) = true by simp; omega]; simp
      · simp [h]
    rw [bt_leB _ _ i hi, bt_leB _ _ i hi, e N, e M, h]
theorem word_dg (N j : Nat) : le4 ((dg 8 N (j * 4) : Nat) : Int) ((dg 8 N (j * 4 + 1) : Nat) : Int) ((dg 8 N (j * 4 + 2) : Nat) : Int) ((dg 8 N (j * 4 + 3) : Nat) : Int) = ((dg 32 N j : Nat) : Int) := by
  have s0 : N / 2 ^ (8 * (j * 4)) = dg 8 N (j * 4) + 2 ^ 8 * (N / 2 ^ (8 * (j * 4 + 1))) := dg_step 8 N (j * 4)
  have s1 : N / 2 ^ (8 * (j * 4 + 1)) = dg 8 N (j * 4 + 1) + 2 ^ 8 * (N / 2 ^ (8 * (j * 4 + 2))) := dg_step 8 N (j * 4 + 1)
  have s2 : N / 2 ^ (8 * (j * 4 + 2)) = dg 8 N (j * 4 + 2) + 2 ^ 8 * (N / 2 ^ (8 * (j * 4 + 3))) := dg_step 8 N (j * 4 + 2)
  have s3 : N / 2 ^ (8 * (j * 4 + 3)) = dg 8 N (j * 4 + 3) + 2 ^ 8 * (N / 2 ^ (8 * (j * 4 + 4))) := dg_step 8 N (j * 4 + 3)
  have l0 := dg_lt 8 N (j * 4)
  have l1 := dg_lt 8 N (j * 4 + 1)
  have l2 := dg_lt 8 N (j * 4 + 2)
  have l3 := dg_lt 8 N (j * 4 + 3)
  have e : dg 32 N j = N / 2 ^ (8 * (j * 4)) % 2 ^ 32 := by rw [dg, show 32 * j = 8 * (j * 4) by omega]
  rw [e]
  unfold le4
  simp only [show (2 : Nat) ^ 8 = 256 from rfl, show (2 : Nat) ^ 32 = 4294967296 from rfl] at *
  generalize N / 2 ^ (8 * (j * 4)) = X at *
  omega
theorem four_dg (N j : Nat) : four ((dg 32 N j : Nat) : Int) = [((dg 8 N (4 * j) : Nat) : Int), ((dg 8 N (4 * j + 1) : Nat) : Int), ((dg 8 N (4 * j + 2) : Nat) : Int), ((dg 8 N (4 * j + 3) : Nat) : Int)] := by
  have h := word_dg N j
  rw [Nat.mul_comm j 4] at h
  have l0 := dg_lt 8 N (4 * j)
  have l1 := dg_lt 8 N (4 * j + 1)
  have l2 := dg_lt 8 N (4 * j + 2)
  have l3 := dg_lt 8 N (4 * j + 3)
  rw [← h]
  unfold le4 four
  simp only [show (2 : Nat) ^ 8 = 256 from rfl] at *
  generalize dg 8 N (4 * j) = a at *
  generalize dg 8 N (4 * j + 1) = b at *
  generalize dg 8 N (4 * j + 2) = c at *
  generalize dg 8 N (4 * j + 3) = d at *
  congr 1
  · omega
  congr 1
  · omega
  congr 1
  · omega
  congr 1
  · omega
theorem join_dg (N n : Nat) : joinF four (fun j => ((dg 32 N j : Nat) : Int)) n = leL N (4 * n) := by
  induction n with
  | zero => rfl
  | succ n ih =>
    rw [joinF_succ, ih, four_dg]
    unfold leL
    rw [show 4 * (n + 1) = 4 * n + 1 + 1 + 1 + 1 by omega, List.range_succ, List.range_succ, List.range_succ, List.range_succ]
    simp
theorem part_dg (N k q sh : Nat) (hq : 26 * k / 32 = q) (hs : 26 * k % 32 = sh) : ((dg 32 N q ||| dg 32 N (q + 1) * 2 ^ 32) / 2 ^ sh) % 2 ^ 26 = dg 26 N k := by
  apply Nat.eq_of_testBit_eq
  intro b
  have e : 26 * k = 32 * q + sh := by omega
  have hsl : sh < 32 := by omega
  rw [dg_test, Nat.testBit_mod_two_pow, Nat.testBit_div_two_pow, Nat.testBit_or, dg_test, Nat.mul_comm _ (2 ^ 32), Nat.testBit_two_pow_mul, dg_test]
  by_cases hb : b < 26
  · by_cases h2 : b + sh < 32
    · have h3 : ¬ (32 ≤ b + sh) := by omega
      simp only [hb, h2, h3, decide_true, decide_false, Bool.true_and, Bool.false_and, Bool.or_false]
      congr 1; omega
    · have h3 : 32 ≤ b + sh := by omega
      have h4 : b + sh - 32 < 32 := by omega
      simp only [hb, h2, h3, h4, decide_true, decide_false, Bool.true_and, Bool.false_and, Bool.false_or]
      congr 1; omega
  · simp [hb]
def wd (N k j : Nat) : Nat := dg 32 (N % 2 ^ (26 * k)) j
theorem wd_test (N k j b : Nat) : (wd N k j).testBit b = (decide (b < 32) && (decide (32 * j + b < 26 * k) && N.testBit (32 * j + b))) := by
  rw [wd, dg_test, Nat.testBit_mod_two_pow]
theorem wd_other (N k j q : Nat) (hk : k < 5) (hq : 26 * k / 32 = q) (h1 : j ≠ q) (h2 : j ≠ q + 1) : wd N (k + 1) j = wd N k j := by
  apply Nat.eq_of_testBit_eq
  intro b
  rw [wd_test, wd_test]
  by_cases hb : b < 32
  · have h : 32 * j + b < 26 * (k + 1) ↔ 32 * j + b < 26 * k := by omega
    simp [hb, h]
  · simp [hb]
theorem wd_low (N k q sh : Nat) (hk : k < 5) (hq : 26 * k / 32 = q) (hs : 26 * k % 32 = sh) : wd N k q ||| dg 26 N k * 2 ^ sh % 2 ^ 32 = wd N (k + 1) q := by
  apply Nat.eq_of_testBit_eq
  intro b
  rw [Nat.testBit_or, wd_test, wd_test, Nat.testBit_mod_two_pow, Nat.mul_comm _ (2 ^ sh), Nat.testBit_two_pow_mul, dg_test]
  by_cases hb : b < 32
  · by_cases h1 : 32 * q + b < 26 * k
    · have h2 : 32 * q + b < 26 * (k + 1) := by omega
      have h3 : ¬ (sh ≤ b) := by omega
      simp [hb, h1, h2, h3]
    · have h3 : sh ≤ b := by omega
      by_cases h4 : b - sh < 26
      · have h2 : 32 * q + b < 26 * (k + 1) := by omega
        have e : 26 * k + (b - sh) = 32 * q + b := by omega
        simp [hb, h1, h2, h3, h4, e]
      · have h2 : ¬ (32 * q + b < 26 * (k + 1)) := by omega
        simp [hb, h1, h2, h3, h4]
  · simp [hb]
theorem wd_high (N k q sh : Nat) (hk : k < 5) (hq : 26 * k / 32 = q) (hs : 26 * k % 32 = sh) : wd N k (q + 1) ||| dg 26 N k * 2 ^ sh / 2 ^ 32 = wd N (k + 1) (q + 1) := by
  apply Nat.eq_of_testBit_eq
  intro b
  rw [Nat.testBit_or, wd_test, wd_test, Nat.testBit_div_two_pow, Nat.mul_comm _ (2 ^ sh), Nat.testBit_two_pow_mul, dg_test]
  have h1 : ¬ (32 * (q + 1) + b < 26 * k) := by omega
  have h3 : sh ≤ b + 32 := by omega
  by_cases h4 : b + 32 - sh < 26
  · have h2 : 32 * (q + 1) + b < 26 * (k + 1) := by omega
    have hb : b < 32 := by omega
    have e : 26 * k + (b + 32 - sh) = 32 * (q + 1) + b := by omega
    simp [hb, h1, h2, h3, h4, e]
  · have h2 : ¬ (32 * (q + 1) + b < 26 * (k + 1)) := by omega
    simp [h1, h2, h3, h4]
theorem wd_zero (N j : Nat) : wd N 0 j = 0 := by simp [wd, Nat.mod_one, dg_zero]
theorem wd_all (N j : Nat) (h : N < 2 ^ 130) : wd N 5 j = dg 32 N j := by rw [wd, Nat.mod_eq_of_lt (by simpa using h)]
theorem wd_lt (N k j : Nat) : wd N k j < 2 ^ 32 := dg_lt 32 _ _
theorem Tryz.zero316 : (Tryz.prog.info? 316).map (fun i => i.zero) = some (some (.agg (nr .u32 5 (fun _ => 0)).toArray)) := by kernel_rfl
theorem zero316_run (w : World) : (zeroValue 316).run Tryz.prog w = .ok (.agg (nr .u32 5 (fun _ => 0)).toArray) w := by
  obtain ⟨i, hi, hz⟩ := Option.map_eq_some_iff.1 Tryz.zero316
  simp [zeroValue, typeInfo, hi, hz]
set_option maxHeartbeats 1000000 in
theorem lowest_any (S : Nat → Nat) (hS : ∀ i, i < 5 → S i < 9223372036854775808) (w : World) :
    Calls Tryz.prog 210 #[.agg (nr .u64 5 S).toArray] w fun e w' => e = .returned (.string (leB (V5 S) 16)) ∧ Below w.heap.size w w' := by
  have hzr := zero316_run
  have c1 := fun w => carried_any S hS w
  obtain ⟨M, hM⟩ : ∃ M, V5 S % 2 ^ 130 = M := ⟨_, rfl⟩
  have hMb : M < 2 ^ 130 := by rw [← hM]; exact Nat.mod_lt _ (by decide)
  have hrow : nr .u64 5 (dg 26 (V5 S)) = nr .u64 5 (dg 26 M) := nr_congr _ _ _ _ (fun i hi => by rw [← hM, dg_mod _ i hi])
  have HL : Hid (leB (V5 S) 16 = leB M 16) := by
    apply leB_congr
    rw [← hM, Nat.mod_mod_of_dvd _ (by decide)]
  rw [hrow] at c1
  have hix0 := fun w i => index282 w (dg 26 M) i
  obtain ⟨Z, hZ⟩ : ∃ Z, nr .u32 5 (fun _ => 0) = Z := ⟨_, rfl⟩
  obtain ⟨Y, hY⟩ : ∃ Y, nr .u64 5 S = Y := ⟨_, rfl⟩
  obtain ⟨U, hU⟩ : ∃ U, nr .u64 5 (dg 26 M) = U := ⟨_, rfl⟩
  rw [hZ] at hzr
  rw [hY, hU] at c1
  rw [hY]
  rw [hU] at hix0
  have lY : Y.length = 5 := by rw [← hY, nr_length]
  have lU : U.length = 5 := by rw [← hU, nr_length]
  have oU : ∀ v ∈ U, v.oneCell' = true := by rw [← hU]; exact nr_one _ _ _
  have PZ : Hid (nr .u32 5 (wd M 0) = Z) := by rw [← hZ]; exact nr_congr _ _ _ _ (fun i _ => wd_zero M i)
  have hix : Hid (∀ (w : World) (i : Nat), i < 5 → (Instr.index 282 (.agg U.toArray) (.int .i64 (i : Int))).run Tryz.prog w = .ok (.int .u64 ((dg 26 M i : Nat) : Int)) w) := hix0
  have HMb : Hid (M < 2 ^ 130) := hMb
  generalize ov S 5 = o1 at c1
  clear hZ hY hU hix0 hrow hM hS hMb
  have hA0 : Blk (w.alloc (.cells Y.toArray 282)) w.heap.size 282 Y := Blk.box w 282 Y
  have hl0 : Below w.heap.size w (w.alloc (.cells Y.toArray 282)) := (Below.refl _ w).alloc (Nat.le_refl _) _
  go_enter Tryz.func210, Tryz.ntmps210
  go_wp2_with (refine wpList_load_blk rfl 282 _ rfl w.heap.size rfl 282 Y _ hA0 Tryz.underlying282 rfl (by rw [Tryz.size282, lY]) ?_)
  refine (c1 _).mono ?_
  rintro e w1 ⟨rfl, hb1⟩
  have hA1 := hA0.below hb1 hA0.lt
  have hl1 := hl0.trans (hb1.mono (Nat.le_of_lt hA0.lt))
  clear hA0 hl0 hb1 c1
  obtain ⟨g, hgd⟩ : ∃ g, w.heap.size = g := ⟨_, rfl⟩
  rw [hgd] at hA1 hl1 ⊢
  have HG : Hid (w.heap.size = g) := hgd
  clear hgd
  have hA2 : Blk ((w1.setRow g U.toArray).alloc (.cells Z.toArray 316)) g 282 U := (hA1.setRow (M := U)).alloc _
  have hsz : (w1.setRow g U.toArray).heap.size = w1.heap.size := by simp [World.setRow]
  have hC2 : Blk ((w1.setRow g U.toArray).alloc (.cells Z.toArray 316)) w1.heap.size 316 Z := by
    have := Blk.box (w1.setRow g U.toArray) 316 Z
    rw [hsz] at this; exact this
  have hl2 : Below g w ((w1.setRow g U.toArray).alloc (.cells Z.toArray 316)) := (below_setRow hl1 (Nat.le_refl _) _).alloc (by have := (hA1.setRow (M := U)).lt; omega) _
  have hgh : g < w1.heap.size := hA1.lt
  clear hsz
  go_wp2_with (first | (refine wpList_store_blk rfl 282 _ _ rfl g Y U rfl rfl 282 hA1 (by rw [Tryz.size282, lU]) (by rw [lY, lU]) oU ?_) | (refine wpList_load_blk rfl 282 _ rfl g rfl 282 U _ hA2 Tryz.underlying282 rfl (by rw [Tryz.size282, lU]) ?_))
  generalize (w1.setRow g U.toArray).alloc (.cells Z.toArray 316) = w2 at hA2 hC2 hl2 ⊢
  obtain ⟨h, hhd⟩ : ∃ h, w1.heap.size = h := ⟨_, rfl⟩
  rw [hhd] at hC2 hgh ⊢
  clear hhd hA1 hl1 hzr hA2
  rw [← PZ.out] at hC2
  clear PZ
  go_loopw [14] (fun v wr => ∃ k : Nat, k ≤ 5 ∧ v = .int .i64 k ∧ Blk wr h 316 (nr .u32 5 (wd M k)) ∧ Below g w wr) (fun v _ => (5 - intOf v).toNat)
  case atStart => exact ⟨0, by omega, rfl, hC2, hl2⟩
  case round =>
    clear hC2 hl2
    obtain ⟨k, hk, rfl, hC, hl⟩ := hrel
    by_cases hlt : k < 5
    · have hlt' : (k : Int) < 5 := by omega
      have hi := fun w => hix.out w k hlt
      obtain ⟨q, hq⟩ : ∃ q : Nat, 26 * k / 32 = q := ⟨_, rfl⟩
      obtain ⟨sh, hs⟩ : ∃ sh : Nat, 26 * k % 32 = sh := ⟨_, rfl⟩
      have eq1 : (k : Int) * 26 / 32 = (q : Int) := by omega
      have es1 : (k : Int) * 26 % 32 = (sh : Int) := by omega
      have hq4 : q < 4 := by omega
      have hs32 : sh < 32 := by omega
      have w1 := wd_low M k q sh hlt hq hs
      have w2 := wd_high M k q sh hlt hq hs
      have w3 := fun j => wd_other M k j q hlt hq
      have cl := hC.cell (nr_at .u32 5 (wd M k) q (by omega))
      have ch := hC.cell (nr_at .u32 5 (wd M k) (q + 1) (by omega))
      have fl := hC.frozen q
      have hp := dg_lt 26 M k
      have b0 := wd_lt M k q
      have b1 := wd_lt M k (q + 1)
      have fh := hC.frozen (q + 1)
      obtain ⟨P, hP⟩ : ∃ P : Nat, dg 26 M k * 2 ^ sh = P := ⟨_, rfl⟩
      have hPb : P < 288230376151711744 := by
        rw [← hP]
        have h2 : 2 ^ sh ≤ 2 ^ 31 := Nat.pow_le_pow_right (by omega) (by omega)
        have := Nat.mul_lt_mul_of_lt_of_le hp h2 (by decide)
        exact Nat.lt_of_lt_of_le this (by decide)
      have hw : IntKind.u64.wrap (((dg 26 M k : Nat) : Int) * 2 ^ sh) = (P : Int) := by
        rw [show ((dg 26 M k : Nat) : Int) * 2 ^ sh = ((dg 26 M k * 2 ^ sh : Nat) : Int) by simp, hP, IntWalk.u64_in _ ⟨by omega, by omega⟩]
      rw [hP] at w1 w2
      have e1 : bits .or .u32 ((wd M k q : Nat) : Int) ((P : Int) % 4294967296) = ((wd M (k + 1) q : Nat) : Int) := by
        rw [← w1, ← u32_or_nat _ _ b0 (Nat.mod_lt _ (by decide))]
        congr 1
      have e2 : bits .or .u32 ((wd M k (q + 1) : Nat) : Int) ((P : Int) / 4294967296) = ((wd M (k + 1) (q + 1) : Nat) : Int) := by
        rw [← w2, ← u32_or_nat _ _ b1 (by show P / 4294967296 < 4294967296; omega)]
        congr 1
      have hC2 : Hid (Blk ((wr.setCell ⟨h, q, none⟩ (.int .u32 ((wd M (k + 1) q : Nat) : Int))).setCell ⟨h, q + 1, none⟩ (.int .u32 ((wd M (k + 1) (q + 1) : Nat) : Int))) h 316 (nr .u32 5 (wd M (k + 1)))) := by
        have hh := (hC.setCell q (.int .u32 ((wd M (k + 1) q : Nat) : Int))).setCell (q + 1) (.int .u32 ((wd M (k + 1) (q + 1) : Nat) : Int))
        rw [nr_set, nr_set] at hh
        rw [nr_congr .u32 5 (wd M (k + 1)) (fun i => if i = q + 1 then wd M (k + 1) (q + 1) else if i = q then wd M (k + 1) q else wd M k i) ?_]
        · exact hh
        · intro i _
          show wd M (k + 1) i = if i = q + 1 then wd M (k + 1) (q + 1) else if i = q then wd M (k + 1) q else wd M k i
          by_cases h1 : i = q + 1
          · rw [if_pos h1, h1]
          · rw [if_neg h1]
            by_cases h2 : i = q
            · rw [if_pos h2, h2]
            · rw [if_neg h2, w3 i h2 h1]
      have hl2 : Hid (Below g w ((wr.setCell ⟨h, q, none⟩ (.int .u32 ((wd M (k + 1) q : Nat) : Int))).setCell ⟨h, q + 1, none⟩ (.int .u32 ((wd M (k + 1) (q + 1) : Nat) : Int)))) := (hl.setCell (Nat.le_of_lt hgh) _).setCell (Nat.le_of_lt hgh) _
      clear hC hl w1 w2 w3 hP hp b0 b1 hq hs
      generalize dg 26 M k = p at *
      generalize wd M k q = y0 at *
      generalize wd M k (q + 1) = y1 at *
      generalize wd M (k + 1) q = z0 at *
      generalize wd M (k + 1) (q + 1) = z1 at *
      go_wp2_with fail
      exact ⟨⟨k + 1, by omega, by go_num, hC2.out, hl2.out⟩, by simp [intOf]; omega⟩
    · have hk5 : k = 5 := by omega
      subst hk5
      rw [show ((5 : Nat) : Int) = (5 : Int) from rfl]
      have hat : At wr (some ⟨h, 0, none⟩) 5 (fun j => ((dg 32 M j : Nat) : Int)) := .inr ⟨h, 0, rfl, fun i hi => by
        show wr.cell? ⟨h, 0 + i, none⟩ = some (.int .u32 ((dg 32 M i : Nat) : Int))
        rw [Nat.zero_add, ← wd_all M i HMb.out]
        exact hC.cell (nr_at .u32 5 _ i hi)⟩
      have hcall := fromLittle_any (some ⟨h, 0, none⟩) 5 5 (fun j => ((dg 32 M j : Nat) : Int)) wr (by omega) hat (fun i _ => by have := dg_lt 32 M i; show 0 ≤ ((dg 32 M i : Nat) : Int) ∧ ((dg 32 M i : Nat) : Int) < 4294967296; rw [show (2 : Nat) ^ 32 = 4294967296 from rfl] at this; omega)
      rw [join_dg M 5, show strOfNums (leL M (4 * 5)) = leB M 20 from rfl] at hcall
      have h20 : (leB M 20).size = 20 := leB_size M 20
      have HE : Hid ((leB M 20).extract 0 16 = leB M 16) := by
        apply bt_ext
        · rw [ByteArray.size_extract, leB_size, leB_size]; rfl
        · intro i hi
          rw [ByteArray.size_extract, leB_size] at hi
          rw [bt_cut _ 0 16 i (by rw [leB_size]; decide) (by omega), bt_leB _ _ _ (by omega), bt_leB _ _ _ (by omega), Nat.zero_add]
      have hgl : g ≤ wr.heap.size := by have := hC.lt; omega
      generalize leB M 20 = R at *
      clear hat hC hix
      go_wp2_with (go_at_call 203; refine hcall.mono ?_; rintro e w5 ⟨rfl, hb5⟩)
      go_ret
      refine ⟨by rw [HE.out, HL.out]; rfl, ?_⟩
      rw [HG.out]
      exact hl.trans (hb5.mono hgl)
theorem bt_pad (s : ByteArray) (c i : Nat) : bt (s ++ strOfNums (List.replicate c 0)) i = bt s i := by
  by_cases h : i < s.size
  · exact bt_left _ _ _ h
  · rw [bt_right _ _ _ (by omega), bt_out s i (by omega)]
    by_cases h2 : i - s.size < c
    · rw [bt_str _ (by intro x hx; rw [List.eq_of_mem_replicate hx]; decide) _ (by simpa using h2)]
      simp
    · rw [bt_out _ _ (by rw [strOfNums_size]; simp; omega)]
theorem words_pad (s : ByteArray) (c j : Nat) : wordsL le4 (s ++ strOfNums (List.replicate c 0)) j = ((dg 32 (nt s) j : Nat) : Int) := by
  unfold wordsL
  rw [bt_pad, bt_pad, bt_pad, bt_pad, ← word_dg, dg_nt, dg_nt, dg_nt, dg_nt, bn_int, bn_int, bn_int, bn_int]
set_option maxHeartbeats 1000000 in
theorem numberOf_any (s : ByteArray) (hs : s.size ≤ 17) (w : World) :
    Calls Tryz.prog 206 #[.string s] w fun e w' => e = .returned (.agg (nr .u64 5 (dg 26 (nt s))).toArray) ∧ Below w.heap.size w w' := by
  have hzr := zero282_run
  obtain ⟨c, hc⟩ : ∃ c, 20 - s.size = c := ⟨_, rfl⟩
  have hcI : (20 : Int) - (s.size : Int) = (c : Int) := by omega
  have hrep := fun w => repeat_zero c w (by omega)
  obtain ⟨P, hP⟩ : ∃ P, s ++ strOfNums (List.replicate c 0) = P := ⟨_, rfl⟩
  have hPs : P.size = 20 := by rw [← hP, ByteArray.size_append, strOfNums_size, List.length_replicate]; omega
  have hlit := fun w => little_even P w (by omega) (by omega)
  rw [hPs, show 20 / 4 = 5 from rfl] at hlit
  have HW : Hid (∀ j, wordsL le4 P j = ((dg 32 (nt s) j : Nat) : Int)) := fun j => by rw [← hP]; exact words_pad s c j
  have hCs : (strOfNums (List.replicate c 0)).size ≤ 20 := by rw [strOfNums_size, List.length_replicate]; omega
  generalize strOfNums (List.replicate c 0) = C at *
  obtain ⟨N, hN⟩ : ∃ N, nt s = N := ⟨_, rfl⟩
  rw [hN] at HW ⊢
  clear hN hc
  obtain ⟨Z, hZ⟩ : ∃ Z, nr .u64 5 (fun _ => 0) = Z := ⟨_, rfl⟩
  rw [hZ] at hzr
  have lZ : Z.length = 5 := by rw [← hZ, nr_length]
  have PZ : Hid (nr .u64 5 (fun _ => 0) = Z) := hZ
  clear hZ
  have hA0 : Blk (w.alloc (.cells Z.toArray 282)) w.heap.size 282 Z := Blk.box w 282 Z
  have hl0 : Below w.heap.size w (w.alloc (.cells Z.toArray 282)) := (Below.refl _ w).alloc (Nat.le_refl _) _
  go_enter Tryz.func206, Tryz.ntmps206
  go_wp2_with fail
  generalize (w.alloc (.cells Z.toArray 282)) = w0 at hA0 hl0 ⊢
  refine (hrep w0).mono ?_
  rintro e w1 ⟨rfl, hb1⟩
  have hA1 := hA0.below hb1 hA0.lt
  have hl1 := hl0.trans (hb1.mono (Nat.le_of_lt hA0.lt))
  clear hA0 hl0 hb1 hrep
  go_wp2_with fail
  refine (hlit w1).mono ?_
  rintro e w2 ⟨rfl, ho2, hb2⟩
  have hA2 := hA1.below hb2 hA1.lt
  have hl2 := hl1.trans (hb2.mono (Nat.le_of_lt hA1.lt))
  have hgl : w1.heap.size < w2.heap.size := cell_lt (ho2.cellAt 0 (by decide) |>.trans (by rfl))
  have hcl : Hid (∀ i, i < 5 → w2.cell? ⟨w1.heap.size, i, none⟩ = some (.int .u32 ((dg 32 N i : Nat) : Int))) := by
    intro i hi
    rw [ho2.cellAt i (by omega)]
    simp [hi, HW.out]
  clear hA1 hl1 hb2 hlit ho2 HW hP hPs hCs
  obtain ⟨g, hgd⟩ : ∃ g, w.heap.size = g := ⟨_, rfl⟩
  rw [hgd] at hA2 hl2 ⊢
  have HG : Hid (w.heap.size = g) := hgd
  clear hgd
  generalize w1.heap.size = gl at *
  have hA3 : Blk (w2.alloc (.cells Z.toArray 282)) g 282 Z := hA2.alloc _
  have hB3 : Blk (w2.alloc (.cells Z.toArray 282)) w2.heap.size 282 Z := Blk.box w2 282 Z
  have hl3 : Below g w (w2.alloc (.cells Z.toArray 282)) := hl2.alloc (Nat.le_of_lt hA2.lt) _
  have hgw : g < w2.heap.size := hA2.lt
  have hcl3 : Hid (∀ i, i < 5 → (w2.alloc (.cells Z.toArray 282)).cell? ⟨gl, i, none⟩ = some (.int .u32 ((dg 32 N i : Nat) : Int))) := by
    intro i hi
    rw [World.cell?_alloc_some _ _ _ (by rw [hcl.out i hi]; rfl)]; exact hcl.out i hi
  clear hA2 hl2 hcl
  go_wp2_with fail
  generalize w2.heap.size = h at *
  generalize w2.alloc (.cells Z.toArray 282) = w3 at *
  rw [← PZ.out] at hB3
  go_loopw [19] (fun v wr => ∃ k : Nat, k ≤ 5 ∧ v = .int .i64 k ∧ Blk wr h 282 (nr .u64 5 (fun i => if i < k then dg 26 N i else 0)) ∧ Below h w3 wr) (fun v _ => (5 - intOf v).toNat)
  case atStart => exact ⟨0, by omega, rfl, hB3, Below.refl _ _⟩
  case round =>
    clear hB3
    obtain ⟨k, hk, rfl, hB, hl⟩ := hrel
    by_cases hlt : k < 5
    · have hlt' : (k : Int) < 5 := by omega
      obtain ⟨q, hq⟩ : ∃ q : Nat, 26 * k / 32 = q := ⟨_, rfl⟩
      obtain ⟨sh, hs'⟩ : ∃ sh : Nat, 26 * k % 32 = sh := ⟨_, rfl⟩
      have eq1 : (k : Int) * 26 / 32 = (q : Int) := by omega
      have es1 : (k : Int) * 26 % 32 = (sh : Int) := by omega
      have hq4 : q < 4 := by omega
      have hq4' : (q : Int) < 4 := by omega
      have hs32 : sh < 32 := by omega
      have cl : wr.cell? ⟨gl, q, none⟩ = some (.int .u32 ((dg 32 N q : Nat) : Int)) := (hl.cell (p := ⟨gl, q, none⟩) hgl).trans (hcl3.out q (by omega))
      have ch : wr.cell? ⟨gl, q + 1, none⟩ = some (.int .u32 ((dg 32 N (q + 1) : Nat) : Int)) := (hl.cell (p := ⟨gl, q + 1, none⟩) hgl).trans (hcl3.out (q + 1) (by omega))
      have b0 := dg_lt 32 N q
      have b1 := dg_lt 32 N (q + 1)
      rw [show (2 : Nat) ^ 32 = 4294967296 from rfl] at b0 b1
      have hpt := part_dg N k q sh hq hs'
      obtain ⟨R, hR⟩ : ∃ R, dg 32 N q ||| dg 32 N (q + 1) * 2 ^ 32 = R := ⟨_, rfl⟩
      have hRb : R < 18446744073709551616 := by
        rw [← hR]
        exact Nat.or_lt_two_pow (n := 64) (by rw [show (2 : Nat) ^ 64 = 18446744073709551616 from rfl]; omega) (by rw [show (2 : Nat) ^ 64 = 18446744073709551616 from rfl, show (2 : Nat) ^ 32 = 4294967296 from rfl]; omega)
      have eor : bits .or .u64 ((dg 32 N q : Nat) : Int) (((dg 32 N (q + 1) : Nat) : Int) * 4294967296) = (R : Int) := by
        rw [← hR, ← u64_or_nat _ _ (by omega) (by rw [show (2 : Nat) ^ 32 = 4294967296 from rfl]; omega)]
        congr 1
      rw [hR] at hpt
      have hdv : R / 2 ^ sh < 18446744073709551616 := Nat.lt_of_le_of_lt (Nat.div_le_self _ _) hRb
      have eand : bits .and .u64 ((R : Int) / 2 ^ sh) 67108863 = ((dg 26 N k : Nat) : Int) := by
        rw [← hpt, ← mask26 _ hdv]
        congr 1
      have fr := hB.frozen k
      have cn : wr.cell? ⟨h, k, none⟩ = some (.int .u64 ((0 : Nat) : Int)) := by
        have := hB.cell (nr_at .u64 5 _ k hlt)
        rw [if_neg (by omega)] at this; exact this
      have hB2 : Hid (∀ n, Blk ((wr.drewN n).setCell ⟨h, k, none⟩ (.int .u64 ((dg 26 N k : Nat) : Int))) h 282 (nr .u64 5 (fun i => if i < k + 1 then dg 26 N i else 0))) := by
        intro n
        have hh := (hB.drewN n).setCell k (.int .u64 ((dg 26 N k : Nat) : Int))
        rw [nr_set] at hh
        rw [nr_congr .u64 5 (fun i => if i < k + 1 then dg 26 N i else 0) (fun i => if i = k then dg 26 N k else if i < k then dg 26 N i else 0) ?_]
        · exact hh
        · intro i _
          show (if i < k + 1 then dg 26 N i else 0) = if i = k then dg 26 N k else if i < k then dg 26 N i else 0
          by_cases h1 : i = k
          · subst h1; rw [if_pos (by omega), if_pos rfl]
          · rw [if_neg h1]
            by_cases h2 : i < k
            · rw [if_pos h2, if_pos (by omega)]
            · rw [if_neg h2, if_neg (by omega)]
      have hl2 : Hid (∀ n, Below h w3 ((wr.drewN n).setCell ⟨h, k, none⟩ (.int .u64 ((dg 26 N k : Nat) : Int)))) := fun n => (below_drewN hl n).setCell (Nat.le_refl _) _
      clear hB hl hR hpt hq hs' hdv
      generalize dg 32 N q = y0 at *
      generalize dg 32 N (q + 1) = y1 at *
      generalize dg 26 N k = z at *
      go_wp2_with fail
      go_quiet (fail)
      go_wp2_with fail
      exact ⟨⟨k + 1, by omega, by go_num, hB2.out nq, hl2.out nq⟩, by simp [intOf]; omega⟩
    · have hk5 : k = 5 := by omega
      subst hk5
      rw [show ((5 : Nat) : Int) = (5 : Int) from rfl]
      have hB' : Blk wr h 282 (nr .u64 5 (dg 26 N)) := by
        rw [nr_congr .u64 5 (dg 26 N) (fun i => if i < 5 then dg 26 N i else 0) (fun i hi => by rw [if_pos hi])]; exact hB
      have hA4 : Blk wr g 282 Z := hA3.below hl hgw
      have hl4 : Below g w wr := hl3.trans (hl.mono (Nat.le_of_lt hgw))
      obtain ⟨U, hU⟩ : ∃ U, nr .u64 5 (dg 26 N) = U := ⟨_, rfl⟩
      have hUl : U.length = 5 := by rw [← hU, nr_length]
      have hUo : ∀ v ∈ U, v.oneCell' = true := by rw [← hU]; exact nr_one _ _ _
      rw [hU] at hB'
      have HU : Hid (nr .u64 5 (dg 26 N) = U) := hU
      have hR := load282 (hA4.setRow (M := U)) hUl
      have hl' : Below g w (wr.setRow g U.toArray) := below_setRow hl4 (Nat.le_refl _) _
      clear hB hl hU hcl3 hA3 hl3 PZ
      go_wp2_with (first | (refine wpList_load_blk rfl 282 _ rfl h rfl 282 U _ hB' Tryz.underlying282 rfl (by rw [Tryz.size282, hUl]) ?_) | (refine wpList_store_blk rfl 282 _ _ rfl g Z U rfl rfl 282 hA4 (by rw [Tryz.size282, hUl]) (by rw [lZ, hUl]) hUo ?_))
      refine bodyPost_ret_by (v := .agg U.toArray) (results_cell 2 282 ⟨g, 0, none⟩ Tryz.results206 rfl hR) rfl ⟨by rw [HU.out], ?_⟩
      rw [HG.out]; exact hl'
def cm (i : Nat) : Nat := if i % 4 = 3 then 15 else if i % 4 = 0 ∧ 0 < i then 252 else 255
def cl (r : ByteArray) (i : Nat) : Nat := bn r i &&& cm i
def clB (r : ByteArray) : ByteArray := strOfNums ((List.range 16).map fun i => ((cl r i : Nat) : Int))
def RB (w : World) (g n : Nat) (f : Nat → Nat) : Prop := g < w.heap.size ∧ ∀ i, i < n → w.cell? ⟨g, i, none⟩ = some (.int .u8 ((f i : Nat) : Int)) ∧ w.frozen? ⟨g, i, none⟩ = false
theorem RB.drew {w : World} {g n : Nat} {f : Nat → Nat} (h : RB w g n f) : RB w.drew g n f := h
theorem RB.set {w : World} {g n : Nat} {f : Nat → Nat} (h : RB w g n f) (i x : Nat) (hi : i < n) : RB (w.setCell ⟨g, i, none⟩ (.int .u8 (x : Int))) g n (fun j => if j = i then x else f j) := by
  refine ⟨by have := h.1; simpa using this, fun j hj => ⟨?_, ?_⟩⟩
  · show _ = some (Value.int .u8 (((if j = i then x else f j) : Nat) : Int))
    by_cases e : j = i
    · subst e
      rw [if_pos rfl, World.cell?_setCell_same' _ ⟨g, j, none⟩ _ (by rw [(h.2 j hj).1]; rfl)]
    · rw [if_neg e, World.cell?_setCell_other _ _ _ _ (fun h => by cases h; exact e rfl)]
      exact (h.2 j hj).1
  · rw [World.frozen?_setCell]; exact (h.2 j hj).2
theorem RB.congr {w : World} {g n : Nat} {f f' : Nat → Nat} (h : RB w g n f) (e : ∀ i, i < n → f i = f' i) : RB w g n f' := ⟨h.1, fun i hi => by rw [← e i hi]; exact h.2 i hi⟩
theorem rb_of (w : World) (s : ByteArray) : ∃ c w', (convert 9 22 (.string s)).run Tryz.prog w = .ok (.slice (some ⟨w.heap.size, 0, none⟩) s.size c) w' ∧ RB w' w.heap.size s.size (bn s) ∧ Below w.heap.size w w' := by
  have hr := Lib.run_convert_string_bytes (P := Tryz.prog) w 9 22 5 s Tryz.underlying9 Tryz.underlying22 Tryz.underlying5
  have hs := Lib.bytesWorld_size w 5 s
  have hn := Lib.bytesWorld_at_new w 5 s
  have hge := grownCap_ge w s.size 0 5
  have hcs : (Lib.bytesCells w 5 s).size = grownCap w s.size 0 5 := by
    unfold Lib.bytesCells
    have hd : s.data.size = s.size := rfl
    rw [Array.size_append, Array.size_map, Array.size_replicate, hd]
    omega
  refine ⟨_, _, hr, ⟨by omega, fun i hi => ⟨?_, ?_⟩⟩, ⟨rfl, rfl, rfl, by omega, fun j hj => Lib.bytesWorld_at_old w 5 s j hj⟩⟩
  · rw [Lib.bytesWorld_cell w 5 s i hi, bn_int]
    congr 2
    unfold bt
    rw [dif_pos hi, List.getD_eq_getElem?_getD]
    have hd : i < s.data.toList.length := by rw [Array.length_toList]; exact hi
    rw [List.getElem?_eq_getElem hd, Option.getD_some]
    simp
    rfl
  · simp only [World.frozen?, hn]
    simp
    omega
theorem rb_conv {w : World} {g n : Nat} {f : Nat → Nat} (h : RB w g n f) (c : Nat) : (convert 22 9 (.slice (some ⟨g, 0, none⟩) n c)).run Tryz.prog w = .ok (.string (strOfNums ((List.range n).map fun i => ((f i : Nat) : Int)))) w :=
  run_convert_bytes_arg (P := Tryz.prog) w 22 5 Tryz.underlying22 Tryz.underlying5 g 0 n c _ (by simp) (fun i hi => by
    rw [Nat.zero_add, (h.2 i hi).1]
    simp [hi]) 9 Tryz.underlying9
theorem mask_at (i : Nat) (hi : i < 16) (w : World) : (Instr.index 9 (.string ⟨#[255, 255, 255, 15, 252, 255, 255, 15, 252, 255, 255, 15, 252, 255, 255, 15]⟩) (.int .i64 (i : Int))).run Tryz.prog w = .ok (.int .u8 ((cm i : Nat) : Int)) w := by
  rw [run_index_string w 9 _ .i64 (i : Int) Tryz.underlying9, dif_pos ⟨by omega, by show (i : Int) < 16; omega⟩]
  have h : i = 0 ∨ i = 1 ∨ i = 2 ∨ i = 3 ∨ i = 4 ∨ i = 5 ∨ i = 6 ∨ i = 7 ∨ i = 8 ∨ i = 9 ∨ i = 10 ∨ i = 11 ∨ i = 12 ∨ i = 13 ∨ i = 14 ∨ i = 15 := by omega
  rcases h with rfl | rfl | rfl | rfl | rfl | rfl | rfl | rfl | rfl | rfl | rfl | rfl | rfl | rfl | rfl | rfl <;> rfl
theorem cm_lt (i : Nat) : cm i < 256 := by unfold cm; split <;> (try split) <;> decide
set_option maxHeartbeats 1000000 in
theorem clamp_ok (r : ByteArray) (h : r.size = 16) (w : World) :
    Calls Tryz.prog 205 #[.string r] w fun e w' => e = .returned (.tuple #[.string (clB r), .int .i64 0]) ∧ Below w.heap.size w w' := by
  have hI : (((r.size : Nat) : Int) != 16) = false := by simp; omega
  obtain ⟨c, w1, hr, hB, hl⟩ := rb_of w r
  rw [h] at hr hB
  have hrs : r.size ≤ 16 := by omega
  clear h
  go_enter Tryz.func205, Tryz.ntmps205
  go_wp2_with fail
  obtain ⟨g, hgd⟩ : ∃ g, w.heap.size = g := ⟨_, rfl⟩
  rw [hgd] at hB hl ⊢
  have HG : Hid (w.heap.size = g) := hgd
  clear hgd hr
  go_loopw [13] (fun v wr => ∃ k : Nat, k ≤ 16 ∧ v = .int .i64 k ∧ RB wr g 16 (fun i => if i < k then cl r i else bn r i) ∧ Below g w wr) (fun v _ => (16 - intOf v).toNat)
  case atStart => exact ⟨0, by omega, rfl, hB, hl⟩
  case round =>
    clear hB hl
    obtain ⟨k, hk, rfl, hB, hl⟩ := hrel
    by_cases hlt : k < 16
    · have hlt' : (k : Int) < 16 := by omega
      have hm := mask_at k hlt
      obtain ⟨cn0, fn⟩ := hB.2 k hlt
      have cn : wr.cell? ⟨g, k, none⟩ = some (.int .u8 ((bn r k : Nat) : Int)) := by
        rw [cn0]
        show some (Value.int .u8 (((if k < k then cl r k else bn r k) : Nat) : Int)) = _
        rw [if_neg (by omega)]
      clear cn0
      have hand := u8_and_nat (bn r k) (cm k) (bn_lt r k) (cm_lt k)
      rw [show bn r k &&& cm k = cl r k from rfl] at hand
      have hB2 : Hid (RB (wr.drew.setCell ⟨g, k, none⟩ (.int .u8 ((cl r k : Nat) : Int))) g 16 (fun i => if i < k + 1 then cl r i else bn r i)) := by
        refine (hB.drew.set k (cl r k) hlt).congr (fun i hi => ?_)
        show (if i = k then cl r k else if i < k then cl r i else bn r i) = if i < k + 1 then cl r i else bn r i
        by_cases h1 : i = k
        · subst h1; rw [if_pos rfl, if_pos (by omega)]
        · rw [if_neg h1]
          by_cases h2 : i < k
          · rw [if_pos h2, if_pos (by omega)]
          · rw [if_neg h2, if_neg (by omega)]
      have hl2 : Hid (Below g w (wr.drew.setCell ⟨g, k, none⟩ (.int .u8 ((cl r k : Nat) : Int)))) := hl.drew.setCell (Nat.le_refl _) _
      clear hB hl
      generalize bn r k = x at *
      generalize cm k = m at *
      generalize cl r k = z at *
      go_wp2_with fail
      go_region
      have hB3 : RB (wr.setCell ⟨g, k, none⟩ (.int .u8 (z : Int))).drew g 16 _ := hB2.out
      have hl3 : Below g w (wr.setCell ⟨g, k, none⟩ (.int .u8 (z : Int))).drew := hl2.out
      clear cn fn hB2 hl2
      generalize (wr.setCell ⟨g, k, none⟩ (.int .u8 (z : Int))).drew = w4 at hB3 hl3 ⊢
      go_wp2_with fail
      go_roundw
      case rel => exact ⟨k + 1, by omega, by go_num, hB3, hl3⟩
      case measure => simp [intOf]; omega
    · have hk16 : k = 16 := by omega
      subst hk16
      rw [show ((16 : Nat) : Int) = (16 : Int) from rfl]
      have hcv := rb_conv (hB.congr (f' := cl r) (fun i hi => if_pos hi)) c
      rw [show strOfNums ((List.range 16).map fun i => ((cl r i : Nat) : Int)) = clB r from rfl] at hcv
      clear hB
      go_wp2_with fail
      go_ret2
      refine ⟨rfl, ?_⟩
      rw [HG.out]; exact hl
theorem clB_size (r : ByteArray) : (clB r).size = 16 := by unfold clB; rw [strOfNums_size]; simp
theorem nt_append (a b : ByteArray) : nt (a ++ b) = nt a + 2 ^ (8 * a.size) * nt b := by
  unfold nt
  rw [ByteArray.size_append, num_split]
  congr 1
  · apply num_congr
    intro i hi
    unfold bn; rw [bt_left _ _ _ hi]
  · congr 1
    apply num_congr
    intro i hi
    unfold bn; rw [bt_right _ _ _ (by omega)]
    congr 2; omega
def ckB (s : ByteArray) (k : Nat) : ByteArray := s.extract (16 * k) (min (16 * k + 16) s.size)
def ckT (s : ByteArray) (k : Nat) : ByteArray := ckB s k ++ ⟨#[1]⟩
def ckN (s : ByteArray) (k : Nat) : Nat := nt (ckT s k)
theorem ckB_size (s : ByteArray) (k : Nat) : (ckB s k).size = min (16 * k + 16) s.size - 16 * k := by
  unfold ckB; rw [ByteArray.size_extract]; omega
theorem ckT_size (s : ByteArray) (k : Nat) : (ckT s k).size = min (16 * k + 16) s.size - 16 * k + 1 := by
  unfold ckT; rw [ByteArray.size_append, ckB_size]; rfl
theorem nt_one : nt ⟨#[1]⟩ = 1 := by decide +kernel
theorem ckN_lt (s : ByteArray) (k : Nat) : ckN s k < 2 ^ 129 := by
  unfold ckN ckT
  rw [nt_append, nt_one, Nat.mul_one]
  have h1 := nt_lt (ckB s k)
  have h2 : (ckB s k).size ≤ 16 := by rw [ckB_size]; omega
  have h3 : 2 ^ (8 * (ckB s k).size) ≤ 2 ^ 128 := Nat.pow_le_pow_right (by omega) (by omega)
  have h4 : (2 : Nat) ^ 129 = 2 ^ 128 + 2 ^ 128 := by decide
  omega
def pac (r : Nat) (s : ByteArray) : Nat → Nat
  | 0 => 0
  | k + 1 => (pac r s k + ckN s k) * r % pP
theorem pac_lt (r : Nat) (s : ByteArray) (k : Nat) : pac r s k < pP := by
  cases k with
  | zero => exact pP_pos
  | succ k => exact Nat.mod_lt _ pP_pos
theorem pac_130 (r : Nat) (s : ByteArray) (k : Nat) : pac r s k < 2 ^ 130 := Nat.lt_trans (pac_lt r s k) (by decide +kernel)
def rk (key : ByteArray) : Nat := nt (clB (key.extract 0 16))
def sk (key : ByteArray) : Nat := nt (key.extract 16 32)
def tagB (key s : ByteArray) : ByteArray := leB (pac (rk key) s ((s.size + 15) / 16) + sk key) 16
theorem rk_lt (key : ByteArray) : rk key < 2 ^ 128 := by
  have := nt_lt (clB (key.extract 0 16))
  rw [clB_size] at this; exact this
theorem sk_lt (key : ByteArray) (h : key.size = 32) : sk key < 2 ^ 128 := by
  have := nt_lt (key.extract 16 32)
  rw [ByteArray.size_extract, h] at this; exact this
set_option maxHeartbeats 2000000 in
theorem sum_ok (key s : ByteArray) (hk : key.size = 32) (hs : s.size ≤ 65536) (w : World) :
    Calls Tryz.prog 170 #[.string key, .string s] w fun e w' => e = .returned (.tuple #[.string (tagB key s), .int .i64 0]) ∧ Below w.heap.size w w' := by
  have hzr := zero282_run
  obtain ⟨Z, hZ⟩ : ∃ Z, nr .u64 5 (fun _ => 0) = Z := ⟨_, rfl⟩
  rw [hZ] at hzr
  have lZ : Z.length = 5 := by rw [← hZ, nr_length]
  have hI : (((key.size : Nat) : Int) != 32) = false := by simp; omega
  have hL : ¬ ((65536 : Int) < ((s.size : Nat) : Int)) := by omega
  obtain ⟨K1, hK1⟩ : ∃ K1, key.extract 0 16 = K1 := ⟨_, rfl⟩
  obtain ⟨K2, hK2⟩ : ∃ K2, key.extract 16 32 = K2 := ⟨_, rfl⟩
  have s1 : K1.size = 16 := by rw [← hK1, ByteArray.size_extract]; omega
  have s2 : K2.size = 16 := by rw [← hK2, ByteArray.size_extract]; omega
  have hrk : nt (clB K1) = rk key := by rw [← hK1]; rfl
  have hsk : nt K2 = sk key := by rw [← hK2]; rfl
  have c1 := fun w => clamp_ok K1 s1 w
  have c2 := fun w => numberOf_any (clB K1) (by rw [clB_size]; decide) w
  have c3 := fun w => numberOf_any K2 (by omega) w
  rw [hrk] at c2
  rw [hsk] at c3
  have hr := rk_lt key
  have hk2 := sk_lt key hk
  have HT : Hid (tagB key s = leB (pac (rk key) s ((s.size + 15) / 16) + sk key) 16) := rfl
  generalize rk key = r at *
  generalize sk key = a2 at *
  generalize clB K1 = Q1 at *
  have HK : Hid (key.size = 32) := hk
  have hkl : 32 ≤ key.size := by omega
  have hkr : key.size ≤ 32 := by omega
  clear hk hrk hsk
  obtain ⟨R, hR⟩ : ∃ R, nr .u64 5 (dg 26 r) = R := ⟨_, rfl⟩
  rw [hR] at c2
  have lR : R.length = 5 := by rw [← hR, nr_length]
  have oR : ∀ v ∈ R, v.oneCell' = true := by rw [← hR]; exact nr_one _ _ _
  have HR : Hid (nr .u64 5 (dg 26 r) = R) := hR
  have PZ : Hid (nr .u64 5 (dg 26 (pac r s 0)) = Z) := by rw [← hZ]; exact nr_congr _ _ _ _ (fun i _ => dg_zero 26 i)
  clear hR hZ
  go_enter Tryz.func170, Tryz.ntmps170
  go_wp2_with fail
  refine (c1 _).mono ?_
  rintro e w1 ⟨rfl, hb1⟩
  go_wp2_with fail
  refine (c2 _).mono ?_
  rintro e w2 ⟨rfl, hb2⟩
  have hl2 : Below w.heap.size w w2 := hb1.trans (hb2.mono hb1.size)
  clear hb1 hb2 c1 c2
  have hA3 : Blk (w2.alloc (.cells Z.toArray 282)) w2.heap.size 282 Z := Blk.box w2 282 Z
  have hA4 : Blk ((w2.alloc (.cells Z.toArray 282)).setRow w2.heap.size R.toArray) w2.heap.size 282 R := hA3.setRow
  have hsz : ((w2.alloc (.cells Z.toArray 282)).setRow w2.heap.size R.toArray).heap.size = w2.heap.size + 1 := by simp [World.setRow]
  have hA5 : Blk (((w2.alloc (.cells Z.toArray 282)).setRow w2.heap.size R.toArray).alloc (.cells Z.toArray 282)) w2.heap.size 282 R := hA4.alloc _
  have hB5 : Blk (((w2.alloc (.cells Z.toArray 282)).setRow w2.heap.size R.toArray).alloc (.cells Z.toArray 282)) (w2.heap.size + 1) 282 Z := by
    have := Blk.box ((w2.alloc (.cells Z.toArray 282)).setRow w2.heap.size R.toArray) 282 Z
    rw [hsz] at this; exact this
  have hl5 : Below w.heap.size w (((w2.alloc (.cells Z.toArray 282)).setRow w2.heap.size R.toArray).alloc (.cells Z.toArray 282)) := (below_setRow (hl2.alloc hl2.size _) hl2.size _).alloc (by rw [hsz]; have := hl2.size; omega) _
  have hgs := hl2.size
  go_wp2_with (refine wpList_store_blk rfl 282 _ _ rfl w2.heap.size Z R rfl rfl 282 hA3 (by rw [Tryz.size282, lR]) (by rw [lZ, lR]) oR ?_)
  clear hA3 hA4 hl2
  generalize ((w2.alloc (.cells Z.toArray 282)).setRow w2.heap.size R.toArray).alloc (.cells Z.toArray 282) = w5 at hA5 hB5 hl5 ⊢
  obtain ⟨B, hBd⟩ : ∃ B, w.heap.size = B := ⟨_, rfl⟩
  rw [hBd] at hl5 hgs
  have HB : Hid (w.heap.size = B) := hBd
  clear hBd hsz
  generalize w2.heap.size = g at *
  rw [← PZ.out] at hB5
  clear hzr PZ lZ
  go_loopw [10] (fun v wr => ∃ k : Nat, k ≤ (s.size + 15) / 16 ∧ v = .int .i64 (16 * k) ∧ Blk wr g 282 R ∧ Blk wr (g + 1) 282 (nr .u64 5 (dg 26 (pac r s k))) ∧ Below B w wr) (fun v _ => (s.size + 15 - intOf v).toNat)
  case atStart => exact ⟨0, by omega, rfl, hA5, hB5, hl5⟩
  case round =>
    clear hA5 hB5 hl5
    obtain ⟨k, hk, rfl, hA, hB, hl⟩ := hrel
    by_cases hlt : 16 * k < s.size
    · have hlt' : 16 * (k : Int) < ((s.size : Nat) : Int) := by omega
      have hk0 : (0 : Int) ≤ 16 * (k : Int) := by omega
      have htn : (16 * (k : Int)).toNat = 16 * k := by omega
      obtain ⟨m, hm⟩ : ∃ m, min (16 * k + 16) s.size = m := ⟨_, rfl⟩
      have hmI : min (16 * (k : Int) + 16) ((s.size : Nat) : Int) = (m : Int) := by omega
      have hm1 : m ≤ s.size := by omega
      have hm2 : 16 * k ≤ m := by omega
      have hm3 : m ≤ 16 * k + 16 := by omega
      obtain ⟨C, hC⟩ : ∃ C, s.extract (16 * k) m = C := ⟨_, rfl⟩
      have hCk : C = ckB s k := by rw [← hC, ckB, hm]
      have hCs : C.size ≤ 16 := by rw [hCk, ckB_size]; omega
      have hCw : (9223372036854775807 < C.size + 1) = False := by simp; omega
      obtain ⟨T, hT⟩ : ∃ T, C ++ ⟨#[1]⟩ = T := ⟨_, rfl⟩
      have hTk : T = ckT s k := by rw [← hT, hCk, ckT]
      have hTs : T.size ≤ 17 := by rw [hTk, ckT_size]; omega
      have c1 := fun w => numberOf_any T hTs w
      rw [show nt T = ckN s k from by rw [hTk]; rfl] at c1
      have bN := ckN_lt s k
      have bA := pac_130 r s k
      have c2 := fun w => plus_any (dg 26 (pac r s k)) (dg 26 (ckN s k)) (fun i _ => by
        have h1 := dg_lt 26 (pac r s k) i
        have h2 := dg_lt 26 (ckN s k) i
        rw [show (2 : Nat) ^ 26 = 67108864 from rfl] at h1 h2; omega) w
      have c4 := fun w => times_any (fun i => dg 26 (pac r s k) i + dg 26 (ckN s k) i) (dg 26 r) (fun i _ => by
        have h1 := dg_lt 26 (pac r s k) i
        have h2 := dg_lt 26 (ckN s k) i
        rw [show (2 : Nat) ^ 26 = 67108864 from rfl] at h1 h2
        show dg 26 (pac r s k) i + dg 26 (ckN s k) i < _; omega) (fun i _ => dg_lt 26 r i) w
      have hV : V5 (fun i => dg 26 (pac r s k) i + dg 26 (ckN s k) i) * V5 (dg 26 r) % pP = pac r s (k + 1) := by
        rw [V5_add, V5_dg _ bA, V5_dg _ (Nat.lt_trans bN (by decide)), V5_dg _ (Nat.lt_trans hr (by decide))]; rfl
      rw [hV] at c4
      rw [HR.out] at c4
      obtain ⟨U, hU⟩ : ∃ U, nr .u64 5 (dg 26 (pac r s k)) = U := ⟨_, rfl⟩
      obtain ⟨W, hW⟩ : ∃ W, nr .u64 5 (dg 26 (pac r s (k + 1))) = W := ⟨_, rfl⟩
      obtain ⟨X1, hX1⟩ : ∃ X, nr .u64 5 (dg 26 (ckN s k)) = X := ⟨_, rfl⟩
      obtain ⟨X2, hX2⟩ : ∃ X, nr .u64 5 (fun i => dg 26 (pac r s k) i + dg 26 (ckN s k) i) = X := ⟨_, rfl⟩
      have c5 : Hid (∀ (T : Nat → Nat) (w : World), V5 T % pP = pac r s (k + 1) → (∀ m, m < 5 → T m ≤ 1801439850948198400) → Calls Tryz.prog 207 #[.agg (nr .u64 5 T).toArray] w fun e w' => e = .returned (.agg W.toArray) ∧ Below w.heap.size w w') := fun T w h1 h2 => by
        have := settled_any T h2 w
        rw [h1, hW] at this; exact this
      rw [hU] at hB c2
      rw [hX1] at c1 c2
      rw [hX2] at c2 c4
      have lU : U.length = 5 := by rw [← hU, nr_length]
      have lW : W.length = 5 := by rw [← hW, nr_length]
      have oW : ∀ v ∈ W, v.oneCell' = true := by rw [← hW]; exact nr_one _ _ _
      have HW : Hid (nr .u64 5 (dg 26 (pac r s (k + 1))) = W) := hW
      have hgr : B ≤ wr.heap.size := by have := hA.lt; omega
      clear hU hW hX1 hX2 bN bA hV hTk hCk hm
      have HS : (fun z : World => Blk z g 282 R ∧ Blk z (g + 1) 282 U ∧ Below B w z) wr.drew := ⟨hA.drew, hB.drew, hl.drew⟩
      clear hA hB hl
      go_wp2_with fail
      refine wp_region_noPanic ?_
      refine wp_region_C (c := 8) (S := fun z : World => Blk z g 282 R ∧ Blk z (g + 1) 282 U ∧ Below B w z) (by kernel_rfl) ?_
      refine wpAnyC_takeT (i := 1) (v := ?_) rfl (by kernel_rfl) (by kernel_rfl) (by kernel_rfl) (by kernel_rfl) (fun _ _ _ h => h) (Or.inl ⟨by rfl, ?_⟩) (fun _ => HS) ?_
      rotate_left
      · intro w hSw; go_simp; try with_reducible rfl
      go_simp
      refine wpAnyC_takeT (i := 2) (v := ?_) rfl (by kernel_rfl) (by kernel_rfl) (by kernel_rfl) (by kernel_rfl) (fun _ _ _ h => h) (Or.inl ⟨by rfl, ?_⟩) (fun _ => HS) ?_
      rotate_left
      · intro w hSw; go_simp; try with_reducible rfl
      go_simp
      refine wpAnyC_take (i := 0) (v := .agg U.toArray) rfl (by kernel_rfl) (by kernel_rfl) (by kernel_rfl) (by kernel_rfl) (fun _ _ _ h => h) (yields_row rfl 282 _ rfl (g + 1) rfl 282 U _ (fun _ h => h.2.1) Tryz.underlying282 rfl (by rw [Tryz.size282, lU])) HS ?_
      go_simp
      refine wpAnyC_take (i := 5) (v := .agg R.toArray) rfl (by kernel_rfl) (by kernel_rfl) (by kernel_rfl) (by kernel_rfl) (fun _ _ _ h => h) (yields_row rfl 282 _ rfl g rfl 282 R _ (fun _ h => h.1) Tryz.underlying282 rfl (by rw [Tryz.size282, lR])) HS ?_
      go_simp
      refine wpAnyC_one (i := 3) (by kernel_rfl) rfl (fun K hK => ?_)
      go_simp
      go_at_call 206
      refine (c1 _).mono ?_
      rintro e wa ⟨rfl, bwa⟩
      have HSwa : (fun z : World => Blk z g 282 R ∧ Blk z (g + 1) 282 U ∧ Below B w z) wa := ⟨HS.1.below bwa HS.1.lt, HS.2.1.below bwa HS.2.1.lt, HS.2.2.trans (bwa.mono (by have := HS.1.lt; omega))⟩
      refine hK.out _ _ (fun _ => HSwa) ?_
      clear hK K
      refine wpAnyC_one (i := 4) (by kernel_rfl) rfl (fun K hK => ?_)
      go_simp
      go_at_call 209
      refine (c2 _).mono ?_
      rintro e wb ⟨rfl, bwb⟩
      have HSwb : (fun z : World => Blk z g 282 R ∧ Blk z (g + 1) 282 U ∧ Below B w z) wb := ⟨HSwa.1.below bwb HSwa.1.lt, HSwa.2.1.below bwb HSwa.2.1.lt, HSwa.2.2.trans (bwb.mono (by have := HSwa.1.lt; omega))⟩
      refine hK.out _ _ (fun _ => HSwb) ?_
      clear hK K
      refine wpAnyC_one (i := 6) (by kernel_rfl) rfl (fun K hK => ?_)
      go_simp
      go_at_call 208
      refine (c4 _).mono ?_
      rintro e wc ⟨T0, rfl, hT1, hT2, bwc⟩
      have HSwc : (fun z : World => Blk z g 282 R ∧ Blk z (g + 1) 282 U ∧ Below B w z) wc := ⟨HSwb.1.below bwc HSwb.1.lt, HSwb.2.1.below bwc HSwb.2.1.lt, HSwb.2.2.trans (bwc.mono (by have := HSwb.1.lt; omega))⟩
      have c6 := fun w => c5.out T0 w hT1 hT2
      refine hK.out _ _ (fun _ => HSwc) ?_
      clear hK K
      refine wpAnyC_one (i := 7) (by kernel_rfl) rfl (fun K hK => ?_)
      go_simp
      go_at_call 207
      refine (c6 _).mono ?_
      rintro e wd ⟨rfl, bwd⟩
      have HSwd : (fun z : World => Blk z g 282 R ∧ Blk z (g + 1) 282 U ∧ Below B w z) wd := ⟨HSwc.1.below bwd HSwc.1.lt, HSwc.2.1.below bwd HSwc.2.1.lt, HSwc.2.2.trans (bwd.mono (by have := HSwc.1.lt; omega))⟩
      refine hK.out _ _ (fun _ => HSwd) ?_
      clear hK K
      refine wpAnyC_one (i := 8) (by kernel_rfl) rfl (fun K hK => ?_)
      refine step_store_blk rfl 282 _ _ rfl (g + 1) U W rfl rfl 282 HSwd.2.1 (by rw [Tryz.size282, lW]) (by rw [lU, lW]) oW ?_
      refine hK.out _ _ (fun h => by cases h) ?_
      clear hK K
      go_simp
      refine wpAnyC_done (by kernel_rfl) ?_ _
      refine NoPanic.normal ?_
      have hA9 : Blk (wd.setRow (g + 1) W.toArray) g 282 R := HSwd.1.setRowOther (by omega) _
      have hB9 : Blk (wd.setRow (g + 1) W.toArray) (g + 1) 282 W := HSwd.2.1.setRow
      have hl9 : Below B w (wd.setRow (g + 1) W.toArray) := below_setRow HSwd.2.2 (by omega) _
      clear HS HSwa HSwb HSwc HSwd bwa bwb bwc bwd c1 c2 c4 c5 c6 hT1 hT2
      generalize wd.setRow (g + 1) W.toArray = w9 at hA9 hB9 hl9 ⊢
      go_wp2_with fail
      refine ⟨⟨k + 1, by omega, by congr 1, hA9, by rw [HW.out]; exact hB9, hl9⟩, by simp [intOf]; omega⟩
    · have hke : (s.size + 15) / 16 = k := by omega
      have hlt' : ¬ (16 * (k : Int) < ((s.size : Nat) : Int)) := by omega
      rw [hke] at HT
      have hK2' : key.extract 16 key.size = K2 := by rw [HK.out]; exact hK2
      have h16 : ((16 : Int) ≤ ((key.size : Nat) : Int)) = True := by simp; omega
      have bA := pac_130 r s k
      have c4 := fun w => plus_any (dg 26 (pac r s k)) (dg 26 a2) (fun i _ => by
        have h1 := dg_lt 26 (pac r s k) i
        have h2 := dg_lt 26 a2 i
        rw [show (2 : Nat) ^ 26 = 67108864 from rfl] at h1 h2; omega) w
      have c5 := fun w => lowest_any (fun i => dg 26 (pac r s k) i + dg 26 a2 i) (fun i _ => by
        have h1 := dg_lt 26 (pac r s k) i
        have h2 := dg_lt 26 a2 i
        rw [show (2 : Nat) ^ 26 = 67108864 from rfl] at h1 h2
        show dg 26 (pac r s k) i + dg 26 a2 i < _; omega) w
      rw [V5_add, V5_dg _ bA, V5_dg _ (Nat.lt_trans hk2 (by decide)), ← HT.out] at c5
      obtain ⟨U, hU⟩ : ∃ U, nr .u64 5 (dg 26 (pac r s k)) = U := ⟨_, rfl⟩
      obtain ⟨X1, hX1⟩ : ∃ X, nr .u64 5 (dg 26 a2) = X := ⟨_, rfl⟩
      obtain ⟨X2, hX2⟩ : ∃ X, nr .u64 5 (fun i => dg 26 (pac r s k) i + dg 26 a2 i) = X := ⟨_, rfl⟩
      rw [hU] at hB c4
      rw [hX1] at c3 c4
      rw [hX2] at c4 c5
      have lU : U.length = 5 := by rw [← hU, nr_length]
      obtain ⟨G, hG⟩ : ∃ G, tagB key s = G := ⟨_, rfl⟩
      rw [hG] at c5
      have HGG : Hid (tagB key s = G) := hG
      clear hG
      clear hU hX1 hX2 bA HT hke hK1 hK2
      have HS : (fun z : World => Blk z (g + 1) 282 U ∧ Below B w z) wr.drew := ⟨hB.drew, hl.drew⟩
      clear hA hB hl
      go_wp2_with fail
      refine wp_region_noPanic ?_
      refine wp_region_C (c := 7) (S := fun z : World => Blk z (g + 1) 282 U ∧ Below B w z) (by kernel_rfl) ?_
      refine wpAnyC_takeT (i := 1) (v := ?_) rfl (by kernel_rfl) (by kernel_rfl) (by kernel_rfl) (by kernel_rfl) (fun _ _ _ h => h) (Or.inl ⟨by rfl, ?_⟩) (fun _ => HS) ?_
      rotate_left
      · intro w hSw; go_simp; try with_reducible rfl
      go_simp
      refine wpAnyC_takeT (i := 2) (v := ?_) rfl (by kernel_rfl) (by kernel_rfl) (by kernel_rfl) (by kernel_rfl) (fun _ _ _ h => h) (Or.inl ⟨by rfl, ?_⟩) (fun _ => HS) ?_
      rotate_left
      · intro w hSw; go_simp; try with_reducible rfl
      go_simp
      refine wpAnyC_take (i := 0) (v := .agg U.toArray) rfl (by kernel_rfl) (by kernel_rfl) (by kernel_rfl) (by kernel_rfl) (fun _ _ _ h => h) (yields_row rfl 282 _ rfl (g + 1) rfl 282 U _ (fun _ h => h.1) Tryz.underlying282 rfl (by rw [Tryz.size282, lU])) HS ?_
      go_simp
      refine wpAnyC_one (i := 3) (by kernel_rfl) rfl (fun K hK => ?_)
      go_simp
      go_at_call 206
      refine (c3 _).mono ?_
      rintro e wa ⟨rfl, bwa⟩
      have HSwa : (fun z : World => Blk z (g + 1) 282 U ∧ Below B w z) wa := ⟨HS.1.below bwa HS.1.lt, HS.2.trans (bwa.mono (by have := HS.1.lt; omega))⟩
      refine hK.out _ _ (fun _ => HSwa) ?_
      clear hK K
      refine wpAnyC_one (i := 4) (by kernel_rfl) rfl (fun K hK => ?_)
      go_simp
      go_at_call 209
      refine (c4 _).mono ?_
      rintro e wb ⟨rfl, bwb⟩
      have HSwb : (fun z : World => Blk z (g + 1) 282 U ∧ Below B w z) wb := ⟨HSwa.1.below bwb HSwa.1.lt, HSwa.2.trans (bwb.mono (by have := HSwa.1.lt; omega))⟩
      refine hK.out _ _ (fun _ => HSwb) ?_
      clear hK K
      refine wpAnyC_one (i := 5) (by kernel_rfl) rfl (fun K hK => ?_)
      go_simp
      go_at_call 210
      refine (c5 _).mono ?_
      rintro e wc ⟨rfl, bwc⟩
      have HSwc : (fun z : World => Blk z (g + 1) 282 U ∧ Below B w z) wc := ⟨HSwb.1.below bwc HSwb.1.lt, HSwb.2.trans (bwc.mono (by have := HSwb.1.lt; omega))⟩
      refine hK.out _ _ (fun _ => HSwc) ?_
      clear hK K
      refine wpAnyC_takeT (i := 6) (v := ?_) rfl (by kernel_rfl) (by kernel_rfl) (by kernel_rfl) (by kernel_rfl) (fun _ _ _ h => h) (Or.inl ⟨by rfl, ?_⟩) (fun _ => HSwc) ?_
      rotate_left
      · intro w hSw; go_simp; try with_reducible rfl
      go_simp
      refine wpAnyC_one (i := 7) (by kernel_rfl) rfl (fun K hK => ?_)
      go_simp
      refine hK.out _ _ (fun h => by cases h) ?_
      clear hK K
      refine wpAnyC_done (by kernel_rfl) ?_ _
      refine NoPanic.normal ?_
      clear c3 c4 c5 HS HSwa HSwb
      go_wp2_with fail
      go_ret2
      refine ⟨by rw [HGG.out]; rfl, ?_⟩
      rw [HB.out]; exact HSwc.2
theorem str_ix (s : ByteArray) (i : Nat) (h : i < s.size) (w : World) : (Instr.index 9 (.string s) (.int .i64 (i : Int))).run Tryz.prog w = .ok (.int .u8 ((bn s i : Nat) : Int)) w := by
  rw [run_index_string w 9 s .i64 (i : Int) Tryz.underlying9, dif_pos ⟨by omega, by omega⟩, bn_int]
  unfold bt
  rw [dif_pos h]
  simp
theorem xor_zero_iff (p q : Nat) : p ^^^ q = 0 ↔ p = q := by
  constructor
  · intro h
    have h2 : (p ^^^ q) ^^^ q = 0 ^^^ q := by rw [h]
    rw [Nat.xor_assoc, Nat.xor_self, Nat.xor_zero, Nat.zero_xor] at h2
    exact h2
  · rintro rfl; exact Nat.xor_self p
theorem or_zero_iff (p q : Nat) : p ||| q = 0 ↔ p = 0 ∧ q = 0 := by
  constructor
  · intro h
    have h1 := Nat.left_le_or (n := p) (m := q)
    have h2 := Nat.right_le_or (n := p) (m := q)
    omega
  · rintro ⟨rfl, rfl⟩; rfl
set_option maxHeartbeats 1000000 in
theorem equal_any (a b : ByteArray) (ha : a.size ≤ 9007199254740992) (hb : b.size ≤ 9007199254740992) (w : World) :
    Calls Tryz.prog 154 #[.string a, .string b] w fun e w' => e = .returned (.bool (decide (a = b))) ∧ Below w.heap.size w w' := by
  by_cases hs : a.size = b.size
  · have hI : (((a.size : Nat) : Int) != ((b.size : Nat) : Int)) = false := by simp; omega
    have HS : Hid (a.size = b.size) := hs
    have hab : a.size ≤ b.size := by omega
    clear hs
    go_enter Tryz.func154, Tryz.ntmps154
    go_wp2_with fail
    go_loopw [5, 14] (fun u v wr => ∃ k x : Nat, k ≤ a.size ∧ v = .int .i64 k ∧ u = .int .u8 (x : Int) ∧ x < 256 ∧ (x = 0 ↔ ∀ i, i < k → bn a i = bn b i) ∧ Below w.heap.size w wr) (fun _ v _ => (a.size - intOf v).toNat)
    case atStart => exact ⟨0, 0, by omega, rfl, rfl, by decide, ⟨fun _ i hi => by omega, fun _ => rfl⟩, Below.refl _ _⟩
    case round =>
      obtain ⟨k, x, hk, rfl, rfl, hx, hxi, hl⟩ := hrel
      by_cases hlt : k < a.size
      · have hlt' : (k : Int) < ((a.size : Nat) : Int) := by omega
        have ia := str_ix a k hlt
        have ib := str_ix b k (by omega)
        have b0 := bn_lt a k
        have b1 := bn_lt b k
        rw [show (2 : Nat) ^ 8 = 256 from rfl] at b0 b1
        have hxor := u8_xor_nat (bn a k) (bn b k) b0 b1
        have hxl : bn a k ^^^ bn b k < 256 := Nat.xor_lt_two_pow (n := 8) b0 b1
        have hor := u8_or_nat x (bn a k ^^^ bn b k) hx hxl
        have hol : x ||| (bn a k ^^^ bn b k) < 256 := Nat.or_lt_two_pow (n := 8) hx hxl
        have HN : Hid (x ||| (bn a k ^^^ bn b k) = 0 ↔ ∀ i, i < k + 1 → bn a i = bn b i) := by
          show _ ↔ _
          rw [or_zero_iff, xor_zero_iff, hxi]
          constructor
          · rintro ⟨h1, h2⟩ i hi
            by_cases e : i = k
            · rw [e]; exact h2
            · exact h1 i (by omega)
          · intro h
            exact ⟨fun i hi => h i (by omega), h k (by omega)⟩
        have Hl : Hid (Below w.heap.size w wr) := hl
        clear hxi hl
        generalize x ||| (bn a k ^^^ bn b k) = z at *
        generalize bn a k ^^^ bn b k = y at *
        generalize bn a k = p at *
        generalize bn b k = q at *
        go_wp2_with fail
        go_quiet (fail)
        go_wp2_with fail
        exact ⟨⟨k + 1, z, by omega, by go_num, rfl, hol, HN.out, ⟨Hl.out.os, Hl.out.tape, Hl.out.output, Hl.out.size, Hl.out.block⟩⟩, by simp [intOf]; omega⟩
      · have hke : k = a.size := by omega
        subst hke
        have hD : decide (a = b) = decide ((x : Int) = 0) := by
          apply decide_eq_decide.2
          constructor
          · intro e
            have : x = 0 := hxi.2 (fun i _ => by rw [e])
            omega
          · intro e
            apply bt_ext HS.out
            intro i hi
            rw [← bn_int, ← bn_int, hxi.1 (by omega) i hi]
        have HD : Hid (decide (a = b) = ((x : Int) == 0)) := by rw [hD]; exact rfl
        clear hxi hD
        go_wp2_with fail
        go_ret
        exact ⟨by rw [HD.out]; rfl, hl⟩
  · have hI : (((a.size : Nat) : Int) != ((b.size : Nat) : Int)) = true := by simp; omega
    have HD : Hid (decide (a = b) = false) := decide_eq_false (fun e => hs (by rw [e]))
    clear hs
    go_enter Tryz.func154, Tryz.ntmps154
    go_wp2_with fail
    go_ret
    exact ⟨by rw [HD.out]; rfl, Below.refl _ _⟩
theorem toList_eq (a b : ByteArray) : (a.toList == b.toList) = decide (a = b) := by
  by_cases h : a = b
  · subst h; simp
  · rw [decide_eq_false h]
    apply beq_eq_false_iff_ne.2
    intro e
    apply h
    rw [ByteArray.toList_eq, ByteArray.toList_eq] at e
    exact ByteArray.ext (Array.toList_inj.1 e)
end Go.Proofs.YtokknmkleceooaaGreatDoor
