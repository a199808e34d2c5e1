/- What carrying answers: the parts of a number, each of its bits alone, and what is left over. -/
import Derived.Test.YtnpebabffnjmmaaPoRow
namespace Go.Proofs.Ytnpebabffnjmmaa
open Go.RowKit Go.PlainAid
set_option linter.unusedVariables false

theorem mask26 (x : Nat) (h : x < 18446744073709551616) : bits .and .u64 (x : Int) 67108863 = ((x % 2 ^ 26 : Nat) : Int) := by
  have e := u64_and_nat x 67108863 h (by decide)
  rw [show (67108863 : Int) = ((67108863 : Nat) : Int) from rfl, e]
  congr 1
  exact Nat.and_two_pow_sub_one_eq_mod x 26

set_option maxRecDepth 20000 in
set_option maxHeartbeats 1000000 in
theorem carried_any (S : Nat → Nat) (hS : ∀ i, i < 5 → S i < 9223372036854775808) (w : World) :
    Calls Try.prog 61 #[.agg (nr .u64 5 S).toArray] w fun e w' => e = .returned (.tuple #[.agg (nr .u64 5 (dg 26 (V5 S))).toArray, .int .u64 ((ov S 5 : Nat) : Int)]) ∧ Below w.heap.size w w' := by
  have hzr := zero74_run
  have hix0 := fun w i => index74 w S i
  obtain ⟨Z, hZ⟩ : ∃ Z, nr .u64 5 (fun _ => 0) = Z := ⟨_, rfl⟩
  obtain ⟨Y, hY⟩ : ∃ Y, nr .u64 5 S = Y := ⟨_, rfl⟩
  rw [hZ] at hzr
  rw [hY] at hix0 ⊢
  have hYs : Y.length = 5 := by rw [← hY, nr_length]
  have hZs : Z.length = 5 := by rw [← hZ, nr_length]
  have HY : Hid (nr .u64 5 S = Y) := hY
  have hix : Hid (∀ (w : World) (i : Nat), i < 5 → (Instr.index 74 (.agg Y.toArray) (.int .i64 (i : Int))).run Try.prog w = .ok (.int .u64 ((S i : Nat) : Int)) w) := hix0
  clear hY hZ hix0
  have hA0 : Blk ((w.alloc (.cells Y.toArray 74)).alloc (.cells Z.toArray 74)) w.heap.size 74 Y := (Blk.box w 74 Y).alloc _
  have hB0 : Blk ((w.alloc (.cells Y.toArray 74)).alloc (.cells Z.toArray 74)) (w.heap.size + 1) 74 Z := by
    have := Blk.box (w.alloc (.cells Y.toArray 74)) 74 Z
    simpa using this
  have hl0 : Below w.heap.size w ((w.alloc (.cells Y.toArray 74)).alloc (.cells Z.toArray 74)) := ((Below.refl _ w).alloc (Nat.le_refl _) _).alloc (by simp) _
  go_enter Try.func61, Try.ntmps61
  go_wp2_with (refine wpList_load_blk rfl 74 _ rfl w.heap.size rfl 74 Y _ hA0 Try.underlying74 rfl (by rw [Try.size74, hYs]) ?_)
  generalize (w.alloc (.cells Y.toArray 74)).alloc (.cells Z.toArray 74) = w0 at hA0 hB0 hl0 ⊢
  obtain ⟨g, hgd⟩ : ∃ g, w.heap.size = g := ⟨_, rfl⟩
  rw [hgd] at hA0 hB0 hl0 ⊢
  have HG : Hid (w.heap.size = g) := hgd
  clear hgd hzr
  rw [← HY.out] at hA0
  go_loopw [4, 8] (fun o i wr => ∃ k : Nat, k ≤ 5 ∧ i = .int .i64 k ∧ o = .int .u64 ((ov S k : Nat) : Int) ∧ Blk wr g 74 (nr .u64 5 (fun i => if i < k then dg 26 (V5 S) i else S i)) ∧ Blk wr (g + 1) 74 Z ∧ Below g w wr) (fun _ i _ => (5 - intOf i).toNat)
  case atStart => exact ⟨0, by omega, rfl, by rw [ov_zero]; rfl, hA0, hB0, hl0⟩
  case round =>
    clear hA0 hB0 hl0
    obtain ⟨k, hk, rfl, rfl, hA, hB, hl⟩ := hrel
    by_cases hlt : k < 5
    · have hlt' : (k : Int) < 5 := by omega
      have hi := fun w => hix.out w k hlt
      have hx := hS k hlt
      have ho := ov_lt S k 9223372036854775808 (fun i hi => hS i (by omega))
      have hm := mask26 (S k + ov S k) (by omega)
      rw [← ov_part S k hlt] at hm
      have hv : (S k + ov S k) / 2 ^ 26 = ov S (k + 1) := (ov_succ S k).symm
      have fn := hA.frozen k
      have cn : wr.cell? ⟨g, k, none⟩ = some (.int .u64 ((S k : Nat) : Int)) := by
        have := hA.cell (nr_at .u64 5 _ k hlt)
        rw [if_neg (by omega)] at this; exact this
      have hA2 : Blk (wr.setCell ⟨g, k, none⟩ (.int .u64 ((dg 26 (V5 S) k : Nat) : Int))) g 74 (nr .u64 5 (fun i => if i < k + 1 then dg 26 (V5 S) i else S i)) := by
        have hh := hA.setCell k (.int .u64 ((dg 26 (V5 S) k : Nat) : Int))
        rw [nr_set] at hh
        rw [nr_congr .u64 5 (fun i => if i < k + 1 then dg 26 (V5 S) i else S i) (fun i => if i = k then dg 26 (V5 S) k else if i < k then dg 26 (V5 S) i else S i) ?_]
        · exact hh
        · intro i _
          show (if i < k + 1 then dg 26 (V5 S) i else S i) = if i = k then dg 26 (V5 S) k else if i < k then dg 26 (V5 S) i else S i
          by_cases h1 : i = k
          · subst h1; rw [if_pos (by omega), if_pos rfl]
          · rw [if_neg h1]
            by_cases h2 : i < k
            · rw [if_pos h2, if_pos (by omega)]
            · rw [if_neg h2, if_neg (by omega)]
      have hB2 : Blk (wr.setCell ⟨g, k, none⟩ (.int .u64 ((dg 26 (V5 S) k : Nat) : Int))) (g + 1) 74 Z := hB.setOther (by omega) k _
      have hl2 : Below g w (wr.setCell ⟨g, k, none⟩ (.int .u64 ((dg 26 (V5 S) k : Nat) : Int))) := hl.setCell (Nat.le_refl _) _
      have HV : Hid ((S k + ov S k) / 2 ^ 26 = ov S (k + 1)) := hv
      have hd := dg_lt 26 (V5 S) k
      clear hA hB hl hv
      generalize S k = x at *
      generalize ov S k = y at *
      generalize dg 26 (V5 S) k = z at *
      have hm' : bits .and .u64 ((x : Int) + (y : Int)) 67108863 = (z : Int) := by rw [← hm]; rfl
      clear hm
      go_wp2_with fail
      refine ⟨⟨k + 1, by omega, by go_num, ?_, hA2, hB2, hl2⟩, by simp [intOf]; omega⟩
      rw [← HV.out]
      congr 1
    · have hk5 : k = 5 := by omega
      subst hk5
      rw [show ((5 : Nat) : Int) = (5 : Int) from rfl]
      have hA' : Blk wr g 74 (nr .u64 5 (dg 26 (V5 S))) := by
        rw [nr_congr .u64 5 (dg 26 (V5 S)) (fun i => if i < 5 then dg 26 (V5 S) i else S i) (fun i hi => by rw [if_pos hi])]; exact hA
      obtain ⟨U, hU⟩ : ∃ U, nr .u64 5 (dg 26 (V5 S)) = U := ⟨_, rfl⟩
      have hUl : U.length = 5 := by rw [← hU, nr_length]
      have hUo : ∀ v ∈ U, v.oneCell' = true := by rw [← hU]; exact nr_one _ _ _
      rw [hU] at hA'
      have HU : Hid (nr .u64 5 (dg 26 (V5 S)) = U) := hU
      have hR := load74 (hB.setRow (M := U)) hUl
      have hl' : Below g w (wr.setRow (g + 1) U.toArray) := below_setRow hl (by omega) _
      clear hA hl hU hix
      go_wp2_with (first | (refine wpList_load_blk rfl 74 _ rfl g rfl 74 U _ hA' Try.underlying74 rfl (by rw [Try.size74, hUl]) ?_) | (refine wpList_store_blk rfl 74 _ _ rfl (g + 1) Z U rfl rfl 74 hB (by rw [Try.size74, hUl]) (by rw [hZs, hUl]) hUo ?_))
      refine bodyPost_ret_by (v := .tuple #[.agg U.toArray, .int .u64 ((ov S 5 : Nat) : Int)]) (results_cell_tmp 2 3 74 ⟨g + 1, 0, none⟩ Try.results61 rfl hR rfl) rfl ⟨by rw [HU.out], ?_⟩
      rw [HG.out]; exact hl'
end Go.Proofs.Ytnpebabffnjmmaa
