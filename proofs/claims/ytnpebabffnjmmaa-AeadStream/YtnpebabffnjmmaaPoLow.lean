/- What the text of a number's lowest 16 bytes is. -/
import Derived.Test.YtnpebabffnjmmaaPoSettle
import Derived.Test.YtnpebabffnjmmaaPoText
namespace Go.Proofs.Ytnpebabffnjmmaa
open Go.RowKit Go.PlainAid
set_option linter.unusedVariables false

set_option maxRecDepth 20000 in
theorem Try.zero102 : (Try.prog.info? 102).map (fun i => i.zero) = some (some (.agg (nr .u32 5 (fun _ => 0)).toArray)) := by kernel_rfl
set_option maxRecDepth 20000 in
theorem zero102_run (w : World) : (zeroValue 102).run Try.prog w = .ok (.agg (nr .u32 5 (fun _ => 0)).toArray) w := by
  obtain ⟨i, hi, hz⟩ := Option.map_eq_some_iff.1 Try.zero102
  simp [zeroValue, typeInfo, hi, hz]

set_option maxRecDepth 20000 in
set_option maxHeartbeats 1000000 in
theorem lowest_any (S : Nat → Nat) (hS : ∀ i, i < 5 → S i < 9223372036854775808) (w : World) :
    Calls Try.prog 46 #[.agg (nr .u64 5 S).toArray] w fun e w' => e = .returned (.string (leB (V5 S) 16)) ∧ Below w.heap.size w w' := by
  have hzr := zero102_run
  have c1 := fun w => carried_any S hS w
  obtain ⟨M, hM⟩ : ∃ M, V5 S % 2 ^ 130 = M := ⟨_, rfl⟩
  have hMb : M < 2 ^ 130 := by rw [← hM]; exact Nat.mod_lt _ (by decide)
  have hrow : nr .u64 5 (dg 26 (V5 S)) = nr .u64 5 (dg 26 M) := nr_congr _ _ _ _ (fun i hi => by rw [← hM, dg_mod _ i hi])
  have HL : Hid (leB (V5 S) 16 = leB M 16) := by
    apply leB_congr
    rw [← hM, Nat.mod_mod_of_dvd _ (by decide)]
  rw [hrow] at c1
  have hix0 := fun w i => index74 w (dg 26 M) i
  obtain ⟨Z, hZ⟩ : ∃ Z, nr .u32 5 (fun _ => 0) = Z := ⟨_, rfl⟩
  obtain ⟨Y, hY⟩ : ∃ Y, nr .u64 5 S = Y := ⟨_, rfl⟩
  obtain ⟨U, hU⟩ : ∃ U, nr .u64 5 (dg 26 M) = U := ⟨_, rfl⟩
  rw [hZ] at hzr
  rw [hY, hU] at c1
  rw [hY]
  rw [hU] at hix0
  have lY : Y.length = 5 := by rw [← hY, nr_length]
  have lU : U.length = 5 := by rw [← hU, nr_length]
  have oU : ∀ v ∈ U, v.oneCell' = true := by rw [← hU]; exact nr_one _ _ _
  have PZ : Hid (nr .u32 5 (wd M 0) = Z) := by rw [← hZ]; exact nr_congr _ _ _ _ (fun i _ => wd_zero M i)
  have hix : Hid (∀ (w : World) (i : Nat), i < 5 → (Instr.index 74 (.agg U.toArray) (.int .i64 (i : Int))).run Try.prog w = .ok (.int .u64 ((dg 26 M i : Nat) : Int)) w) := hix0
  have HMb : Hid (M < 2 ^ 130) := hMb
  generalize ov S 5 = o1 at c1
  clear hZ hY hU hix0 hrow hM hS hMb
  have hA0 : Blk (w.alloc (.cells Y.toArray 74)) w.heap.size 74 Y := Blk.box w 74 Y
  have hl0 : Below w.heap.size w (w.alloc (.cells Y.toArray 74)) := (Below.refl _ w).alloc (Nat.le_refl _) _
  go_enter Try.func46, Try.ntmps46
  go_wp2_with (refine wpList_load_blk rfl 74 _ rfl w.heap.size rfl 74 Y _ hA0 Try.underlying74 rfl (by rw [Try.size74, lY]) ?_)
  refine (c1 _).mono ?_
  rintro e w1 ⟨rfl, hb1⟩
  have hA1 := hA0.below hb1 hA0.lt
  have hl1 := hl0.trans (hb1.mono (Nat.le_of_lt hA0.lt))
  clear hA0 hl0 hb1 c1
  obtain ⟨g, hgd⟩ : ∃ g, w.heap.size = g := ⟨_, rfl⟩
  rw [hgd] at hA1 hl1 ⊢
  have HG : Hid (w.heap.size = g) := hgd
  clear hgd
  have hA2 : Blk ((w1.setRow g U.toArray).alloc (.cells Z.toArray 102)) g 74 U := (hA1.setRow (M := U)).alloc _
  have hsz : (w1.setRow g U.toArray).heap.size = w1.heap.size := by simp [World.setRow]
  have hC2 : Blk ((w1.setRow g U.toArray).alloc (.cells Z.toArray 102)) w1.heap.size 102 Z := by
    have := Blk.box (w1.setRow g U.toArray) 102 Z
    rw [hsz] at this; exact this
  have hl2 : Below g w ((w1.setRow g U.toArray).alloc (.cells Z.toArray 102)) := (below_setRow hl1 (Nat.le_refl _) _).alloc (by have := (hA1.setRow (M := U)).lt; omega) _
  have hgh : g < w1.heap.size := hA1.lt
  clear hsz
  go_wp2_with (first | (refine wpList_store_blk rfl 74 _ _ rfl g Y U rfl rfl 74 hA1 (by rw [Try.size74, lU]) (by rw [lY, lU]) oU ?_) | (refine wpList_load_blk rfl 74 _ rfl g rfl 74 U _ hA2 Try.underlying74 rfl (by rw [Try.size74, lU]) ?_))
  generalize (w1.setRow g U.toArray).alloc (.cells Z.toArray 102) = w2 at hA2 hC2 hl2 ⊢
  obtain ⟨h, hhd⟩ : ∃ h, w1.heap.size = h := ⟨_, rfl⟩
  rw [hhd] at hC2 hgh ⊢
  clear hhd hA1 hl1 hzr hA2
  rw [← PZ.out] at hC2
  clear PZ
  go_loopw [14] (fun v wr => ∃ k : Nat, k ≤ 5 ∧ v = .int .i64 k ∧ Blk wr h 102 (nr .u32 5 (wd M k)) ∧ Below g w wr) (fun v _ => (5 - intOf v).toNat)
  case atStart => exact ⟨0, by omega, rfl, hC2, hl2⟩
  case round =>
    clear hC2 hl2
    obtain ⟨k, hk, rfl, hC, hl⟩ := hrel
    by_cases hlt : k < 5
    · have hlt' : (k : Int) < 5 := by omega
      have hi := fun w => hix.out w k hlt
      obtain ⟨q, hq⟩ : ∃ q : Nat, 26 * k / 32 = q := ⟨_, rfl⟩
      obtain ⟨sh, hs⟩ : ∃ sh : Nat, 26 * k % 32 = sh := ⟨_, rfl⟩
      have eq1 : (k : Int) * 26 / 32 = (q : Int) := by omega
      have es1 : (k : Int) * 26 % 32 = (sh : Int) := by omega
      have hq4 : q < 4 := by omega
      have hs32 : sh < 32 := by omega
      have w1 := wd_low M k q sh hlt hq hs
      have w2 := wd_high M k q sh hlt hq hs
      have w3 := fun j => wd_other M k j q hlt hq
      have cl := hC.cell (nr_at .u32 5 (wd M k) q (by omega))
      have ch := hC.cell (nr_at .u32 5 (wd M k) (q + 1) (by omega))
      have fl := hC.frozen q
      have hp := dg_lt 26 M k
      have b0 := wd_lt M k q
      have b1 := wd_lt M k (q + 1)
      have fh := hC.frozen (q + 1)
      obtain ⟨P, hP⟩ : ∃ P : Nat, dg 26 M k * 2 ^ sh = P := ⟨_, rfl⟩
      have hPb : P < 288230376151711744 := by
        rw [← hP]
        have h2 : 2 ^ sh ≤ 2 ^ 31 := Nat.pow_le_pow_right (by omega) (by omega)
        have := Nat.mul_lt_mul_of_lt_of_le hp h2 (by decide)
        exact Nat.lt_of_lt_of_le this (by decide)
      have hw : IntKind.u64.wrap (((dg 26 M k : Nat) : Int) * 2 ^ sh) = (P : Int) := by
        rw [show ((dg 26 M k : Nat) : Int) * 2 ^ sh = ((dg 26 M k * 2 ^ sh : Nat) : Int) by simp, hP, IntWalk.u64_in _ ⟨by omega, by omega⟩]
      rw [hP] at w1 w2
      have e1 : bits .or .u32 ((wd M k q : Nat) : Int) ((P : Int) % 4294967296) = ((wd M (k + 1) q : Nat) : Int) := by
        rw [← w1, ← u32_or_nat _ _ b0 (Nat.mod_lt _ (by decide))]
        congr 1
      have e2 : bits .or .u32 ((wd M k (q + 1) : Nat) : Int) ((P : Int) / 4294967296) = ((wd M (k + 1) (q + 1) : Nat) : Int) := by
        rw [← w2, ← u32_or_nat _ _ b1 (by show P / 4294967296 < 4294967296; omega)]
        congr 1
      have hC2 : Hid (Blk ((wr.setCell ⟨h, q, none⟩ (.int .u32 ((wd M (k + 1) q : Nat) : Int))).setCell ⟨h, q + 1, none⟩ (.int .u32 ((wd M (k + 1) (q + 1) : Nat) : Int))) h 102 (nr .u32 5 (wd M (k + 1)))) := by
        have hh := (hC.setCell q (.int .u32 ((wd M (k + 1) q : Nat) : Int))).setCell (q + 1) (.int .u32 ((wd M (k + 1) (q + 1) : Nat) : Int))
        rw [nr_set, nr_set] at hh
        rw [nr_congr .u32 5 (wd M (k + 1)) (fun i => if i = q + 1 then wd M (k + 1) (q + 1) else if i = q then wd M (k + 1) q else wd M k i) ?_]
        · exact hh
        · intro i _
          show wd M (k + 1) i = if i = q + 1 then wd M (k + 1) (q + 1) else if i = q then wd M (k + 1) q else wd M k i
          by_cases h1 : i = q + 1
          · rw [if_pos h1, h1]
          · rw [if_neg h1]
            by_cases h2 : i = q
            · rw [if_pos h2, h2]
            · rw [if_neg h2, w3 i h2 h1]
      have hl2 : Hid (Below g w ((wr.setCell ⟨h, q, none⟩ (.int .u32 ((wd M (k + 1) q : Nat) : Int))).setCell ⟨h, q + 1, none⟩ (.int .u32 ((wd M (k + 1) (q + 1) : Nat) : Int)))) := (hl.setCell (Nat.le_of_lt hgh) _).setCell (Nat.le_of_lt hgh) _
      clear hC hl w1 w2 w3 hP hp b0 b1 hq hs
      generalize dg 26 M k = p at *
      generalize wd M k q = y0 at *
      generalize wd M k (q + 1) = y1 at *
      generalize wd M (k + 1) q = z0 at *
      generalize wd M (k + 1) (q + 1) = z1 at *
      go_wp2_with fail
      exact ⟨⟨k + 1, by omega, by go_num, hC2.out, hl2.out⟩, by simp [intOf]; omega⟩
    · have hk5 : k = 5 := by omega
      subst hk5
      rw [show ((5 : Nat) : Int) = (5 : Int) from rfl]
      have hat : At wr (some ⟨h, 0, none⟩) 5 (fun j => ((dg 32 M j : Nat) : Int)) := .inr ⟨h, 0, rfl, fun i hi => by
        show wr.cell? ⟨h, 0 + i, none⟩ = some (.int .u32 ((dg 32 M i : Nat) : Int))
        rw [Nat.zero_add, ← wd_all M i HMb.out]
        exact hC.cell (nr_at .u32 5 _ i hi)⟩
      have hcall := fromLittle_any (some ⟨h, 0, none⟩) 5 5 (fun j => ((dg 32 M j : Nat) : Int)) wr (by omega) hat (fun i _ => by have := dg_lt 32 M i; show 0 ≤ ((dg 32 M i : Nat) : Int) ∧ ((dg 32 M i : Nat) : Int) < 4294967296; rw [show (2 : Nat) ^ 32 = 4294967296 from rfl] at this; omega)
      rw [join_dg M 5, show strOfNums (leL M (4 * 5)) = leB M 20 from rfl] at hcall
      have h20 : (leB M 20).size = 20 := leB_size M 20
      have HE : Hid ((leB M 20).extract 0 16 = leB M 16) := by
        apply bt_ext
        · rw [ByteArray.size_extract, leB_size, leB_size]; rfl
        · intro i hi
          rw [ByteArray.size_extract, leB_size] at hi
          rw [bt_cut _ 0 16 i (by rw [leB_size]; decide) (by omega), bt_leB _ _ _ (by omega), bt_leB _ _ _ (by omega), Nat.zero_add]
      have hgl : g ≤ wr.heap.size := by have := hC.lt; omega
      generalize leB M 20 = R at *
      clear hat hC hix
      go_wp2_with (go_at_call 38; refine hcall.mono ?_; rintro e w5 ⟨rfl, hb5⟩)
      go_ret
      refine ⟨by rw [HE.out, HL.out]; rfl, ?_⟩
      rw [HG.out]
      exact hl.trans (hb5.mono hgl)
end Go.Proofs.Ytnpebabffnjmmaa
