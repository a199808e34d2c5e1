/- What the product answers, part by part: a number with the same remainder. -/
import Derived.Test.YtnpebabffnjmmaaPoPlus
namespace Go.Proofs.Ytnpebabffnjmmaa
open Go.RowKit Go.PlainAid
set_option linter.unusedVariables false

theorem below_drewN {B : Nat} {a w : World} (h : Below B a w) (n : Nat) : Below B a (w.drewN n) := ⟨h.os, h.tape, h.output, h.size, h.block⟩

set_option maxRecDepth 20000 in
set_option maxHeartbeats 1000000 in
theorem times_any (A B : Nat → Nat) (hA : ∀ i, i < 5 → A i < 134217728) (hB : ∀ i, i < 5 → B i < 67108864) (w : World) :
    Calls Try.prog 44 #[.agg (nr .u64 5 A).toArray, .agg (nr .u64 5 B).toArray] w fun e w' => ∃ T : Nat → Nat, e = .returned (.agg (nr .u64 5 T).toArray) ∧ (V5 T % pP = V5 A * V5 B % pP) ∧ (∀ m, m < 5 → T m ≤ 1801439850948198400) ∧ Below w.heap.size w w' := by
  have hzr := zero74_run
  obtain ⟨Z, hZ⟩ : ∃ Z, nr .u64 5 (fun _ => 0) = Z := ⟨_, rfl⟩
  obtain ⟨Y, hY⟩ : ∃ Y, nr .u64 5 A = Y := ⟨_, rfl⟩
  obtain ⟨X, hX⟩ : ∃ X, nr .u64 5 B = X := ⟨_, rfl⟩
  rw [hZ] at hzr
  rw [hY, hX]
  have hZs : Z.length = 5 := by rw [← hZ, nr_length]
  have HY : Hid (nr .u64 5 A = Y) := hY
  have HX : Hid (nr .u64 5 B = X) := hX
  have PZ : Hid (nr .u64 5 (fun _ => 0) = Z) := hZ
  clear hY hZ hX
  have hA0 : Blk ((((w.alloc (.cells Y.toArray 74)).alloc (.cells X.toArray 74)).alloc (.cells Z.toArray 74)).alloc (.cells Z.toArray 74)) w.heap.size 74 Y := (((Blk.box w 74 Y).alloc _).alloc _).alloc _
  have hB0 : Blk ((((w.alloc (.cells Y.toArray 74)).alloc (.cells X.toArray 74)).alloc (.cells Z.toArray 74)).alloc (.cells Z.toArray 74)) (w.heap.size + 1) 74 X := by
    have := ((Blk.box (w.alloc (.cells Y.toArray 74)) 74 X).alloc (.cells Z.toArray 74)).alloc (.cells Z.toArray 74)
    simpa using this
  have hC0 : Blk ((((w.alloc (.cells Y.toArray 74)).alloc (.cells X.toArray 74)).alloc (.cells Z.toArray 74)).alloc (.cells Z.toArray 74)) (w.heap.size + 2) 74 Z := by
    have := (Blk.box ((w.alloc (.cells Y.toArray 74)).alloc (.cells X.toArray 74)) 74 Z).alloc (.cells Z.toArray 74)
    simpa using this
  have hD0 : Blk ((((w.alloc (.cells Y.toArray 74)).alloc (.cells X.toArray 74)).alloc (.cells Z.toArray 74)).alloc (.cells Z.toArray 74)) (w.heap.size + 3) 74 Z := by
    have := Blk.box (((w.alloc (.cells Y.toArray 74)).alloc (.cells X.toArray 74)).alloc (.cells Z.toArray 74)) 74 Z
    simpa using this
  have hl0 : Below w.heap.size w ((((w.alloc (.cells Y.toArray 74)).alloc (.cells X.toArray 74)).alloc (.cells Z.toArray 74)).alloc (.cells Z.toArray 74)) := ((((Below.refl _ w).alloc (Nat.le_refl _) _).alloc (by simp) _).alloc (by simp; omega) _).alloc (by simp; omega) _
  go_enter Try.func44, Try.ntmps44
  go_wp2_with fail
  generalize (((w.alloc (.cells Y.toArray 74)).alloc (.cells X.toArray 74)).alloc (.cells Z.toArray 74)).alloc (.cells Z.toArray 74) = w0 at hA0 hB0 hC0 hD0 hl0 ⊢
  obtain ⟨g, hgd⟩ : ∃ g, w.heap.size = g := ⟨_, rfl⟩
  rw [hgd] at hA0 hB0 hC0 hD0 hl0 ⊢
  have HG : Hid (w.heap.size = g) := hgd
  clear hgd hzr
  rw [← HY.out] at hA0
  rw [← HX.out] at hB0
  rw [← PZ.out] at hD0
  clear HY HX PZ
  have HA : Hid (∀ i, i < 5 → A i < 134217728) := hA
  have HB : Hid (∀ i, i < 5 → B i < 67108864) := hB
  clear hA hB
  go_loopw [9] (fun v wr => ∃ (i : Nat) (T : Nat → Nat), i ≤ 5 ∧ v = .int .i64 i ∧ V5 T % pP = sp A B i 0 % pP ∧ (∀ m, m < 5 → T m ≤ (5 * i) * 72057594037927936) ∧ Blk wr g 74 (nr .u64 5 A) ∧ Blk wr (g + 1) 74 (nr .u64 5 B) ∧ Blk wr (g + 2) 74 Z ∧ Blk wr (g + 3) 74 (nr .u64 5 T) ∧ Below g w wr) (fun v _ => (5 - intOf v).toNat)
  case atStart => exact ⟨0, fun _ => 0, by omega, rfl, by rw [show sp A B 0 0 = 0 by simp [sp, num]]; rfl, fun _ _ => Nat.zero_le _, hA0, hB0, hC0, hD0, hl0⟩
  case round =>
    clear hA0 hB0 hC0 hD0 hl0
    obtain ⟨i, T, hi, rfl, hT, hb, hA, hB, hC, hD, hl⟩ := hrel
    by_cases hlt : i < 5
    · have hi' : (i : Int) < 5 := by omega
      have HT : Hid (V5 T % pP = sp A B i 0 % pP) := hT
      have Hb : Hid (∀ m, m < 5 → T m ≤ (5 * i) * 72057594037927936) := hb
      clear hT hb
      go_wp2_with fail
      go_loopw [12] (fun v wr => ∃ (j : Nat) (T : Nat → Nat), j ≤ 5 ∧ v = .int .i64 j ∧ V5 T % pP = sp A B i j % pP ∧ (∀ m, m < 5 → T m ≤ (5 * i + j) * 72057594037927936) ∧ Blk wr g 74 (nr .u64 5 A) ∧ Blk wr (g + 1) 74 (nr .u64 5 B) ∧ Blk wr (g + 2) 74 Z ∧ Blk wr (g + 3) 74 (nr .u64 5 T) ∧ Below g w wr) (fun v _ => (5 - intOf v).toNat)
      case atStart => exact ⟨0, T, by omega, rfl, HT.out, Hb.out, hA, hB, hC, hD, hl⟩
      case round =>
        clear hA hB hC hD hl HT Hb
        obtain ⟨j, T, hj, rfl, hT, hb, hA, hB, hC, hD, hl⟩ := hrel
        by_cases hlt2 : j < 5
        · have hj' : (j : Int) < 5 := by omega
          have ca := hA.cell (nr_at .u64 5 A i hlt)
          have cb := hB.cell (nr_at .u64 5 B j hlt2)
          obtain ⟨m, hm⟩ : ∃ m : Nat, (i + j) % 5 = m := ⟨_, rfl⟩
          have em : ((i : Int) + (j : Int)) % 5 = (m : Int) := by omega
          have hm5 : m < 5 := by omega
          have hm5' : (m : Int) < 5 := by omega
          have hx := HA.out i hlt
          have hy := HB.out j hlt2
          obtain ⟨p, hp⟩ : ∃ p : Nat, A i * B j = p := ⟨_, rfl⟩
          have hpb : p ≤ 9007199254740992 := by
            rw [← hp]; exact Nat.mul_le_mul (show A i ≤ 134217728 by omega) (show B j ≤ 67108864 by omega)
          have hpw : IntKind.u64.wrap (((A i : Nat) : Int) * ((B j : Nat) : Int)) = (p : Int) := by
            rw [← Int.natCast_mul, hp, IntWalk.u64_in _ ⟨by omega, by omega⟩]
          have hst := times_step T A B i j hlt hlt2 hT
          rw [hm, hp] at hst
          have hTm := hb m hm5
          have hTw : T m + p * tk i j ≤ (5 * i + (j + 1)) * 72057594037927936 ∧ T m + p * tk i j < 18446744073709551616 ∧ T m ≤ 1801439850948198400 := by
            have : tk i j ≤ 5 := by unfold tk; split <;> omega
            have h2 : p * tk i j ≤ 9007199254740992 * 5 := Nat.mul_le_mul hpb this
            omega
          have hd2 : Blk (wr.setCell ⟨g + 3, m, none⟩ (.int .u64 ((T m + p * tk i j : Nat) : Int))) (g + 3) 74 (nr .u64 5 (fun q => if q = m then T q + p * tk i j else T q)) := by
            have hh := hD.setCell m (.int .u64 ((T m + p * tk i j : Nat) : Int))
            rw [nr_set] at hh
            rw [nr_congr .u64 5 (fun q => if q = m then T q + p * tk i j else T q) (fun q => if q = m then T m + p * tk i j else T q) ?_]
            · exact hh
            · intro q _
              show (if q = m then T q + p * tk i j else T q) = if q = m then T m + p * tk i j else T q
              by_cases h1 : q = m
              · subst h1; rfl
              · rw [if_neg h1, if_neg h1]
          have cd := hD.cell (nr_at .u64 5 T m hm5)
          have fd := hD.frozen m
          have hfin : Hid (∀ n : Nat, ∃ T' : Nat → Nat, V5 T' % pP = sp A B i (j + 1) % pP ∧ (∀ q, q < 5 → T' q ≤ (5 * i + (j + 1)) * 72057594037927936) ∧ Blk ((wr.drewN n).setCell ⟨g + 3, m, none⟩ (.int .u64 ((T m + p * tk i j : Nat) : Int))) g 74 (nr .u64 5 A) ∧ Blk ((wr.drewN n).setCell ⟨g + 3, m, none⟩ (.int .u64 ((T m + p * tk i j : Nat) : Int))) (g + 1) 74 (nr .u64 5 B) ∧ Blk ((wr.drewN n).setCell ⟨g + 3, m, none⟩ (.int .u64 ((T m + p * tk i j : Nat) : Int))) (g + 2) 74 Z ∧ Blk ((wr.drewN n).setCell ⟨g + 3, m, none⟩ (.int .u64 ((T m + p * tk i j : Nat) : Int))) (g + 3) 74 (nr .u64 5 T') ∧ Below g w ((wr.drewN n).setCell ⟨g + 3, m, none⟩ (.int .u64 ((T m + p * tk i j : Nat) : Int)))) := by
            intro n
            refine ⟨_, hst, ?_, (hA.drewN n).setOther (by omega) _ _, (hB.drewN n).setOther (by omega) _ _, (hC.drewN n).setOther (by omega) _ _, hd2, (below_drewN hl n).setCell (by show g ≤ g + 3; omega) _⟩
            intro q hq
            show (if q = m then T q + p * tk i j else T q) ≤ _
            have := hb q hq
            by_cases h1 : q = m
            · subst h1; rw [if_pos rfl]; exact hTw.1
            · rw [if_neg h1]; exact Nat.le_trans this (Nat.mul_le_mul_right _ (by omega))
          clear hst hT hb hA hB hC hD hl hd2 hm hp
          obtain ⟨_, hw2, hw3⟩ := hTw
          generalize A i = x at *
          generalize B j = y at *
          generalize T m = t at *
          by_cases h5 : 5 ≤ i + j
          · rw [show tk i j = 5 from if_pos h5] at hfin hw2
            have h5' : (5 : Int) ≤ (i : Int) + (j : Int) := by omega
            go_wp2_with fail
            go_quiet (fail)
            go_wp2_with fail
            obtain ⟨T', h1, h2, h3, h4, h6, h7, h8⟩ := hfin.out nq
            exact ⟨⟨j + 1, T', by omega, by go_num, h1, h2, h3, h4, h6, h7, h8⟩, by simp [intOf]; omega⟩
          · rw [show tk i j = 1 from if_neg h5] at hfin hw2
            have h5' : ¬ (5 : Int) ≤ (i : Int) + (j : Int) := by omega
            rw [Nat.mul_one] at hfin hw2
            go_wp2_with fail
            go_quiet (fail)
            go_wp2_with fail
            obtain ⟨T', h1, h2, h3, h4, h6, h7, h8⟩ := hfin.out nq
            exact ⟨⟨j + 1, T', by omega, by go_num, h1, h2, h3, h4, h6, h7, h8⟩, by simp [intOf]; omega⟩
        · have hj5 : j = 5 := by omega
          subst hj5
          rw [show ((5 : Nat) : Int) = (5 : Int) from rfl]
          rw [sp_row] at hT
          have HT : Hid (V5 T % pP = sp A B (i + 1) 0 % pP) := hT
          have Hb : Hid (∀ m, m < 5 → T m ≤ (5 * i + 5) * 72057594037927936) := hb
          clear hT hb
          go_wp2_with fail
          exact ⟨⟨i + 1, T, by omega, by go_num, HT.out, Hb.out, hA, hB, hC, hD, hl⟩, by simp [intOf]; omega⟩
    · have hi5 : i = 5 := by omega
      subst hi5
      rw [show ((5 : Nat) : Int) = (5 : Int) from rfl]
      rw [sp_done] at hT
      have HF : Hid (∃ T' : Nat → Nat, nr .u64 5 T = nr .u64 5 T' ∧ (V5 T' % pP = V5 A * V5 B % pP) ∧ (∀ m, m < 5 → T' m ≤ 1801439850948198400)) := ⟨T, rfl, hT, hb⟩
      obtain ⟨U, hU⟩ : ∃ U, nr .u64 5 T = U := ⟨_, rfl⟩
      have hUl : U.length = 5 := by rw [← hU, nr_length]
      have hUo : ∀ v ∈ U, v.oneCell' = true := by rw [← hU]; exact nr_one _ _ _
      rw [hU] at hD HF
      have hR := load74 (hC.setRow (M := U)) hUl
      have hl' : Below g w (wr.setRow (g + 2) U.toArray) := below_setRow hl (by omega) _
      clear hA hB hl hU hT hb HA HB
      go_wp2_with (first | (refine wpList_load_blk rfl 74 _ rfl (g + 3) rfl 74 U _ hD Try.underlying74 rfl (by rw [Try.size74, hUl]) ?_) | (refine wpList_store_blk rfl 74 _ _ rfl (g + 2) Z U rfl rfl 74 hC (by rw [Try.size74, hUl]) (by rw [hZs, hUl]) hUo ?_))
      obtain ⟨T', e1, e2, e3⟩ := HF.out
      refine bodyPost_ret_by (v := .agg U.toArray) (results_cell 4 74 ⟨g + 2, 0, none⟩ Try.results44 rfl hR) rfl ⟨T', by rw [e1], e2, e3, ?_⟩
      rw [HG.out]; exact hl'
end Go.Proofs.Ytnpebabffnjmmaa
