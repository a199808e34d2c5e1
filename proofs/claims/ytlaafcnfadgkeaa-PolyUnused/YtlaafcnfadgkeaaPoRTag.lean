/- What the document's tag of a text is. -/
import Derived.Test.YtlaafcnfadgkeaaPoSum
import Derived.Test.YtlaafcnfadgkeaaPoRProd
namespace Go.Proofs.Ytlaafcnfadgkeaa
open Go.RowKit Go.PlainAid
set_option linter.unusedVariables false

theorem str_index (s : ByteArray) (i : Nat) (h : i < s.size) (w : World) : (Instr.index 9 (.string s) (.int .i64 (i : Int))).run Try.prog w = .ok (.int .u8 ((bn s i : Nat) : Int)) w := by
  rw [run_index_string w 9 s .i64 (i : Int) Try.underlying9, dif_pos ⟨by omega, by omega⟩, bn_int]
  unfold bt
  rw [dif_pos h]
  simp
theorem Try.info5' : (Try.prog.info? 5).map (fun i => (i.zero, i.size, i.bytes)) = some (some (.int .u8 0), 1, 1) := by kernel_rfl

theorem refSum_shape (key s : ByteArray) (hk : key.size ≤ maxLen) (h : key.size ≠ 32) (w : World) :
    Calls Try.prog 13 #[.string key, .string s] w fun e w' => e = .returned (.tuple #[.string ⟨#[]⟩, .int .i64 7]) ∧ w' = w := by
  unfold maxLen at hk
  have hI : (((key.size : Nat) : Int) != 32) = true := by simp; omega
  go_enter Try.func13, Try.ntmps13
  go_wp2_with fail
  go_ret2
  exact ⟨rfl, rfl⟩

set_option maxHeartbeats 2000000 in
set_option maxRecDepth 20000 in
theorem refSum_ok (key s : ByteArray) (hk : key.size = 32) (hs : s.size ≤ 65536) (w : World) :
    Calls Try.prog 13 #[.string key, .string s] w fun e w' => e = .returned (.tuple #[.string (tagB key s), .int .i64 0]) ∧ Below w.heap.size w w' := by
  have hzr := zero48_run
  obtain ⟨Z, hZ⟩ : ∃ Z, nr .i64 17 (fun _ => 0) = Z := ⟨_, rfl⟩
  rw [hZ] at hzr
  have lZ : Z.length = 17 := by rw [← hZ, nr_length]
  have HZ : Hid (nr .i64 17 (fun _ => 0) = Z) := hZ
  clear hZ
  have hI : (((key.size : Nat) : Int) != 32) = false := by simp; omega
  have hL : ¬ ((65536 : Int) < ((s.size : Nat) : Int)) := by omega
  obtain ⟨K1, hK1⟩ : ∃ K1, key.extract 0 16 = K1 := ⟨_, rfl⟩
  have s1 : K1.size = 16 := by rw [← hK1, ByteArray.size_extract]; omega
  have hrk : nt (clB K1) = rk key := by rw [← hK1]; rfl
  have c1 := fun w => refClamp_ok K1 s1 w
  have hQs := clB_size K1
  have HK : Hid (key.size = 32) := hk
  have HK2 : Hid (∀ i, i < 16 → bn key (16 + i) = dg 8 (sk key) i) := fun i hi => by
    unfold sk
    rw [dg_nt]
    unfold bn; rw [bt_cut key 16 32 i (by omega) (by omega)]
  have HT : Hid (tagB key s = leB (pac (rk key) s ((s.size + 15) / 16) + sk key) 16) := rfl
  have hrb := rk_lt key
  have HQ : Hid (∀ i, dg 8 (rk key) i = bn (clB K1) i) := fun i => by rw [← hrk, dg_nt]
  generalize rk key = r at *
  generalize sk key = a2 at *
  generalize clB K1 = Q1 at *
  have hkl : 32 ≤ key.size := by omega
  have hkr : key.size ≤ 32 := by omega
  clear hk hrk
  go_enter Try.func13, Try.ntmps13
  go_wp2_with fail
  refine (c1 _).mono ?_
  rintro e w1 ⟨rfl, hb1⟩
  have hA0 : Blk ((w1.alloc (.cells Z.toArray 48)).alloc (.cells Z.toArray 48)) w1.heap.size 48 Z := (Blk.box w1 48 Z).alloc _
  have hB0 : Blk ((w1.alloc (.cells Z.toArray 48)).alloc (.cells Z.toArray 48)) (w1.heap.size + 1) 48 Z := by
    have := Blk.box (w1.alloc (.cells Z.toArray 48)) 48 Z
    simpa using this
  have hl0 : Below w.heap.size w ((w1.alloc (.cells Z.toArray 48)).alloc (.cells Z.toArray 48)) := (hb1.alloc hb1.size _).alloc (by have := hb1.size; simp; omega) _
  have hgs := hb1.size
  clear hb1 c1
  go_wp2_with fail
  generalize (w1.alloc (.cells Z.toArray 48)).alloc (.cells Z.toArray 48) = w0 at hA0 hB0 hl0 ⊢
  obtain ⟨B, hBd⟩ : ∃ B, w.heap.size = B := ⟨_, rfl⟩
  rw [hBd] at hl0 hgs
  have HB : Hid (w.heap.size = B) := hBd
  clear hBd
  generalize w1.heap.size = g at *
  rw [← HZ.out] at hA0
  -- the factor
  go_loopw [10] (fun v wr => ∃ k : Nat, k ≤ 16 ∧ v = .int .i64 k ∧ Blk wr g 48 (nr .i64 17 (fun i => if i < k then bn Q1 i else 0)) ∧ Blk wr (g + 1) 48 Z ∧ Below B w wr) (fun v _ => (16 - intOf v).toNat)
  case atStart => exact ⟨0, by omega, rfl, hA0, hB0, hl0⟩
  case round =>
    clear hA0 hB0 hl0
    obtain ⟨k, hk, rfl, hA, hB, hl⟩ := hrel
    by_cases hlt : k < 16
    · have hlt' : (k : Int) < 16 := by omega
      have hix := str_index Q1 k (by omega)
      have hbq := bn_lt Q1 k
      have cn : wr.cell? ⟨g, k, none⟩ = some (.int .i64 ((0 : Nat) : Int)) := by
        have := hA.cell (nr_at .i64 17 _ k (by omega))
        rw [if_neg (by omega)] at this; exact this
      have fn := hA.frozen k
      have hA2 : Hid (Blk (wr.setCell ⟨g, k, none⟩ (.int .i64 ((bn Q1 k : Nat) : Int))) g 48 (nr .i64 17 (fun i => if i < k + 1 then bn Q1 i else 0))) := by
        have hh := hA.setCell k (.int .i64 ((bn Q1 k : Nat) : Int))
        rw [nr_set] at hh
        rw [nr_congr .i64 17 (fun i => if i < k + 1 then bn Q1 i else 0) (fun i => if i = k then bn Q1 k else if i < k then bn Q1 i else 0) ?_]
        · exact hh
        · intro i _
          show (if i < k + 1 then bn Q1 i else 0) = if i = k then bn Q1 k else if i < k then bn Q1 i else 0
          by_cases h1 : i = k
          · subst h1; rw [if_pos (by omega), if_pos rfl]
          · rw [if_neg h1]
            by_cases h2 : i < k
            · rw [if_pos h2, if_pos (by omega)]
            · rw [if_neg h2, if_neg (by omega)]
      have hB2 : Hid (Blk (wr.setCell ⟨g, k, none⟩ (.int .i64 ((bn Q1 k : Nat) : Int))) (g + 1) 48 Z) := hB.setOther (by omega) k _
      have hl2 : Hid (Below B w (wr.setCell ⟨g, k, none⟩ (.int .i64 ((bn Q1 k : Nat) : Int)))) := hl.setCell hgs _
      clear hA hB hl
      generalize bn Q1 k = x at *
      have hbq' : x < 256 := hbq
      clear hbq
      go_wp2_with fail
      exact ⟨⟨k + 1, by omega, by go_num, hA2.out, hB2.out, hl2.out⟩, by simp [intOf]; omega⟩
    · have hk16 : k = 16 := by omega
      subst hk16
      rw [show ((16 : Nat) : Int) = 16 from rfl]
      obtain ⟨R, hR⟩ : ∃ R, nr .i64 17 (dg 8 r) = R := ⟨_, rfl⟩
      have hA' : Blk wr g 48 R := by
        rw [← hR, nr_congr .i64 17 (dg 8 r) (fun i => if i < 16 then bn Q1 i else 0) (fun i hi => ?_)]
        · exact hA
        · rw [HQ.out i]
          show bn Q1 i = if i < 16 then bn Q1 i else 0
          by_cases h1 : i < 16
          · rw [if_pos h1]
          · rw [if_neg h1]; unfold bn; rw [bt_out Q1 i (by omega)]; rfl
      have lR : R.length = 17 := by rw [← hR, nr_length]
      have HR : Hid (nr .i64 17 (dg 8 r) = R) := hR
      have hB' : Blk wr (g + 1) 48 (nr .i64 17 (dg 8 (pac r s 0))) := by
        rw [nr_congr .i64 17 (dg 8 (pac r s 0)) (fun _ => 0) (fun i _ => dg_zero 8 i), HZ.out]; exact hB
      clear hA hB hR HQ hQs
      go_wp2_with fail
      go_loopw [11] (fun v wr => ∃ k : Nat, k ≤ (s.size + 15) / 16 ∧ v = .int .i64 (16 * k) ∧ Blk wr g 48 R ∧ Blk wr (g + 1) 48 (nr .i64 17 (dg 8 (pac r s k))) ∧ Below B w wr) (fun v _ => (s.size + 15 - intOf v).toNat)
      case atStart => exact ⟨0, by omega, rfl, hA', hB', hl⟩
      case round =>
        clear hA' hB' hl
        obtain ⟨k, hk, rfl, hA, hB, hl⟩ := hrel
        by_cases hlt : 16 * k < s.size
        · have hlt' : 16 * (k : Int) < ((s.size : Nat) : Int) := by omega
          obtain ⟨n, hn⟩ : ∃ n, min (16 * k + 16) s.size - 16 * k = n := ⟨_, rfl⟩
          have hn1 : n ≤ 16 := by omega
          have hn2 : 16 * k + n ≤ s.size := by omega
          have hn3 : n < 16 → 16 * k + n = s.size := by omega
          have hTs : (ckT s k).size = n + 1 := by rw [ckT_size, hn]
          have hTb : Hid (∀ i, i < n → bn (ckT s k) i = bn s (16 * k + i)) := fun i hi => by
            unfold bn ckT
            rw [bt_left _ _ _ (by rw [ckB_size, hn]; exact hi)]
            unfold ckB
            rw [bt_cut s _ _ i (by omega) (by omega)]
          have hT1 : Hid (bn (ckT s k) n = 1) := by
            unfold bn ckT
            rw [bt_right _ _ _ (by rw [ckB_size, hn]; exact Nat.le_refl _), ckB_size, hn, Nat.sub_self]
            exact rfl
          have hT0 : Hid (∀ i, n < i → bn (ckT s k) i = 0) := fun i hi => by
            unfold bn
            rw [bt_out _ i (by omega)]; rfl
          have hNb := ckN_pP s k
          have hdN : Hid (∀ i, dg 8 (ckN s k) i = bn (ckT s k) i) := fun i => by unfold ckN; rw [dg_nt]
          obtain ⟨C, hC⟩ : ∃ C : Nat → Nat, bn (ckT s k) = C := ⟨_, rfl⟩
          rw [hC] at hTb hT1 hT0 hdN
          clear hC hTs hn
          have hD0 : Blk (wr.alloc (.cells Z.toArray 48)) wr.heap.size 48 Z := Blk.box wr 48 Z
          have hA0 : Blk (wr.alloc (.cells Z.toArray 48)) g 48 R := hA.alloc _
          have hB0 : Blk (wr.alloc (.cells Z.toArray 48)) (g + 1) 48 (nr .i64 17 (dg 8 (pac r s k))) := hB.alloc _
          have hg1 := hB.lt
          have hl0 : Below B w (wr.alloc (.cells Z.toArray 48)) := hl.alloc (by omega) _
          clear hA hB hl
          go_wp2_with fail
          generalize wr.alloc (.cells Z.toArray 48) = w3 at hA0 hB0 hD0 hl0 ⊢
          generalize wr.heap.size = h at *
          rw [← HZ.out] at hD0
          go_loopw [13] (fun v wi => ∃ q : Nat, q ≤ n ∧ v = .int .i64 q ∧ Blk wi g 48 R ∧ Blk wi (g + 1) 48 (nr .i64 17 (dg 8 (pac r s k))) ∧ Blk wi h 48 (nr .i64 17 (fun i => if i < q then C i else 0)) ∧ Below B w wi) (fun v _ => (16 - intOf v).toNat)
          case atStart => exact ⟨0, by omega, rfl, hA0, hB0, hD0, hl0⟩
          case round =>
            clear hA0 hB0 hD0 hl0
            obtain ⟨q, hq, rfl, hA, hB, hD, hl⟩ := hrel
            by_cases hqn : q < n
            · have q1 : (q : Int) < 16 := by omega
              have q2 : 16 * (k : Int) + (q : Int) < ((s.size : Nat) : Int) := by omega
              have hix0 := str_index s (16 * k + q) (by omega)
              rw [← hTb.out q hqn] at hix0
              have hix : ∀ w, (Instr.index 9 (.string s) (.int .i64 (16 * (k : Int) + (q : Int)))).run Try.prog w = .ok (.int .u8 ((C q : Nat) : Int)) w := hix0
              clear hix0
              have hbc : C q < 256 := by rw [hTb.out q hqn]; exact bn_lt s _
              have cn : wr.cell? ⟨h, q, none⟩ = some (.int .i64 ((0 : Nat) : Int)) := by
                have := hD.cell (nr_at .i64 17 _ q (by omega))
                rw [if_neg (by omega)] at this; exact this
              have fn := hD.frozen q
              have hD2 : Hid (Blk (wr.setCell ⟨h, q, none⟩ (.int .i64 ((C q : Nat) : Int))) h 48 (nr .i64 17 (fun i => if i < q + 1 then C i else 0))) := by
                have hh := hD.setCell q (.int .i64 ((C q : Nat) : Int))
                rw [nr_set] at hh
                rw [nr_congr .i64 17 (fun i => if i < q + 1 then C i else 0) (fun i => if i = q then C q else if i < q then C i else 0) ?_]
                · exact hh
                · intro i _
                  show (if i < q + 1 then C i else 0) = if i = q then C q else if i < q then C i else 0
                  by_cases h1 : i = q
                  · subst h1; rw [if_pos (by omega), if_pos rfl]
                  · rw [if_neg h1]
                    by_cases h2 : i < q
                    · rw [if_pos h2, if_pos (by omega)]
                    · rw [if_neg h2, if_neg (by omega)]
              have hA2 : Hid (Blk (wr.setCell ⟨h, q, none⟩ (.int .i64 ((C q : Nat) : Int))) g 48 R) := hA.setOther (by omega) q _
              have hB2 : Hid (Blk (wr.setCell ⟨h, q, none⟩ (.int .i64 ((C q : Nat) : Int))) (g + 1) 48 (nr .i64 17 (dg 8 (pac r s k)))) := hB.setOther (by omega) q _
              have hl2 : Hid (Below B w (wr.setCell ⟨h, q, none⟩ (.int .i64 ((C q : Nat) : Int)))) := hl.setCell (by show B ≤ h; omega) _
              clear hA hB hD hl
              generalize C q = x at *
              go_wp2_with fail
              exact ⟨⟨q + 1, by omega, by go_num, hA2.out, hB2.out, hD2.out, hl2.out⟩, by simp [intOf]; omega⟩
            · have hqe : q = n := by omega
              subst hqe
              have bA := pac_lt r s k
              have c1 := fun w => rsum_any (pac r s k) (ckN s k) bA hNb w
              have c2 := fun w => rprod_any ((pac r s k + ckN s k) % pP) r (Nat.mod_lt _ pP_pos) (Nat.lt_trans hrb (by decide)) w
              rw [← pac_mod, HR.out] at c2
              obtain ⟨U, hU⟩ : ∃ U, nr .i64 17 (dg 8 (pac r s k)) = U := ⟨_, rfl⟩
              obtain ⟨X, hX⟩ : ∃ X, nr .i64 17 (dg 8 (ckN s k)) = X := ⟨_, rfl⟩
              obtain ⟨V, hV⟩ : ∃ V, nr .i64 17 (dg 8 ((pac r s k + ckN s k) % pP)) = V := ⟨_, rfl⟩
              obtain ⟨W, hW⟩ : ∃ W, nr .i64 17 (dg 8 (pac r s (k + 1))) = W := ⟨_, rfl⟩
              have lU : U.length = 17 := by rw [← hU, nr_length]
              have lX : X.length = 17 := by rw [← hX, nr_length]
              have lV : V.length = 17 := by rw [← hV, nr_length]
              have lW : W.length = 17 := by rw [← hW, nr_length]
              have oV : ∀ v ∈ V, v.oneCell' = true := by rw [← hV]; exact nr_one _ _ _
              have oW : ∀ v ∈ W, v.oneCell' = true := by rw [← hW]; exact nr_one _ _ _
              have HW : Hid (nr .i64 17 (dg 8 (pac r s (k + 1))) = W) := hW
              have cn : wr.cell? ⟨h, q, none⟩ = some (.int .i64 ((0 : Nat) : Int)) := by
                have := hD.cell (nr_at .i64 17 _ q (by omega))
                rw [if_neg (by omega)] at this; exact this
              have fn := hD.frozen q
              have hD1 : Blk (wr.setCell ⟨h, q, none⟩ (.int .i64 1)) h 48 X := by
                have hh := hD.setCell q (.int .i64 ((1 : Nat) : Int))
                rw [nr_set] at hh
                rw [← hX, nr_congr .i64 17 (dg 8 (ckN s k)) (fun i => if i = q then 1 else if i < q then C i else 0) ?_]
                · exact hh
                · intro i _
                  rw [hdN.out i]
                  show C i = if i = q then 1 else if i < q then C i else 0
                  by_cases h1 : i = q
                  · rw [if_pos h1, h1]; exact hT1.out
                  · rw [if_neg h1]
                    by_cases h2 : i < q
                    · rw [if_pos h2]
                    · rw [if_neg h2]; exact hT0.out i (by omega)
              have hA1 : Blk (wr.setCell ⟨h, q, none⟩ (.int .i64 1)) g 48 R := hA.setOther (by omega) q _
              have hB1 : Blk (wr.setCell ⟨h, q, none⟩ (.int .i64 1)) (g + 1) 48 U := by rw [← hU]; exact hB.setOther (by omega) q _
              have hl1 : Below B w (wr.setCell ⟨h, q, none⟩ (.int .i64 1)) := hl.setCell (by show B ≤ h; omega) _
              rw [hU, hX, hV] at c1
              rw [hV, hW] at c2
              clear hA hB hD hl hU hX hV hW bA hNb hdN hT0 hT1 hTb hq hqn
              by_cases h16 : q < 16
              · have q1 : (q : Int) < 16 := by omega
                have q2 : ¬ (16 * (k : Int) + (q : Int) < ((s.size : Nat) : Int)) := by have := hn3 h16; omega
                have q3 : (q : Int) < 17 := by omega
                clear hn3
                go_wp2_with (first | (refine wpList_load_blk rfl 48 _ rfl (g + 1) rfl 48 U _ hB1 Try.underlying48 rfl (by rw [Try.size48, lU]) ?_) | (refine wpList_load_blk rfl 48 _ rfl h rfl 48 X _ hD1 Try.underlying48 rfl (by rw [Try.size48, lX]) ?_))
                clear cn fn
                generalize wr.setCell ⟨h, q, none⟩ (.int .i64 1) = w4 at hA1 hB1 hD1 hl1 ⊢
                refine (c1 w4).mono ?_
                rintro e w5 ⟨rfl, hb5⟩
                have hA5 := hA1.below hb5 hA1.lt
                have hB5 := hB1.below hb5 hB1.lt
                have hl5 := hl1.trans (hb5.mono (show B ≤ w4.heap.size by have := hA1.lt; omega))
                have hA6 : Blk (w5.setRow (g + 1) V.toArray) g 48 R := hA5.setRowOther (by omega) _
                have hB6 : Blk (w5.setRow (g + 1) V.toArray) (g + 1) 48 V := hB5.setRow
                have hl6 : Below B w (w5.setRow (g + 1) V.toArray) := below_setRow hl5 (by omega) _
                clear hA1 hB1 hD1 hl1 hb5 c1 hA5 hl5
                go_wp2_with (first | (refine wpList_store_blk rfl 48 _ _ rfl (g + 1) U V rfl rfl 48 hB5 (by rw [Try.size48, lV]) (by rw [lU, lV]) oV ?_) | (refine wpList_load_blk rfl 48 _ rfl (g + 1) rfl 48 V _ hB6 Try.underlying48 rfl (by rw [Try.size48, lV]) ?_) | (refine wpList_load_blk rfl 48 _ rfl g rfl 48 R _ hA6 Try.underlying48 rfl (by rw [Try.size48, lR]) ?_))
                clear hB5
                generalize w5.setRow (g + 1) V.toArray = w6 at hA6 hB6 hl6 ⊢
                refine (c2 w6).mono ?_
                rintro e w7 ⟨rfl, hb7⟩
                have hA7 := hA6.below hb7 hA6.lt
                have hB7 := hB6.below hb7 hB6.lt
                have hl7 := hl6.trans (hb7.mono (show B ≤ w6.heap.size by have := hA6.lt; omega))
                have hA8 : Blk (w7.setRow (g + 1) W.toArray) g 48 R := hA7.setRowOther (by omega) _
                have hB8 : Blk (w7.setRow (g + 1) W.toArray) (g + 1) 48 W := hB7.setRow
                have hl8 : Below B w (w7.setRow (g + 1) W.toArray) := below_setRow hl7 (by omega) _
                clear hA6 hB6 hl6 hb7 c2 hA7 hl7
                go_wp2_with (refine wpList_store_blk rfl 48 _ _ rfl (g + 1) V W rfl rfl 48 hB7 (by rw [Try.size48, lW]) (by rw [lV, lW]) oW ?_)
                exact ⟨⟨k + 1, by omega, by congr 1, hA8, by rw [HW.out]; exact hB8, hl8⟩, by simp [intOf]; omega⟩
              · have q16 : q = 16 := by omega
                subst q16
                rw [show ((16 : Nat) : Int) = 16 from rfl]
                clear hn3
                go_wp2_with (first | (refine wpList_load_blk rfl 48 _ rfl (g + 1) rfl 48 U _ hB1 Try.underlying48 rfl (by rw [Try.size48, lU]) ?_) | (refine wpList_load_blk rfl 48 _ rfl h rfl 48 X _ hD1 Try.underlying48 rfl (by rw [Try.size48, lX]) ?_))
                clear cn fn
                generalize wr.setCell ⟨h, 16, none⟩ (.int .i64 1) = w4 at hA1 hB1 hD1 hl1 ⊢
                refine (c1 w4).mono ?_
                rintro e w5 ⟨rfl, hb5⟩
                have hA5 := hA1.below hb5 hA1.lt
                have hB5 := hB1.below hb5 hB1.lt
                have hl5 := hl1.trans (hb5.mono (show B ≤ w4.heap.size by have := hA1.lt; omega))
                have hA6 : Blk (w5.setRow (g + 1) V.toArray) g 48 R := hA5.setRowOther (by omega) _
                have hB6 : Blk (w5.setRow (g + 1) V.toArray) (g + 1) 48 V := hB5.setRow
                have hl6 : Below B w (w5.setRow (g + 1) V.toArray) := below_setRow hl5 (by omega) _
                clear hA1 hB1 hD1 hl1 hb5 c1 hA5 hl5
                go_wp2_with (first | (refine wpList_store_blk rfl 48 _ _ rfl (g + 1) U V rfl rfl 48 hB5 (by rw [Try.size48, lV]) (by rw [lU, lV]) oV ?_) | (refine wpList_load_blk rfl 48 _ rfl (g + 1) rfl 48 V _ hB6 Try.underlying48 rfl (by rw [Try.size48, lV]) ?_) | (refine wpList_load_blk rfl 48 _ rfl g rfl 48 R _ hA6 Try.underlying48 rfl (by rw [Try.size48, lR]) ?_))
                clear hB5
                generalize w5.setRow (g + 1) V.toArray = w6 at hA6 hB6 hl6 ⊢
                refine (c2 w6).mono ?_
                rintro e w7 ⟨rfl, hb7⟩
                have hA7 := hA6.below hb7 hA6.lt
                have hB7 := hB6.below hb7 hB6.lt
                have hl7 := hl6.trans (hb7.mono (show B ≤ w6.heap.size by have := hA6.lt; omega))
                have hA8 : Blk (w7.setRow (g + 1) W.toArray) g 48 R := hA7.setRowOther (by omega) _
                have hB8 : Blk (w7.setRow (g + 1) W.toArray) (g + 1) 48 W := hB7.setRow
                have hl8 : Below B w (w7.setRow (g + 1) W.toArray) := below_setRow hl7 (by omega) _
                clear hA6 hB6 hl6 hb7 c2 hA7 hl7
                go_wp2_with (refine wpList_store_blk rfl 48 _ _ rfl (g + 1) V W rfl rfl 48 hB7 (by rw [Try.size48, lW]) (by rw [lV, lW]) oW ?_)
                exact ⟨⟨k + 1, by omega, by congr 1, hA8, by rw [HW.out]; exact hB8, hl8⟩, by simp [intOf]; omega⟩
        · have hke : (s.size + 15) / 16 = k := by omega
          have hlt' : ¬ (16 * (k : Int) < ((s.size : Nat) : Int)) := by omega
          rw [hke] at HT
          obtain ⟨A, hAd⟩ : ∃ A, pac r s k = A := ⟨_, rfl⟩
          rw [hAd] at hB HT
          obtain ⟨i0, hi, hz0, hz1, hz2⟩ := info_parts Try.info5'
          have HE : Hid (leB (A + a2) 16 = tagB key s) := HT.out.symm
          have hg1 := hB.lt
          have hlB : Hid (Below B w wr) := hl
          clear hA hAd hke HT HR hzr HZ
          go_wp2_with fail
          rename World => w4
          obtain ⟨H, hHd⟩ : ∃ H, w4.heap.size = H := ⟨_, rfl⟩
          rw [hHd] at hg1
          go_loopw [14, 15, 16] (fun o c v wr => ∃ q : Nat, q ≤ 16 ∧ v = .int .i64 q ∧ c = .int .i64 ((cy 8 A a2 q : Nat) : Int) ∧ wr.ownsRow H 5 1 o q ((leL (A + a2) q).map (Value.int .u8)) ∧ Below H w4 wr) (fun _ _ v _ => (16 - intOf v).toNat)
          case atStart => exact ⟨0, by omega, rfl, by rw [cy_zero]; rfl, World.ownsRow_nil _ _ _ _, Below.refl _ _⟩
          case round =>
            obtain ⟨q, hq, rfl, rfl, hown, hbel⟩ := hrel
            by_cases hlt2 : q < 16
            · have q1 : (q : Int) < 16 := by omega
              have ca := (hB.below hbel hg1).cell (nr_at .i64 17 (dg 8 A) q (by omega))
              have hix0 := str_index key (16 + q) (by omega)
              rw [HK2.out q hlt2] at hix0
              have hix : ∀ w, (Instr.index 9 (.string key) (.int .i64 (16 + (q : Int)))).run Try.prog w = .ok (.int .u8 ((dg 8 a2 q : Nat) : Int)) w := hix0
              clear hix0
              have b0 := dg_lt 8 A q
              have b1 := dg_lt 8 a2 q
              have b2 := cy_le 8 A a2 q
              have e1 := dg_add 8 A a2 q
              have e2 := cy_succ 8 A a2 q
              rw [show (2 : Nat) ^ 8 = 256 from rfl] at b0 b1 e1 e2
              have hLL : (leL (A + a2) (q + 1)).map (Value.int .u8) = (leL (A + a2) q).map (Value.int .u8) ++ [.int .u8 ((dg 8 (A + a2) q : Nat) : Int)] := by
                unfold leL
                rw [List.range_succ]; simp
              have HL : Hid ((leL (A + a2) (q + 1)).map (Value.int .u8) = (leL (A + a2) q).map (Value.int .u8) ++ [.int .u8 ((dg 8 (A + a2) q : Nat) : Int)]) := hLL
              clear hLL
              obtain ⟨c1, hc1⟩ : ∃ c1, cy 8 A a2 (q + 1) = c1 := ⟨_, rfl⟩
              rw [hc1] at e2
              have HC1 : Hid (((cy 8 A a2 (q + 1) : Nat) : Int) = (c1 : Int)) := by rw [hc1]; exact rfl
              have hsz := hbel.size
              rw [hHd] at hsz
              clear hc1
              generalize dg 8 (A + a2) q = z at *
              generalize dg 8 A q = x at *
              generalize dg 8 a2 q = y at *
              generalize cy 8 A a2 q = c at *
              have e1' : ((c : Int) + (x : Int) + (y : Int)) % 256 = (z : Int) := by omega
              have e2' : ((c : Int) + (x : Int) + (y : Int)) / 256 = (c1 : Int) := by omega
              have hz : (z : Int) < 256 := by omega
              clear e1 e2
              go_wp2_with fail
              go_quiet (fail)
              go_wp2_with (at_builtin; refine wpList_append_own _ rfl _ _ 26 rfl H 5 i0 (.int .u8 0) 1 1 Try.underlying26 hi hz0 hz1 hz2 rfl (by decide) _ _ _ rfl (World.ownsRow.alloc (w := wr.drewN nq) hown _) ⟨wr.heap.size, 0, none⟩ 1 1 [.int .u8 (z : Int)] rfl rfl ?c1 ?c2 ?c3 ?c4 ?c5 ?_)
              case c1 =>
                intro j u hj
                match j, hj with
                | 0, hj => simp at hj; subst hj; simp only [Addr.add]; exact (Blk.new (wr.drewN nq) 5 #[.int .u8 (z : Int)]).cell rfl
              case c2 => intro u hu; simp at hu; subst hu; rfl
              case c3 => unfold maxLen; omega
              case c4 => omega
              case c5 => simp; omega
              · intro v' w6 hown' hgrow _
                have hbel' : Below H w4 w6 := by
                  refine Below.grown ((below_drewN' hbel nq).alloc (by show H ≤ wr.heap.size; omega) _) hgrow (by simp; omega) ?_
                  intro g hg; exact (hown.lt g hg).1
                have R' : w6.ownsRow H 5 1 v' (q + 1) ((leL (A + a2) (q + 1)).map (Value.int .u8)) := by
                  rw [HL.out]; exact hown'
                clear hown' hgrow hown hbel ca
                go_wp2_with fail
                exact ⟨⟨q + 1, by omega, by go_num, by rw [HC1.out, e2'], R', hbel'⟩, by simp [intOf]; omega⟩
            · have hq16 : q = 16 := by omega
              subst hq16
              rw [show ((16 : Nat) : Int) = 16 from rfl]
              have hcv := convert_owned hown (by simp [leL])
              rw [show strOfNums (leL (A + a2) 16) = leB (A + a2) 16 from rfl] at hcv
              generalize leB (A + a2) 16 = G at *
              have hgl : B ≤ H := by omega
              go_wp2_with fail
              go_ret2
              refine ⟨by rw [← HE.out]; rfl, ?_⟩
              rw [HB.out]
              exact hlB.out.trans (hbel.mono hgl)
end Go.Proofs.Ytlaafcnfadgkeaa
