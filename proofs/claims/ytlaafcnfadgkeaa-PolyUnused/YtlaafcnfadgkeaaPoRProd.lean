/- What the document's product of two numbers is, by the modulus: by the bits of the second one. -/
import Derived.Test.YtlaafcnfadgkeaaPoRSum
namespace Go.Proofs.Ytlaafcnfadgkeaa
open Go.RowKit Go.PlainAid
set_option linter.unusedVariables false

/-- The bit m of the byte k. -/
theorem bit_dg (B k m : Nat) (hm : m < 8) : dg 8 B k / 2 ^ m % 2 = B / 2 ^ (8 * k + m) % 2 := by
  have h := dg_test 8 B k m
  rw [decide_eq_true hm, Bool.true_and, Nat.testBit_eq_decide_div_mod_eq, Nat.testBit_eq_decide_div_mod_eq] at h
  have h1 : dg 8 B k / 2 ^ m % 2 < 2 := Nat.mod_lt _ (by omega)
  have h2 : B / 2 ^ (8 * k + m) % 2 < 2 := Nat.mod_lt _ (by omega)
  have h3 := decide_eq_decide.1 h
  omega
theorem half_step (B e : Nat) : B / 2 ^ e = 2 * (B / 2 ^ (e + 1)) + B / 2 ^ e % 2 := by
  rw [Nat.pow_succ, ← Nat.div_div_eq_div_mul]; omega
/-- One bit more of the product. -/
theorem prod_step0 (A B e O : Nat) (hO : O = A * (B / 2 ^ (e + 1)) % pP) (hb : B / 2 ^ e % 2 = 0) : (O + O) % pP = A * (B / 2 ^ e) % pP := by
  rw [half_step B e, hb, hO, ← Nat.add_mod]
  generalize B / 2 ^ (e + 1) = C
  rw [Nat.add_zero, Nat.mul_left_comm, Nat.two_mul]
theorem prod_step1 (A B e O : Nat) (hO : O = A * (B / 2 ^ (e + 1)) % pP) (hb : B / 2 ^ e % 2 = 1) : ((O + O) % pP + A) % pP = A * (B / 2 ^ e) % pP := by
  rw [half_step B e, hb, hO, ← Nat.add_mod, Nat.mod_add_mod]
  generalize B / 2 ^ (e + 1) = C
  rw [Nat.mul_add, Nat.mul_left_comm, Nat.two_mul, Nat.mul_one]
theorem pow_half (i : Nat) (hi : i < 8) : 128 / 2 ^ i = 2 ^ (7 - i) := by
  have h : i = 0 ∨ i = 1 ∨ i = 2 ∨ i = 3 ∨ i = 4 ∨ i = 5 ∨ i = 6 ∨ i = 7 := by omega
  rcases h with rfl | rfl | rfl | rfl | rfl | rfl | rfl | rfl <;> rfl

set_option maxHeartbeats 2000000 in
set_option maxRecDepth 20000 in
theorem rprod_any (A B : Nat) (hA : A < pP) (hB : B < 2 ^ 136) (w : World) :
    Calls Try.prog 21 #[.agg (nr .i64 17 (dg 8 A)).toArray, .agg (nr .i64 17 (dg 8 B)).toArray] w fun e w' => e = .returned (.agg (nr .i64 17 (dg 8 (A * B % pP))).toArray) ∧ Below w.heap.size w w' := by
  have hzr := zero48_run
  obtain ⟨Z, hZ⟩ : ∃ Z, nr .i64 17 (fun _ => 0) = Z := ⟨_, rfl⟩
  obtain ⟨Y, hY⟩ : ∃ Y, nr .i64 17 (dg 8 A) = Y := ⟨_, rfl⟩
  obtain ⟨X, hX⟩ : ∃ X, nr .i64 17 (dg 8 B) = X := ⟨_, rfl⟩
  rw [hZ] at hzr
  rw [hY, hX]
  have lZ : Z.length = 17 := by rw [← hZ, nr_length]
  have lY : Y.length = 17 := by rw [← hY, nr_length]
  have HY : Hid (nr .i64 17 (dg 8 A) = Y) := hY
  have HX : Hid (nr .i64 17 (dg 8 B) = X) := hX
  have HZ : Hid (nr .i64 17 (dg 8 (A * (B / 2 ^ (8 * 17)) % pP)) = Z) := by
    rw [← hZ, Nat.div_eq_of_lt (by simpa using hB), Nat.mul_zero, Nat.zero_mod]
    exact nr_congr _ _ _ _ (fun i _ => dg_zero 8 i)
  have HA : Hid (A < pP) := hA
  clear hY hZ hX hA hB
  have hA0 : Blk ((((w.alloc (.cells Y.toArray 48)).alloc (.cells X.toArray 48)).alloc (.cells Z.toArray 48)).alloc (.cells Z.toArray 48)) w.heap.size 48 Y := (((Blk.box w 48 Y).alloc _).alloc _).alloc _
  have hB0 : Blk ((((w.alloc (.cells Y.toArray 48)).alloc (.cells X.toArray 48)).alloc (.cells Z.toArray 48)).alloc (.cells Z.toArray 48)) (w.heap.size + 1) 48 X := by
    have := ((Blk.box (w.alloc (.cells Y.toArray 48)) 48 X).alloc (.cells Z.toArray 48)).alloc (.cells Z.toArray 48)
    simpa using this
  have hC0 : Blk ((((w.alloc (.cells Y.toArray 48)).alloc (.cells X.toArray 48)).alloc (.cells Z.toArray 48)).alloc (.cells Z.toArray 48)) (w.heap.size + 2) 48 Z := by
    have := (Blk.box ((w.alloc (.cells Y.toArray 48)).alloc (.cells X.toArray 48)) 48 Z).alloc (.cells Z.toArray 48)
    simpa using this
  have hD0 : Blk ((((w.alloc (.cells Y.toArray 48)).alloc (.cells X.toArray 48)).alloc (.cells Z.toArray 48)).alloc (.cells Z.toArray 48)) (w.heap.size + 3) 48 Z := by
    have := Blk.box (((w.alloc (.cells Y.toArray 48)).alloc (.cells X.toArray 48)).alloc (.cells Z.toArray 48)) 48 Z
    simpa using this
  have hl0 : Below w.heap.size w ((((w.alloc (.cells Y.toArray 48)).alloc (.cells X.toArray 48)).alloc (.cells Z.toArray 48)).alloc (.cells Z.toArray 48)) := ((((Below.refl _ w).alloc (Nat.le_refl _) _).alloc (by simp) _).alloc (by simp; omega) _).alloc (by simp; omega) _
  go_enter Try.func21, Try.ntmps21
  go_wp2_with fail
  generalize (((w.alloc (.cells Y.toArray 48)).alloc (.cells X.toArray 48)).alloc (.cells Z.toArray 48)).alloc (.cells Z.toArray 48) = w0 at hA0 hB0 hC0 hD0 hl0 ⊢
  obtain ⟨g, hgd⟩ : ∃ g, w.heap.size = g := ⟨_, rfl⟩
  rw [hgd] at hA0 hB0 hC0 hD0 hl0 ⊢
  have HG : Hid (w.heap.size = g) := hgd
  clear hgd hzr
  rw [← HX.out] at hB0
  rw [← HZ.out] at hD0
  clear HX HZ
  have cY := fun (w : World) (O : Nat) (h : O < pP) => rsum_any O A h HA.out w
  rw [HY.out] at cY
  have CY : Hid (∀ (w : World) (O : Nat), O < pP → Calls Try.prog 20 #[.agg (nr .i64 17 (dg 8 O)).toArray, .agg Y.toArray] w fun e w' => e = .returned (.agg (nr .i64 17 (dg 8 ((O + A) % pP))).toArray) ∧ Below w.heap.size w w') := cY
  clear HY cY
  go_loopw [6] (fun v wr => ∃ k : Nat, k ≤ 17 ∧ v = .int .i64 ((k : Int) - 1) ∧ Blk wr g 48 Y ∧ Blk wr (g + 1) 48 (nr .i64 17 (dg 8 B)) ∧ Blk wr (g + 2) 48 Z ∧ Blk wr (g + 3) 48 (nr .i64 17 (dg 8 (A * (B / 2 ^ (8 * k)) % pP))) ∧ Below g w wr) (fun v _ => (1 + intOf v).toNat)
  case atStart => exact ⟨17, by omega, rfl, hA0, hB0, hC0, hD0, hl0⟩
  case round =>
    clear hA0 hB0 hC0 hD0 hl0
    obtain ⟨k1, hk, rfl, hA, hB, hC, hD, hl⟩ := hrel
    by_cases hlt : 1 ≤ k1
    · obtain ⟨k, rfl⟩ : ∃ k, k1 = k + 1 := ⟨k1 - 1, by omega⟩
      have hk0 : (0 : Int) ≤ ((k + 1 : Nat) : Int) - 1 := by omega
      have ek : ((k + 1 : Nat) : Int) - 1 = (k : Int) := by omega
      rw [ek]
      clear ek hk0
      have hk' : (k : Int) < 17 := by omega
      have HD : Hid (Blk wr (g + 3) 48 (nr .i64 17 (dg 8 (A * (B / 2 ^ (8 * (k + 1))) % pP)))) := hD
      clear hD
      go_wp2_with fail
      go_loopw [7, 8] (fun p v wr => ∃ i : Nat, i ≤ 8 ∧ v = .int .i64 i ∧ p = .int .i64 ((128 / 2 ^ i : Nat) : Int) ∧ Blk wr g 48 Y ∧ Blk wr (g + 1) 48 (nr .i64 17 (dg 8 B)) ∧ Blk wr (g + 2) 48 Z ∧ Blk wr (g + 3) 48 (nr .i64 17 (dg 8 (A * (B / 2 ^ (8 * k + (8 - i))) % pP))) ∧ Below g w wr) (fun _ v _ => (8 - intOf v).toNat)
      case atStart => exact ⟨0, by omega, rfl, rfl, hA, hB, hC, HD.out, hl⟩
      case round =>
        clear hA hB hC HD hl
        obtain ⟨i, hi, rfl, rfl, hA, hB, hC, hD, hl⟩ := hrel
        by_cases hlt2 : i < 8
        · have hi' : (i : Int) < 8 := by omega
          obtain ⟨e, he⟩ : ∃ e, 8 * k + (8 - i) = e + 1 := ⟨8 * k + (7 - i), by omega⟩
          have he' : 8 * k + (7 - i) = e := by omega
          have he2 : 8 * k + (8 - (i + 1)) = e := by omega
          obtain ⟨O, hO⟩ : ∃ O, A * (B / 2 ^ (e + 1)) % pP = O := ⟨_, rfl⟩
          have hOb : O < pP := by rw [← hO]; exact Nat.mod_lt _ pP_pos
          rw [he, hO] at hD
          have hbit := bit_dg B k (7 - i) (by omega)
          rw [he'] at hbit
          have hp := pow_half i hlt2
          have HP : Hid (128 / 2 ^ (i + 1) = 128 / 2 ^ i / 2) := by rw [Nat.pow_succ, ← Nat.div_div_eq_div_mul]; exact rfl
          have hp0 : 1 ≤ 2 ^ (7 - i) := Nat.pow_pos (by omega)
          have hp1 : 2 ^ (7 - i) ≤ 2 ^ 7 := Nat.pow_le_pow_right (by omega) (by omega)
          rw [← hp] at hbit hp0 hp1
          rw [show (2 : Nat) ^ 7 = 128 from rfl] at hp1
          have bB := dg_lt 8 B k
          rw [show (2 : Nat) ^ 8 = 256 from rfl] at bB
          have c1 := fun w => rsum_any O O hOb hOb w
          have c2 := fun w => CY.out w ((O + O) % pP) (Nat.mod_lt _ pP_pos)
          have cb : ∀ w', Below wr.heap.size wr w' → ∀ M : Array Value, (w'.setRow (g + 3) M).cell? ⟨g + 1, k, none⟩ = some (.int .i64 ((dg 8 B k : Nat) : Int)) := fun w' hb M => ((hB.below hb hB.lt).setRowOther (by omega) M).cell (nr_at .i64 17 (dg 8 B) k (by omega))
          have HF0 : Hid (B / 2 ^ e % 2 = 0 → nr .i64 17 (dg 8 ((O + O) % pP)) = nr .i64 17 (dg 8 (A * (B / 2 ^ (8 * k + (8 - (i + 1)))) % pP))) := fun h => by rw [he2, prod_step0 A B e O hO.symm h]
          have HF1 : Hid (B / 2 ^ e % 2 = 1 → nr .i64 17 (dg 8 (((O + O) % pP + A) % pP)) = nr .i64 17 (dg 8 (A * (B / 2 ^ (8 * k + (8 - (i + 1)))) % pP))) := fun h => by rw [he2, prod_step1 A B e O hO.symm h]
          obtain ⟨U, hU⟩ : ∃ U, nr .i64 17 (dg 8 O) = U := ⟨_, rfl⟩
          obtain ⟨V, hV⟩ : ∃ V, nr .i64 17 (dg 8 ((O + O) % pP)) = V := ⟨_, rfl⟩
          obtain ⟨T, hT⟩ : ∃ T, nr .i64 17 (dg 8 (((O + O) % pP + A) % pP)) = T := ⟨_, rfl⟩
          have lU : U.length = 17 := by rw [← hU, nr_length]
          have lV : V.length = 17 := by rw [← hV, nr_length]
          have lT : T.length = 17 := by rw [← hT, nr_length]
          have oV : ∀ v ∈ V, v.oneCell' = true := by rw [← hV]; exact nr_one _ _ _
          have oT : ∀ v ∈ T, v.oneCell' = true := by rw [← hT]; exact nr_one _ _ _
          rw [hU, hV] at c1
          rw [hV, hT] at c2
          rw [hV] at HF0
          rw [hT] at HF1
          rw [hU] at hD
          have hgr : g ≤ wr.heap.size := Nat.le_of_lt hA.lt
          have hb2 : B / 2 ^ e % 2 = 0 ∨ B / 2 ^ e % 2 = 1 := by omega
          clear hU hV hT hO hOb he he' he2 hp
          generalize B / 2 ^ e % 2 = bit at *
          generalize dg 8 B k = x at *
          obtain ⟨p, hpd⟩ : ∃ p, 128 / 2 ^ i = p := ⟨_, rfl⟩
          rw [hpd] at hbit hp0 hp1 HP ⊢
          clear hpd
          obtain ⟨q, hq⟩ : ∃ q, x / p = q := ⟨_, rfl⟩
          have hqI : (x : Int) / (p : Int) = (q : Int) := by rw [← hq]; simp
          have hq1 : q < 256 := by rw [← hq]; exact Nat.lt_of_le_of_lt (Nat.div_le_self _ _) bB
          rw [hq] at hbit
          have hbI : (q : Int) % 2 = (bit : Int) := by omega
          clear hq
          go_wp2_with (refine wpList_load_blk rfl 48 _ rfl (g + 3) rfl 48 U _ hD Try.underlying48 rfl (by rw [Try.size48, lU]) ?_)
          refine (c1 wr).mono ?_
          rintro e' w1 ⟨rfl, hb1⟩
          have hx := cb w1 hb1 V.toArray
          have hA1 := (hA.below hb1 hA.lt).setRowOther (show g ≠ g + 3 by omega) V.toArray
          have hB1 := (hB.below hb1 hB.lt).setRowOther (show g + 1 ≠ g + 3 by omega) V.toArray
          have hC1 := (hC.below hb1 hC.lt).setRowOther (show g + 2 ≠ g + 3 by omega) V.toArray
          have hD1 := hD.below hb1 hD.lt
          have hD2 := hD1.setRow (M := V)
          have hl1 : Below g w (w1.setRow (g + 3) V.toArray) := below_setRow (hl.trans (hb1.mono hgr)) (by omega) _
          clear cb c1 hA hB hC hD hl hb1
          rcases hb2 with h0 | h1
          · subst h0
            have hF := HF0.out rfl
            have HFF : Hid (Blk (w1.setRow (g + 3) V.toArray) (g + 3) 48 (nr .i64 17 (dg 8 (A * (B / 2 ^ (8 * k + (8 - (i + 1)))) % pP)))) := by rw [← hF]; exact hD2
            clear hF HF0 HF1 hD2 c2 hbit
            rw [show ((0 : Nat) : Int) = 0 from rfl] at hbI
            go_wp2_with (refine wpList_store_blk rfl 48 _ _ rfl (g + 3) U V rfl rfl 48 hD1 (by rw [Try.size48, lV]) (by rw [lU, lV]) oV ?_)
            exact ⟨⟨i + 1, by omega, by go_num, by rw [HP.out]; rfl, hA1, hB1, hC1, HFF.out, hl1⟩, by simp [intOf]; omega⟩
          · subst h1
            have hF := HF1.out rfl
            rw [show ((1 : Nat) : Int) = 1 from rfl] at hbI
            clear HF0 HF1 hbit
            go_wp2_with (first | (refine wpList_store_blk rfl 48 _ _ rfl (g + 3) U V rfl rfl 48 hD1 (by rw [Try.size48, lV]) (by rw [lU, lV]) oV ?_) | (refine wpList_load_blk rfl 48 _ rfl (g + 3) rfl 48 V _ hD2 Try.underlying48 rfl (by rw [Try.size48, lV]) ?_) | (refine wpList_load_blk rfl 48 _ rfl g rfl 48 Y _ hA1 Try.underlying48 rfl (by rw [Try.size48, lY]) ?_))
            generalize w1.setRow (g + 3) V.toArray = w2 at *
            refine (c2 w2).mono ?_
            rintro e' w3 ⟨rfl, hb3⟩
            have hgr2 : g ≤ w2.heap.size := Nat.le_of_lt hA1.lt
            have hA3 := (hA1.below hb3 hA1.lt).setRowOther (show g ≠ g + 3 by omega) T.toArray
            have hB3 := (hB1.below hb3 hB1.lt).setRowOther (show g + 1 ≠ g + 3 by omega) T.toArray
            have hC3 := (hC1.below hb3 hC1.lt).setRowOther (show g + 2 ≠ g + 3 by omega) T.toArray
            have hD3 := hD2.below hb3 hD2.lt
            have HFF : Hid (Blk (w3.setRow (g + 3) T.toArray) (g + 3) 48 (nr .i64 17 (dg 8 (A * (B / 2 ^ (8 * k + (8 - (i + 1)))) % pP)))) := by rw [← hF]; exact hD3.setRow
            have hl3 : Below g w (w3.setRow (g + 3) T.toArray) := below_setRow (hl1.trans (hb3.mono hgr2)) (by omega) _
            clear c2 hA1 hB1 hC1 hD1 hD2 hl1 hb3 hx hF
            go_wp2_with (refine wpList_store_blk rfl 48 _ _ rfl (g + 3) V T rfl rfl 48 hD3 (by rw [Try.size48, lT]) (by rw [lV, lT]) oT ?_)
            exact ⟨⟨i + 1, by omega, by go_num, by rw [HP.out]; rfl, hA3, hB3, hC3, HFF.out, hl3⟩, by simp [intOf]; omega⟩
        · have hi8 : i = 8 := by omega
          subst hi8
          rw [show ((8 : Nat) : Int) = 8 from rfl]
          have HD : Hid (Blk wr (g + 3) 48 (nr .i64 17 (dg 8 (A * (B / 2 ^ (8 * k)) % pP)))) := hD
          clear hD
          go_wp2_with fail
          exact ⟨⟨k, by omega, rfl, hA, hB, hC, HD.out, hl⟩, by simp [intOf]; omega⟩
    · have hk0 : k1 = 0 := by omega
      subst hk0
      rw [show ((0 : Nat) : Int) - 1 = -1 from rfl]
      obtain ⟨U, hU⟩ : ∃ U, nr .i64 17 (dg 8 (A * B % pP)) = U := ⟨_, rfl⟩
      have hD' : Blk wr (g + 3) 48 U := by
        rw [← hU]
        have := hD
        rw [Nat.mul_zero, Nat.pow_zero, Nat.div_one] at this
        exact this
      have lU : U.length = 17 := by rw [← hU, nr_length]
      have oU : ∀ v ∈ U, v.oneCell' = true := by rw [← hU]; exact nr_one _ _ _
      have HU : Hid (nr .i64 17 (dg 8 (A * B % pP)) = U) := hU
      have hR := load48 (hC.setRow (M := U)) lU
      have hl' : Below g w (wr.setRow (g + 2) U.toArray) := below_setRow hl (by omega) _
      clear hA hB hD hl hU CY HA
      go_wp2_with (first | (refine wpList_load_blk rfl 48 _ rfl (g + 3) rfl 48 U _ hD' Try.underlying48 rfl (by rw [Try.size48, lU]) ?_) | (refine wpList_store_blk rfl 48 _ _ rfl (g + 2) Z U rfl rfl 48 hC (by rw [Try.size48, lU]) (by rw [lZ, lU]) oU ?_))
      refine bodyPost_ret_by (v := .agg U.toArray) (results_cell 4 48 ⟨g + 2, 0, none⟩ Try.results21 rfl hR) rfl ⟨by rw [HU.out], ?_⟩
      rw [HG.out]; exact hl'
end Go.Proofs.Ytlaafcnfadgkeaa
