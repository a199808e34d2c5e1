/- What the document leaves of a number when the modulus is taken away as often as it may be. -/
import Derived.Test.YtlaafcnfadgkeaaPoRBelow
namespace Go.Proofs.Ytlaafcnfadgkeaa
open Go.RowKit Go.PlainAid
set_option linter.unusedVariables false

theorem pP_dg (k : Nat) (hk : k < 17) : dg 8 pP k = if k = 0 then 251 else if k = 16 then 3 else 255 := by
  by_cases h0 : k = 0
  · rw [if_pos h0, h0, pP_lo]
  · rw [if_neg h0]
    by_cases h1 : k = 16
    · rw [if_pos h1, h1, pP_hi]
    · rw [if_neg h1, pP_mid k (by omega) (by omega)]

set_option maxHeartbeats 1000000 in
set_option maxRecDepth 20000 in
theorem less_any (N : Nat) (hN : N < 2 * pP) (w : World) :
    Calls Try.prog 26 #[.agg (nr .i64 17 (dg 8 N)).toArray] w fun e w' => e = .returned (.agg (nr .i64 17 (dg 8 (N % pP))).toArray) ∧ Below w.heap.size w w' := by
  have hzr := zero48_run
  obtain ⟨Z, hZ⟩ : ∃ Z, nr .i64 17 (fun _ => 0) = Z := ⟨_, rfl⟩
  obtain ⟨Y, hY⟩ : ∃ Y, nr .i64 17 (dg 8 N) = Y := ⟨_, rfl⟩
  rw [hZ] at hzr
  rw [hY]
  have lZ : Z.length = 17 := by rw [← hZ, nr_length]
  have HY : Hid (nr .i64 17 (dg 8 N) = Y) := hY
  clear hY hZ
  have hA0 : Blk ((w.alloc (.cells Y.toArray 48)).alloc (.cells Z.toArray 48)) w.heap.size 48 Y := (Blk.box w 48 Y).alloc _
  have hB0 : Blk ((w.alloc (.cells Y.toArray 48)).alloc (.cells Z.toArray 48)) (w.heap.size + 1) 48 Z := by
    have := Blk.box (w.alloc (.cells Y.toArray 48)) 48 Z
    simpa using this
  have hl0 : Below w.heap.size w ((w.alloc (.cells Y.toArray 48)).alloc (.cells Z.toArray 48)) := ((Below.refl _ w).alloc (Nat.le_refl _) _).alloc (by simp) _
  have HN : Hid (N < 2 * pP) := hN
  clear hN
  go_enter Try.func26, Try.ntmps26
  go_wp2_with fail
  generalize (w.alloc (.cells Y.toArray 48)).alloc (.cells Z.toArray 48) = w0 at hA0 hB0 hl0 ⊢
  obtain ⟨g, hgd⟩ : ∃ g, w.heap.size = g := ⟨_, rfl⟩
  rw [hgd] at hA0 hB0 hl0 ⊢
  have HG : Hid (w.heap.size = g) := hgd
  clear hgd hzr
  rw [← HY.out] at hA0
  clear HY
  go_loopw [3] (fun v wr => ∃ i M : Nat, i ≤ 1 ∧ v = .int .i64 i ∧ M + i * pP = N ∧ Blk wr g 48 (nr .i64 17 (dg 8 M)) ∧ Blk wr (g + 1) 48 Z ∧ Below g w wr) (fun v _ => (64 - intOf v).toNat)
  case atStart => exact ⟨0, N, by omega, rfl, by omega, hA0, hB0, hl0⟩
  case round =>
    clear hA0 hB0 hl0
    obtain ⟨i, M, hi, rfl, hM, hA, hB, hl⟩ := hrel
    have hi' : (i : Int) < 64 := by omega
    have HM : Hid (M + i * pP = N) := hM
    have hMb : M < 2 ^ 136 := by
      have := HN.out
      rw [pP] at this
      rw [show (2 : Nat) ^ 136 = 87112285931760246646623899502532662132736 from by decide]
      have : M ≤ N := by omega
      omega
    have hcall := fun w => below_any M hMb w
    clear hM hMb
    obtain ⟨U, hU⟩ : ∃ U, nr .i64 17 (dg 8 M) = U := ⟨_, rfl⟩
    have lU : U.length = 17 := by rw [← hU, nr_length]
    have oU : ∀ v ∈ U, v.oneCell' = true := by rw [← hU]; exact nr_one _ _ _
    have HU : Hid (nr .i64 17 (dg 8 M) = U) := hU
    rw [hU] at hA hcall
    clear hU
    go_wp2_with (refine wpList_load_blk rfl 48 _ rfl g rfl 48 U _ hA Try.underlying48 rfl (by rw [Try.size48, lU]) ?_)
    refine (hcall wr).mono ?_
    rintro e w1 ⟨rfl, hb1⟩
    have hgr : g ≤ wr.heap.size := Nat.le_of_lt hA.lt
    have hA1 := hA.below hb1 hA.lt
    have hB1 := hB.below hb1 hB.lt
    have hl1 := hl.trans (hb1.mono hgr)
    clear hcall hA hB hl hb1
    by_cases hlt : M < pP
    · rw [decide_eq_true hlt]
      have HR : Hid (nr .i64 17 (dg 8 (N % pP)) = U) := by
        have e : N % pP = M := by rw [← HM.out, Nat.add_mul_mod_self_right, Nat.mod_eq_of_lt hlt]
        rw [e]; exact HU.out
      have hR := load48 (hB1.setRow (M := U)) lU
      have hl' : Below g w (w1.setRow (g + 1) U.toArray) := below_setRow hl1 (by omega) _
      clear hlt HM HN
      go_wp2_with (first | (refine wpList_load_blk rfl 48 _ rfl g rfl 48 U _ hA1 Try.underlying48 rfl (by rw [Try.size48, lU]) ?_) | (refine wpList_store_blk rfl 48 _ _ rfl (g + 1) Z U rfl rfl 48 hB1 (by rw [Try.size48, lU]) (by rw [lZ, lU]) oU ?_))
      refine bodyPost_ret_by (v := .agg U.toArray) (results_cell 2 48 ⟨g + 1, 0, none⟩ Try.results26 rfl hR) rfl ⟨by rw [HR.out], ?_⟩
      rw [HG.out]; exact hl'
    · rw [decide_eq_false hlt]
      have hi0 : i = 0 := by
        have h1 := HM.out
        have h2 := HN.out
        rcases Nat.lt_or_ge i 1 with h | h
        · omega
        · have : i = 1 := by omega
          subst this
          omega
      subst hi0
      obtain ⟨D, hD⟩ : ∃ D, M = D + pP := ⟨M - pP, by omega⟩
      have HD : Hid (D + 1 * pP = N) := by
        have := HM.out
        show _ = _
        rw [← this, hD]; omega
      have HS : Hid (∀ k, dg 8 D k + dg 8 pP k + cy 8 D pP k = dg 8 M k + 256 * cy 8 D pP (k + 1)) := fun k => by
        obtain ⟨c, rfl, h⟩ := dg_sub 8 D pP k
        rw [hD]; exact h
      rw [← HU.out] at hA1
      clear hlt HM HN HU hD lU oU
      rw [show ((0 : Nat) : Int) = 0 from rfl]
      go_wp2_with fail
      go_loopw [5, 6] (fun b v wr => ∃ k : Nat, k ≤ 17 ∧ v = .int .i64 k ∧ b = .int .i64 ((cy 8 D pP k : Nat) : Int) ∧ Blk wr g 48 (nr .i64 17 (fun i => if i < k then dg 8 D i else dg 8 M i)) ∧ Blk wr (g + 1) 48 Z ∧ Below g w wr) (fun _ v _ => (17 - intOf v).toNat)
      case atStart => exact ⟨0, by omega, rfl, by rw [cy_zero]; rfl, hA1, hB1, hl1⟩
      case round =>
        clear hA1 hB1 hl1
        obtain ⟨k, hk, rfl, rfl, hA, hB, hl⟩ := hrel
        by_cases hlt : k < 17
        · have hlt' : (k : Int) < 17 := by omega
          have cn : wr.cell? ⟨g, k, none⟩ = some (.int .i64 ((dg 8 M k : Nat) : Int)) := by
            have := hA.cell (nr_at .i64 17 _ k hlt)
            rw [if_neg (by omega)] at this; exact this
          have fn := hA.frozen k
          have hst := HS.out k
          rw [pP_dg k hlt] at hst
          have b0 := dg_lt 8 M k
          have b1 := dg_lt 8 D k
          have b2 := cy_le 8 D pP k
          have b3 := cy_le 8 D pP (k + 1)
          rw [show (2 : Nat) ^ 8 = 256 from rfl] at b0 b1
          have hB2 : Hid (Blk (wr.setCell ⟨g, k, none⟩ (.int .i64 ((dg 8 D k : Nat) : Int))) g 48 (nr .i64 17 (fun i => if i < k + 1 then dg 8 D i else dg 8 M i))) := by
            have hh := hA.setCell k (.int .i64 ((dg 8 D k : Nat) : Int))
            rw [nr_set] at hh
            rw [nr_congr .i64 17 (fun i => if i < k + 1 then dg 8 D i else dg 8 M i) (fun i => if i = k then dg 8 D k else if i < k then dg 8 D i else dg 8 M i) ?_]
            · exact hh
            · intro i _
              show (if i < k + 1 then dg 8 D i else dg 8 M i) = if i = k then dg 8 D k else if i < k then dg 8 D i else dg 8 M i
              by_cases h1 : i = k
              · subst h1; rw [if_pos (by omega), if_pos rfl]
              · rw [if_neg h1]
                by_cases h2 : i < k
                · rw [if_pos h2, if_pos (by omega)]
                · rw [if_neg h2, if_neg (by omega)]
          have hC2 : Hid (Blk (wr.setCell ⟨g, k, none⟩ (.int .i64 ((dg 8 D k : Nat) : Int))) (g + 1) 48 Z) := hB.setOther (by omega) k _
          have hl2 : Hid (Below g w (wr.setCell ⟨g, k, none⟩ (.int .i64 ((dg 8 D k : Nat) : Int)))) := hl.setCell (Nat.le_refl _) _
          have HC : ∃ c1, cy 8 D pP (k + 1) = c1 := ⟨_, rfl⟩
          obtain ⟨c1, hc1⟩ := HC
          rw [hc1] at hst b3
          have HC1 : Hid (((cy 8 D pP (k + 1) : Nat) : Int) = (c1 : Int)) := by rw [hc1]; exact rfl
          clear hA hB hl hc1
          generalize dg 8 M k = x at *
          generalize dg 8 D k = z at *
          generalize cy 8 D pP k = y at *
          have hc01 : c1 = 0 ∨ c1 = 1 := by omega
          by_cases hk0 : k = 0
          · subst hk0
            rw [if_pos rfl] at hst
            rw [show ((0 : Nat) : Int) = 0 from rfl]
            rcases hc01 with h | h
            · subst h
              have hd : (x : Int) - 251 - (y : Int) = (z : Int) := by omega
              have hn : ((x : Int) - 251 - (y : Int) < 0) = False := by simp; omega
              have hn2 : ((z : Int) < 0) = False := by simp
              go_wp2_with fail
              exact ⟨⟨0 + 1, by omega, by rfl, by rw [HC1.out]; rfl, hB2.out, hC2.out, hl2.out⟩, by simp [intOf]⟩
            · subst h
              have hd : (x : Int) - 251 - (y : Int) = (z : Int) - 256 := by omega
              have hn : ((x : Int) - 251 - (y : Int) < 0) = True := by simp; omega
              have hn2 : ((z : Int) - 256 < 0) = True := by simp; omega
              go_wp2_with fail
              exact ⟨⟨0 + 1, by omega, by rfl, by rw [HC1.out]; rfl, hB2.out, hC2.out, hl2.out⟩, by simp [intOf]⟩
          · rw [if_neg hk0] at hst
            have hk0' : ((k : Int) == 0) = false := by simp; omega
            by_cases hk1 : k = 16
            · subst hk1
              rw [if_pos rfl] at hst
              rw [show ((16 : Nat) : Int) = 16 from rfl]
              rcases hc01 with h | h
              · subst h
                have hd : (x : Int) - 3 - (y : Int) = (z : Int) := by omega
                have hn : ((x : Int) - 3 - (y : Int) < 0) = False := by simp; omega
                have hn2 : ((z : Int) < 0) = False := by simp
                go_wp2_with fail
                exact ⟨⟨16 + 1, by omega, by rfl, by rw [HC1.out]; rfl, hB2.out, hC2.out, hl2.out⟩, by simp [intOf]⟩
              · subst h
                have hd : (x : Int) - 3 - (y : Int) = (z : Int) - 256 := by omega
                have hn : ((x : Int) - 3 - (y : Int) < 0) = True := by simp; omega
                have hn2 : ((z : Int) - 256 < 0) = True := by simp; omega
                go_wp2_with fail
                exact ⟨⟨16 + 1, by omega, by rfl, by rw [HC1.out]; rfl, hB2.out, hC2.out, hl2.out⟩, by simp [intOf]⟩
            · rw [if_neg hk1] at hst
              have hk1' : ((k : Int) == 16) = false := by simp; omega
              rcases hc01 with h | h
              · subst h
                have hd : (x : Int) - 255 - (y : Int) = (z : Int) := by omega
                have hn : ((x : Int) - 255 - (y : Int) < 0) = False := by simp; omega
                have hn2 : ((z : Int) < 0) = False := by simp
                go_wp2_with fail
                exact ⟨⟨k + 1, by omega, by go_num, by rw [HC1.out]; rfl, hB2.out, hC2.out, hl2.out⟩, by simp [intOf]; omega⟩
              · subst h
                have hd : (x : Int) - 255 - (y : Int) = (z : Int) - 256 := by omega
                have hn : ((x : Int) - 255 - (y : Int) < 0) = True := by simp; omega
                have hn2 : ((z : Int) - 256 < 0) = True := by simp; omega
                go_wp2_with fail
                exact ⟨⟨k + 1, by omega, by go_num, by rw [HC1.out]; rfl, hB2.out, hC2.out, hl2.out⟩, by simp [intOf]; omega⟩
        · have hk17 : k = 17 := by omega
          subst hk17
          rw [show ((17 : Nat) : Int) = 17 from rfl]
          have hA' : Blk wr g 48 (nr .i64 17 (dg 8 D)) := by
            rw [nr_congr .i64 17 (dg 8 D) (fun i => if i < 17 then dg 8 D i else dg 8 M i) (fun i hi => by rw [if_pos hi])]; exact hA
          clear hA HS
          go_wp2_with fail
          exact ⟨⟨1, D, by omega, rfl, HD.out, hA', hB, hl⟩, by simp [intOf]⟩
end Go.Proofs.Ytlaafcnfadgkeaa
