/- What one round of the program answers: a quarter for each column. -/
import Derived.Test.YtnpebabffnjmmaaOrd
import Derived.Test.YtnpebabffnjmmaaChArr
namespace Go.Proofs.Ytnpebabffnjmmaa
open Go.RowKit Go.PlainAid
set_option linter.unusedVariables false

set_option maxHeartbeats 1000000 in
set_option maxRecDepth 20000 in
theorem turn16_any (S : Nat → Int) (n : Nat) (hn : n ≤ 1) (w : World) :
    Calls Try.prog 40 #[.agg (ws 16 S).toArray, .int .i64 (n : Int)] w fun e w' => e = .returned (.agg (ws 16 (rq S n 4)).toArray) ∧ Below w.heap.size w w' := by
  have hzr := zero45_run
  obtain ⟨Z, hZ⟩ : ∃ Z, ws 16 (fun _ => 0) = Z := ⟨_, rfl⟩
  obtain ⟨Y, hY⟩ : ∃ Y, ws 16 S = Y := ⟨_, rfl⟩
  rw [hZ] at hzr
  rw [hY]
  have HY : Hid (ws 16 S = Y) := hY
  have HZ : Hid (ws 16 (fun _ => 0) = Z) := hZ
  clear hY hZ
  go_enter Try.func40, Try.ntmps40
  go_wp2_with fail
  have hA0 : Blk ((w.alloc (.cells Y.toArray 45)).alloc (.cells Z.toArray 45)) w.heap.size 45 (ws 16 (rq S n 0)) := by
    show Blk _ _ _ (ws 16 S)
    rw [HY.out]
    have := (Blk.new w 45 Y.toArray).alloc (.cells Z.toArray 45)
    simpa using this
  have hB0 : Blk ((w.alloc (.cells Y.toArray 45)).alloc (.cells Z.toArray 45)) (w.heap.size + 1) 45 (ws 16 (fun _ => 0)) := by
    rw [HZ.out]
    have := Blk.new (w.alloc (.cells Y.toArray 45)) 45 Z.toArray
    simpa using this
  have hl0 : Below w.heap.size w ((w.alloc (.cells Y.toArray 45)).alloc (.cells Z.toArray 45)) := ((Below.refl _ w).alloc (Nat.le_refl _) _).alloc (by simp) _
  clear hzr HZ HY
  generalize (w.alloc (.cells Y.toArray 45)).alloc (.cells Z.toArray 45) = w0 at hA0 hB0 hl0 ⊢
  obtain ⟨g, hgd⟩ : ∃ g, w.heap.size = g := ⟨_, rfl⟩
  rw [hgd] at hA0 hB0 hl0 ⊢
  have HG : Hid (w.heap.size = g) := hgd
  clear hgd
  go_loopw [9] (fun i wr => ∃ k : Nat, k ≤ 4 ∧ i = .int .i64 k ∧ Blk wr g 45 (ws 16 (rq S n k)) ∧ Blk wr (g + 1) 45 (ws 16 (fun _ => 0)) ∧ Below g w wr) (fun i _ => (4 - intOf i).toNat)
  case atStart => exact ⟨0, by omega, rfl, hA0, hB0, hl0⟩
  case round =>
    clear hA0 hB0 hl0
    obtain ⟨k, hk, rfl, hA, hB, hl⟩ := hrel
    by_cases hlt : k < 4
    · have hlt' : (k : Int) < 4 := by omega
      have hkI : (0 : Int) ≤ (k : Int) := by omega
      have hnI : (0 : Int) ≤ (n : Int) := by omega
      obtain ⟨b, hb⟩ : ∃ b : Nat, 4 + (k + n) % 4 = b := ⟨_, rfl⟩
      obtain ⟨c, hc⟩ : ∃ c : Nat, 8 + (k + 2 * n) % 4 = c := ⟨_, rfl⟩
      obtain ⟨d, hd⟩ : ∃ d : Nat, 12 + (k + 3 * n) % 4 = d := ⟨_, rfl⟩
      have eb : 4 + ((k : Int) + (n : Int)) % 4 = (b : Int) := by omega
      have ec : 8 + ((k : Int) + 2 * (n : Int)) % 4 = (c : Int) := by omega
      have ed : 12 + ((k : Int) + 3 * (n : Int)) % 4 = (d : Int) := by omega
      have k16 : k < 16 := by omega
      have b16 : b < 16 := by omega
      have c16 : c < 16 := by omega
      have d16 : d < 16 := by omega
      have hq : rq S n (k + 1) = qS (rq S n k) k b c d := by rw [rq, hb, hc, hd]
      have HQ : Hid (rq S n (k + 1) = qS (rq S n k) k b c d) := hq
      clear hb hc hd hq
      generalize rq S n k = R at hA HQ
      have ck := hA.cell (ws_at 16 R k k16)
      have cb := hA.cell (ws_at 16 R b b16)
      have cc := hA.cell (ws_at 16 R c c16)
      have cd := hA.cell (ws_at 16 R d d16)
      have k16' : (k : Int) < 16 := by omega
      have b16' : (b : Int) < 16 := by omega
      have c16' : (c : Int) < 16 := by omega
      have d16' : (d : Int) < 16 := by omega
      go_wp2_with fail
      have HS : (fun z : World => z.cell? ⟨g, k, none⟩ = some (.int .u32 (R k)) ∧ z.cell? ⟨g, b, none⟩ = some (.int .u32 (R b)) ∧ z.cell? ⟨g, c, none⟩ = some (.int .u32 (R c)) ∧ z.cell? ⟨g, d, none⟩ = some (.int .u32 (R d))) wr.drew := ⟨ck, cb, cc, cd⟩
      have hA1 := Blk.four hA.drew k b c d
      have hB1 : Blk ((((wr.drew.setCell ⟨g, k, none⟩ (.int .u32 (qa (R k) (R b) (R c) (R d)))).setCell ⟨g, b, none⟩ (.int .u32 (qb (R k) (R b) (R c) (R d)))).setCell ⟨g, c, none⟩ (.int .u32 (qc (R k) (R b) (R c) (R d)))).setCell ⟨g, d, none⟩ (.int .u32 (qd (R k) (R b) (R c) (R d)))) (g + 1) 45 (ws 16 (fun _ => 0)) := (((hB.drew.setOther (by omega) k _).setOther (by omega) b _).setOther (by omega) c _).setOther (by omega) d _
      have hl1 : Below g w ((((wr.drew.setCell ⟨g, k, none⟩ (.int .u32 (qa (R k) (R b) (R c) (R d)))).setCell ⟨g, b, none⟩ (.int .u32 (qb (R k) (R b) (R c) (R d)))).setCell ⟨g, c, none⟩ (.int .u32 (qc (R k) (R b) (R c) (R d)))).setCell ⟨g, d, none⟩ (.int .u32 (qd (R k) (R b) (R c) (R d)))) := (((hl.drew.setCell (Nat.le_refl _) _).setCell (Nat.le_refl _) _).setCell (Nat.le_refl _) _).setCell (Nat.le_refl _) _
      have s1 := hA.setCell k (.int .u32 (qa (R k) (R b) (R c) (R d)))
      have s2 := s1.setCell b (.int .u32 (qb (R k) (R b) (R c) (R d)))
      have s3 := s2.setCell c (.int .u32 (qc (R k) (R b) (R c) (R d)))
      have fz0 := hA.frozen k
      have fz1 := s1.frozen b
      have fz2 := s2.frozen c
      have fz3 := s3.frozen d
      obtain ⟨u1, hu1⟩ := s1.hasCell b (by simp [ws_length]; exact b16)
      obtain ⟨u2, hu2⟩ := s2.hasCell c (by simp [ws_length]; exact c16)
      obtain ⟨u3, hu3⟩ := s3.hasCell d (by simp [ws_length]; exact d16)
      clear s1 s2 s3
      have hqu := fun w => quarter_any (R k) (R b) (R c) (R d) w
      clear hA hB hl cb cc cd
      refine wp_region_noPanic ?_
      refine wp_region_C (c := 16) (S := fun z : World => z.cell? ⟨g, k, none⟩ = some (.int .u32 (R k)) ∧ z.cell? ⟨g, b, none⟩ = some (.int .u32 (R b)) ∧ z.cell? ⟨g, c, none⟩ = some (.int .u32 (R c)) ∧ z.cell? ⟨g, d, none⟩ = some (.int .u32 (R d))) (by kernel_rfl) ?_
      refine wpAnyC_takeT (i := 0) (v := ?_) rfl (by kernel_rfl) (by kernel_rfl) (by kernel_rfl) (by kernel_rfl) (fun _ _ _ h => h) (Or.inl ⟨by rfl, ?_⟩) (fun _ => HS) ?_
      rotate_left
      · intro w hSw; go_simp; try with_reducible rfl
      go_simp
      refine wpAnyC_takeT (i := 1) (v := ?_) rfl (by kernel_rfl) (by kernel_rfl) (by kernel_rfl) (by kernel_rfl) (fun _ _ _ h => h) (Or.inl ⟨by rfl, ?_⟩) (fun _ => HS) ?_
      rotate_left
      · intro w hSw; go_simp; try with_reducible rfl
      go_simp
      refine wpAnyC_takeT (i := 2) (v := ?_) rfl (by kernel_rfl) (by kernel_rfl) (by kernel_rfl) (by kernel_rfl) (fun _ _ _ h => h) (Or.inl ⟨by rfl, ?_⟩) (fun _ => HS) ?_
      rotate_left
      · intro w hSw; go_simp; try with_reducible rfl
      go_simp
      refine wpAnyC_takeT (i := 3) (v := ?_) rfl (by kernel_rfl) (by kernel_rfl) (by kernel_rfl) (by kernel_rfl) (fun _ _ _ h => h) (Or.inl ⟨by rfl, ?_⟩) (fun _ => HS) ?_
      rotate_left
      · intro w hSw; go_simp; try with_reducible rfl
      go_simp
      refine wpAnyC_takeT (i := 4) (v := ?_) rfl (by kernel_rfl) (by kernel_rfl) (by kernel_rfl) (by kernel_rfl) (fun _ _ _ h => h) (Or.inl ⟨by rfl, ?_⟩) (fun _ => HS) ?_
      rotate_left
      · intro w hSw; go_simp; try with_reducible rfl
      go_simp
      refine wpAnyC_takeT (i := 5) (v := ?_) rfl (by kernel_rfl) (by kernel_rfl) (by kernel_rfl) (by kernel_rfl) (fun _ _ _ h => h) (Or.inl ⟨by rfl, ?_⟩) (fun _ => HS) ?_
      rotate_left
      · intro w hSw; go_simp; try with_reducible rfl
      go_simp
      refine wpAnyC_takeT (i := 7) (v := ?_) rfl (by kernel_rfl) (by kernel_rfl) (by kernel_rfl) (by kernel_rfl) (fun _ _ _ h => h) (Or.inl ⟨by rfl, ?_⟩) (fun _ => HS) ?_
      rotate_left
      · intro w hSw; go_simp; try with_reducible rfl
      go_simp
      refine wpAnyC_takeT (i := 8) (v := ?_) rfl (by kernel_rfl) (by kernel_rfl) (by kernel_rfl) (by kernel_rfl) (fun _ _ _ h => h) (Or.inl ⟨by rfl, ?_⟩) (fun _ => HS) ?_
      rotate_left
      · intro w hSw; go_simp; try with_reducible rfl
      go_simp
      refine wpAnyC_takeT (i := 10) (v := ?_) rfl (by kernel_rfl) (by kernel_rfl) (by kernel_rfl) (by kernel_rfl) (fun _ _ _ h => h) (Or.inl ⟨by rfl, ?_⟩) (fun _ => HS) ?_
      rotate_left
      · intro w hSw; go_simp; try with_reducible rfl
      go_simp
      refine wpAnyC_takeT (i := 11) (v := ?_) rfl (by kernel_rfl) (by kernel_rfl) (by kernel_rfl) (by kernel_rfl) (fun _ _ _ h => h) (Or.inl ⟨by rfl, ?_⟩) (fun _ => HS) ?_
      rotate_left
      · intro w hSw; go_simp; try with_reducible rfl
      go_simp
      refine wpAnyC_takeT (i := 13) (v := ?_) rfl (by kernel_rfl) (by kernel_rfl) (by kernel_rfl) (by kernel_rfl) (fun _ _ _ h => h) (Or.inl ⟨by rfl, ?_⟩) (fun _ => HS) ?_
      rotate_left
      · intro w hSw; go_simp; try with_reducible rfl
      go_simp
      refine wpAnyC_takeT (i := 14) (v := ?_) rfl (by kernel_rfl) (by kernel_rfl) (by kernel_rfl) (by kernel_rfl) (fun _ _ _ h => h) (Or.inl ⟨by rfl, ?_⟩) (fun _ => HS) ?_
      rotate_left
      · intro w hSw; go_simp; try with_reducible rfl
      go_simp
      refine wpAnyC_take (i := 6) (v := ?_) rfl (by kernel_rfl) (by kernel_rfl) (by kernel_rfl) (by kernel_rfl) (fun _ _ _ h => h) (Or.inl ⟨by rfl, ?_⟩) HS ?_
      rotate_left
      · rintro w ⟨s0, s1, s2, s3⟩; go_simp; try with_reducible rfl
      go_simp
      refine wpAnyC_take (i := 9) (v := ?_) rfl (by kernel_rfl) (by kernel_rfl) (by kernel_rfl) (by kernel_rfl) (fun _ _ _ h => h) (Or.inl ⟨by rfl, ?_⟩) HS ?_
      rotate_left
      · rintro w ⟨s0, s1, s2, s3⟩; go_simp; try with_reducible rfl
      go_simp
      refine wpAnyC_take (i := 12) (v := ?_) rfl (by kernel_rfl) (by kernel_rfl) (by kernel_rfl) (by kernel_rfl) (fun _ _ _ h => h) (Or.inl ⟨by rfl, ?_⟩) HS ?_
      rotate_left
      · rintro w ⟨s0, s1, s2, s3⟩; go_simp; try with_reducible rfl
      go_simp
      refine wpAnyC_take (i := 15) (v := ?_) rfl (by kernel_rfl) (by kernel_rfl) (by kernel_rfl) (by kernel_rfl) (fun _ _ _ h => h) (Or.inl ⟨by rfl, ?_⟩) HS ?_
      rotate_left
      · rintro w ⟨s0, s1, s2, s3⟩; go_simp; try with_reducible rfl
      go_simp
      refine wpAnyC_one (i := 16) (by kernel_rfl) rfl (fun K hK => ?_)
      go_simp
      go_at_call 60
      refine (hqu _).mono ?_
      rintro e wx ⟨rfl, rfl⟩
      go_simp
      refine hK.out _ _ (fun h => by cases h) ?_
      clear hK K
      refine wpAnyC_takeT (i := 17) (v := ?_) rfl (by kernel_rfl) (by kernel_rfl) (by kernel_rfl) (by kernel_rfl) (fun _ _ _ h => h) (Or.inl ⟨by rfl, ?_⟩) (fun h => by cases h) ?_
      rotate_left
      · intro w hSw; go_simp; try with_reducible rfl
      go_simp
      refine wpAnyC_takeT (i := 18) (v := ?_) rfl (by kernel_rfl) (by kernel_rfl) (by kernel_rfl) (by kernel_rfl) (fun _ _ _ h => h) (Or.inl ⟨by rfl, ?_⟩) (fun h => by cases h) ?_
      rotate_left
      · intro w hSw; go_simp; try with_reducible rfl
      go_simp
      refine wpAnyC_takeT (i := 19) (v := ?_) rfl (by kernel_rfl) (by kernel_rfl) (by kernel_rfl) (by kernel_rfl) (fun _ _ _ h => h) (Or.inl ⟨by rfl, ?_⟩) (fun h => by cases h) ?_
      rotate_left
      · intro w hSw; go_simp; try with_reducible rfl
      go_simp
      refine wpAnyC_takeT (i := 20) (v := ?_) rfl (by kernel_rfl) (by kernel_rfl) (by kernel_rfl) (by kernel_rfl) (fun _ _ _ h => h) (Or.inl ⟨by rfl, ?_⟩) (fun h => by cases h) ?_
      rotate_left
      · intro w hSw; go_simp; try with_reducible rfl
      go_simp
      refine wpAnyC_takeT (i := 21) (v := ?_) rfl (by kernel_rfl) (by kernel_rfl) (by kernel_rfl) (by kernel_rfl) (fun _ _ _ h => h) (Or.inl ⟨by rfl, ?_⟩) (fun h => by cases h) ?_
      rotate_left
      · intro w hSw; go_simp; try with_reducible rfl
      go_simp
      refine wpAnyC_takeT (i := 22) (v := ?_) rfl (by kernel_rfl) (by kernel_rfl) (by kernel_rfl) (by kernel_rfl) (fun _ _ _ h => h) (Or.inl ⟨by rfl, ?_⟩) (fun h => by cases h) ?_
      rotate_left
      · intro w hSw; go_simp; try with_reducible rfl
      go_simp
      refine wpAnyC_one (i := 23) (by kernel_rfl) rfl (fun K hK => ?_)
      go_simp
      refine hK.out _ _ (fun h => by cases h) ?_
      clear hK K
      refine wpAnyC_takeT (i := 24) (v := ?_) rfl (by kernel_rfl) (by kernel_rfl) (by kernel_rfl) (by kernel_rfl) (fun _ _ _ h => h) (Or.inl ⟨by rfl, ?_⟩) (fun h => by cases h) ?_
      rotate_left
      · intro w hSw; go_simp; try with_reducible rfl
      go_simp
      refine wpAnyC_one (i := 25) (by kernel_rfl) rfl (fun K hK => ?_)
      go_simp
      refine hK.out _ _ (fun h => by cases h) ?_
      clear hK K
      refine wpAnyC_takeT (i := 26) (v := ?_) rfl (by kernel_rfl) (by kernel_rfl) (by kernel_rfl) (by kernel_rfl) (fun _ _ _ h => h) (Or.inl ⟨by rfl, ?_⟩) (fun h => by cases h) ?_
      rotate_left
      · intro w hSw; go_simp; try with_reducible rfl
      go_simp
      refine wpAnyC_one (i := 27) (by kernel_rfl) rfl (fun K hK => ?_)
      go_simp
      refine hK.out _ _ (fun h => by cases h) ?_
      clear hK K
      refine wpAnyC_takeT (i := 28) (v := ?_) rfl (by kernel_rfl) (by kernel_rfl) (by kernel_rfl) (by kernel_rfl) (fun _ _ _ h => h) (Or.inl ⟨by rfl, ?_⟩) (fun h => by cases h) ?_
      rotate_left
      · intro w hSw; go_simp; try with_reducible rfl
      go_simp
      refine wpAnyC_one (i := 29) (by kernel_rfl) rfl (fun K hK => ?_)
      go_simp
      refine hK.out _ _ (fun h => by cases h) ?_
      clear hK K
      refine wpAnyC_done (by kernel_rfl) ?_ _
      refine NoPanic.normal ?_
      rw [← HQ.out] at hA1
      clear hqu fz0 fz1 fz2 fz3 HS HQ hu1 hu2 hu3 ck
      generalize qa (R k) (R b) (R c) (R d) = va at hA1 hB1 hl1 ⊢
      generalize qb (R k) (R b) (R c) (R d) = vb at hA1 hB1 hl1 ⊢
      generalize qc (R k) (R b) (R c) (R d) = vc at hA1 hB1 hl1 ⊢
      generalize qd (R k) (R b) (R c) (R d) = vd at hA1 hB1 hl1 ⊢
      have hA2 : Blk ((((wr.setCell ⟨g, k, none⟩ (.int .u32 va)).setCell ⟨g, b, none⟩ (.int .u32 vb)).setCell ⟨g, c, none⟩ (.int .u32 vc)).setCell ⟨g, d, none⟩ (.int .u32 vd)).drew g 45 _ := hA1
      have hB2 : Blk ((((wr.setCell ⟨g, k, none⟩ (.int .u32 va)).setCell ⟨g, b, none⟩ (.int .u32 vb)).setCell ⟨g, c, none⟩ (.int .u32 vc)).setCell ⟨g, d, none⟩ (.int .u32 vd)).drew (g + 1) 45 _ := hB1
      have hl2 : Below g w ((((wr.setCell ⟨g, k, none⟩ (.int .u32 va)).setCell ⟨g, b, none⟩ (.int .u32 vb)).setCell ⟨g, c, none⟩ (.int .u32 vc)).setCell ⟨g, d, none⟩ (.int .u32 vd)).drew := hl1
      clear hA1 hB1 hl1
      generalize ((((wr.setCell ⟨g, k, none⟩ (.int .u32 va)).setCell ⟨g, b, none⟩ (.int .u32 vb)).setCell ⟨g, c, none⟩ (.int .u32 vc)).setCell ⟨g, d, none⟩ (.int .u32 vd)).drew = w4 at hA2 hB2 hl2 ⊢
      go_wp2_with fail
      go_roundw
      case rel => exact ⟨k + 1, by omega, by go_num, hA2, hB2, hl2⟩
      case measure => simp [intOf]; omega
    · have hk4 : k = 4 := by omega
      subst hk4
      have hA' : Blk (wr.setRow (g + 1) (ws 16 (rq S n 4)).toArray) (g + 1) 45 (ws 16 (rq S n 4)) := hB.setRow
      have hR := load45 hA'
      have hl' : Below g w (wr.setRow (g + 1) (ws 16 (rq S n 4)).toArray) := below_setRow hl (by omega) _
      obtain ⟨U, hU⟩ : ∃ U, ws 16 (rq S n 4) = U := ⟨_, rfl⟩
      have hUl : U.length = 16 := by rw [← hU, ws_length]
      have hUo : ∀ v ∈ U, v.oneCell' = true := by rw [← hU]; exact ws_one _ _
      rw [hU] at hA hR hl'
      have HU : Hid (ws 16 (rq S n 4) = U) := hU
      clear hA' hl hU
      go_wp2_with (first | (refine wpList_load_blk rfl 45 _ rfl g rfl 45 U _ hA Try.underlying45 rfl (by rw [Try.size45, hUl]) ?_) | (refine wpList_store_blk rfl 45 _ _ rfl (g + 1) _ U rfl rfl 45 hB (by rw [Try.size45, hUl]) (by rw [ws_length, hUl]) hUo ?_))
      refine bodyPost_ret_by (v := .agg U.toArray) (results_cell 4 45 ⟨g + 1, 0, none⟩ Try.results40 rfl hR) rfl ⟨by rw [HU.out], ?_⟩
      rw [HG.out]; exact hl'
end Go.Proofs.Ytnpebabffnjmmaa
