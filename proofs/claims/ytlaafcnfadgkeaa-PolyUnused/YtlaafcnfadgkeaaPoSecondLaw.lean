/- What the Go function PolySecond answers: true, for every half of a key, every text and every second half. -/
import Derived.Test.YtlaafcnfadgkeaaPoEndsLaw
namespace Go.Proofs.Ytlaafcnfadgkeaa
open Go.RowKit Go.PlainAid
set_option linter.unusedVariables false

theorem half_first (a b : ByteArray) (ha : a.size = 16) : (a ++ b).extract 0 16 = a := by
  apply bt_ext
  · rw [ByteArray.size_extract, ByteArray.size_append]; omega
  · intro i hi
    rw [ByteArray.size_extract, ByteArray.size_append] at hi
    rw [bt_cut _ 0 16 i (by rw [ByteArray.size_append]; omega) (by omega), Nat.zero_add, bt_left _ _ _ (by omega)]
theorem half_second (a b : ByteArray) (ha : a.size = 16) (hb : b.size = 16) : (a ++ b).extract 16 32 = b := by
  apply bt_ext
  · rw [ByteArray.size_extract, ByteArray.size_append]; omega
  · intro i hi
    rw [ByteArray.size_extract, ByteArray.size_append] at hi
    rw [bt_cut _ 16 32 i (by rw [ByteArray.size_append]; omega) (by omega), bt_right _ _ _ (by omega)]
    congr 1; omega
theorem tag_halves (a b s : ByteArray) (ha : a.size = 16) (hb : b.size = 16) : tagB (a ++ b) s = leB (pac (nt (clB a)) s ((s.size + 15) / 16) + nt b) 16 := by
  unfold tagB rk sk
  rw [half_first a b ha, half_second a b ha hb]
theorem nt_zB (n : Nat) : nt (zB n) = 0 := by
  rw [nt, num_congr 8 _ (dg 8 0) _ (fun i _ => ?_), num_dg, Nat.zero_mod]
  rw [dg_zero]
  unfold bn
  by_cases h : i < n
  · unfold zB
    rw [bt_str _ (by intro x hx; rw [List.eq_of_mem_replicate hx]; decide) _ (by simpa using h)]
    simp
  · rw [bt_out _ _ (by rw [zB_size]; omega)]; rfl

set_option maxHeartbeats 2000000 in
set_option maxRecDepth 20000 in
theorem polySecond_walk (f : Nat → Nat) (s : ByteArray) (h : Nat → Nat) (hf : ∀ i, f i < 256) (hs : s.size ≤ maxLen) (hh : ∀ i, h i < 256) (w : World) :
    Calls Try.prog 6 #[.agg (nr .u8 16 f).toArray, .string s, .agg (nr .u8 16 h).toArray] w fun e w' => e = .returned (.bool true) ∧ Below w.heap.size w w' := by
  unfold maxLen at hs
  have hK := tx_size 16 f
  have hH := tx_size 16 h
  have HC : Hid (∀ w' g, Blk w' g 22 (nr .u8 16 f) → (convert 26 9 (.slice (some ⟨g, 0, none⟩) 16 16)).run Try.prog w' = .ok (.string (tx 16 f)) w') := fun w' g h => conv_blk h 16 16 (by decide)
  have HD : Hid (∀ w' g, Blk w' g 22 (nr .u8 16 h) → (convert 26 9 (.slice (some ⟨g, 0, none⟩) 16 16)).run Try.prog w' = .ok (.string (tx 16 h)) w') := fun w' g h => conv_blk h 16 16 (by decide)
  have HDG : Hid (∀ i, i < 16 → dg 8 (nt (tx 16 h)) i = h i) := fun i hi => by rw [dg_nt, bn_tx 16 h hh i hi]
  obtain ⟨m, hm⟩ : ∃ m, min s.size 500 = m := ⟨_, rfl⟩
  have hmI : min ((s.size : Nat) : Int) 500 = (m : Int) := by omega
  have hm1 : m ≤ s.size := by omega
  have hm2 : m ≤ 500 := by omega
  obtain ⟨C, hC⟩ : ∃ C, s.extract 0 m = C := ⟨_, rfl⟩
  have hCs : C.size ≤ 500 := by rw [← hC, ByteArray.size_extract]; omega
  have hz := zB_size 16
  have c1 := fun w => sum_ok (tx 16 f ++ zB 16) C (by rw [ByteArray.size_append]; omega) (by omega) w
  have c2 := fun w => sum_ok (tx 16 f ++ tx 16 h) C (by rw [ByteArray.size_append]; omega) (by omega) w
  rw [tag_halves _ _ _ hK hz, nt_zB, Nat.add_zero] at c1
  rw [tag_halves _ _ _ hK hH] at c2
  generalize pac (nt (clB (tx 16 f))) C ((C.size + 15) / 16) = A at *
  generalize nt (tx 16 h) = D at *
  obtain ⟨Z, hmk0, hcz0⟩ := zeros_at 16 (by decide)
  rw [show ((16 : Nat) : Int) = 16 from rfl] at hmk0
  rw [show strOfNums (List.replicate 16 0) = zB 16 from rfl] at hcz0
  have HZc : Hid (∀ x : World, (convert 26 9 (.slice (some ⟨x.heap.size, 0, none⟩) 16 16)).run Try.prog (x.alloc (.cells Z 5 (0, 0))) = .ok (.string (zB 16)) (x.alloc (.cells Z 5 (0, 0)))) := hcz0
  clear hcz0
  obtain ⟨K1, hK1⟩ : ∃ K1, tx 16 f ++ zB 16 = K1 := ⟨_, rfl⟩
  obtain ⟨K2, hK2⟩ : ∃ K2, tx 16 f ++ tx 16 h = K2 := ⟨_, rfl⟩
  rw [hK1] at c1
  rw [hK2] at c2
  generalize tx 16 f = T1 at *
  generalize tx 16 h = T2 at *
  generalize zB 16 = T0 at *
  have hw1 : (9223372036854775807 < T1.size + T0.size) = False := by simp; omega
  have hw2 : (9223372036854775807 < T1.size + T2.size) = False := by simp; omega
  have sa := leB_size A 16
  have sb := leB_size (A + D) 16
  have HXA : Hid (∀ i, i < 16 → bn (leB A 16) i = dg 8 A i) := fun i hi => bn_leB A 16 i hi
  have HXB : Hid (∀ i, i < 16 → bn (leB (A + D) 16) i = dg 8 (A + D) i) := fun i hi => bn_leB (A + D) 16 i hi
  generalize leB A 16 = X at *
  generalize leB (A + D) 16 = Y at *
  obtain ⟨L, hL⟩ : ∃ L, nr .u8 16 f = L := ⟨_, rfl⟩
  obtain ⟨M, hM⟩ : ∃ M, nr .u8 16 h = M := ⟨_, rfl⟩
  rw [hL, hM]
  rw [hL] at HC
  rw [hM] at HD
  have HM : Hid (nr .u8 16 h = M) := hM
  clear hL hM hf hm hK hH hz
  have hA0 : Blk ((w.alloc (.cells L.toArray 22)).alloc (.cells M.toArray 22)) w.heap.size 22 L := (Blk.box w 22 L).alloc _
  have hB0 : Blk ((w.alloc (.cells L.toArray 22)).alloc (.cells M.toArray 22)) (w.heap.size + 1) 22 M := by
    have := Blk.box (w.alloc (.cells L.toArray 22)) 22 M
    simpa using this
  have hl0 : Below w.heap.size w ((w.alloc (.cells L.toArray 22)).alloc (.cells M.toArray 22)) := ((Below.refl _ _).alloc (Nat.le_refl _) _).alloc (by simp) _
  go_enter Try.func6, Try.ntmps6
  go_wp2_with fail
  generalize (w.alloc (.cells L.toArray 22)).alloc (.cells M.toArray 22) = w0 at *
  obtain ⟨B, hBd⟩ : ∃ B, w.heap.size = B := ⟨_, rfl⟩
  rw [hBd] at hA0 hB0 hl0 ⊢
  have HB : Hid (w.heap.size = B) := hBd
  clear hBd
  have hs0 : (fun z : World => Blk z B 22 L ∧ Blk z (B + 1) 22 M ∧ Below B w z) w0.drew := ⟨hA0, hB0, hl0.drew⟩
  clear hA0 hB0 hl0
  refine wp_region_noPanic ?_
  refine wp_region_held_drew (S := fun z : World => Blk z B 22 L ∧ Blk z (B + 1) 22 M ∧ Below B w z) (by kernel_rfl) hs0 (fun hHeld => ?_)
  refine wpAnyH_take (i := 0) (v := ?_) rfl (by kernel_rfl) (by kernel_rfl) (by kernel_rfl) (fun _ _ _ h => h) (Or.inl ⟨by rfl, ?_⟩) (by assumption) ?_
  rotate_left
  · intro w hSw; go_simp; try with_reducible rfl
  go_simp
  refine wpAnyH_take (i := 5) (v := ?_) rfl (by kernel_rfl) (by kernel_rfl) (by kernel_rfl) (fun _ _ _ h => h) (Or.inl ⟨by rfl, ?_⟩) (by assumption) ?_
  rotate_left
  · intro w hSw; go_simp; try with_reducible rfl
  go_simp
  refine wpAnyH_take (i := 1) (v := ?_) rfl (by kernel_rfl) (by kernel_rfl) (by kernel_rfl) (fun _ _ _ h => h) (Or.inl ⟨by rfl, ?_⟩) (by assumption) ?_
  rotate_left
  · intro z hSw; have hcz := HC.out z B hSw.1; go_simp; try with_reducible rfl
  go_simp
  refine wpAnyH_ready (rs := [2]) (by kernel_rfl) (by simp) (AllReadyH.cons rfl (fun K hK => ?_) AllReadyH.nil)
  go_simp
  have hs1 : (fun z : World => Blk z B 22 L ∧ Blk z (B + 1) 22 M ∧ Below B w z) (w0.alloc (.cells Z 5 (0, 0))).drew := ⟨hs0.1.alloc _, hs0.2.1.alloc _, hs0.2.2.alloc (by have := hs0.1.lt; omega) _⟩
  have hcz : (convert 26 9 (.slice (some ⟨w0.heap.size, 0, none⟩) 16 16)).run Try.prog (w0.alloc (.cells Z 5 (0, 0))).drew = .ok (.string T0) (w0.alloc (.cells Z 5 (0, 0))).drew := HZc.out w0.drew
  refine hK.out _ _ hs1 (fun hHeld => ?_)
  clear hK K
  generalize (w0.alloc (.cells Z 5 (0, 0))).drew = w1 at *
  refine wpAnyH_ready (rs := [3]) (by kernel_rfl) (by simp) (AllReadyH.cons rfl (fun K hK => ?_) AllReadyH.nil)
  go_simp
  refine hK.out _ _ hs1 (fun hHeld => ?_)
  clear hK K
  refine wpAnyH_take (i := 4) (v := ?_) rfl (by kernel_rfl) (by kernel_rfl) (by kernel_rfl) (fun _ _ _ h => h) (Or.inl ⟨by rfl, ?_⟩) (by assumption) ?_
  rotate_left
  · intro w hSw; go_simp; try with_reducible rfl
  go_simp
  refine wpAnyH_ready (rs := [6]) (by kernel_rfl) (by simp) (AllReadyH.cons rfl (fun K hK => ?_) AllReadyH.nil)
  go_simp
  go_at_call 12
  refine (c1 _).mono ?_
  rintro e w2 ⟨rfl, hb⟩
  have hsw2 : (fun z : World => Blk z B 22 L ∧ Blk z (B + 1) 22 M ∧ Below B w z) w2 := ⟨hs1.1.below hb hs1.1.lt, hs1.2.1.below hb hs1.2.1.lt, hs1.2.2.trans (hb.mono (by have := hs1.1.lt; omega))⟩
  clear hb
  refine hK.out _ _ hsw2 (fun hHeld => ?_)
  clear hK K
  refine wpAnyH_take (i := 7) (v := ?_) rfl (by kernel_rfl) (by kernel_rfl) (by kernel_rfl) (fun _ _ _ h => h) (Or.inl ⟨by rfl, ?_⟩) (by assumption) ?_
  rotate_left
  · intro w hSw; go_simp; try with_reducible rfl
  go_simp
  refine wpAnyH_take (i := 8) (v := ?_) rfl (by kernel_rfl) (by kernel_rfl) (by kernel_rfl) (fun _ _ _ h => h) (Or.inl ⟨by rfl, ?_⟩) (by assumption) ?_
  rotate_left
  · intro w hSw; go_simp; try with_reducible rfl
  go_simp
  refine wpAnyH_take (i := 9) (v := ?_) rfl (by kernel_rfl) (by kernel_rfl) (by kernel_rfl) (fun _ _ _ h => h) (Or.inl ⟨by rfl, ?_⟩) (by assumption) ?_
  rotate_left
  · intro w hSw; go_simp; try with_reducible rfl
  go_simp
  refine wpAnyH_take (i := 10) (v := ?_) rfl (by kernel_rfl) (by kernel_rfl) (by kernel_rfl) (fun _ _ _ h => h) (Or.inl ⟨by rfl, ?_⟩) (by assumption) ?_
  rotate_left
  · intro w hSw; go_simp; try with_reducible rfl
  go_simp
  refine wpAnyH_take (i := 11) (v := ?_) rfl (by kernel_rfl) (by kernel_rfl) (by kernel_rfl) (fun _ _ _ h => h) (Or.inl ⟨by rfl, ?_⟩) (by assumption) ?_
  rotate_left
  · intro w hSw; go_simp; try with_reducible rfl
  go_simp
  refine wpAnyH_done (by kernel_rfl) ?_ _
  refine NoPanic.normal ?_
  clear hcz hs0 hs1 c1 hmk0 HZc
  go_wp2_with fail
  have hs3 : (fun z : World => Blk z B 22 L ∧ Blk z (B + 1) 22 M ∧ Below B w z) w2.drew := ⟨hsw2.1, hsw2.2.1, hsw2.2.2.drew⟩
  clear hsw2
  refine wp_region_noPanic ?_
  refine wp_region_held_drew (S := fun z : World => Blk z B 22 L ∧ Blk z (B + 1) 22 M ∧ Below B w z) (by kernel_rfl) hs3 (fun hHeld => ?_)
  refine wpAnyH_take (i := 0) (v := ?_) rfl (by kernel_rfl) (by kernel_rfl) (by kernel_rfl) (fun _ _ _ h => h) (Or.inl ⟨by rfl, ?_⟩) (by assumption) ?_
  rotate_left
  · intro w hSw; go_simp; try with_reducible rfl
  go_simp
  refine wpAnyH_take (i := 2) (v := ?_) rfl (by kernel_rfl) (by kernel_rfl) (by kernel_rfl) (fun _ _ _ h => h) (Or.inl ⟨by rfl, ?_⟩) (by assumption) ?_
  rotate_left
  · intro w hSw; go_simp; try with_reducible rfl
  go_simp
  refine wpAnyH_take (i := 5) (v := ?_) rfl (by kernel_rfl) (by kernel_rfl) (by kernel_rfl) (fun _ _ _ h => h) (Or.inl ⟨by rfl, ?_⟩) (by assumption) ?_
  rotate_left
  · intro w hSw; go_simp; try with_reducible rfl
  go_simp
  refine wpAnyH_take (i := 1) (v := ?_) rfl (by kernel_rfl) (by kernel_rfl) (by kernel_rfl) (fun _ _ _ h => h) (Or.inl ⟨by rfl, ?_⟩) (by assumption) ?_
  rotate_left
  · intro z hSw; have hcz := HC.out z B hSw.1; go_simp; try with_reducible rfl
  go_simp
  refine wpAnyH_take (i := 3) (v := ?_) rfl (by kernel_rfl) (by kernel_rfl) (by kernel_rfl) (fun _ _ _ h => h) (Or.inl ⟨by rfl, ?_⟩) (by assumption) ?_
  rotate_left
  · intro z hSw; have hcz := HD.out z (B + 1) hSw.2.1; go_simp; try with_reducible rfl
  go_simp
  refine wpAnyH_take (i := 4) (v := ?_) rfl (by kernel_rfl) (by kernel_rfl) (by kernel_rfl) (fun _ _ _ h => h) (Or.inl ⟨by rfl, ?_⟩) (by assumption) ?_
  rotate_left
  · intro w hSw; go_simp; try with_reducible rfl
  go_simp
  refine wpAnyH_ready (rs := [6]) (by kernel_rfl) (by simp) (AllReadyH.cons rfl (fun K hK => ?_) AllReadyH.nil)
  go_simp
  go_at_call 12
  refine (c2 _).mono ?_
  rintro e w4 ⟨rfl, hb⟩
  have hsw4 : (fun z : World => Blk z B 22 L ∧ Blk z (B + 1) 22 M ∧ Below B w z) w4 := ⟨hs3.1.below hb hs3.1.lt, hs3.2.1.below hb hs3.2.1.lt, hs3.2.2.trans (hb.mono (by have := hs3.1.lt; omega))⟩
  clear hb
  refine hK.out _ _ hsw4 (fun hHeld => ?_)
  clear hK K
  refine wpAnyH_take (i := 7) (v := ?_) rfl (by kernel_rfl) (by kernel_rfl) (by kernel_rfl) (fun _ _ _ h => h) (Or.inl ⟨by rfl, ?_⟩) (by assumption) ?_
  rotate_left
  · intro w hSw; go_simp; try with_reducible rfl
  go_simp
  refine wpAnyH_take (i := 8) (v := ?_) rfl (by kernel_rfl) (by kernel_rfl) (by kernel_rfl) (fun _ _ _ h => h) (Or.inl ⟨by rfl, ?_⟩) (by assumption) ?_
  rotate_left
  · intro w hSw; go_simp; try with_reducible rfl
  go_simp
  refine wpAnyH_take (i := 9) (v := ?_) rfl (by kernel_rfl) (by kernel_rfl) (by kernel_rfl) (fun _ _ _ h => h) (Or.inl ⟨by rfl, ?_⟩) (by assumption) ?_
  rotate_left
  · intro w hSw; go_simp; try with_reducible rfl
  go_simp
  refine wpAnyH_take (i := 10) (v := ?_) rfl (by kernel_rfl) (by kernel_rfl) (by kernel_rfl) (fun _ _ _ h => h) (Or.inl ⟨by rfl, ?_⟩) (by assumption) ?_
  rotate_left
  · intro w hSw; go_simp; try with_reducible rfl
  go_simp
  refine wpAnyH_take (i := 11) (v := ?_) rfl (by kernel_rfl) (by kernel_rfl) (by kernel_rfl) (fun _ _ _ h => h) (Or.inl ⟨by rfl, ?_⟩) (by assumption) ?_
  rotate_left
  · intro w hSw; go_simp; try with_reducible rfl
  go_simp
  refine wpAnyH_done (by kernel_rfl) ?_ _
  refine NoPanic.normal ?_
  clear hs3 c2 HC HD
  go_wp2_with fail
  refine (wakes_any w4).mono ?_
  rintro e w5 ⟨rfl, hb5⟩
  have hB5 := hsw4.2.1.below hb5 hsw4.2.1.lt
  have hl5 : Below B w w5 := hsw4.2.2.trans (hb5.mono (by have := hsw4.1.lt; omega))
  clear hsw4 hb5
  have sa' : (((X.size : Nat) : Int) != 16) = false := by simp; omega
  have sb' : (((Y.size : Nat) : Int) != 16) = false := by simp; omega
  have HSA : Hid (X.size = 16) := sa
  have HSB : Hid (Y.size = 16) := sb
  have sa2 : X.size ≤ 16 := by omega
  have sb2 : Y.size ≤ 16 := by omega
  clear sa sb
  go_wp2_with fail
  rw [← HM.out] at hB5
  clear HM
  go_loopw [11, 58] (fun c v wr => ∃ q : Nat, q ≤ 16 ∧ v = .int .i64 q ∧ c = .int .i64 ((cy 8 A D q : Nat) : Int) ∧ Blk wr (B + 1) 22 (nr .u8 16 h) ∧ Below B w wr) (fun _ v _ => (16 - intOf v).toNat)
  case atStart => exact ⟨0, by omega, rfl, by rw [cy_zero]; rfl, hB5, hl5⟩
  case round =>
    clear hB5 hl5
    obtain ⟨q, hq, rfl, rfl, hB, hl⟩ := hrel
    by_cases hlt : q < 16
    · have hlt' : (q : Int) < 16 := by omega
      have ca := hB.cell (nr_at .u8 16 h q hlt)
      rw [← HDG.out q hlt] at ca
      have i1 := str_index X q (by rw [HSA.out]; exact hlt)
      have i2 := str_index Y q (by rw [HSB.out]; exact hlt)
      rw [HXA.out q hlt] at i1
      rw [HXB.out q hlt] at i2
      have b0 := dg_lt 8 A q
      have b1 := dg_lt 8 D q
      have b2 := cy_le 8 A D q
      have e1 := dg_add 8 A D q
      have e2 := cy_succ 8 A D q
      rw [show (2 : Nat) ^ 8 = 256 from rfl] at b0 b1 e1 e2
      obtain ⟨c1, hc1⟩ : ∃ c1, cy 8 A D (q + 1) = c1 := ⟨_, rfl⟩
      rw [hc1] at e2
      have HC1 : Hid (((cy 8 A D (q + 1) : Nat) : Int) = (c1 : Int)) := by rw [hc1]; exact rfl
      have HBl : Hid (Blk wr (B + 1) 22 (nr .u8 16 h)) := hB
      clear hc1 hB
      generalize dg 8 (A + D) q = z at *
      generalize dg 8 A q = x at *
      generalize dg 8 D q = y at *
      generalize cy 8 A D q = c at *
      have e1' : ((c : Int) + ((x : Int) + (y : Int))) % 256 = (z : Int) := by omega
      have e2' : ((c : Int) + ((x : Int) + (y : Int))) / 256 = (c1 : Int) := by omega
      clear e1 e2
      go_wp2_with fail
      go_quiet (fail)
      go_wp2_with fail
      exact ⟨⟨q + 1, by omega, by go_num, by rw [HC1.out], HBl.out, below_drewN' hl nq⟩, by simp [intOf]; omega⟩
    · have hq16 : q = 16 := by omega
      subst hq16
      rw [show ((16 : Nat) : Int) = 16 from rfl]
      go_wp2_with fail
      go_ret
      refine ⟨rfl, ?_⟩
      rw [HB.out]; exact hl
end Go.Proofs.Ytlaafcnfadgkeaa
