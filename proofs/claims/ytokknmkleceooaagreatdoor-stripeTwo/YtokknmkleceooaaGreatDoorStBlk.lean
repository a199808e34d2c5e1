import Derived.Test.YtokknmkleceooaaGreatDoorStFM
import Derived.Test.YtokknmkleceooaaGreatDoorRsM
import Derived.Handy
namespace Go.Proofs.YtokknmkleceooaaGreatDoor
open Go.RowKit Go.PlainAid
set_option linter.unusedVariables false
set_option maxRecDepth 20000
def BytA (w : World) (a : Option Addr) (len : Nat) (f : Nat → Nat) : Prop := (∀ i, f i < 256) ∧ Vals w a len fun i => .int .u8 (f i : Int)
def blb (len : Nat) (f : Nat → Nat) (i : Nat) : Nat := if i < len then f i else 0
def bkF (len : Nat) (f : Nat → Nat) (i : Nat) : ByteArray := (tx 2 fun j => if j = 0 then blb len f i else i) ++ tx 30 (fun _ => 0)
theorem make_z30 (w : World) : (Instr.makeSlice 22 (.int .i64 30) (.int .i64 30)).run Tryz.prog w = .ok (.slice (some ⟨w.heap.size, 0, none⟩) 30 30) (w.alloc (.cells (nr .u8 30 fun _ => 0).toArray 5)) := by
  obtain ⟨i0, hi, hz0, hz1, hz2⟩ := info_parts Tryz.info5w
  have hr := run_make (P := Tryz.prog) w 22 5 i0 (.int .u8 0) Tryz.underlying22 hi hz0 .i64 .i64 30 30 (by omega) (by omega) (by rw [hz2]; omega) (by omega)
  rw [hz1, show madeCells (Value.int .u8 0).cells ((30 : Int).toNat * 1) = (nr .u8 30 fun _ => 0).toArray from by
    apply Array.ext
    · simp [madeCells, nr]
    · intro i h1 h2
      simp [madeCells, nr, Value.cells, Nat.mod_one]] at hr
  exact hr
theorem bkF_size (len : Nat) (f : Nat → Nat) (i : Nat) : (bkF len f i).size = 32 := by unfold bkF; rw [ByteArray.size_append, tx_size, tx_size]
def bkN (n : Int) : Nat := 2 + n.toNat % 7
set_option maxHeartbeats 4000000 in
theorem blocks_any (n : Int) (hn1 : n ≤ 9223372036854775807) (a : Option Addr) (len cap : Nat) (f : Nat → Nat) (w : World) (hl : len ≤ 9223372036854775807) (ha : BytA w a len f) :
    Calls Tryz.prog 8 #[.int .i64 n, .slice a len cap] w fun e w' => ∃ v, e = .returned v ∧ w'.ownsRow w.heap.size 9 1 v (bkN n) (strs (bkN n) (bkF len f)) ∧ Below w.heap.size w w' := by
  obtain ⟨hf, hv⟩ := ha
  have HA := hv.at
  have HF : Hid (∀ i, f i < 256) := hf
  obtain ⟨x, hx⟩ : ∃ x : Nat, n.toNat = x := ⟨_, rfl⟩
  have m1 : (if 0 < n then n else 0) = (x : Int) := by split <;> omega
  have m2 : max 0 n = (x : Int) := by omega
  have hxb : (x : Int) ≤ 9223372036854775807 := by omega
  obtain ⟨r, hr⟩ : ∃ r : Nat, x % 7 = r := ⟨_, rfl⟩
  have m3 : (x : Int) % 7 = (r : Int) := by omega
  have m4 : (x : Int).tmod 7 = (r : Int) := by rw [Int.tmod_eq_emod_of_nonneg (by omega)]; exact m3
  obtain ⟨m, hm⟩ : ∃ m : Nat, 2 + r = m := ⟨_, rfl⟩
  have HM : Hid (bkN n = m) := by show _ = _; unfold bkN; rw [hx, hr, hm]
  have m5 : (2 : Int) + (r : Int) = (m : Int) := by omega
  have hm9 : m ≤ 8 := by omega
  have hr6 : (r : Int) ≤ 6 := by omega
  have HZ1 := make_z30
  have H0 : Hid (Hold w.heap.size w w (star (rowK 9 1 (.slice none 0 0) 0 (strs 0 (bkF len f))) nought)) := (hold_nought _ _ _ (Nat.le_refl _) (Below.refl _ _)).mono fun F h => star_nil17 h
  clear hf hv
  go_enter Tryz.func8, Tryz.ntmps8
  go_wp2_with fail
  go_loopw [5, 12] (fun x i wr => ∃ (v : Value) (k : Nat), v = x ∧ k ≤ m ∧ i = .int .i64 k ∧ Hid (Hold w.heap.size w wr (star (rowK 9 1 v k (strs k (bkF len f))) nought))) (fun _ i _ => (m : Nat) - (intOf i).toNat)
  case atStart => exact ⟨_, 0, rfl, Nat.zero_le _, rfl, H0.out⟩
  case round =>
    clear H0
    obtain ⟨v, k, rfl, hk, rfl, HH⟩ := hrel
    by_cases hlt : k < m
    · have kn : (k : Int) < (m : Int) := by omega
      have kb : (k : Int) ≤ 8 := by omega
      have hwk : IntKind.u8.wrap (k : Int) = (k : Int) := IntWalk.u8_in _ ⟨by omega, by omega⟩
      have HK8 : Hid (k ≤ 1000) := (by omega : k ≤ 1000)
      by_cases hkl : k < len
      · have kl : (k : Int) < (len : Int) := by omega
        obtain ⟨b0, o0, rfl, c0⟩ := HA.out wr HH.out.low k hkl
        obtain ⟨q, hq⟩ : ∃ q, f k = q := ⟨_, rfl⟩
        rw [hq] at c0
        have HQ : Hid (bkF len f k = (tx 2 fun j => if j = 0 then q else k) ++ tx 30 (fun _ => 0)) := by show _ = _; unfold bkF blb; rw [if_pos hkl, hq]
        clear hq hkl
        go_upto_region 8 with fail
        have HH1 : Hid (Hold w.heap.size w wr.drew (star (rowK 9 1 v k (strs k (bkF len f))) nought)) := HH.out.below ((firm_rowK _ _ _ _ _).star firm_nought) (Below.refl _ _).drew
        clear HH
        refine wp_region_noPanic ?_
        refine wp_region_held_drew (S := fun _ => True) (by kernel_rfl) trivial (fun hHeld => ?_)
        generalize wr.drew = wa at *
        have t2s := tx_size 2 (fun j => if j = 0 then q else k)
        have t3s := tx_size 30 (fun _ => 0)
        refine tkH 0 ?_; go_simp
        refine tkH 1 ?_; go_simp
        refine tkH 2 ?_; go_simp
        refine tkH 3 ?_; go_simp
        refine wpAnyH_ready (rs := [4, 6]) (by kernel_rfl) (by simp) (AllReadyH.cons rfl (fun K hK => ?_) (AllReadyH.cons rfl (fun K hK => ?_) AllReadyH.nil))
        · go_simp
          have HH2 : Hid (Hold w.heap.size w (wa.alloc (.cells #[.int .u8 (q : Int), .int .u8 (k : Int)] 5)) (star (blkA wa.heap.size 5 (nr .u8 2 fun j => if j = 0 then q else k)) (star (rowK 9 1 v k (strs k (bkF len f))) nought))) := Hold.newBlk ((firm_rowK _ _ _ _ _).star firm_nought) HH1.out 5 #[.int .u8 (q : Int), .int .u8 (k : Int)]
          refine hK.out _ _ trivial (fun hHeld => ?_)
          clear hK K
          clear HH1
          generalize wa.alloc (.cells #[.int .u8 (q : Int), .int .u8 (k : Int)] 5) = wb at *
          generalize wa.heap.size = ga at *
          refine wpAnyH_weaken (S' := fun z : World => Blk z ga 5 (nr .u8 2 fun j => if j = 0 then q else k)) (fun z hz => trivial) _ _ _ _ ?_
          refine wpAnyH_take (i := 5) (v := (.string (tx 2 fun j => if j = 0 then q else k))) rfl (by kernel_rfl) (by kernel_rfl) (by kernel_rfl) (fun _ _ _ h => h) (Or.inl ⟨by rfl, ?_⟩) (Hold.blk HH2.out) ?_
          · intro w hSw; have hcr := conv_blk hSw 2 2 (Nat.le_refl _); clear hSw; go_simp; try with_reducible rfl
          go_simp
          refine rdH 6 fun K hK => ?_
          have hmz := HZ1 wb
          go_simp
          clear hmz
          have HH3 : Hid (Hold w.heap.size w (wb.alloc (.cells (nr .u8 30 fun _ => 0).toArray 5)) (star (blkA wb.heap.size 5 (nr .u8 30 fun _ => 0)) (star (blkA ga 5 (nr .u8 2 fun j => if j = 0 then q else k)) (star (rowK 9 1 v k (strs k (bkF len f))) nought)))) := by
            have := Hold.newBlk ((firm_blk _ _ _).star ((firm_rowK _ _ _ _ _).star firm_nought)) HH2.out 5 (nr .u8 30 fun _ => 0).toArray
            rwa [List.toList_toArray] at this
          refine hK.out _ _ (Hold.right HH3.out).blk (fun hHeld => ?_)
          clear hK K
          clear HH2
          generalize wb.alloc (.cells (nr .u8 30 fun _ => 0).toArray 5) = wc at *
          generalize wb.heap.size = gb at *
          have HH4 : Hid (Hold w.heap.size w wc (star (rowK 9 1 v k (strs k (bkF len f))) (star (blkA gb 5 (nr .u8 30 fun _ => 0)) (star (blkA ga 5 (nr .u8 2 fun j => if j = 0 then q else k)) nought)))) := Hold.pull3 HH3.out
          clear HH3
          refine wpAnyH_weaken (S' := fun z : World => Blk z ga 5 (nr .u8 2 fun j => if j = 0 then q else k) ∧ Blk z gb 5 (nr .u8 30 fun _ => 0)) (fun z hz => hz.1) _ _ _ _ ?_
          refine wpAnyH_take (i := 7) (v := (.string (tx 30 fun _ => 0))) rfl (by kernel_rfl) (by kernel_rfl) (by kernel_rfl) (fun _ _ _ h => h) (Or.inl ⟨by rfl, ?_⟩) ⟨(Hold.right (Hold.right HH4.out)).blk, (Hold.right HH4.out).blk⟩ ?_
          · intro w hSw; have hcr := conv_blk hSw.2 30 30 (Nat.le_refl _); clear hSw; go_simp; try with_reducible rfl
          go_simp
          refine wpAnyH_take (i := 8) (v := ?_) rfl (by kernel_rfl) (by kernel_rfl) (by kernel_rfl) (fun _ _ _ h => h) (Or.inl ⟨by rfl, ?_⟩) ⟨(Hold.right (Hold.right HH4.out)).blk, (Hold.right HH4.out).blk⟩ ?_
          rotate_left
          · intro w hSw; clear hSw; go_simp; try with_reducible rfl
          go_simp
          refine rdH 9 fun K hK => ?_
          go_simp
          obtain ⟨la, lc, wd, hrun, hnew⟩ := push_str17 ((firm_blk _ _ _).star ((firm_blk _ _ _).star firm_nought)) HH4.out HK8.out _ HQ.out
          have HAL : Hid (Hold w.heap.size w (wc.alloc (.cells #[.string ((tx 2 fun j => if j = 0 then q else k) ++ tx 30 fun _ => 0)] 9)) _) := HH4.out.below ((firm_rowK _ _ _ _ _).star ((firm_blk _ _ _).star ((firm_blk _ _ _).star firm_nought))) ((Below.refl _ _).alloc (Nat.le_refl _) _)
          refine hK.out _ _ ⟨(Hold.right (Hold.right HAL.out)).blk, (Hold.right HAL.out).blk⟩ (fun hHeld => ?_)
          clear hK K HAL HH4
          have HN : Hid (Hold w.heap.size w wd (star (rowK 9 1 (.slice la (k + 1) lc) (k + 1) (strs (k + 1) (bkF len f))) _)) := hnew
          clear hnew
          refine rdH 10 fun K hK => ?_
          refine step_append_ty rfl _ _ 23 23 rfl _ _ rfl rfl _ _ hrun ?_
          refine hK.out _ _ ⟨(Hold.right (Hold.right HN.out)).blk, (Hold.right HN.out).blk⟩ (fun hHeld => ?_)
          clear hK K hrun
          refine tkH 11 ?_; go_simp
          refine wpAnyH_done (by kernel_rfl) ?_ _
          refine NoPanic.normal ?_
          go_wp2_with fail
          go_roundw
          case rel => exact ⟨_, k + 1, rfl, by omega, by go_num, (Hold.addNought (Hold.left HN.out)).comm⟩
          case measure => simp [intOf]; omega
        ·
          have hmz := HZ1 wa
          go_simp
          clear hmz
          have HH2 : Hid (Hold w.heap.size w (wa.alloc (.cells (nr .u8 30 fun _ => 0).toArray 5)) (star (blkA wa.heap.size 5 (nr .u8 30 fun _ => 0)) (star (rowK 9 1 v k (strs k (bkF len f))) nought))) := by
            have := Hold.newBlk ((firm_rowK _ _ _ _ _).star firm_nought) HH1.out 5 (nr .u8 30 fun _ => 0).toArray
            rwa [List.toList_toArray] at this
          refine hK.out _ _ trivial (fun hHeld => ?_)
          clear hK K
          clear HH1
          generalize wa.alloc (.cells (nr .u8 30 fun _ => 0).toArray 5) = wb at *
          generalize wa.heap.size = gb at *
          refine wpAnyH_weaken (S' := fun z : World => Blk z gb 5 (nr .u8 30 fun _ => 0)) (fun z hz => trivial) _ _ _ _ ?_
          refine wpAnyH_take (i := 7) (v := (.string (tx 30 fun _ => 0))) rfl (by kernel_rfl) (by kernel_rfl) (by kernel_rfl) (fun _ _ _ h => h) (Or.inl ⟨by rfl, ?_⟩) (Hold.blk HH2.out) ?_
          · intro w hSw; have hcr := conv_blk hSw 30 30 (Nat.le_refl _); clear hSw; go_simp; try with_reducible rfl
          go_simp
          refine rdH 4 fun K hK => ?_
          go_simp
          have HH3 : Hid (Hold w.heap.size w (wb.alloc (.cells #[.int .u8 (q : Int), .int .u8 (k : Int)] 5)) (star (blkA wb.heap.size 5 (nr .u8 2 fun j => if j = 0 then q else k)) (star (blkA gb 5 (nr .u8 30 fun _ => 0)) (star (rowK 9 1 v k (strs k (bkF len f))) nought)))) := Hold.newBlk ((firm_blk _ _ _).star ((firm_rowK _ _ _ _ _).star firm_nought)) HH2.out 5 #[.int .u8 (q : Int), .int .u8 (k : Int)]
          refine hK.out _ _ (Hold.right HH3.out).blk (fun hHeld => ?_)
          clear hK K
          clear HH2
          generalize wb.alloc (.cells #[.int .u8 (q : Int), .int .u8 (k : Int)] 5) = wc at *
          generalize wb.heap.size = ga at *
          have HH4 : Hid (Hold w.heap.size w wc (star (rowK 9 1 v k (strs k (bkF len f))) (star (blkA ga 5 (nr .u8 2 fun j => if j = 0 then q else k)) (star (blkA gb 5 (nr .u8 30 fun _ => 0)) nought)))) := Hold.pull3 HH3.out
          clear HH3
          refine wpAnyH_weaken (S' := fun z : World => Blk z ga 5 (nr .u8 2 fun j => if j = 0 then q else k) ∧ Blk z gb 5 (nr .u8 30 fun _ => 0)) (fun z hz => hz.2) _ _ _ _ ?_
          refine wpAnyH_take (i := 5) (v := (.string (tx 2 fun j => if j = 0 then q else k))) rfl (by kernel_rfl) (by kernel_rfl) (by kernel_rfl) (fun _ _ _ h => h) (Or.inl ⟨by rfl, ?_⟩) ⟨(Hold.right HH4.out).blk, (Hold.right (Hold.right HH4.out)).blk⟩ ?_
          · intro w hSw; have hcr := conv_blk hSw.1 2 2 (Nat.le_refl _); clear hSw; go_simp; try with_reducible rfl
          go_simp
          refine wpAnyH_take (i := 8) (v := ?_) rfl (by kernel_rfl) (by kernel_rfl) (by kernel_rfl) (fun _ _ _ h => h) (Or.inl ⟨by rfl, ?_⟩) ⟨(Hold.right HH4.out).blk, (Hold.right (Hold.right HH4.out)).blk⟩ ?_
          rotate_left
          · intro w hSw; clear hSw; go_simp; try with_reducible rfl
          go_simp
          refine rdH 9 fun K hK => ?_
          go_simp
          obtain ⟨la, lc, wd, hrun, hnew⟩ := push_str17 ((firm_blk _ _ _).star ((firm_blk _ _ _).star firm_nought)) HH4.out HK8.out _ HQ.out
          have HAL : Hid (Hold w.heap.size w (wc.alloc (.cells #[.string ((tx 2 fun j => if j = 0 then q else k) ++ tx 30 fun _ => 0)] 9)) _) := HH4.out.below ((firm_rowK _ _ _ _ _).star ((firm_blk _ _ _).star ((firm_blk _ _ _).star firm_nought))) ((Below.refl _ _).alloc (Nat.le_refl _) _)
          refine hK.out _ _ ⟨(Hold.right HAL.out).blk, (Hold.right (Hold.right HAL.out)).blk⟩ (fun hHeld => ?_)
          clear hK K HAL HH4
          have HN : Hid (Hold w.heap.size w wd (star (rowK 9 1 (.slice la (k + 1) lc) (k + 1) (strs (k + 1) (bkF len f))) _)) := hnew
          clear hnew
          refine rdH 10 fun K hK => ?_
          refine step_append_ty rfl _ _ 23 23 rfl _ _ rfl rfl _ _ hrun ?_
          refine hK.out _ _ ⟨(Hold.right HN.out).blk, (Hold.right (Hold.right HN.out)).blk⟩ (fun hHeld => ?_)
          clear hK K hrun
          refine tkH 11 ?_; go_simp
          refine wpAnyH_done (by kernel_rfl) ?_ _
          refine NoPanic.normal ?_
          go_wp2_with fail
          go_roundw
          case rel => exact ⟨_, k + 1, rfl, by omega, by go_num, (Hold.addNought (Hold.left HN.out)).comm⟩
          case measure => simp [intOf]; omega
      · have kl : ¬ (k : Int) < (len : Int) := by omega
        obtain ⟨q, hq⟩ : ∃ q : Nat, 0 = q := ⟨_, rfl⟩
        have HQ : Hid (bkF len f k = (tx 2 fun j => if j = 0 then q else k) ++ tx 30 (fun _ => 0)) := by show _ = _; unfold bkF blb; rw [if_neg hkl, ← hq]
        have hq0 : Hid ((0 : Int) = (q : Int)) := by show _ = _; omega
        clear hq hkl
        go_upto_region 8 with fail
        rw [hq0.out]
        clear hq0
        have HH1 : Hid (Hold w.heap.size w wr.drew (star (rowK 9 1 v k (strs k (bkF len f))) nought)) := HH.out.below ((firm_rowK _ _ _ _ _).star firm_nought) (Below.refl _ _).drew
        clear HH
        refine wp_region_noPanic ?_
        refine wp_region_held_drew (S := fun _ => True) (by kernel_rfl) trivial (fun hHeld => ?_)
        generalize wr.drew = wa at *
        have t2s := tx_size 2 (fun j => if j = 0 then q else k)
        have t3s := tx_size 30 (fun _ => 0)
        refine tkH 0 ?_; go_simp
        refine tkH 1 ?_; go_simp
        refine tkH 2 ?_; go_simp
        refine tkH 3 ?_; go_simp
        refine wpAnyH_ready (rs := [4, 6]) (by kernel_rfl) (by simp) (AllReadyH.cons rfl (fun K hK => ?_) (AllReadyH.cons rfl (fun K hK => ?_) AllReadyH.nil))
        · go_simp
          have HH2 : Hid (Hold w.heap.size w (wa.alloc (.cells #[.int .u8 (q : Int), .int .u8 (k : Int)] 5)) (star (blkA wa.heap.size 5 (nr .u8 2 fun j => if j = 0 then q else k)) (star (rowK 9 1 v k (strs k (bkF len f))) nought))) := Hold.newBlk ((firm_rowK _ _ _ _ _).star firm_nought) HH1.out 5 #[.int .u8 (q : Int), .int .u8 (k : Int)]
          refine hK.out _ _ trivial (fun hHeld => ?_)
          clear hK K
          clear HH1
          generalize wa.alloc (.cells #[.int .u8 (q : Int), .int .u8 (k : Int)] 5) = wb at *
          generalize wa.heap.size = ga at *
          refine wpAnyH_weaken (S' := fun z : World => Blk z ga 5 (nr .u8 2 fun j => if j = 0 then q else k)) (fun z hz => trivial) _ _ _ _ ?_
          refine wpAnyH_take (i := 5) (v := (.string (tx 2 fun j => if j = 0 then q else k))) rfl (by kernel_rfl) (by kernel_rfl) (by kernel_rfl) (fun _ _ _ h => h) (Or.inl ⟨by rfl, ?_⟩) (Hold.blk HH2.out) ?_
          · intro w hSw; have hcr := conv_blk hSw 2 2 (Nat.le_refl _); clear hSw; go_simp; try with_reducible rfl
          go_simp
          refine rdH 6 fun K hK => ?_
          have hmz := HZ1 wb
          go_simp
          clear hmz
          have HH3 : Hid (Hold w.heap.size w (wb.alloc (.cells (nr .u8 30 fun _ => 0).toArray 5)) (star (blkA wb.heap.size 5 (nr .u8 30 fun _ => 0)) (star (blkA ga 5 (nr .u8 2 fun j => if j = 0 then q else k)) (star (rowK 9 1 v k (strs k (bkF len f))) nought)))) := by
            have := Hold.newBlk ((firm_blk _ _ _).star ((firm_rowK _ _ _ _ _).star firm_nought)) HH2.out 5 (nr .u8 30 fun _ => 0).toArray
            rwa [List.toList_toArray] at this
          refine hK.out _ _ (Hold.right HH3.out).blk (fun hHeld => ?_)
          clear hK K
          clear HH2
          generalize wb.alloc (.cells (nr .u8 30 fun _ => 0).toArray 5) = wc at *
          generalize wb.heap.size = gb at *
          have HH4 : Hid (Hold w.heap.size w wc (star (rowK 9 1 v k (strs k (bkF len f))) (star (blkA gb 5 (nr .u8 30 fun _ => 0)) (star (blkA ga 5 (nr .u8 2 fun j => if j = 0 then q else k)) nought)))) := Hold.pull3 HH3.out
          clear HH3
          refine wpAnyH_weaken (S' := fun z : World => Blk z ga 5 (nr .u8 2 fun j => if j = 0 then q else k) ∧ Blk z gb 5 (nr .u8 30 fun _ => 0)) (fun z hz => hz.1) _ _ _ _ ?_
          refine wpAnyH_take (i := 7) (v := (.string (tx 30 fun _ => 0))) rfl (by kernel_rfl) (by kernel_rfl) (by kernel_rfl) (fun _ _ _ h => h) (Or.inl ⟨by rfl, ?_⟩) ⟨(Hold.right (Hold.right HH4.out)).blk, (Hold.right HH4.out).blk⟩ ?_
          · intro w hSw; have hcr := conv_blk hSw.2 30 30 (Nat.le_refl _); clear hSw; go_simp; try with_reducible rfl
          go_simp
          refine wpAnyH_take (i := 8) (v := ?_) rfl (by kernel_rfl) (by kernel_rfl) (by kernel_rfl) (fun _ _ _ h => h) (Or.inl ⟨by rfl, ?_⟩) ⟨(Hold.right (Hold.right HH4.out)).blk, (Hold.right HH4.out).blk⟩ ?_
          rotate_left
          · intro w hSw; clear hSw; go_simp; try with_reducible rfl
          go_simp
          refine rdH 9 fun K hK => ?_
          go_simp
          obtain ⟨la, lc, wd, hrun, hnew⟩ := push_str17 ((firm_blk _ _ _).star ((firm_blk _ _ _).star firm_nought)) HH4.out HK8.out _ HQ.out
          have HAL : Hid (Hold w.heap.size w (wc.alloc (.cells #[.string ((tx 2 fun j => if j = 0 then q else k) ++ tx 30 fun _ => 0)] 9)) _) := HH4.out.below ((firm_rowK _ _ _ _ _).star ((firm_blk _ _ _).star ((firm_blk _ _ _).star firm_nought))) ((Below.refl _ _).alloc (Nat.le_refl _) _)
          refine hK.out _ _ ⟨(Hold.right (Hold.right HAL.out)).blk, (Hold.right HAL.out).blk⟩ (fun hHeld => ?_)
          clear hK K HAL HH4
          have HN : Hid (Hold w.heap.size w wd (star (rowK 9 1 (.slice la (k + 1) lc) (k + 1) (strs (k + 1) (bkF len f))) _)) := hnew
          clear hnew
          refine rdH 10 fun K hK => ?_
          refine step_append_ty rfl _ _ 23 23 rfl _ _ rfl rfl _ _ hrun ?_
          refine hK.out _ _ ⟨(Hold.right (Hold.right HN.out)).blk, (Hold.right HN.out).blk⟩ (fun hHeld => ?_)
          clear hK K hrun
          refine tkH 11 ?_; go_simp
          refine wpAnyH_done (by kernel_rfl) ?_ _
          refine NoPanic.normal ?_
          go_wp2_with fail
          go_roundw
          case rel => exact ⟨_, k + 1, rfl, by omega, by go_num, (Hold.addNought (Hold.left HN.out)).comm⟩
          case measure => simp [intOf]; omega
        ·
          have hmz := HZ1 wa
          go_simp
          clear hmz
          have HH2 : Hid (Hold w.heap.size w (wa.alloc (.cells (nr .u8 30 fun _ => 0).toArray 5)) (star (blkA wa.heap.size 5 (nr .u8 30 fun _ => 0)) (star (rowK 9 1 v k (strs k (bkF len f))) nought))) := by
            have := Hold.newBlk ((firm_rowK _ _ _ _ _).star firm_nought) HH1.out 5 (nr .u8 30 fun _ => 0).toArray
            rwa [List.toList_toArray] at this
          refine hK.out _ _ trivial (fun hHeld => ?_)
          clear hK K
          clear HH1
          generalize wa.alloc (.cells (nr .u8 30 fun _ => 0).toArray 5) = wb at *
          generalize wa.heap.size = gb at *
          refine wpAnyH_weaken (S' := fun z : World => Blk z gb 5 (nr .u8 30 fun _ => 0)) (fun z hz => trivial) _ _ _ _ ?_
          refine wpAnyH_take (i := 7) (v := (.string (tx 30 fun _ => 0))) rfl (by kernel_rfl) (by kernel_rfl) (by kernel_rfl) (fun _ _ _ h => h) (Or.inl ⟨by rfl, ?_⟩) (Hold.blk HH2.out) ?_
          · intro w hSw; have hcr := conv_blk hSw 30 30 (Nat.le_refl _); clear hSw; go_simp; try with_reducible rfl
          go_simp
          refine rdH 4 fun K hK => ?_
          go_simp
          have HH3 : Hid (Hold w.heap.size w (wb.alloc (.cells #[.int .u8 (q : Int), .int .u8 (k : Int)] 5)) (star (blkA wb.heap.size 5 (nr .u8 2 fun j => if j = 0 then q else k)) (star (blkA gb 5 (nr .u8 30 fun _ => 0)) (star (rowK 9 1 v k (strs k (bkF len f))) nought)))) := Hold.newBlk ((firm_blk _ _ _).star ((firm_rowK _ _ _ _ _).star firm_nought)) HH2.out 5 #[.int .u8 (q : Int), .int .u8 (k : Int)]
          refine hK.out _ _ (Hold.right HH3.out).blk (fun hHeld => ?_)
          clear hK K
          clear HH2
          generalize wb.alloc (.cells #[.int .u8 (q : Int), .int .u8 (k : Int)] 5) = wc at *
          generalize wb.heap.size = ga at *
          have HH4 : Hid (Hold w.heap.size w wc (star (rowK 9 1 v k (strs k (bkF len f))) (star (blkA ga 5 (nr .u8 2 fun j => if j = 0 then q else k)) (star (blkA gb 5 (nr .u8 30 fun _ => 0)) nought)))) := Hold.pull3 HH3.out
          clear HH3
          refine wpAnyH_weaken (S' := fun z : World => Blk z ga 5 (nr .u8 2 fun j => if j = 0 then q else k) ∧ Blk z gb 5 (nr .u8 30 fun _ => 0)) (fun z hz => hz.2) _ _ _ _ ?_
          refine wpAnyH_take (i := 5) (v := (.string (tx 2 fun j => if j = 0 then q else k))) rfl (by kernel_rfl) (by kernel_rfl) (by kernel_rfl) (fun _ _ _ h => h) (Or.inl ⟨by rfl, ?_⟩) ⟨(Hold.right HH4.out).blk, (Hold.right (Hold.right HH4.out)).blk⟩ ?_
          · intro w hSw; have hcr := conv_blk hSw.1 2 2 (Nat.le_refl _); clear hSw; go_simp; try with_reducible rfl
          go_simp
          refine wpAnyH_take (i := 8) (v := ?_) rfl (by kernel_rfl) (by kernel_rfl) (by kernel_rfl) (fun _ _ _ h => h) (Or.inl ⟨by rfl, ?_⟩) ⟨(Hold.right HH4.out).blk, (Hold.right (Hold.right HH4.out)).blk⟩ ?_
          rotate_left
          · intro w hSw; clear hSw; go_simp; try with_reducible rfl
          go_simp
          refine rdH 9 fun K hK => ?_
          go_simp
          obtain ⟨la, lc, wd, hrun, hnew⟩ := push_str17 ((firm_blk _ _ _).star ((firm_blk _ _ _).star firm_nought)) HH4.out HK8.out _ HQ.out
          have HAL : Hid (Hold w.heap.size w (wc.alloc (.cells #[.string ((tx 2 fun j => if j = 0 then q else k) ++ tx 30 fun _ => 0)] 9)) _) := HH4.out.below ((firm_rowK _ _ _ _ _).star ((firm_blk _ _ _).star ((firm_blk _ _ _).star firm_nought))) ((Below.refl _ _).alloc (Nat.le_refl _) _)
          refine hK.out _ _ ⟨(Hold.right HAL.out).blk, (Hold.right (Hold.right HAL.out)).blk⟩ (fun hHeld => ?_)
          clear hK K HAL HH4
          have HN : Hid (Hold w.heap.size w wd (star (rowK 9 1 (.slice la (k + 1) lc) (k + 1) (strs (k + 1) (bkF len f))) _)) := hnew
          clear hnew
          refine rdH 10 fun K hK => ?_
          refine step_append_ty rfl _ _ 23 23 rfl _ _ rfl rfl _ _ hrun ?_
          refine hK.out _ _ ⟨(Hold.right HN.out).blk, (Hold.right (Hold.right HN.out)).blk⟩ (fun hHeld => ?_)
          clear hK K hrun
          refine tkH 11 ?_; go_simp
          refine wpAnyH_done (by kernel_rfl) ?_ _
          refine NoPanic.normal ?_
          go_wp2_with fail
          go_roundw
          case rel => exact ⟨_, k + 1, rfl, by omega, by go_num, (Hold.addNought (Hold.left HN.out)).comm⟩
          case measure => simp [intOf]; omega
    · obtain rfl : k = m := by omega
      go_wp2_with fail
      go_ret
      rw [HM.out]
      exact ⟨_, rfl, Hold.rowBack HH.out, HH.out.low⟩
end Go.Proofs.YtokknmkleceooaaGreatDoor
