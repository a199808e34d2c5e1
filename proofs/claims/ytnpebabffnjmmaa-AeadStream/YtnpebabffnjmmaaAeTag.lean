/- What the program's filled and tag answer, for every key and nonce of their bytes and every two texts that may be sealed. -/
import Derived.Test.YtnpebabffnjmmaaAeTagB
import Derived.Test.YtnpebabffnjmmaaAeLen
import Derived.Test.YtnpebabffnjmmaaRep
import Derived.Test.YtnpebabffnjmmaaChBlock
namespace Go.Proofs.Ytnpebabffnjmmaa
open Go.RowKit Go.PlainAid
set_option linter.unusedVariables false

set_option maxHeartbeats 1000000 in
set_option maxRecDepth 20000 in
theorem filled_any (s : ByteArray) (hs : s.size ≤ 1000000) (w : World) :
    Calls Try.prog 30 #[.string s] w fun e w' => e = .returned (.string (pdB s)) ∧ Below w.heap.size w w' := by
  have c1 := fun w => repeat_zero (upN s.size) w (by have := upN_lt s.size; omega)
  have hn : (16 - ((s.size : Nat) : Int) % 16) % 16 = ((upN s.size : Nat) : Int) := by unfold upN; omega
  have hu : upN s.size < 16 := upN_lt _
  have HP : Hid (s ++ zt (upN s.size) = pdB s) := rfl
  rw [show strOfNums (List.replicate (upN s.size) 0) = zt (upN s.size) from rfl] at c1
  have hzs := zt_size (upN s.size)
  generalize pdB s = X at HP ⊢
  generalize zt (upN s.size) = Z at HP c1 hzs
  generalize upN s.size = u at c1 hn hu hzs
  have hZw : (9223372036854775807 < s.size + Z.size) = False := by simp; omega
  have HZ : Hid (Z.size = u) := hzs
  clear hzs
  go_enter Try.func30, Try.ntmps30
  go_wp2_with fail
  refine (c1 w).mono ?_
  rintro e w1 ⟨rfl, hb1⟩
  go_wp2_with fail
  go_ret
  exact ⟨by rw [← HP.out]; rfl, hb1⟩

set_option maxHeartbeats 2000000 in
set_option maxRecDepth 20000 in
theorem tag_any (key nonce a c : ByteArray) (hk : key.size = 32) (hn : nonce.size = 12) (ha : a.size ≤ 16384) (hc : c.size ≤ 16384) (w : World) :
    Calls Try.prog 20 #[.string key, .string nonce, .string a, .string c] w fun e w' => e = .returned (.string (atg key nonce a c)) ∧ Below w.heap.size w w' := by
  have c0 := fun w => block_ok key nonce 0 hk hn ⟨by decide, by decide⟩ w
  have c1 := fun w => filled_any a (by omega) w
  have c2 := fun w => filled_any c (by omega) w
  have c3 := fun g w => lengths_any a c g w (by omega) (by omega)
  have hms : (mcB a c).size ≤ 65536 := by
    have h1 := upN_lt a.size
    have h2 := upN_lt c.size
    rw [mcB_size]; omega
  have c4 := fun w => sum_ok (kyB key nonce) (mcB a c) (kyB_size _ _) hms w
  rw [show mcB a c = pdB a ++ pdB c ++ lnB a.size c.size from rfl] at c4 hms
  have hXK : (blkB (stI key nonce 0)).extract 0 32 = kyB key nonce := rfl
  have hXs : (blkB (stI key nonce 0)).size = 64 := blkB_size _
  have HT : Hid (tagB (kyB key nonce) (pdB a ++ pdB c ++ lnB a.size c.size) = atg key nonce a c) := rfl
  have hLs := lnB_size a.size c.size
  generalize atg key nonce a c = T at HT ⊢
  generalize blkB (stI key nonce 0) = X at c0 hXK hXs
  generalize kyB key nonce = Y at c4 hXK HT
  generalize pdB a = A at c1 c4 HT hms
  generalize pdB c = C at c2 c4 HT hms
  generalize lnB a.size c.size = L at c3 c4 HT hLs hms
  rw [HT.out] at c4
  have hms' := hms
  rw [ByteArray.size_append, ByteArray.size_append] at hms'
  have hw1 : (9223372036854775807 < A.size + C.size) = False := by simp; omega
  have hw2 : (9223372036854775807 < (A ++ C).size + L.size) = False := by rw [ByteArray.size_append]; simp; omega
  have hw2' : (9223372036854775807 < A.size + C.size + L.size) = False := by simp; omega
  have hX32 : ((32 : Int) ≤ ((X.size : Nat) : Int)) = True := by simp; omega
  have HXs : Hid (X.size = 64) := hXs
  clear HT hms hms' hLs hXs hk hn
  go_enter Try.func20, Try.ntmps20
  go_wp2_with fail
  refine (c0 w).mono ?_
  rintro e w0 ⟨rfl, hb0⟩
  clear c0
  go_wp2_with fail
  refine wp_region_noPanic ?_
  refine wp_region_held_drew (S := fun _ => True) (by kernel_rfl) trivial (fun hHeld => ?_)
  refine wpAnyH_take (i := 0) (v := ?_) rfl (by kernel_rfl) (by kernel_rfl) (by kernel_rfl) (fun _ _ _ h => h) (Or.inl ⟨by rfl, ?_⟩) (by assumption) ?_
  rotate_left
  · intro w hSw; go_simp; try with_reducible rfl
  go_simp
  refine wpAnyH_take (i := 1) (v := ?_) rfl (by kernel_rfl) (by kernel_rfl) (by kernel_rfl) (fun _ _ _ h => h) (Or.inl ⟨by rfl, ?_⟩) (by assumption) ?_
  rotate_left
  · intro w hSw; go_simp; try with_reducible rfl
  go_simp
  refine wpAnyH_take (i := 2) (v := ?_) rfl (by kernel_rfl) (by kernel_rfl) (by kernel_rfl) (fun _ _ _ h => h) (Or.inl ⟨by rfl, ?_⟩) (by assumption) ?_
  rotate_left
  · intro w hSw; go_simp; try with_reducible rfl
  go_simp
  refine wpAnyH_take (i := 4) (v := ?_) rfl (by kernel_rfl) (by kernel_rfl) (by kernel_rfl) (fun _ _ _ h => h) (Or.inl ⟨by rfl, ?_⟩) (by assumption) ?_
  rotate_left
  · intro w hSw; go_simp; try with_reducible rfl
  go_simp
  refine wpAnyH_take (i := 7) (v := ?_) rfl (by kernel_rfl) (by kernel_rfl) (by kernel_rfl) (fun _ _ _ h => h) (Or.inl ⟨by rfl, ?_⟩) (by assumption) ?_
  rotate_left
  · intro w hSw; go_simp; try with_reducible rfl
  go_simp
  refine wpAnyH_take (i := 8) (v := ?_) rfl (by kernel_rfl) (by kernel_rfl) (by kernel_rfl) (fun _ _ _ h => h) (Or.inl ⟨by rfl, ?_⟩) (by assumption) ?_
  rotate_left
  · intro w hSw; go_simp; try with_reducible rfl
  go_simp
  have hbw0 : Below w.heap.size w w0.drew := hb0.drew
  generalize w0.drew = wd at hbw0 hHeld ⊢
  have hbwd := hbw0
  refine wpAnyH_ready (rs := [3, 9]) (by kernel_rfl) (by simp) (AllReadyH.cons rfl (fun K hK => ?_) (AllReadyH.cons rfl (fun K hK => ?_) AllReadyH.nil))
  · skip
    go_simp
    go_at_call 30
    refine (c1 _).mono ?_
    rintro e wa ⟨rfl, bwa⟩
    have hbwa : Below w.heap.size w wa := hbwd.trans (bwa.mono hbwd.size)
    refine hK.out _ _ trivial (fun hHeld => ?_)
    clear hK K
    refine wpAnyH_ready (rs := [5, 9]) (by kernel_rfl) (by simp) (AllReadyH.cons rfl (fun K hK => ?_) (AllReadyH.cons rfl (fun K hK => ?_) AllReadyH.nil))
    · skip
      go_simp
      go_at_call 30
      refine (c2 _).mono ?_
      rintro e wb ⟨rfl, bwb⟩
      have hbwb : Below w.heap.size w wb := hbwa.trans (bwb.mono hbwa.size)
      refine hK.out _ _ trivial (fun hHeld => ?_)
      clear hK K
      refine wpAnyH_take (i := 6) (v := ?_) rfl (by kernel_rfl) (by kernel_rfl) (by kernel_rfl) (fun _ _ _ h => h) (Or.inl ⟨by rfl, ?_⟩) (by assumption) ?_
      rotate_left
      · intro w hSw; go_simp; try with_reducible rfl
      go_simp
      refine wpAnyH_ready (rs := [9]) (by kernel_rfl) (by simp) (AllReadyH.cons rfl (fun K hK => ?_) AllReadyH.nil)
      go_simp
      have hBwc' : Blk (wb.alloc (.cells #[.string a, .string c] 9)) wb.heap.size 9 [.string a, .string c] := Blk.box wb 9 [.string a, .string c]
      have hbwc' : Below w.heap.size w (wb.alloc (.cells #[.string a, .string c] 9)) := hbwb.alloc hbwb.size _
      refine hK.out _ _ trivial (fun hHeld => ?_)
      clear hK K
      generalize wb.alloc (.cells #[.string a, .string c] 9) = wc at hBwc' hbwc' ⊢
      generalize wb.heap.size = g at hBwc' ⊢
      have hBwc := hBwc'
      have hbwc := hbwc'
      refine wpAnyH_ready (rs := [10]) (by kernel_rfl) (by simp) (AllReadyH.cons rfl (fun K hK => ?_) AllReadyH.nil)
      go_simp
      go_at_call 31
      refine (c3 _ _ (hBwc.cell rfl) (hBwc.cell rfl) hBwc.lt).mono ?_
      rintro e wl ⟨rfl, bwl⟩
      have hbwl : Below w.heap.size w wl := hbwc.trans (bwl.mono hbwc.size)
      refine hK.out _ _ trivial (fun hHeld => ?_)
      clear hK K
      refine wpAnyH_take (i := 11) (v := ?_) rfl (by kernel_rfl) (by kernel_rfl) (by kernel_rfl) (fun _ _ _ h => h) (Or.inl ⟨by rfl, ?_⟩) (by assumption) ?_
      rotate_left
      · intro w hSw; go_simp; try with_reducible rfl
      go_simp
      refine wpAnyH_ready (rs := [12]) (by kernel_rfl) (by simp) (AllReadyH.cons rfl (fun K hK => ?_) AllReadyH.nil)
      go_simp
      go_at_call 29
      refine (c4 _).mono ?_
      rintro e ws ⟨rfl, bws⟩
      have hbws : Below w.heap.size w ws := hbwl.trans (bws.mono hbwl.size)
      refine hK.out _ _ trivial (fun hHeld => ?_)
      clear hK K
      refine wpAnyH_take (i := 13) (v := ?_) rfl (by kernel_rfl) (by kernel_rfl) (by kernel_rfl) (fun _ _ _ h => h) (Or.inl ⟨by rfl, ?_⟩) (by assumption) ?_
      rotate_left
      · intro w hSw; go_simp; try with_reducible rfl
      go_simp
      refine wpAnyH_take (i := 14) (v := ?_) rfl (by kernel_rfl) (by kernel_rfl) (by kernel_rfl) (fun _ _ _ h => h) (Or.inl ⟨by rfl, ?_⟩) (by assumption) ?_
      rotate_left
      · intro w hSw; go_simp; try with_reducible rfl
      go_simp
      refine wpAnyH_take (i := 15) (v := ?_) rfl (by kernel_rfl) (by kernel_rfl) (by kernel_rfl) (fun _ _ _ h => h) (Or.inl ⟨by rfl, ?_⟩) (by assumption) ?_
      rotate_left
      · intro w hSw; go_simp; try with_reducible rfl
      go_simp
      refine wpAnyH_take (i := 16) (v := ?_) rfl (by kernel_rfl) (by kernel_rfl) (by kernel_rfl) (fun _ _ _ h => h) (Or.inl ⟨by rfl, ?_⟩) (by assumption) ?_
      rotate_left
      · intro w hSw; go_simp; try with_reducible rfl
      go_simp
      refine wpAnyH_take (i := 17) (v := ?_) rfl (by kernel_rfl) (by kernel_rfl) (by kernel_rfl) (fun _ _ _ h => h) (Or.inl ⟨by rfl, ?_⟩) (by assumption) ?_
      rotate_left
      · intro w hSw; go_simp; try with_reducible rfl
      go_simp
      refine wpAnyH_done (by kernel_rfl) ?_ _
      refine NoPanic.normal ?_
      go_wp2_with fail
      go_ret
      exact ⟨rfl, hbws⟩
    · skip
      go_simp
      have hBwb' : Blk (wa.alloc (.cells #[.string a, .string c] 9)) wa.heap.size 9 [.string a, .string c] := Blk.box wa 9 [.string a, .string c]
      have hbwb' : Below w.heap.size w (wa.alloc (.cells #[.string a, .string c] 9)) := hbwa.alloc hbwa.size _
      refine hK.out _ _ trivial (fun hHeld => ?_)
      clear hK K
      generalize wa.alloc (.cells #[.string a, .string c] 9) = wb at hBwb' hbwb' ⊢
      generalize wa.heap.size = g at hBwb' ⊢
      have hBwb := hBwb'
      have hbwb := hbwb'
      refine wpAnyH_ready (rs := [5]) (by kernel_rfl) (by simp) (AllReadyH.cons rfl (fun K hK => ?_) AllReadyH.nil)
      go_simp
      go_at_call 30
      refine (c2 _).mono ?_
      rintro e wc ⟨rfl, bwc⟩
      have hbwc : Below w.heap.size w wc := hbwb.trans (bwc.mono hbwb.size)
      have hBwc : Blk wc _ 9 [.string a, .string c] := hBwb.below bwc hBwb.lt
      refine hK.out _ _ trivial (fun hHeld => ?_)
      clear hK K
      refine wpAnyH_take (i := 6) (v := ?_) rfl (by kernel_rfl) (by kernel_rfl) (by kernel_rfl) (fun _ _ _ h => h) (Or.inl ⟨by rfl, ?_⟩) (by assumption) ?_
      rotate_left
      · intro w hSw; go_simp; try with_reducible rfl
      go_simp
      refine wpAnyH_ready (rs := [10]) (by kernel_rfl) (by simp) (AllReadyH.cons rfl (fun K hK => ?_) AllReadyH.nil)
      go_simp
      go_at_call 31
      refine (c3 _ _ (hBwc.cell rfl) (hBwc.cell rfl) hBwc.lt).mono ?_
      rintro e wl ⟨rfl, bwl⟩
      have hbwl : Below w.heap.size w wl := hbwc.trans (bwl.mono hbwc.size)
      refine hK.out _ _ trivial (fun hHeld => ?_)
      clear hK K
      refine wpAnyH_take (i := 11) (v := ?_) rfl (by kernel_rfl) (by kernel_rfl) (by kernel_rfl) (fun _ _ _ h => h) (Or.inl ⟨by rfl, ?_⟩) (by assumption) ?_
      rotate_left
      · intro w hSw; go_simp; try with_reducible rfl
      go_simp
      refine wpAnyH_ready (rs := [12]) (by kernel_rfl) (by simp) (AllReadyH.cons rfl (fun K hK => ?_) AllReadyH.nil)
      go_simp
      go_at_call 29
      refine (c4 _).mono ?_
      rintro e ws ⟨rfl, bws⟩
      have hbws : Below w.heap.size w ws := hbwl.trans (bws.mono hbwl.size)
      refine hK.out _ _ trivial (fun hHeld => ?_)
      clear hK K
      refine wpAnyH_take (i := 13) (v := ?_) rfl (by kernel_rfl) (by kernel_rfl) (by kernel_rfl) (fun _ _ _ h => h) (Or.inl ⟨by rfl, ?_⟩) (by assumption) ?_
      rotate_left
      · intro w hSw; go_simp; try with_reducible rfl
      go_simp
      refine wpAnyH_take (i := 14) (v := ?_) rfl (by kernel_rfl) (by kernel_rfl) (by kernel_rfl) (fun _ _ _ h => h) (Or.inl ⟨by rfl, ?_⟩) (by assumption) ?_
      rotate_left
      · intro w hSw; go_simp; try with_reducible rfl
      go_simp
      refine wpAnyH_take (i := 15) (v := ?_) rfl (by kernel_rfl) (by kernel_rfl) (by kernel_rfl) (fun _ _ _ h => h) (Or.inl ⟨by rfl, ?_⟩) (by assumption) ?_
      rotate_left
      · intro w hSw; go_simp; try with_reducible rfl
      go_simp
      refine wpAnyH_take (i := 16) (v := ?_) rfl (by kernel_rfl) (by kernel_rfl) (by kernel_rfl) (fun _ _ _ h => h) (Or.inl ⟨by rfl, ?_⟩) (by assumption) ?_
      rotate_left
      · intro w hSw; go_simp; try with_reducible rfl
      go_simp
      refine wpAnyH_take (i := 17) (v := ?_) rfl (by kernel_rfl) (by kernel_rfl) (by kernel_rfl) (fun _ _ _ h => h) (Or.inl ⟨by rfl, ?_⟩) (by assumption) ?_
      rotate_left
      · intro w hSw; go_simp; try with_reducible rfl
      go_simp
      refine wpAnyH_done (by kernel_rfl) ?_ _
      refine NoPanic.normal ?_
      go_wp2_with fail
      go_ret
      exact ⟨rfl, hbws⟩
  · skip
    go_simp
    have hBwa' : Blk (wd.alloc (.cells #[.string a, .string c] 9)) wd.heap.size 9 [.string a, .string c] := Blk.box wd 9 [.string a, .string c]
    have hbwa' : Below w.heap.size w (wd.alloc (.cells #[.string a, .string c] 9)) := hbwd.alloc hbwd.size _
    refine hK.out _ _ trivial (fun hHeld => ?_)
    clear hK K
    generalize wd.alloc (.cells #[.string a, .string c] 9) = wa at hBwa' hbwa' ⊢
    generalize wd.heap.size = g at hBwa' ⊢
    have hBwa := hBwa'
    have hbwa := hbwa'
    refine wpAnyH_ready (rs := [3]) (by kernel_rfl) (by simp) (AllReadyH.cons rfl (fun K hK => ?_) AllReadyH.nil)
    go_simp
    go_at_call 30
    refine (c1 _).mono ?_
    rintro e wb ⟨rfl, bwb⟩
    have hbwb : Below w.heap.size w wb := hbwa.trans (bwb.mono hbwa.size)
    have hBwb : Blk wb _ 9 [.string a, .string c] := hBwa.below bwb hBwa.lt
    refine hK.out _ _ trivial (fun hHeld => ?_)
    clear hK K
    refine wpAnyH_ready (rs := [5]) (by kernel_rfl) (by simp) (AllReadyH.cons rfl (fun K hK => ?_) AllReadyH.nil)
    go_simp
    go_at_call 30
    refine (c2 _).mono ?_
    rintro e wc ⟨rfl, bwc⟩
    have hbwc : Below w.heap.size w wc := hbwb.trans (bwc.mono hbwb.size)
    have hBwc : Blk wc _ 9 [.string a, .string c] := hBwb.below bwc hBwb.lt
    refine hK.out _ _ trivial (fun hHeld => ?_)
    clear hK K
    refine wpAnyH_take (i := 6) (v := ?_) rfl (by kernel_rfl) (by kernel_rfl) (by kernel_rfl) (fun _ _ _ h => h) (Or.inl ⟨by rfl, ?_⟩) (by assumption) ?_
    rotate_left
    · intro w hSw; go_simp; try with_reducible rfl
    go_simp
    refine wpAnyH_ready (rs := [10]) (by kernel_rfl) (by simp) (AllReadyH.cons rfl (fun K hK => ?_) AllReadyH.nil)
    go_simp
    go_at_call 31
    refine (c3 _ _ (hBwc.cell rfl) (hBwc.cell rfl) hBwc.lt).mono ?_
    rintro e wl ⟨rfl, bwl⟩
    have hbwl : Below w.heap.size w wl := hbwc.trans (bwl.mono hbwc.size)
    refine hK.out _ _ trivial (fun hHeld => ?_)
    clear hK K
    refine wpAnyH_take (i := 11) (v := ?_) rfl (by kernel_rfl) (by kernel_rfl) (by kernel_rfl) (fun _ _ _ h => h) (Or.inl ⟨by rfl, ?_⟩) (by assumption) ?_
    rotate_left
    · intro w hSw; go_simp; try with_reducible rfl
    go_simp
    refine wpAnyH_ready (rs := [12]) (by kernel_rfl) (by simp) (AllReadyH.cons rfl (fun K hK => ?_) AllReadyH.nil)
    go_simp
    go_at_call 29
    refine (c4 _).mono ?_
    rintro e ws ⟨rfl, bws⟩
    have hbws : Below w.heap.size w ws := hbwl.trans (bws.mono hbwl.size)
    refine hK.out _ _ trivial (fun hHeld => ?_)
    clear hK K
    refine wpAnyH_take (i := 13) (v := ?_) rfl (by kernel_rfl) (by kernel_rfl) (by kernel_rfl) (fun _ _ _ h => h) (Or.inl ⟨by rfl, ?_⟩) (by assumption) ?_
    rotate_left
    · intro w hSw; go_simp; try with_reducible rfl
    go_simp
    refine wpAnyH_take (i := 14) (v := ?_) rfl (by kernel_rfl) (by kernel_rfl) (by kernel_rfl) (fun _ _ _ h => h) (Or.inl ⟨by rfl, ?_⟩) (by assumption) ?_
    rotate_left
    · intro w hSw; go_simp; try with_reducible rfl
    go_simp
    refine wpAnyH_take (i := 15) (v := ?_) rfl (by kernel_rfl) (by kernel_rfl) (by kernel_rfl) (fun _ _ _ h => h) (Or.inl ⟨by rfl, ?_⟩) (by assumption) ?_
    rotate_left
    · intro w hSw; go_simp; try with_reducible rfl
    go_simp
    refine wpAnyH_take (i := 16) (v := ?_) rfl (by kernel_rfl) (by kernel_rfl) (by kernel_rfl) (fun _ _ _ h => h) (Or.inl ⟨by rfl, ?_⟩) (by assumption) ?_
    rotate_left
    · intro w hSw; go_simp; try with_reducible rfl
    go_simp
    refine wpAnyH_take (i := 17) (v := ?_) rfl (by kernel_rfl) (by kernel_rfl) (by kernel_rfl) (fun _ _ _ h => h) (Or.inl ⟨by rfl, ?_⟩) (by assumption) ?_
    rotate_left
    · intro w hSw; go_simp; try with_reducible rfl
    go_simp
    refine wpAnyH_done (by kernel_rfl) ?_ _
    refine NoPanic.normal ?_
    go_wp2_with fail
    go_ret
    exact ⟨rfl, hbws⟩
end Go.Proofs.Ytnpebabffnjmmaa
