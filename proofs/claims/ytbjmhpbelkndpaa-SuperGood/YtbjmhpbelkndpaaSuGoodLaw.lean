/- The law SuperGood, walked. -/
import Derived.Test.YtbjmhpbelkndpaaSuWakes2
import Derived.Test.YtbjmhpbelkndpaaSuRPut
namespace Go.Proofs.Ytbjmhpbelkndpaa
open Go.RowKit Go.PlainAid
set_option linter.unusedVariables false

theorem Try.size26 : (Try.prog.info? 26).map (·.size) = some 9 := by kernel_rfl
set_option maxRecDepth 20000 in
set_option maxHeartbeats 4000000 in
theorem superGood_law (x : Raw) (A : Nat → Int) (D : Nat → Dsk) (W : World) (hx : x.At A D W) (hf : (x.toR A D).Fine) : Calls Try.prog 3 #[.agg x.row.toArray] W fun e w' => e = .returned (.bool true) ∧ Below W.heap.size W w' := by
  have hz1 := zeroSup
  have hz2 := zeroRSup
  obtain ⟨HS, hHS⟩ : ∃ HS, W.heap.size = HS := ⟨_, rfl⟩
  have hlow : Below W.heap.size W (W.alloc (.cells x.row.toArray 26)) := (Below.refl _ _).alloc (Nat.le_refl _) _
  have hbk := Blk.box W 26 x.row
  have hrec := records_any x A D _ (hx.below hlow)
  have HPUT : Hid (∀ z sa ma sc mc, Lies z (x.toR A D) sa ma → Calls Try.prog 8 #[.agg (supV (x.toR A D) sa ma sc mc).toArray] z _) := fun z sa ma sc mc hl => sput_any hf hl
  have HRPUT : Hid (∀ z sa ma sc mc, Lies z (x.toR A D) sa ma → Calls Try.prog 9 #[.agg (supV (x.toR A D) sa ma sc mc).toArray] z _) := fun z sa ma sc mc hl => r14put_any hf hl
  have HGD : Hid (∀ z sa ma sc mc, Lies z (x.toR A D) sa ma → Calls Try.prog 11 #[.agg (supV (x.toR A D) sa ma sc mc).toArray] z _) := fun z sa ma sc mc hl => sgood_any hf hl
  have HRGD : Hid (∀ z sa ma sc mc, Lies z (x.toR A D) sa ma → Calls Try.prog 12 #[.agg (supV (x.toR A D) sa ma sc mc).toArray] z _) := fun z sa ma sc mc hl => r14good_any hf hl
  have hl9 : x.row.length = 9 := rfl
  have HL9 : Hid ((Try.prog.info? 26).map (·.size) = some x.row.length) := Try.size26
  generalize x.row = XR at *
  generalize x.toR A D = R at *
  rw [hHS] at hlow hbk ⊢
  have HLOW : Hid (Below HS W _) := hlow
  have HBK : Hid (Blk _ HS 26 XR) := hbk
  clear hx hf hl9 hlow hbk
  generalize putT R = PT at *
  generalize putE R = PE at *
  generalize gd R = GG at *
  go_enter Try.func3, Try.ntmps3
  go_wp2_with (first
    | (refine wpList_load_blk rfl 26 _ rfl HS rfl 26 XR _ HBK.out Try.underlying26 rfl HL9.out ?_)
    | (go_at_call 7; refine hrec.mono ?_; rintro e w1 ⟨sa, sc, ma, mc, mb, md, rfl, h1⟩; obtain ⟨L1, L2, w2, pk⟩ := rec_pack h1; have HP1 := fun z => HPUT.out z sa ma sc mc; have HG1 := fun z => HGD.out z sa ma sc mc; have HR1 := fun z => HRPUT.out z sa mb sc md; have HQ1 := fun z => HRGD.out z sa mb sc md; rw [pk.e1] at HP1 HG1; rw [pk.e2] at HR1 HQ1; rw [pk.e1, pk.e2]; have HP1 : Hid (∀ z, Lies z R sa ma → _) := HP1; have HG1 : Hid (∀ z, Lies z R sa ma → _) := HG1; have HR1 : Hid (∀ z, Lies z R sa mb → _) := HR1; have HQ1 : Hid (∀ z, Lies z R sa mb → _) := HQ1; have PK : Hid (Pk _ w1 R sa ma mb sc mc md L1 L2 w2) := pk; have HL2 : Hid (Lies w2 R sa ma ∧ Lies w2 R sa mb) := ⟨pk.la, pk.lb⟩; have HA2 : Hid (Blk w2 w1.heap.size 29 L1 ∧ Blk w2 (w1.heap.size + 1) 32 L2) := ⟨pk.a, pk.b⟩; have HB2 : Hid (Below HS W w2) := HLOW.out.trans (pk.low.mono (by simp; omega)); have hw2 := pk.ew; clear h1 pk HPUT HGD HRPUT HRGD hrec HLOW HBK)
    | (refine wpList_store_blk rfl 29 _ _ rfl w1.heap.size zS L1 rfl rfl 29 PK.out.z1 PK.out.s1 PK.out.n1 PK.out.o1 ?_)
    | (refine wpList_store_blk rfl 32 _ _ rfl (w1.heap.size + 1) zS L2 rfl rfl 32 PK.out.z2 PK.out.s2 PK.out.n2 PK.out.o2 ?_; rw [hw2]; clear hw2)
    | (refine wpList_load_blk rfl 29 _ rfl w1.heap.size rfl 29 L1 _ HA2.out.1 Try.underlying29 rfl PK.out.s1 ?_)
    | (go_at_call 8; refine (HP1.out _ HL2.out.1).mono ?_; rintro e w3 ⟨rfl, hb3⟩; have HL3 : Hid (Lies w3 R sa ma ∧ Lies w3 R sa mb) := ⟨HL2.out.1.below hb3, HL2.out.2.below hb3⟩; have HA3 : Hid (Blk w3 w1.heap.size 29 L1 ∧ Blk w3 (w1.heap.size + 1) 32 L2) := ⟨HA2.out.1.below hb3 HA2.out.1.lt, HA2.out.2.below hb3 HA2.out.2.lt⟩; have HB3 : Hid (Below HS W w3) := HB2.out.trans (hb3.mono (by have := HB2.out.size; omega)); clear hb3 HL2 HA2 HB2)
    | (refine wpList_load_blk rfl 32 _ rfl (w1.heap.size + 1) rfl 32 L2 _ HA3.out.2 Try.underlying32 rfl PK.out.s2 ?_)
    | (go_at_call 9; refine (HR1.out _ HL3.out.2).mono ?_; rintro e w4 ⟨rfl, hb4⟩; have HL4 : Hid (Lies w4 R sa ma ∧ Lies w4 R sa mb) := ⟨HL3.out.1.below hb4, HL3.out.2.below hb4⟩; have HA4 : Hid (Blk w4 w1.heap.size 29 L1 ∧ Blk w4 (w1.heap.size + 1) 32 L2) := ⟨HA3.out.1.below hb4 HA3.out.1.lt, HA3.out.2.below hb4 HA3.out.2.lt⟩; have HB4 : Hid (Below HS W w4) := HB3.out.trans (hb4.mono (by have := HB3.out.size; omega)); clear hb4 HL3 HA3 HB3))
  have HL5 : Hid (Lies w4.drew R sa ma ∧ Lies w4.drew R sa mb) := ⟨HL4.out.1.below (Below.refl _ _).drew, HL4.out.2.below (Below.refl _ _).drew⟩
  have HA5 : Hid (Blk w4.drew w1.heap.size 29 L1 ∧ Blk w4.drew (w1.heap.size + 1) 32 L2) := HA4.out
  have HB5 : Hid (Below HS W w4.drew) := HB4.out.drew
  clear HL4 HA4 HB4
  refine wp_region_noPanic ?_
  refine wp_region_held_drew (S := fun z : World => Blk z w1.heap.size 29 L1 ∧ Blk z (w1.heap.size + 1) 32 L2) (by kernel_rfl) HA5.out (fun hHeld => ?_)
  refine wpAnyH_ready (rs := [0]) (by kernel_rfl) (by simp) (AllReadyH.cons rfl (fun K hK => ?_) AllReadyH.nil)
  go_simp
  go_at_call 10
  refine (wakes14_any _).mono ?_
  rintro e w5 ⟨rfl, hb5⟩
  have HL6 : Hid (Lies w5 R sa ma ∧ Lies w5 R sa mb) := ⟨HL5.out.1.below hb5, HL5.out.2.below hb5⟩
  have HA6 : Hid (Blk w5 w1.heap.size 29 L1 ∧ Blk w5 (w1.heap.size + 1) 32 L2) := ⟨HA5.out.1.below hb5 HA5.out.1.lt, HA5.out.2.below hb5 HA5.out.2.lt⟩
  have HB6 : Hid (Below HS W w5) := HB5.out.trans (hb5.mono (by have := HB5.out.size; omega))
  clear hb5 HL5 HA5 HB5
  refine hK.out _ _ HA6.out (fun hHeld => ?_)
  clear hK K
  refine wpAnyH_take (i := 1) (v := ?_) rfl (by kernel_rfl) (by kernel_rfl) (by kernel_rfl) (fun _ _ _ h => h) (Or.inl ⟨by rfl, ?_⟩) (by assumption) ?_
  rotate_left
  · intro w hSw; go_simp; try with_reducible rfl
  go_simp
  refine wpAnyH_take (i := 2) (v := .agg L1.toArray) rfl (by kernel_rfl) (by kernel_rfl) (by kernel_rfl) (fun _ _ _ h => h) (yields_row_w rfl 29 _ rfl w1.heap.size rfl 29 L1 _ (fun _ h => h.1) Try.underlying29 rfl PK.out.s1) (by assumption) ?_
  go_simp
  refine wpAnyH_take (i := 4) (v := .agg L2.toArray) rfl (by kernel_rfl) (by kernel_rfl) (by kernel_rfl) (fun _ _ _ h => h) (yields_row_w rfl 32 _ rfl (w1.heap.size + 1) rfl 32 L2 _ (fun _ h => h.2) Try.underlying32 rfl PK.out.s2) (by assumption) ?_
  go_simp
  refine wpAnyH_ready (rs := [3]) (by kernel_rfl) (by simp) (AllReadyH.cons rfl (fun K hK => ?_) AllReadyH.nil)
  go_simp
  go_at_call 11
  refine (HG1.out _ HL6.out.1).mono ?_
  rintro e w6 ⟨rfl, hb6⟩
  have HL7 : Hid (Lies w6 R sa mb) := HL6.out.2.below hb6
  have HA7 : Hid (Blk w6 w1.heap.size 29 L1 ∧ Blk w6 (w1.heap.size + 1) 32 L2) := ⟨HA6.out.1.below hb6 HA6.out.1.lt, HA6.out.2.below hb6 HA6.out.2.lt⟩
  have HB7 : Hid (Below HS W w6) := HB6.out.trans (hb6.mono (by have := HB6.out.size; omega))
  clear hb6 HL6 HA6 HB6
  refine hK.out _ _ HA7.out (fun hHeld => ?_)
  clear hK K
  refine wpAnyH_ready (rs := [5]) (by kernel_rfl) (by simp) (AllReadyH.cons rfl (fun K hK => ?_) AllReadyH.nil)
  go_simp
  go_at_call 12
  refine (HQ1.out _ HL7.out).mono ?_
  rintro e w7 ⟨rfl, hb7⟩
  have HA8 : Hid (Blk w7 w1.heap.size 29 L1 ∧ Blk w7 (w1.heap.size + 1) 32 L2) := ⟨HA7.out.1.below hb7 HA7.out.1.lt, HA7.out.2.below hb7 HA7.out.2.lt⟩
  have HB8 : Hid (Below HS W w7) := HB7.out.trans (hb7.mono (by have := HB7.out.size; omega))
  clear hb7 HL7 HA7 HB7
  refine hK.out _ _ HA8.out (fun hHeld => ?_)
  clear hK K
  refine wpAnyH_take (i := 6) (v := ?_) rfl (by kernel_rfl) (by kernel_rfl) (by kernel_rfl) (fun _ _ _ h => h) (Or.inl ⟨by rfl, ?_⟩) (by assumption) ?_
  rotate_left
  · intro w hSw; go_simp; try with_reducible rfl
  go_simp
  refine wpAnyH_take (i := 7) (v := ?_) rfl (by kernel_rfl) (by kernel_rfl) (by kernel_rfl) (fun _ _ _ h => h) (Or.inl ⟨by rfl, ?_⟩) (by assumption) ?_
  rotate_left
  · intro w hSw; go_simp; try with_reducible rfl
  go_simp
  refine wpAnyH_take (i := 8) (v := ?_) rfl (by kernel_rfl) (by kernel_rfl) (by kernel_rfl) (fun _ _ _ h => h) (Or.inl ⟨by rfl, ?_⟩) (by assumption) ?_
  rotate_left
  · intro w hSw; go_simp; try with_reducible rfl
  go_simp
  refine wpAnyH_take (i := 9) (v := ?_) rfl (by kernel_rfl) (by kernel_rfl) (by kernel_rfl) (fun _ _ _ h => h) (Or.inl ⟨by rfl, ?_⟩) (by assumption) ?_
  rotate_left
  · intro w hSw; go_simp; try with_reducible rfl
  go_simp
  refine wpAnyH_take (i := 10) (v := ?_) rfl (by kernel_rfl) (by kernel_rfl) (by kernel_rfl) (fun _ _ _ h => h) (Or.inl ⟨by rfl, ?_⟩) (by assumption) ?_
  rotate_left
  · intro w hSw; go_simp; try with_reducible rfl
  go_simp
  refine wpAnyH_take (i := 11) (v := ?_) rfl (by kernel_rfl) (by kernel_rfl) (by kernel_rfl) (fun _ _ _ h => h) (Or.inl ⟨by rfl, ?_⟩) (by assumption) ?_
  rotate_left
  · intro w hSw; go_simp; try with_reducible rfl
  go_simp
  refine wpAnyH_take (i := 12) (v := ?_) rfl (by kernel_rfl) (by kernel_rfl) (by kernel_rfl) (fun _ _ _ h => h) (Or.inl ⟨by rfl, ?_⟩) (by assumption) ?_
  rotate_left
  · intro w hSw; go_simp; try with_reducible rfl
  go_simp
  refine wpAnyH_take (i := 13) (v := ?_) rfl (by kernel_rfl) (by kernel_rfl) (by kernel_rfl) (fun _ _ _ h => h) (Or.inl ⟨by rfl, ?_⟩) (by assumption) ?_
  rotate_left
  · intro w hSw; go_simp; try with_reducible rfl
  go_simp
  refine wpAnyH_take (i := 14) (v := ?_) rfl (by kernel_rfl) (by kernel_rfl) (by kernel_rfl) (fun _ _ _ h => h) (Or.inl ⟨by rfl, ?_⟩) (by assumption) ?_
  rotate_left
  · intro w hSw; go_simp; try with_reducible rfl
  go_simp
  refine wpAnyH_take (i := 15) (v := ?_) rfl (by kernel_rfl) (by kernel_rfl) (by kernel_rfl) (fun _ _ _ h => h) (Or.inl ⟨by rfl, ?_⟩) (by assumption) ?_
  rotate_left
  · intro w hSw; go_simp; try with_reducible rfl
  go_simp
  refine wpAnyH_take (i := 16) (v := ?_) rfl (by kernel_rfl) (by kernel_rfl) (by kernel_rfl) (fun _ _ _ h => h) (Or.inl ⟨by rfl, ?_⟩) (by assumption) ?_
  rotate_left
  · intro w hSw; go_simp; try with_reducible rfl
  go_simp
  refine wpAnyH_take (i := 17) (v := ?_) rfl (by kernel_rfl) (by kernel_rfl) (by kernel_rfl) (fun _ _ _ h => h) (Or.inl ⟨by rfl, ?_⟩) (by assumption) ?_
  rotate_left
  · intro w hSw; go_simp; try with_reducible rfl
  go_simp
  refine wpAnyH_take (i := 18) (v := ?_) rfl (by kernel_rfl) (by kernel_rfl) (by kernel_rfl) (fun _ _ _ h => h) (Or.inl ⟨by rfl, ?_⟩) (by assumption) ?_
  rotate_left
  · intro w hSw; go_simp; try with_reducible rfl
  go_simp
  refine wpAnyH_done (by kernel_rfl) ?_ _
  refine NoPanic.normal ?_
  go_wp2
  go_ret
  exact ⟨rfl, HB8.out⟩
end Go.Proofs.Ytbjmhpbelkndpaa
