/- The law SuperBack: a good record. -/
import Derived.Test.YtbjmhpbelkndpaaSuBack1
namespace Go.Proofs.Ytbjmhpbelkndpaa
open Go.RowKit Go.PlainAid
set_option linter.unusedVariables false

set_option maxRecDepth 20000 in
set_option maxHeartbeats 4000000 in
theorem superBack_good (x : Raw) (A : Nat → Int) (D : Nat → Dsk) (cut : Int) (W : World) (hx : x.At A D W) (hf : (x.toR A D).Fine) (hcut : -9223372036854775808 ≤ cut ∧ cut ≤ 9223372036854775807) (hgd : gd (x.toR A D) = true) (hsm : (∀ z ga ha sa mb gc hc sc md, Lies z (getR (byB (x.toR A D))) ga ha → Lies z (x.toR A D) sa mb → Calls Try.prog 14 #[.agg (supV (getR (byB (x.toR A D))) ga ha gc hc).toArray, .agg (supV (x.toR A D) sa mb sc md).toArray] z fun e w' => e = .returned (.bool true) ∧ Below z.heap.size z w')) : Calls Try.prog 4 #[.agg x.row.toArray, .int .i64 cut] W fun e w' => e = .returned (.bool true) ∧ Below W.heap.size W w' := by
  have hz1 := zeroSup
  have hz2 := zeroRSup
  obtain ⟨HS, hHS⟩ : ∃ HS, W.heap.size = HS := ⟨_, rfl⟩
  have hlow : Below W.heap.size W (W.alloc (.cells x.row.toArray 26)) := (Below.refl _ _).alloc (Nat.le_refl _) _
  have hbk := Blk.box W 26 x.row
  have hrec := records_any x A D _ (hx.below hlow)
  have HPUT : Hid (∀ z sa ma sc mc, Lies z (x.toR A D) sa ma → Calls Try.prog 8 #[.agg (supV (x.toR A D) sa ma sc mc).toArray] z _) := fun z sa ma sc mc hl => sput_good hf hl hgd
  have hl9 : x.row.length = 9 := rfl
  have HL9 : Hid ((Try.prog.info? 26).map (·.size) = some x.row.length) := Try.size26
  generalize x.row = XR at *
  generalize x.toR A D = R at *
  rw [hHS] at hlow hbk ⊢
  have HLOW : Hid (Below HS W _) := hlow
  have HBK : Hid (Blk _ HS 26 XR) := hbk
  obtain ⟨hir, hs1, hs2, hcut4, hmore4, he0, hsame⟩ := back_facts hf hgd
  obtain ⟨y, hy1, hy2, hy3⟩ : ∃ y : Int, (if (0 : Int) < cut then cut else (0 : Int)) = y ∧ 0 ≤ y ∧ y ≤ 9223372036854775807 := ⟨_, rfl, by split <;> omega, by split <;> omega⟩
  obtain ⟨c, hc⟩ : ∃ c : Nat, Int.tmod y ((byB R).size : Int) = (c : Int) := ⟨(Int.tmod y ((byB R).size : Int)).toNat, by rw [Int.toNat_of_nonneg]; exact Int.tmod_nonneg _ hy2⟩
  have hc2 : c < (byB R).size := by
    have := Int.tmod_lt_of_pos y (show (0 : Int) < ((byB R).size : Int) by omega)
    omega
  have hc3 : y % ((byB R).size : Int) = (c : Int) := by rw [← hc, Int.tmod_eq_emod_of_nonneg hy2]
  have HGET : Hid (∀ z, Calls Try.prog 13 #[.string (byB R)] z fun e w' => ∃ sa ma sc mc, e = .returned (.tuple #[.agg (supV (getR (byB R)) sa ma sc mc).toArray, .int .i64 0]) ∧ Lies w' (getR (byB R)) sa ma ∧ Below z.heap.size z w') := fun z => by
    have := sget_any (byB R) (by omega) z
    rwa [he0] at this
  have HGETC : Hid (∀ z, Calls Try.prog 13 #[.string ((byB R).extract 0 c)] z fun e w' => ∃ L : List Value, e = .returned (.tuple #[.agg L.toArray, .int .i64 4]) ∧ (L.length = 9 ∧ ∀ v ∈ L, v.oneCell' = true) ∧ Below z.heap.size z w') := fun z => by
    have := sget_any ((byB R).extract 0 c) (by rw [ByteArray.size_extract]; omega) z
    rw [hcut4 c hc2] at this
    exact this.mono fun e w' ⟨sa, ma, sc, mc, h, _, hb⟩ => ⟨_, h, ⟨rfl, supV_one _ _ _ _ _⟩, hb⟩
  have HGETX : Hid (∀ z, Calls Try.prog 13 #[.string (byB R ++ ⟨#[120]⟩)] z fun e w' => ∃ L : List Value, e = .returned (.tuple #[.agg L.toArray, .int .i64 4]) ∧ (L.length = 9 ∧ ∀ v ∈ L, v.oneCell' = true) ∧ Below z.heap.size z w') := fun z => by
    have := sget_any (byB R ++ ⟨#[120]⟩) (by rw [ByteArray.size_append]; have : (⟨#[120]⟩ : ByteArray).size = 1 := rfl; omega) z
    rw [hmore4] at this
    exact this.mono fun e w' ⟨sa, ma, sc, mc, h, _, hb⟩ => ⟨_, h, ⟨rfl, supV_one _ _ _ _ _⟩, hb⟩
  have HSAME : Hid (∀ z ga ha sa mb gc hc sc md, Lies z (getR (byB R)) ga ha → Lies z R sa mb → Calls Try.prog 14 #[.agg (supV (getR (byB R)) ga ha gc hc).toArray, .agg (supV R sa mb sc md).toArray] z fun e w' => e = .returned (.bool true) ∧ Below z.heap.size z w') := hsm
  have HG0 : Hid (∀ sa ma sc mc, (supV (getR (byB R)) sa ma sc mc).length = 9 ∧ ∀ v ∈ supV (getR (byB R)) sa ma sc mc, v.oneCell' = true) := fun sa ma sc mc => ⟨rfl, supV_one _ _ _ _ _⟩
  have HZ9 : Hid (zS.length = 9) := rfl
  have HS9 : Hid ((Try.prog.info? 29).map (·.size) = some 9) := Try.size29
  have hz3 : ((byB R).size : Int) ≠ 0 := by omega
  have hz4 : (0 : Int) < ((byB R).size : Int) := by omega
  have hz5 : ((byB R).size : Int) ≤ 1216 := by omega
  have hz6 : (c : Int) ≤ ((byB R).size : Int) := by omega
  clear hx hf hl9 hlow hbk hgd hsm hir hs1 hs2 hcut4 hmore4 he0 hsame hc2 hy3 hcut
  generalize getR (byB R) = GR at *
  generalize byB R = BB at *
  go_enter Try.func4, Try.ntmps4
  have hy0 : max 0 cut = y := by rw [← hy1]; split <;> omega
  have HAR : Hid (max 0 cut = y ∧ (if (0 : Int) < cut then cut else (0 : Int)) = y ∧ 0 ≤ y ∧ Int.tmod y (BB.size : Int) = (c : Int) ∧ y % (BB.size : Int) = (c : Int) ∧ (BB.size : Int) ≠ 0 ∧ (0 : Int) < (BB.size : Int) ∧ (BB.size : Int) ≤ 1216 ∧ (c : Int) ≤ (BB.size : Int)) := ⟨hy0, hy1, hy2, hc, hc3, hz3, hz4, hz5, hz6⟩
  clear hy0 hy1 hy2 hc hc3 hz3 hz4 hz5 hz6
  go_upto_region 6 with (first
    | (refine wpList_load_blk rfl 26 _ rfl HS rfl 26 XR _ HBK.out Try.underlying26 rfl HL9.out ?_)
    | (go_at_call 7; refine hrec.mono ?_; rintro e w1 ⟨sa, sc, ma, mc, mb, md, rfl, h1⟩; obtain ⟨L1, L2, w2, pk⟩ := rec_pack h1; have HP1 := fun z => HPUT.out z sa ma sc mc; have HE1 := fun z ga ha gc hc => HSAME.out z ga ha sa mb gc hc sc md; rw [pk.e1] at HP1; rw [pk.e2] at HE1; rw [pk.e1, pk.e2]; have HP1 : Hid (∀ z, Lies z R sa ma → _) := HP1; have HE1 : Hid (∀ z ga ha gc hc, Lies z GR ga ha → Lies z R sa mb → _) := HE1; have PK : Hid (Pk _ w1 R sa ma mb sc mc md L1 L2 w2) := pk; have ST : Hid (St HS W R sa ma mb L1 L2 w1.heap.size w2) := pk.st HLOW.out (by simp; omega); have hw2 := pk.ew; clear h1 pk HPUT HSAME hrec HLOW HBK)
    | (refine wpList_store_blk rfl 29 _ _ rfl w1.heap.size zS L1 rfl rfl 29 PK.out.z1 PK.out.s1 PK.out.n1 PK.out.o1 ?_)
    | (refine wpList_store_blk rfl 32 _ _ rfl (w1.heap.size + 1) zS L2 rfl rfl 32 PK.out.z2 PK.out.s2 PK.out.n2 PK.out.o2 ?_; rw [hw2]; clear hw2)
    | (refine wpList_load_blkG rfl 29 _ rfl w1.heap.size rfl 29 L1 _ ST.out.a Try.underlying29 rfl PK.out.s1 ?_)
    | (go_at_call 8; refine (HP1.out _ ST.out.la).mono ?_; rintro e w3 ⟨rfl, hb3⟩; have st := ST.out.below hb3; clear ST hb3; have ST : Hid (St HS W R sa ma mb L1 L2 w1.heap.size w3) := st; clear st)
    | (go_at_call 10; refine (wakes14_any _).mono ?_; rintro e w5 ⟨rfl, hb5⟩; have st := ST.out.below hb5; clear ST hb5; have ST : Hid (St HS W R sa ma mb L1 L2 w1.heap.size w5) := st; clear st)
    | (go_at_call 13; refine (HGET.out _).mono ?_; rintro e w4 ⟨ga, ha, gc, hc', rfl, hl4, hb4⟩; have st := ST.out.below hb4; clear ST hb4; have HE2 := fun z => HE1.out z ga ha gc hc'; obtain ⟨g9, g1⟩ := HG0.out ga ha gc hc'; obtain ⟨L3, hL3⟩ : ∃ L, supV GR ga ha gc hc' = L := ⟨_, rfl⟩; rw [hL3] at g9 g1 HE2 ⊢; obtain ⟨w5', hw5⟩ : ∃ w5, (w4.alloc (.cells zS.toArray 29)).setRow w4.heap.size L3.toArray = w5 := ⟨_, rfl⟩; have gt := got_boxed (L := L3) hl4; rw [hw5] at gt; have ST : Hid (St HS W R sa ma mb L1 L2 w1.heap.size w5') := st.below gt.low; have GT : Hid (Got w4 GR ga ha L3 w5') := gt; have HE2 : Hid (∀ z, Lies z GR ga ha → Lies z R sa mb → _) := HE2; have G9 : Hid (L3.length = 9) := g9; have G1 : Hid (∀ v ∈ L3, v.oneCell' = true) := g1; clear hl4 hL3 g9 g1 HG0 HGET HE1 gt st)
    | (refine wpList_store_blk rfl 29 _ _ rfl w4.heap.size zS L3 rfl rfl 29 (Blk.box _ _ _) (by rw [HS9.out, G9.out]) (by rw [HZ9.out, G9.out]) G1.out ?_; rw [hw5]; clear hw5)
    | (go_at_call 13; refine (HGETC.out _).mono ?_; rintro e w6 ⟨L4, rfl, ⟨k9, k1⟩, hb6⟩; obtain ⟨w7, hw7⟩ : ∃ w5, (w6.alloc (.cells zS.toArray 29)).setRow w6.heap.size L4.toArray = w5 := ⟨_, rfl⟩; have bx := Below.boxed w6 29 zS L4; rw [hw7] at bx; have st := (ST.out.below hb6).below bx; have gt := (GT.out.below hb6).below bx; clear ST GT hb6 bx HGETC; have ST : Hid (St HS W R sa ma mb L1 L2 w1.heap.size w7) := st; have GT : Hid (Got w4 GR ga ha L3 w7) := gt; have K9 : Hid (L4.length = 9) := k9; have K1 : Hid (∀ v ∈ L4, v.oneCell' = true) := k1; clear st gt k9 k1)
    | (refine wpList_store_blk rfl 29 _ _ rfl w6.heap.size zS L4 rfl rfl 29 (Blk.box _ _ _) (by rw [HS9.out, K9.out]) (by rw [HZ9.out, K9.out]) K1.out ?_; rw [hw7]; clear hw7)
    | (go_at_call 13; refine (HGETX.out _).mono ?_; rintro e w8 ⟨L5, rfl, ⟨k9, k1⟩, hb8⟩; obtain ⟨w9, hw9⟩ : ∃ w5, (w8.alloc (.cells zS.toArray 29)).setRow w8.heap.size L5.toArray = w5 := ⟨_, rfl⟩; have bx := Below.boxed w8 29 zS L5; rw [hw9] at bx; have st := (ST.out.below hb8).below bx; have gt := (GT.out.below hb8).below bx; clear ST GT hb8 bx HGETX; have ST : Hid (St HS W R sa ma mb L1 L2 w1.heap.size w9) := st; have GT : Hid (Got w4 GR ga ha L3 w9) := gt; have M9 : Hid (L5.length = 9) := k9; have M1 : Hid (∀ v ∈ L5, v.oneCell' = true) := k1; clear st gt k9 k1)
    | (refine wpList_store_blk rfl 29 _ _ rfl w8.heap.size zS L5 rfl rfl 29 (Blk.box _ _ _) (by rw [HS9.out, M9.out]) (by rw [HZ9.out, M9.out]) M1.out ?_; rw [hw9]; clear hw9)
    | (refine wpList_load_blkG rfl 29 _ rfl w4.heap.size rfl 29 L3 _ GT.out.a Try.underlying29 rfl (by rw [HS9.out, G9.out]) ?_)
    | (refine wpList_load_blkG rfl 32 _ rfl (w1.heap.size + 1) rfl 32 L2 _ ST.out.b Try.underlying32 rfl PK.out.s2 ?_)
    | (go_at_call 14; refine (HE2.out _ GT.out.l ST.out.lb).mono ?_; rintro e w10 ⟨rfl, hb10⟩; have st := ST.out.below hb10; clear ST GT hb10; have ST : Hid (St HS W R sa ma mb L1 L2 w1.heap.size w10) := st; clear st))
  obtain ⟨hy0, hy1, hy2, hc, hc3, hz3, hz4, hz5, hz6⟩ := HAR.out
  go_wp2_with (first
    | (refine wpList_load_blk rfl 26 _ rfl HS rfl 26 XR _ HBK.out Try.underlying26 rfl HL9.out ?_)
    | (go_at_call 7; refine hrec.mono ?_; rintro e w1 ⟨sa, sc, ma, mc, mb, md, rfl, h1⟩; obtain ⟨L1, L2, w2, pk⟩ := rec_pack h1; have HP1 := fun z => HPUT.out z sa ma sc mc; have HE1 := fun z ga ha gc hc => HSAME.out z ga ha sa mb gc hc sc md; rw [pk.e1] at HP1; rw [pk.e2] at HE1; rw [pk.e1, pk.e2]; have HP1 : Hid (∀ z, Lies z R sa ma → _) := HP1; have HE1 : Hid (∀ z ga ha gc hc, Lies z GR ga ha → Lies z R sa mb → _) := HE1; have PK : Hid (Pk _ w1 R sa ma mb sc mc md L1 L2 w2) := pk; have ST : Hid (St HS W R sa ma mb L1 L2 w1.heap.size w2) := pk.st HLOW.out (by simp; omega); have hw2 := pk.ew; clear h1 pk HPUT HSAME hrec HLOW HBK)
    | (refine wpList_store_blk rfl 29 _ _ rfl w1.heap.size zS L1 rfl rfl 29 PK.out.z1 PK.out.s1 PK.out.n1 PK.out.o1 ?_)
    | (refine wpList_store_blk rfl 32 _ _ rfl (w1.heap.size + 1) zS L2 rfl rfl 32 PK.out.z2 PK.out.s2 PK.out.n2 PK.out.o2 ?_; rw [hw2]; clear hw2)
    | (refine wpList_load_blkG rfl 29 _ rfl w1.heap.size rfl 29 L1 _ ST.out.a Try.underlying29 rfl PK.out.s1 ?_)
    | (go_at_call 8; refine (HP1.out _ ST.out.la).mono ?_; rintro e w3 ⟨rfl, hb3⟩; have st := ST.out.below hb3; clear ST hb3; have ST : Hid (St HS W R sa ma mb L1 L2 w1.heap.size w3) := st; clear st)
    | (go_at_call 10; refine (wakes14_any _).mono ?_; rintro e w5 ⟨rfl, hb5⟩; have st := ST.out.below hb5; clear ST hb5; have ST : Hid (St HS W R sa ma mb L1 L2 w1.heap.size w5) := st; clear st)
    | (go_at_call 13; refine (HGET.out _).mono ?_; rintro e w4 ⟨ga, ha, gc, hc', rfl, hl4, hb4⟩; have st := ST.out.below hb4; clear ST hb4; have HE2 := fun z => HE1.out z ga ha gc hc'; obtain ⟨g9, g1⟩ := HG0.out ga ha gc hc'; obtain ⟨L3, hL3⟩ : ∃ L, supV GR ga ha gc hc' = L := ⟨_, rfl⟩; rw [hL3] at g9 g1 HE2 ⊢; obtain ⟨w5', hw5⟩ : ∃ w5, (w4.alloc (.cells zS.toArray 29)).setRow w4.heap.size L3.toArray = w5 := ⟨_, rfl⟩; have gt := got_boxed (L := L3) hl4; rw [hw5] at gt; have ST : Hid (St HS W R sa ma mb L1 L2 w1.heap.size w5') := st.below gt.low; have GT : Hid (Got w4 GR ga ha L3 w5') := gt; have HE2 : Hid (∀ z, Lies z GR ga ha → Lies z R sa mb → _) := HE2; have G9 : Hid (L3.length = 9) := g9; have G1 : Hid (∀ v ∈ L3, v.oneCell' = true) := g1; clear hl4 hL3 g9 g1 HG0 HGET HE1 gt st)
    | (refine wpList_store_blk rfl 29 _ _ rfl w4.heap.size zS L3 rfl rfl 29 (Blk.box _ _ _) (by rw [HS9.out, G9.out]) (by rw [HZ9.out, G9.out]) G1.out ?_; rw [hw5]; clear hw5)
    | (go_at_call 13; refine (HGETC.out _).mono ?_; rintro e w6 ⟨L4, rfl, ⟨k9, k1⟩, hb6⟩; obtain ⟨w7, hw7⟩ : ∃ w5, (w6.alloc (.cells zS.toArray 29)).setRow w6.heap.size L4.toArray = w5 := ⟨_, rfl⟩; have bx := Below.boxed w6 29 zS L4; rw [hw7] at bx; have st := (ST.out.below hb6).below bx; have gt := (GT.out.below hb6).below bx; clear ST GT hb6 bx HGETC; have ST : Hid (St HS W R sa ma mb L1 L2 w1.heap.size w7) := st; have GT : Hid (Got w4 GR ga ha L3 w7) := gt; have K9 : Hid (L4.length = 9) := k9; have K1 : Hid (∀ v ∈ L4, v.oneCell' = true) := k1; clear st gt k9 k1)
    | (refine wpList_store_blk rfl 29 _ _ rfl w6.heap.size zS L4 rfl rfl 29 (Blk.box _ _ _) (by rw [HS9.out, K9.out]) (by rw [HZ9.out, K9.out]) K1.out ?_; rw [hw7]; clear hw7)
    | (go_at_call 13; refine (HGETX.out _).mono ?_; rintro e w8 ⟨L5, rfl, ⟨k9, k1⟩, hb8⟩; obtain ⟨w9, hw9⟩ : ∃ w5, (w8.alloc (.cells zS.toArray 29)).setRow w8.heap.size L5.toArray = w5 := ⟨_, rfl⟩; have bx := Below.boxed w8 29 zS L5; rw [hw9] at bx; have st := (ST.out.below hb8).below bx; have gt := (GT.out.below hb8).below bx; clear ST GT hb8 bx HGETX; have ST : Hid (St HS W R sa ma mb L1 L2 w1.heap.size w9) := st; have GT : Hid (Got w4 GR ga ha L3 w9) := gt; have M9 : Hid (L5.length = 9) := k9; have M1 : Hid (∀ v ∈ L5, v.oneCell' = true) := k1; clear st gt k9 k1)
    | (refine wpList_store_blk rfl 29 _ _ rfl w8.heap.size zS L5 rfl rfl 29 (Blk.box _ _ _) (by rw [HS9.out, M9.out]) (by rw [HZ9.out, M9.out]) M1.out ?_; rw [hw9]; clear hw9)
    | (refine wpList_load_blkG rfl 29 _ rfl w4.heap.size rfl 29 L3 _ GT.out.a Try.underlying29 rfl (by rw [HS9.out, G9.out]) ?_)
    | (refine wpList_load_blkG rfl 32 _ rfl (w1.heap.size + 1) rfl 32 L2 _ ST.out.b Try.underlying32 rfl PK.out.s2 ?_)
    | (go_at_call 14; refine (HE2.out _ GT.out.l ST.out.lb).mono ?_; rintro e w10 ⟨rfl, hb10⟩; have st := ST.out.below hb10; clear ST GT hb10; have ST : Hid (St HS W R sa ma mb L1 L2 w1.heap.size w10) := st; clear st))
  go_ret
  exact ⟨rfl, ST.out.low⟩
end Go.Proofs.Ytbjmhpbelkndpaa
