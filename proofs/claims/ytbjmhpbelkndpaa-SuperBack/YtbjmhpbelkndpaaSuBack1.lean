/- The law SuperBack: a record that is not good. -/
import Derived.Test.YtbjmhpbelkndpaaSuSt
namespace Go.Proofs.Ytbjmhpbelkndpaa
open Go.RowKit Go.PlainAid
set_option linter.unusedVariables false

/-- A good record's bytes: how many; fewer or more are no record. -/
theorem back_facts {R : Rec} (hf : R.Fine) (hg : gd R = true) : IsRec R (byB R) ∧ 72 ≤ (byB R).size ∧ (byB R).size ≤ 1216 ∧ (∀ c, c < (byB R).size → getE ((byB R).extract 0 c) = 4) ∧ getE (byB R ++ ⟨#[120]⟩) = 4 ∧ getE (byB R) = 0 ∧ (getR (byB R)).Same R := by
  have ho := (gd_iff R).1 hg
  have hw := wid_le ho
  have hz := byB_size (R := R) (fun i hi => ⟨(ho.2.1 i hi).2.2.1, (ho.2.1 i hi).2.2.2.1⟩)
  have hi : IsRec R (byB R) := ⟨hg, hf.1, hf.2, rfl⟩
  refine ⟨hi, by omega, by omega, fun c hc => ?_, ?_, ?_, ?_⟩
  · unfold getE
    rw [if_neg]
    intro hk
    have k := (okP_iff _).1 hk
    have := k.whole hi (X := (byB R).extract c (byB R).size) (by rw [← ByteArray.extract_eq_extract_append_extract c (by omega) (by omega), ByteArray.extract_zero_size])
    have h2 := congrArg ByteArray.size this
    rw [ByteArray.size_extract, noB_size] at h2
    omega
  · unfold getE
    rw [if_neg]
    intro hk
    have k := (okP_iff _).1 hk
    have h2 := congrArg ByteArray.size (hi.whole k rfl)
    rw [noB_size] at h2
    exact absurd h2 (by decide)
  · unfold getE; rw [if_pos (okP_of hi)]
  · unfold getR; rw [if_pos (okP_of hi)]; exact (hi.read0 wayP wayP_fits).1
set_option maxRecDepth 20000 in
set_option maxHeartbeats 4000000 in
theorem superBack_bad (x : Raw) (A : Nat → Int) (D : Nat → Dsk) (cut : Int) (W : World) (hx : x.At A D W) (hf : (x.toR A D).Fine) (hgd : gd (x.toR A D) = false) : Calls Try.prog 4 #[.agg x.row.toArray, .int .i64 cut] W fun e w' => e = .returned (.bool true) ∧ Below W.heap.size W w' := by
  have hz1 := zeroSup
  have hz2 := zeroRSup
  obtain ⟨HS, hHS⟩ : ∃ HS, W.heap.size = HS := ⟨_, rfl⟩
  have hlow : Below W.heap.size W (W.alloc (.cells x.row.toArray 26)) := (Below.refl _ _).alloc (Nat.le_refl _) _
  have hbk := Blk.box W 26 x.row
  have hrec := records_any x A D _ (hx.below hlow)
  have HPUT : Hid (∀ z sa ma sc mc, Lies z (x.toR A D) sa ma → Calls Try.prog 8 #[.agg (supV (x.toR A D) sa ma sc mc).toArray] z _) := fun z sa ma sc mc hl => sput_bad hf hl hgd
  have HGD : Hid (∀ z sa ma sc mc, Lies z (x.toR A D) sa ma → Calls Try.prog 11 #[.agg (supV (x.toR A D) sa ma sc mc).toArray] z fun e w' => e = .returned (.bool false) ∧ Below z.heap.size z w') := fun z sa ma sc mc hl => by
    have := sgood_any hf hl (sc := sc) (mc := mc)
    rwa [hgd] at this
  have hl9 : x.row.length = 9 := rfl
  have HL9 : Hid ((Try.prog.info? 26).map (·.size) = some x.row.length) := Try.size26
  generalize x.row = XR at *
  generalize x.toR A D = R at *
  rw [hHS] at hlow hbk ⊢
  have HLOW : Hid (Below HS W _) := hlow
  have HBK : Hid (Blk _ HS 26 XR) := hbk
  clear hx hf hl9 hlow hbk hgd
  go_enter Try.func4, Try.ntmps4
  go_wp2_with (first
    | (refine wpList_load_blk rfl 26 _ rfl HS rfl 26 XR _ HBK.out Try.underlying26 rfl HL9.out ?_)
    | (go_at_call 7; refine hrec.mono ?_; rintro e w1 ⟨sa, sc, ma, mc, mb, md, rfl, h1⟩; obtain ⟨L1, L2, w2, pk⟩ := rec_pack h1; have HP1 := fun z => HPUT.out z sa ma sc mc; have HG1 := fun z => HGD.out z sa ma sc mc; rw [pk.e1] at HP1 HG1; rw [pk.e1, pk.e2]; have HP1 : Hid (∀ z, Lies z R sa ma → _) := HP1; have HG1 : Hid (∀ z, Lies z R sa ma → _) := HG1; have PK : Hid (Pk _ w1 R sa ma mb sc mc md L1 L2 w2) := pk; have ST : Hid (St HS W R sa ma mb L1 L2 w1.heap.size w2) := pk.st HLOW.out (by simp; omega); have hw2 := pk.ew; clear h1 pk HPUT HGD hrec HLOW HBK)
    | (refine wpList_store_blk rfl 29 _ _ rfl w1.heap.size zS L1 rfl rfl 29 PK.out.z1 PK.out.s1 PK.out.n1 PK.out.o1 ?_)
    | (refine wpList_store_blk rfl 32 _ _ rfl (w1.heap.size + 1) zS L2 rfl rfl 32 PK.out.z2 PK.out.s2 PK.out.n2 PK.out.o2 ?_; rw [hw2]; clear hw2)
    | (refine wpList_load_blkG rfl 29 _ rfl w1.heap.size rfl 29 L1 _ ST.out.a Try.underlying29 rfl PK.out.s1 ?_)
    | (go_at_call 8; refine (HP1.out _ ST.out.la).mono ?_; rintro e w3 ⟨rfl, hb3⟩; have st := ST.out.below hb3; clear ST hb3; have ST : Hid (St HS W R sa ma mb L1 L2 w1.heap.size w3) := st; clear st)
    | (go_at_call 10; refine (wakes14_any _).mono ?_; rintro e w5 ⟨rfl, hb5⟩; have st := ST.out.below hb5; clear ST hb5; have ST : Hid (St HS W R sa ma mb L1 L2 w1.heap.size w5) := st; clear st)
    | (go_at_call 11; refine (HG1.out _ ST.out.la).mono ?_; rintro e w6 ⟨rfl, hb6⟩; have st := ST.out.below hb6; clear ST hb6; have ST : Hid (St HS W R sa ma mb L1 L2 w1.heap.size w6) := st; clear st))
  go_ret
  exact ⟨rfl, ST.out.low⟩
end Go.Proofs.Ytbjmhpbelkndpaa
