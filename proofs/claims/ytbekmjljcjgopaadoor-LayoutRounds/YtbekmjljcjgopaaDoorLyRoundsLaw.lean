/- LayoutRounds: its walk. -/
import Derived.Test.YtbekmjljcjgopaaDoorLyMap
namespace Go.Proofs.YtbekmjljcjgopaaDoor
open Go.RowKit Go.PlainAid
set_option linter.unusedVariables false
set_option maxRecDepth 20000

section
variable {D S M : Int} {G : Bool} {t : Int}
theorem rd_seat (hg : Gd D S M G) (h0 : 0 ≤ t) (h1 : t < S) {c : Int} (hc0 : 0 ≤ c) (hc1 : c < chN D S M G t) : seE D S M G t c = 0 ∧ (0 ≤ seV D S M G t c ∧ seV D S M G t c < chN D S M G t) ∧ ckB D S M G t (seV D S M G t c) = true ∧ ckV D S M G t (seV D S M G t c) = c := by
  have hn : chN D S M G t ≠ 0 := by omega
  have hE : seE D S M G t c = 0 := by unfold seE; rw [if_pos hg, if_neg (by omega)]
  have h := (ck_iff hn c hc0 hc1 (s := seV D S M G t c)).1 rfl
  have hs := of_decide_eq_true h.1
  exact ⟨hE, hs, h⟩
theorem rd_inj (hg : Gd D S M G) (h0 : 0 ≤ t) (h1 : t < S) {a b : Int} (ha0 : 0 ≤ a) (ha1 : a < chN D S M G t) (hb0 : 0 ≤ b) (hb1 : b < chN D S M G t) (h : seV D S M G t a = seV D S M G t b) : a = b := by
  have h2 := (rd_seat hg h0 h1 ha0 ha1).2.2.2
  have h3 := (rd_seat hg h0 h1 hb0 hb1).2.2.2
  rw [← h2, ← h3, h]
theorem rd_turn (hg : Gd D S M G) (h0 : 1 ≤ t) (h1 : t < S) (hw : wdN D S M G t = wdN D S M G (t - 1)) : seV D S M G t 0 = (seV D S M G (t - 1) 0 + 1) % (wdN D S M G t + 2) := by
  have e1 := ch_ok hg (by omega) h1
  have e2 := ch_ok hg (show 0 ≤ t - 1 by omega) (by omega)
  have w2 := wd_two hg (by omega) h1
  have a1 := (rd_seat hg (by omega) h1 (c := 0) (by omega) (by omega)).1
  have a2 := (rd_seat hg (show 0 ≤ t - 1 by omega) (by omega) (c := 0) (by omega) (by omega)).1
  unfold seV
  rw [a1, a2, if_pos rfl, if_pos rfl, e1, e2, ← hw]
  generalize wdN D S M G t + 2 = n at *
  rw [Int.emod_add_emod]
  congr 1
  omega
/-- The seats of the first k chunks. -/
def roundJ (D S M : Int) (G : Bool) (t : Int) (k : Nat) (v : Value) : Prop := ∃ c : Nat, c < k ∧ v = .int .i64 (seV D S M G t (c : Int))
end
set_option maxHeartbeats 4000000 in
theorem layoutRounds_law (D S M : Int) (G : Bool) (w : World) (hD1 : D ≤ 9223372036854775807) (hM1 : M ≤ 9223372036854775807) (ht : Tabs w) : Calls Tryd.prog 8 #[.agg #[.int .i64 D, .int .i64 S, .int .i64 M, .bool G]] w fun e w' => e = .returned (.bool true) ∧ Below w.heap.size w w' := by
  have X0 : Hid (Bx w (w.alloc (.cells #[.int .i64 D, .int .i64 S, .int .i64 M, .bool G] 23)).drew w.heap.size 23 (lyL D S M G)) := (Bx.box w ht 23 (lyL D S M G)).next (Below.refl _ _).drew
  have q0 : Hid (∀ z, Calls Tryd.prog 15 #[.agg #[.int .i64 D, .int .i64 S, .int .i64 M, .bool G]] z fun e w' => e = .returned (.agg #[.int .i64 (goD D), .int .i64 (goS S), .int .i64 (goM S M G), .bool G]) ∧ Below z.heap.size z w') := fun z => good18_any z hD1 hM1
  have qw : Hid (∀ z, Tabs z → Calls Tryd.prog 10 #[] z fun e w' => e = .returned (.bool true) ∧ Below z.heap.size z w') := fun z hz => wakes18_any z hz
  have HSZ : Hid ((Tryd.prog.info? 24).map (·.size) = some 4) := Tryd.size24
  have HTA : Hid (∀ z, Below w.heap.size w z → Tabs z) := fun z hz => ht.below hz ht.lt
  have hg := go_gd D S M G
  have h0 := (hold_nought w.heap.size w w (Nat.le_refl _) (Below.refl _ _)).below firm_nought (bx w 23 (lyL D S M G))
  generalize goD D = D2 at *
  generalize goS S = S2 at *
  generalize goM S M G = M2 at *
  have HG : Hid (Gd D2 S2 M2 G) := hg
  obtain ⟨Sn, hSn⟩ : ∃ Sn : Nat, S2 = (Sn : Int) := ⟨S2.toNat, by have := hg.s16.1; omega⟩
  have hS16 : Sn ≤ 16 := by have := hg.s16.2; omega
  have hmm := @run_makeMap Tryd.prog
  subst hSn
  clear ht hg X0
  go_enter Tryd.func8, Tryd.ntmps8
  go_wp2_with (first
    | (go_at_call 15; refine (q0.out _).mono ?_; rintro x w1 ⟨rfl, h1⟩; have H1 : Hid (Hold w.heap.size w (w1.alloc (.cells #[.int .i64 D2, .int .i64 (Sn : Int), .int .i64 M2, .bool G] 24)) (star (blkA w1.heap.size 24 (lyL D2 (Sn : Int) M2 G)) nought)) := (h0.below firm_nought h1).newBlk firm_nought 24 (lyL D2 (Sn : Int) M2 G).toArray; have hb1 := H1.out.blk; have c10 := hb1.cell (i := 0) rfl; have c11 := hb1.cell (i := 1) rfl; have c12 := hb1.cell (i := 2) rfl; have c13 := hb1.cell (i := 3) rfl; clear hb1; clear h1 h0))
  generalize w1.alloc (.cells #[.int .i64 D2, .int .i64 (Sn : Int), .int .i64 M2, .bool G] 24) = w2 at *
  generalize w1.heap.size = gl at *
  clear c10 c11 c12 c13 q0
  have HFB : Hid (Firm (star (blkA gl 24 (lyL D2 (Sn : Int) M2 G)) nought)) := (firm_blk _ _ _).star firm_nought
  have HFR : Hid (∀ gm n J, Firm (star (mapV 3 gm n J) (star (blkA gl 24 (lyL D2 (Sn : Int) M2 G)) nought))) := fun gm n J => (firm_mapV _ _ _ _).star HFB.out
  go_loopw [22] (fun j wr => ∃ t : Nat, j = .int .i64 (t : Int) ∧ Hid (t ≤ Sn ∧ Hold w.heap.size w wr (star (blkA gl 24 (lyL D2 (Sn : Int) M2 G)) nought))) (fun j _ => Sn - (intOf j).toNat)
  case atStart => exact ⟨0, rfl, Nat.zero_le _, H1.out⟩
  case round =>
    clear H1
    obtain ⟨t, rfl, ht⟩ := hrel
    have ht2 := ht.out.1
    have H3 : Hid (Hold w.heap.size w wr (star (blkA gl 24 (lyL D2 (Sn : Int) M2 G)) nought)) := ht.out.2
    clear ht
    by_cases hlt : t < Sn
    · have hti : (t : Int) < (Sn : Int) := by omega
      have ht0 : (0 : Int) ≤ (t : Int) := by omega
      obtain ⟨kk, hkk⟩ : ∃ kk : Nat, wdN D2 (Sn : Int) M2 G (t : Int) = (kk : Int) := ⟨(wdN D2 (Sn : Int) M2 G (t : Int)).toNat, by have := (wd_le (D := D2) (S := (Sn : Int)) (M := M2) (G := G) (t : Int)).1; omega⟩
      have hk9 : kk ≤ 9 := by have := (wd_le (D := D2) (S := (Sn : Int)) (M := M2) (G := G) (t : Int)).2; omega
      have hch : chN D2 (Sn : Int) M2 G (t : Int) = (kk : Int) + 2 := by rw [ch_ok HG.out ht0 hti, hkk]
      have QW : Hid (∀ z, Tabs z → Calls Tryd.prog 13 #[.agg #[.int .i64 D2, .int .i64 (Sn : Int), .int .i64 M2, .bool G], .int .i64 (t : Int)] z fun e w' => e = .returned (.int .i64 (kk : Int)) ∧ Below z.heap.size z w') := fun z hz => by
        have h := wide_any (D := D2) (S := (Sn : Int)) (M := M2) (G := G) z hz (t : Int)
        rw [hkk] at h; exact h
      have QS : Hid (∀ c : Nat, c < kk + 2 → ∀ z, Tabs z → Calls Tryd.prog 18 #[.agg #[.int .i64 D2, .int .i64 (Sn : Int), .int .i64 M2, .bool G], .int .i64 (t : Int), .int .i64 (c : Int)] z fun e w' => e = .returned (.tuple #[.int .i64 (seV D2 (Sn : Int) M2 G (t : Int) (c : Int)), .int .i64 0]) ∧ Below z.heap.size z w') := fun c hc z hz => by
        have h := seat_any (D := D2) (S := (Sn : Int)) (M := M2) (G := G) z hz (t : Int) (c : Int)
        rw [(rd_seat HG.out ht0 hti (c := (c : Int)) (by omega) (by omega)).1] at h; exact h
      have QC : Hid (∀ c : Nat, c < kk + 2 → ∀ z, Tabs z → Calls Tryd.prog 20 #[.agg #[.int .i64 D2, .int .i64 (Sn : Int), .int .i64 M2, .bool G], .int .i64 (t : Int), .int .i64 (seV D2 (Sn : Int) M2 G (t : Int) (c : Int))] z fun e w' => e = .returned (.tuple #[.int .i64 (c : Int), .bool true]) ∧ Below z.heap.size z w') := fun c hc z hz => by
        have h := chunk_any (D := D2) (S := (Sn : Int)) (M := M2) (G := G) z hz (t : Int) (seV D2 (Sn : Int) M2 G (t : Int) (c : Int))
        obtain ⟨_, _, e1, e2⟩ := rd_seat HG.out ht0 hti (c := (c : Int)) (by omega) (by omega)
        rw [e1, e2] at h; exact h
      have QE : Hid (∀ z, Tabs z → Calls Tryd.prog 20 #[.agg #[.int .i64 D2, .int .i64 (Sn : Int), .int .i64 M2, .bool G], .int .i64 (t : Int), .int .i64 ((kk : Int) + 2)] z fun e w' => e = .returned (.tuple #[.int .i64 0, .bool false]) ∧ Below z.heap.size z w') := fun z hz => by
        have h := chunk_any (D := D2) (S := (Sn : Int)) (M := M2) (G := G) z hz (t : Int) ((kk : Int) + 2)
        have e1 : ckB D2 (Sn : Int) M2 G (t : Int) ((kk : Int) + 2) = false := decide_eq_false (by rw [hch]; omega)
        have e2 : ckV D2 (Sn : Int) M2 G (t : Int) ((kk : Int) + 2) = 0 := by unfold ckV; rw [e1]; rfl
        rw [e1, e2] at h; exact h
      have HK : Hid (∀ c : Nat, c < kk + 2 → ((0 ≤ seV D2 (Sn : Int) M2 G (t : Int) (c : Int) ∧ seV D2 (Sn : Int) M2 G (t : Int) (c : Int) < (kk : Int) + 2) ∧ ∃ x, keyOf Tryd.prog 3 (.int .i64 (seV D2 (Sn : Int) M2 G (t : Int) (c : Int))) = some x) ∧ ¬ (roundJ D2 (Sn : Int) M2 G (t : Int) c) (.int .i64 (seV D2 (Sn : Int) M2 G (t : Int) (c : Int)))) := fun c hc => by
        obtain ⟨_, ⟨e1, e2⟩, _⟩ := rd_seat HG.out ht0 hti (c := (c : Int)) (by omega) (by omega)
        refine ⟨⟨⟨e1, by omega⟩, int_key e1 (by omega)⟩, ?_⟩
        rintro ⟨b, hb, he⟩
        have he2 : seV D2 (Sn : Int) M2 G (t : Int) (c : Int) = seV D2 (Sn : Int) M2 G (t : Int) (b : Int) := by simpa using he
        have := rd_inj HG.out ht0 hti (by omega) (by omega) (by omega) (by omega) he2
        omega
      have hb3 := H3.out.blk
      have c30 := hb3.cell (i := 0) rfl
      have c31 := hb3.cell (i := 1) rfl
      have c32 := hb3.cell (i := 2) rfl
      have c33 := hb3.cell (i := 3) rfl
      clear hb3
      go_upto_region 7 with (first
        | (go_at_call 13; refine (QW.out _ (HTA.out _ H3.out.low)).mono ?_; rintro x w4 ⟨rfl, h4⟩; have H4 : Hid (Hold w.heap.size w (w4.alloc (.map #[] 0)) (star (mapV 3 w4.heap.size 0 (fun _ => False)) (star (blkA gl 24 (lyL D2 (Sn : Int) M2 G)) nought))) := Hold.mapvNew HFB.out (H3.out.below HFB.out h4) 3; clear h4 H3 c30 c31 c32 c33))
      have H5 : Hid (Hold w.heap.size w (w4.alloc (.map #[] 0)) (star (mapV 3 w4.heap.size 0 (roundJ D2 (Sn : Int) M2 G (t : Int) 0)) (star (blkA gl 24 (lyL D2 (Sn : Int) M2 G)) nought))) := H4.out.mapvMono fun v => ⟨fun h => h.elim, fun ⟨b, hb, _⟩ => absurd hb (Nat.not_lt_zero _)⟩
      clear H4
      generalize w4.alloc (.map #[] 0) = w5 at *
      generalize w4.heap.size = gm at *
      go_wp2_with fail
      go_loopw [31] (fun j wr => ∃ c : Nat, j = .int .i64 (c : Int) ∧ Hid (c ≤ kk + 2 ∧ Hold w.heap.size w wr (star (mapV 3 gm c (roundJ D2 (Sn : Int) M2 G (t : Int) c)) (star (blkA gl 24 (lyL D2 (Sn : Int) M2 G)) nought)))) (fun j _ => kk + 2 - (intOf j).toNat)
      case atStart => exact ⟨0, rfl, Nat.zero_le _, H5.out⟩
      case round =>
        clear H5
        obtain ⟨c, rfl, hc⟩ := hrel
        have hc2 := hc.out.1
        have H6 : Hid (Hold w.heap.size w wr (star (mapV 3 gm c (roundJ D2 (Sn : Int) M2 G (t : Int) c)) (star (blkA gl 24 (lyL D2 (Sn : Int) M2 G)) nought))) := hc.out.2
        clear hc
        have hb6 := H6.out.right.blk
        have c60 := hb6.cell (i := 0) rfl
        have c61 := hb6.cell (i := 1) rfl
        have c62 := hb6.cell (i := 2) rfl
        have c63 := hb6.cell (i := 3) rfl
        clear hb6
        by_cases hcl : c < kk + 2
        · have hci : (c : Int) < (kk : Int) + 2 := by omega
          obtain ⟨⟨⟨hs0, hs1⟩, x0, hkey⟩, hJ⟩ := HK.out c hcl
          have HMono : Hid (∀ v, ((roundJ D2 (Sn : Int) M2 G (t : Int) c) v ∨ v = .int .i64 (seV D2 (Sn : Int) M2 G (t : Int) (c : Int))) ↔ (roundJ D2 (Sn : Int) M2 G (t : Int) (c + 1)) v) := fun v => ⟨fun h => by
            rcases h with ⟨b, hb, he⟩ | he
            · exact ⟨b, by omega, he⟩
            · exact ⟨c, by omega, he⟩, fun ⟨b, hb, he⟩ => by
            rcases Nat.lt_or_ge b c with h | h
            · exact .inl ⟨b, h, he⟩
            · obtain rfl : b = c := by omega
              exact .inr he⟩
          obtain ⟨sv, hsv⟩ : ∃ sv, seV D2 (Sn : Int) M2 G (t : Int) (c : Int) = sv := ⟨_, rfl⟩
          have HJ : Hid (¬ (roundJ D2 (Sn : Int) M2 G (t : Int) c) (.int .i64 sv)) := by show ¬ (roundJ D2 (Sn : Int) M2 G (t : Int) c) (.int .i64 sv); rw [← hsv]; exact hJ
          have HKEY : Hid (keyOf Tryd.prog 3 (.int .i64 sv) = some x0) := by show keyOf Tryd.prog 3 (.int .i64 sv) = some x0; rw [← hsv]; exact hkey
          have HMono2 : Hid (∀ v, ((roundJ D2 (Sn : Int) M2 G (t : Int) c) v ∨ v = .int .i64 sv) ↔ (roundJ D2 (Sn : Int) M2 G (t : Int) (c + 1)) v) := fun v => by rw [← hsv]; exact HMono.out v
          have QSx : Hid (∀ z, Tabs z → Calls Tryd.prog 18 #[.agg #[.int .i64 D2, .int .i64 (Sn : Int), .int .i64 M2, .bool G], .int .i64 (t : Int), .int .i64 (c : Int)] z fun e w' => e = .returned (.tuple #[.int .i64 sv, .int .i64 0]) ∧ Below z.heap.size z w') := fun z hz => by rw [← hsv]; exact QS.out c hcl z hz
          have QCx : Hid (∀ z, Tabs z → Calls Tryd.prog 20 #[.agg #[.int .i64 D2, .int .i64 (Sn : Int), .int .i64 M2, .bool G], .int .i64 (t : Int), .int .i64 sv] z fun e w' => e = .returned (.tuple #[.int .i64 (c : Int), .bool true]) ∧ Below z.heap.size z w') := fun z hz => by rw [← hsv]; exact QC.out c hcl z hz
          rw [hsv] at hs0 hs1
          clear hJ hkey hsv HMono
          go_wp2_with (first
            | (go_at_call 18; refine (QSx.out _ (HTA.out _ H6.out.low)).mono ?_; rintro x w7 ⟨rfl, h7⟩; have H7 : Hid (Hold w.heap.size w w7 (star (mapV 3 gm c (roundJ D2 (Sn : Int) M2 G (t : Int) c)) (star (blkA gl 24 (lyL D2 (Sn : Int) M2 G)) nought))) := H6.out.below (HFR.out _ _ _) h7; have hb7 := H7.out.right.blk; have c70 := hb7.cell (i := 0) rfl; have c71 := hb7.cell (i := 1) rfl; have c72 := hb7.cell (i := 2) rfl; have c73 := hb7.cell (i := 3) rfl; clear hb7; clear h7 H6 c60 c61 c62 c63)
            | (go_at_call 20; refine (QCx.out _ (HTA.out _ H7.out.low)).mono ?_; rintro x w8 ⟨rfl, h8⟩; have H8 : Hid (Hold w.heap.size w w8 (star (mapV 3 gm c (roundJ D2 (Sn : Int) M2 G (t : Int) c)) (star (blkA gl 24 (lyL D2 (Sn : Int) M2 G)) nought))) := H7.out.below (HFR.out _ _ _) h8; have hlk := H8.out.mapv.look key1 Tryd.underlying60 HKEY.out HJ.out; obtain ⟨w9, hrun, h9⟩ := Hold.mapvPut key1 Tryd.underlying60 HFB.out H8.out (by omega) HKEY.out HJ.out; have H9 : Hid (Hold w.heap.size w w9 (star (mapV 3 gm (c + 1) (roundJ D2 (Sn : Int) M2 G (t : Int) (c + 1))) (star (blkA gl 24 (lyL D2 (Sn : Int) M2 G)) nought))) := h9.mapvMono HMono2.out; clear h8 h9 H7 H8 c70 c71 c72 c73))
          go_roundw
          case rel => exact ⟨c + 1, by go_num, by omega, H9.out⟩
          case measure => simp [intOf]; omega
        · obtain rfl : c = kk + 2 := by omega
          have hci : ¬ (((kk + 2 : Nat) : Int) < (kk : Int) + 2) := by omega
          clear QS QC HK
          have H10 : Hid (Hold w.heap.size w wr (star (blkA gl 24 (lyL D2 (Sn : Int) M2 G)) nought)) := H6.out.right
          clear H6
          go_upto_region 19 with (first
            | (go_at_call 20; refine (QE.out _ (HTA.out _ H10.out.low)).mono ?_; rintro x w11 ⟨rfl, h11⟩; have H11 : Hid (Hold w.heap.size w w11 (star (blkA gl 24 (lyL D2 (Sn : Int) M2 G)) nought)) := H10.out.below HFB.out h11; clear h11 H10))
          clear c60 c61 c62 c63
          have H12 : Hid (Hold w.heap.size w w11.drew (star (blkA gl 24 (lyL D2 (Sn : Int) M2 G)) nought)) := H11.out.below HFB.out (Below.refl _ _).drew
          clear H11
          by_cases ht1 : t = 0
          · have hgt : decide ((0 : Int) < (t : Int)) = false := decide_eq_false (by omega)
            refine wp_region_noPanic ?_
            refine wp_region_held_drew (S := fun z : World => z.cell? ⟨gl, 0, none⟩ = some (.int .i64 D2) ∧ z.cell? ⟨gl, 1, none⟩ = some (.int .i64 (Sn : Int)) ∧ z.cell? ⟨gl, 2, none⟩ = some (.int .i64 M2) ∧ z.cell? ⟨gl, 3, none⟩ = some (.bool G)) (by kernel_rfl) ⟨(Hold.blk H12.out).cell (i := 0) rfl, (Hold.blk H12.out).cell (i := 1) rfl, (Hold.blk H12.out).cell (i := 2) rfl, (Hold.blk H12.out).cell (i := 3) rfl⟩ (fun hHeld => ?_)
            have hs12 : (fun z : World => z.cell? ⟨gl, 0, none⟩ = some (.int .i64 D2) ∧ z.cell? ⟨gl, 1, none⟩ = some (.int .i64 (Sn : Int)) ∧ z.cell? ⟨gl, 2, none⟩ = some (.int .i64 M2) ∧ z.cell? ⟨gl, 3, none⟩ = some (.bool G)) w11.drew := ⟨(Hold.blk H12.out).cell (i := 0) rfl, (Hold.blk H12.out).cell (i := 1) rfl, (Hold.blk H12.out).cell (i := 2) rfl, (Hold.blk H12.out).cell (i := 3) rfl⟩
            simp only at hs12
            refine wpAnyH_take (i := 0) (v := ?_) rfl (by kernel_rfl) (by kernel_rfl) (by kernel_rfl) (fun _ _ _ h => h) (Or.inl ⟨by rfl, ?_⟩) (by assumption) ?_
            rotate_left
            · intro w hSw; go_simp; try with_reducible rfl
            go_simp
            refine wpAnyH_take (i := 1) (v := ?_) rfl (by kernel_rfl) (by kernel_rfl) (by kernel_rfl) (fun _ _ _ h => h) (Or.inl ⟨by rfl, ?_⟩) (by assumption) ?_
            rotate_left
            · intro w hSw; go_simp; try with_reducible rfl
            go_simp
            refine wpAnyH_take (i := 2) (v := ?_) rfl (by kernel_rfl) (by kernel_rfl) (by kernel_rfl) (fun _ _ _ h => h) (Or.inl ⟨by rfl, ?_⟩) (by assumption) ?_
            rotate_left
            · intro w hSw; go_simp; try with_reducible rfl
            go_simp
            refine wpAnyH_take (i := 3) (v := undef) rfl (by kernel_rfl) (by kernel_rfl) (by kernel_rfl) (fun _ _ _ h => h) (Or.inr ⟨by rfl, rfl⟩) (by assumption) ?_
            go_simp
            refine wpAnyH_take (i := 4) (v := undef) rfl (by kernel_rfl) (by kernel_rfl) (by kernel_rfl) (fun _ _ _ h => h) (Or.inr ⟨by rfl, rfl⟩) (by assumption) ?_
            go_simp
            refine wpAnyH_take (i := 5) (v := undef) rfl (by kernel_rfl) (by kernel_rfl) (by kernel_rfl) (fun _ _ _ h => h) (Or.inr ⟨by rfl, rfl⟩) (by assumption) ?_
            go_simp
            refine wpAnyH_take (i := 6) (v := undef) rfl (by kernel_rfl) (by kernel_rfl) (by kernel_rfl) (fun _ _ _ h => h) (Or.inr ⟨by rfl, rfl⟩) (by assumption) ?_
            go_simp
            refine wpAnyH_take (i := 7) (v := undef) rfl (by kernel_rfl) (by kernel_rfl) (by kernel_rfl) (fun _ _ _ h => h) (Or.inr ⟨by rfl, rfl⟩) (by assumption) ?_
            go_simp
            refine wpAnyH_take (i := 8) (v := undef) rfl (by kernel_rfl) (by kernel_rfl) (by kernel_rfl) (fun _ _ _ h => h) (Or.inr ⟨by rfl, rfl⟩) (by assumption) ?_
            go_simp
            refine wpAnyH_take (i := 9) (v := undef) rfl (by kernel_rfl) (by kernel_rfl) (by kernel_rfl) (fun _ _ _ h => h) (Or.inr ⟨by rfl, rfl⟩) (by assumption) ?_
            go_simp
            refine wpAnyH_take (i := 10) (v := undef) rfl (by kernel_rfl) (by kernel_rfl) (by kernel_rfl) (fun _ _ _ h => h) (Or.inr ⟨by rfl, rfl⟩) (by assumption) ?_
            go_simp
            refine wpAnyH_take (i := 11) (v := ?_) rfl (by kernel_rfl) (by kernel_rfl) (by kernel_rfl) (fun _ _ _ h => h) (Or.inl ⟨by rfl, ?_⟩) (by assumption) ?_
            rotate_left
            · intro w hSw; go_simp; try with_reducible rfl
            go_simp
            refine wpAnyH_done (by kernel_rfl) ?_ _
            refine NoPanic.normal ?_
            clear hs12
            go_wp2_with fail
            go_roundw
            case rel => exact ⟨t + 1, by go_num, by omega, H12.out⟩
            case measure => simp [intOf]; omega
          · have hgt : 0 < t := by omega
            have ht1i : (1 : Int) ≤ (t : Int) := by omega
            obtain ⟨k1, hk1⟩ : ∃ k1 : Nat, wdN D2 (Sn : Int) M2 G ((t : Int) - 1) = (k1 : Int) := ⟨(wdN D2 (Sn : Int) M2 G ((t : Int) - 1)).toNat, by have := (wd_le (D := D2) (S := (Sn : Int)) (M := M2) (G := G) ((t : Int) - 1)).1; omega⟩
            have QW1 : Hid (∀ z, Tabs z → Calls Tryd.prog 13 #[.agg #[.int .i64 D2, .int .i64 (Sn : Int), .int .i64 M2, .bool G], .int .i64 ((t : Int) - 1)] z fun e w' => e = .returned (.int .i64 (k1 : Int)) ∧ Below z.heap.size z w') := fun z hz => by
              have h := wide_any (D := D2) (S := (Sn : Int)) (M := M2) (G := G) z hz ((t : Int) - 1)
              rw [hk1] at h; exact h
            have hwr2 : wrap64 ((t : Int) - 1) = (t : Int) - 1 := by unfold wrap64; omega
            have hwr : IntKind.i64.wrap ((t : Int) - 1) = (t : Int) - 1 := IntWalk.i64_in _ ⟨by omega, by omega⟩
            by_cases heq : kk = k1
            · subst heq
              have e1 := (rd_seat HG.out ht0 hti (c := 0) (by omega) (by omega)).1
              have hch1 : chN D2 (Sn : Int) M2 G ((t : Int) - 1) = (kk : Int) + 2 := by rw [ch_ok HG.out (by omega) (by omega), hk1]
              obtain ⟨e2, ⟨b0, b1⟩, -⟩ := rd_seat HG.out (show (0 : Int) ≤ (t : Int) - 1 by omega) (by omega) (c := 0) (by omega) (by omega)
              have hturn := rd_turn HG.out ht1i hti (by rw [hkk, hk1])
              rw [hkk] at hturn
              rw [hch1] at b1
              obtain ⟨sb, hsb⟩ : ∃ sb, seV D2 (Sn : Int) M2 G ((t : Int) - 1) 0 = sb := ⟨_, rfl⟩
              rw [hsb] at b0 b1 hturn
              have QA0 : Hid (∀ z, Tabs z → Calls Tryd.prog 18 #[.agg #[.int .i64 D2, .int .i64 (Sn : Int), .int .i64 M2, .bool G], .int .i64 (t : Int), .int .i64 0] z fun e w' => e = .returned (.tuple #[.int .i64 ((sb + 1) % ((kk : Int) + 2)), .int .i64 0]) ∧ Below z.heap.size z w') := fun z hz => by
                have h := seat_any (D := D2) (S := (Sn : Int)) (M := M2) (G := G) z hz (t : Int) 0
                rw [e1, hturn] at h; exact h
              have QB0 : Hid (∀ z, Tabs z → Calls Tryd.prog 18 #[.agg #[.int .i64 D2, .int .i64 (Sn : Int), .int .i64 M2, .bool G], .int .i64 ((t : Int) - 1), .int .i64 0] z fun e w' => e = .returned (.tuple #[.int .i64 sb, .int .i64 0]) ∧ Below z.heap.size z w') := fun z hz => by
                have h := seat_any (D := D2) (S := (Sn : Int)) (M := M2) (G := G) z hz ((t : Int) - 1) 0
                rw [e2, hsb] at h; exact h
              have htm := tmod_nn (sb + 1) ((kk : Int) + 2) (by omega)
              have hne : ¬ (kk : Int) + 2 = 0 := by omega
              have e5 : 0 ≤ (sb + 1) % ((kk : Int) + 2) := Int.emod_nonneg _ hne
              have e6 : (sb + 1) % ((kk : Int) + 2) < (kk : Int) + 2 := Int.emod_lt_of_pos _ (by omega)
              clear hturn hsb hk1 e1 e2 hch1
              refine wp_region_noPanic ?_
              refine wp_region_held_drew (S := fun z : World => z.cell? ⟨gl, 0, none⟩ = some (.int .i64 D2) ∧ z.cell? ⟨gl, 1, none⟩ = some (.int .i64 (Sn : Int)) ∧ z.cell? ⟨gl, 2, none⟩ = some (.int .i64 M2) ∧ z.cell? ⟨gl, 3, none⟩ = some (.bool G)) (by kernel_rfl) ⟨(Hold.blk H12.out).cell (i := 0) rfl, (Hold.blk H12.out).cell (i := 1) rfl, (Hold.blk H12.out).cell (i := 2) rfl, (Hold.blk H12.out).cell (i := 3) rfl⟩ (fun hHeld => ?_)
              have hs12 : (fun z : World => z.cell? ⟨gl, 0, none⟩ = some (.int .i64 D2) ∧ z.cell? ⟨gl, 1, none⟩ = some (.int .i64 (Sn : Int)) ∧ z.cell? ⟨gl, 2, none⟩ = some (.int .i64 M2) ∧ z.cell? ⟨gl, 3, none⟩ = some (.bool G)) w11.drew := ⟨(Hold.blk H12.out).cell (i := 0) rfl, (Hold.blk H12.out).cell (i := 1) rfl, (Hold.blk H12.out).cell (i := 2) rfl, (Hold.blk H12.out).cell (i := 3) rfl⟩
              simp only at hs12
              refine wpAnyH_take (i := 0) (v := ?_) rfl (by kernel_rfl) (by kernel_rfl) (by kernel_rfl) (fun _ _ _ h => h) (Or.inl ⟨by rfl, ?_⟩) (by assumption) ?_
              rotate_left
              · intro w hSw; go_simp; try with_reducible rfl
              go_simp
              refine wpAnyH_take (i := 1) (v := ?_) rfl (by kernel_rfl) (by kernel_rfl) (by kernel_rfl) (fun _ _ _ h => h) (Or.inl ⟨by rfl, ?_⟩) (by assumption) ?_
              rotate_left
              · intro w hSw; go_simp; try with_reducible rfl
              go_simp
              refine wpAnyH_take (i := 2) (v := ?_) rfl (by kernel_rfl) (by kernel_rfl) (by kernel_rfl) (fun _ _ _ h => h) (Or.inl ⟨by rfl, ?_⟩) (by assumption) ?_
              rotate_left
              · intro w hSw; go_simp; try with_reducible rfl
              go_simp
              refine wpAnyH_take (i := 3) (v := ?_) rfl (by kernel_rfl) (by kernel_rfl) (by kernel_rfl) (fun _ _ _ h => h) (Or.inl ⟨by rfl, ?_⟩) (by assumption) ?_
              rotate_left
              · intro w hSw; go_simp; try with_reducible rfl
              go_simp
              refine wpAnyH_take (i := 4) (v := ?_) rfl (by kernel_rfl) (by kernel_rfl) (by kernel_rfl) (fun _ _ _ h => h) (Or.inl ⟨by rfl, ?_⟩) (by assumption) ?_
              rotate_left
              · intro w hSw; go_simp; try with_reducible rfl
              go_simp
              refine wpAnyH_take (i := 6) (v := ?_) rfl (by kernel_rfl) (by kernel_rfl) (by kernel_rfl) (fun _ _ _ h => h) (Or.inl ⟨by rfl, ?_⟩) (by assumption) ?_
              rotate_left
              · intro w hSw; go_simp; try with_reducible rfl
              go_simp
              refine wpAnyH_take (i := 7) (v := ?_) rfl (by kernel_rfl) (by kernel_rfl) (by kernel_rfl) (fun _ _ _ h => h) (Or.inl ⟨by rfl, ?_⟩) (by assumption) ?_
              rotate_left
              · intro w hSw; go_simp; try with_reducible rfl
              go_simp
              refine wpAnyH_take (i := 8) (v := ?_) rfl (by kernel_rfl) (by kernel_rfl) (by kernel_rfl) (fun _ _ _ h => h) (Or.inl ⟨by rfl, ?_⟩) (by assumption) ?_
              rotate_left
              · intro w hSw; go_simp; try with_reducible rfl
              go_simp
              clear hs12
              refine wpAnyH_ready (rs := [5]) (by kernel_rfl) (by simp) (AllReadyH.cons rfl (fun K hK => ?_) AllReadyH.nil)
              go_simp
              go_at_call 13
              refine (QW.out _ (HTA.out _ H12.out.low)).mono ?_
              rintro x w13 ⟨rfl, h13⟩
              have H13 : Hid (Hold w.heap.size w w13 (star (blkA gl 24 (lyL D2 (Sn : Int) M2 G)) nought)) := H12.out.below HFB.out h13
              clear h13 H12
              refine hK.out _ _ ⟨(Hold.blk H13.out).cell (i := 0) rfl, (Hold.blk H13.out).cell (i := 1) rfl, (Hold.blk H13.out).cell (i := 2) rfl, (Hold.blk H13.out).cell (i := 3) rfl⟩ (fun hHeld => ?_)
              clear hK K
              refine wpAnyH_ready (rs := [9]) (by kernel_rfl) (by simp) (AllReadyH.cons rfl (fun K hK => ?_) AllReadyH.nil)
              go_simp
              go_at_call 13
              refine (QW1.out _ (HTA.out _ H13.out.low)).mono ?_
              rintro x w14 ⟨rfl, h14⟩
              have H14 : Hid (Hold w.heap.size w w14 (star (blkA gl 24 (lyL D2 (Sn : Int) M2 G)) nought)) := H13.out.below HFB.out h14
              clear h14 H13
              refine hK.out _ _ ⟨(Hold.blk H14.out).cell (i := 0) rfl, (Hold.blk H14.out).cell (i := 1) rfl, (Hold.blk H14.out).cell (i := 2) rfl, (Hold.blk H14.out).cell (i := 3) rfl⟩ (fun hHeld => ?_)
              clear hK K
              have hs14 : (fun z : World => z.cell? ⟨gl, 0, none⟩ = some (.int .i64 D2) ∧ z.cell? ⟨gl, 1, none⟩ = some (.int .i64 (Sn : Int)) ∧ z.cell? ⟨gl, 2, none⟩ = some (.int .i64 M2) ∧ z.cell? ⟨gl, 3, none⟩ = some (.bool G)) w14 := ⟨(Hold.blk H14.out).cell (i := 0) rfl, (Hold.blk H14.out).cell (i := 1) rfl, (Hold.blk H14.out).cell (i := 2) rfl, (Hold.blk H14.out).cell (i := 3) rfl⟩
              simp only at hs14
              refine wpAnyH_take (i := 10) (v := ?_) rfl (by kernel_rfl) (by kernel_rfl) (by kernel_rfl) (fun _ _ _ h => h) (Or.inl ⟨by rfl, ?_⟩) (by assumption) ?_
              rotate_left
              · intro w hSw; go_simp; try with_reducible rfl
              go_simp
              refine wpAnyH_take (i := 11) (v := ?_) rfl (by kernel_rfl) (by kernel_rfl) (by kernel_rfl) (fun _ _ _ h => h) (Or.inl ⟨by rfl, ?_⟩) (by assumption) ?_
              rotate_left
              · intro w hSw; go_simp; try with_reducible rfl
              go_simp
              refine wpAnyH_done (by kernel_rfl) ?_ _
              refine NoPanic.normal ?_
              obtain ⟨c60, c61, c62, c63⟩ := hs14
              go_wp2_with (first
                | (go_at_call 18; refine (QA0.out _ (HTA.out _ H14.out.low)).mono ?_; rintro x w15 ⟨rfl, h15⟩; have H15 : Hid (Hold w.heap.size w w15 (star (blkA gl 24 (lyL D2 (Sn : Int) M2 G)) nought)) := H14.out.below HFB.out h15; have hb15 := H15.out.blk; have c150 := hb15.cell (i := 0) rfl; have c151 := hb15.cell (i := 1) rfl; have c152 := hb15.cell (i := 2) rfl; have c153 := hb15.cell (i := 3) rfl; clear hb15; clear h15 H14 c60 c61 c62 c63)
                | (go_at_call 18; refine (QB0.out _ (HTA.out _ H15.out.low)).mono ?_; rintro x w16 ⟨rfl, h16⟩; have H16 : Hid (Hold w.heap.size w w16 (star (blkA gl 24 (lyL D2 (Sn : Int) M2 G)) nought)) := H15.out.below HFB.out h16; clear h16 H15))
              go_roundw
              case rel => exact ⟨t + 1, by go_num, by omega, H16.out⟩
              case measure => simp [intOf]; omega
            · have hnk : ((kk : Int) == (k1 : Int)) = false := by simp; omega
              have hnk2 : ¬ (kk : Int) = (k1 : Int) := by omega
              refine wp_region_noPanic ?_
              refine wp_region_held_drew (S := fun z : World => z.cell? ⟨gl, 0, none⟩ = some (.int .i64 D2) ∧ z.cell? ⟨gl, 1, none⟩ = some (.int .i64 (Sn : Int)) ∧ z.cell? ⟨gl, 2, none⟩ = some (.int .i64 M2) ∧ z.cell? ⟨gl, 3, none⟩ = some (.bool G)) (by kernel_rfl) ⟨(Hold.blk H12.out).cell (i := 0) rfl, (Hold.blk H12.out).cell (i := 1) rfl, (Hold.blk H12.out).cell (i := 2) rfl, (Hold.blk H12.out).cell (i := 3) rfl⟩ (fun hHeld => ?_)
              have hs12 : (fun z : World => z.cell? ⟨gl, 0, none⟩ = some (.int .i64 D2) ∧ z.cell? ⟨gl, 1, none⟩ = some (.int .i64 (Sn : Int)) ∧ z.cell? ⟨gl, 2, none⟩ = some (.int .i64 M2) ∧ z.cell? ⟨gl, 3, none⟩ = some (.bool G)) w11.drew := ⟨(Hold.blk H12.out).cell (i := 0) rfl, (Hold.blk H12.out).cell (i := 1) rfl, (Hold.blk H12.out).cell (i := 2) rfl, (Hold.blk H12.out).cell (i := 3) rfl⟩
              simp only at hs12
              refine wpAnyH_take (i := 0) (v := ?_) rfl (by kernel_rfl) (by kernel_rfl) (by kernel_rfl) (fun _ _ _ h => h) (Or.inl ⟨by rfl, ?_⟩) (by assumption) ?_
              rotate_left
              · intro w hSw; go_simp; try with_reducible rfl
              go_simp
              refine wpAnyH_take (i := 1) (v := ?_) rfl (by kernel_rfl) (by kernel_rfl) (by kernel_rfl) (fun _ _ _ h => h) (Or.inl ⟨by rfl, ?_⟩) (by assumption) ?_
              rotate_left
              · intro w hSw; go_simp; try with_reducible rfl
              go_simp
              refine wpAnyH_take (i := 2) (v := ?_) rfl (by kernel_rfl) (by kernel_rfl) (by kernel_rfl) (fun _ _ _ h => h) (Or.inl ⟨by rfl, ?_⟩) (by assumption) ?_
              rotate_left
              · intro w hSw; go_simp; try with_reducible rfl
              go_simp
              refine wpAnyH_take (i := 3) (v := ?_) rfl (by kernel_rfl) (by kernel_rfl) (by kernel_rfl) (fun _ _ _ h => h) (Or.inl ⟨by rfl, ?_⟩) (by assumption) ?_
              rotate_left
              · intro w hSw; go_simp; try with_reducible rfl
              go_simp
              refine wpAnyH_take (i := 4) (v := ?_) rfl (by kernel_rfl) (by kernel_rfl) (by kernel_rfl) (fun _ _ _ h => h) (Or.inl ⟨by rfl, ?_⟩) (by assumption) ?_
              rotate_left
              · intro w hSw; go_simp; try with_reducible rfl
              go_simp
              refine wpAnyH_take (i := 6) (v := ?_) rfl (by kernel_rfl) (by kernel_rfl) (by kernel_rfl) (fun _ _ _ h => h) (Or.inl ⟨by rfl, ?_⟩) (by assumption) ?_
              rotate_left
              · intro w hSw; go_simp; try with_reducible rfl
              go_simp
              refine wpAnyH_take (i := 7) (v := ?_) rfl (by kernel_rfl) (by kernel_rfl) (by kernel_rfl) (fun _ _ _ h => h) (Or.inl ⟨by rfl, ?_⟩) (by assumption) ?_
              rotate_left
              · intro w hSw; go_simp; try with_reducible rfl
              go_simp
              refine wpAnyH_take (i := 8) (v := ?_) rfl (by kernel_rfl) (by kernel_rfl) (by kernel_rfl) (fun _ _ _ h => h) (Or.inl ⟨by rfl, ?_⟩) (by assumption) ?_
              rotate_left
              · intro w hSw; go_simp; try with_reducible rfl
              go_simp
              clear hs12
              refine wpAnyH_ready (rs := [5]) (by kernel_rfl) (by simp) (AllReadyH.cons rfl (fun K hK => ?_) AllReadyH.nil)
              go_simp
              go_at_call 13
              refine (QW.out _ (HTA.out _ H12.out.low)).mono ?_
              rintro x w13 ⟨rfl, h13⟩
              have H13 : Hid (Hold w.heap.size w w13 (star (blkA gl 24 (lyL D2 (Sn : Int) M2 G)) nought)) := H12.out.below HFB.out h13
              clear h13 H12
              refine hK.out _ _ ⟨(Hold.blk H13.out).cell (i := 0) rfl, (Hold.blk H13.out).cell (i := 1) rfl, (Hold.blk H13.out).cell (i := 2) rfl, (Hold.blk H13.out).cell (i := 3) rfl⟩ (fun hHeld => ?_)
              clear hK K
              refine wpAnyH_ready (rs := [9]) (by kernel_rfl) (by simp) (AllReadyH.cons rfl (fun K hK => ?_) AllReadyH.nil)
              go_simp
              go_at_call 13
              refine (QW1.out _ (HTA.out _ H13.out.low)).mono ?_
              rintro x w14 ⟨rfl, h14⟩
              have H14 : Hid (Hold w.heap.size w w14 (star (blkA gl 24 (lyL D2 (Sn : Int) M2 G)) nought)) := H13.out.below HFB.out h14
              clear h14 H13
              refine hK.out _ _ ⟨(Hold.blk H14.out).cell (i := 0) rfl, (Hold.blk H14.out).cell (i := 1) rfl, (Hold.blk H14.out).cell (i := 2) rfl, (Hold.blk H14.out).cell (i := 3) rfl⟩ (fun hHeld => ?_)
              clear hK K
              have hs14 : (fun z : World => z.cell? ⟨gl, 0, none⟩ = some (.int .i64 D2) ∧ z.cell? ⟨gl, 1, none⟩ = some (.int .i64 (Sn : Int)) ∧ z.cell? ⟨gl, 2, none⟩ = some (.int .i64 M2) ∧ z.cell? ⟨gl, 3, none⟩ = some (.bool G)) w14 := ⟨(Hold.blk H14.out).cell (i := 0) rfl, (Hold.blk H14.out).cell (i := 1) rfl, (Hold.blk H14.out).cell (i := 2) rfl, (Hold.blk H14.out).cell (i := 3) rfl⟩
              simp only at hs14
              refine wpAnyH_take (i := 10) (v := ?_) rfl (by kernel_rfl) (by kernel_rfl) (by kernel_rfl) (fun _ _ _ h => h) (Or.inl ⟨by rfl, ?_⟩) (by assumption) ?_
              rotate_left
              · intro w hSw; go_simp; try with_reducible rfl
              go_simp
              refine wpAnyH_take (i := 11) (v := ?_) rfl (by kernel_rfl) (by kernel_rfl) (by kernel_rfl) (fun _ _ _ h => h) (Or.inl ⟨by rfl, ?_⟩) (by assumption) ?_
              rotate_left
              · intro w hSw; go_simp; try with_reducible rfl
              go_simp
              refine wpAnyH_done (by kernel_rfl) ?_ _
              refine NoPanic.normal ?_
              clear hs14
              go_wp2_with fail
              go_roundw
              case rel => exact ⟨t + 1, by go_num, by omega, H14.out⟩
              case measure => simp [intOf]; omega
    · obtain rfl : t = Sn := by omega
      have hte : ¬ (t : Int) < (t : Int) := by omega
      go_wp2_with (go_at_call 10; refine (qw.out _ (HTA.out _ H3.out.low)).mono ?_; rintro x w9 ⟨rfl, h9⟩; have H9 : Hid (Hold w.heap.size w w9 (star (blkA gl 24 (lyL D2 (t : Int) M2 G)) nought)) := H3.out.below ((firm_blk _ _ _).star firm_nought) h9; clear h9 H3)
      go_ret
      exact ⟨rfl, H9.out.low⟩
end Go.Proofs.YtbekmjljcjgopaaDoor
