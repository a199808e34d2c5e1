/- LayoutOnce: its walk. -/
import Derived.Test.YtbekmjljcjgopaaDoorLyMap
namespace Go.Proofs.YtbekmjljcjgopaaDoor
open Go.RowKit Go.PlainAid
set_option linter.unusedVariables false
set_option maxRecDepth 20000

section
variable {D S M : Int} {G : Bool}
theorem fd_ok {b : Int} (hg : Gd D S M G) (h0 : 0 ≤ b) (h1 : b < S * D) : fdE D S M G b = 0 := by
  unfold fdE; rw [if_pos hg, if_neg (by omega)]
/-- Where a block lies: in a stripe that there is, at a data chunk of it. -/
theorem fd_in {b : Int} (hg : Gd D S M G) (h0 : 0 ≤ b) (h1 : b < S * D) : (0 ≤ fdT D S M G b ∧ fdT D S M G b < S) ∧ (0 ≤ fdC D S M G b ∧ fdC D S M G b < wdN D S M G (fdT D S M G b)) := by
  have hd := hg.d2
  have hm := hg.m
  unfold fdT fdC
  rw [fd_ok hg h0 h1, if_pos rfl, if_pos rfl]
  by_cases hX : b < M * (D + 1)
  · obtain ⟨hG, hK, hT⟩ := fd_new hg h0 hX
    rw [hK]
    have a1 := Int.emod_nonneg b (show D + 1 ≠ 0 by omega)
    have a2 := Int.emod_lt_of_pos b (show 0 < D + 1 by omega)
    have a3 := Int.ediv_nonneg h0 (show 0 ≤ D + 1 by omega)
    unfold wdN
    rw [if_pos ⟨hg, a3, by omega⟩, if_pos ⟨hG, hT⟩]
    exact ⟨⟨a3, by omega⟩, a1, a2⟩
  · obtain ⟨hK, hT, hMT⟩ := fd_old hg h1 hX
    rw [hK]
    have a1 := Int.emod_nonneg b (show D ≠ 0 by omega)
    have a2 := Int.emod_lt_of_pos b (show 0 < D by omega)
    have a3 := Int.ediv_nonneg h0 (show 0 ≤ D by omega)
    unfold wdN
    rw [if_pos ⟨hg, a3, hT⟩, if_neg (fun h => by have := h.2; omega)]
    exact ⟨⟨a3, hT⟩, a1, a2⟩
/-- The places of the first k blocks. -/
def onceJ (D S M : Int) (G : Bool) (k : Nat) (v : Value) : Prop := ∃ b : Nat, b < k ∧ v = .agg #[.int .i64 (fdT D S M G (b : Int)), .int .i64 (fdC D S M G (b : Int))]
/-- No two lie at one place. -/
theorem fd_inj {a b : Int} (hg : Gd D S M G) (ha0 : 0 ≤ a) (ha1 : a < S * D) (hb0 : 0 ≤ b) (hb1 : b < S * D) (ht : fdT D S M G a = fdT D S M G b) (hc : fdC D S M G a = fdC D S M G b) : a = b := by
  have hd := hg.d2
  unfold fdT at ht
  unfold fdC at hc
  rw [fd_ok hg ha0 ha1, fd_ok hg hb0 hb1, if_pos rfl, if_pos rfl] at ht hc
  have h1 := fd_two a (fdK D M a)
  have h2 := fd_two b (fdK D M b)
  by_cases hX : a < M * (D + 1)
  · obtain ⟨_, hK, hT⟩ := fd_new hg ha0 hX
    by_cases hY : b < M * (D + 1)
    · obtain ⟨_, hK2, _⟩ := fd_new hg hb0 hY
      rw [hK] at h1 ht hc; rw [hK2] at h2 ht hc
      rw [ht, hc] at h1; omega
    · obtain ⟨hK2, _, hT2⟩ := fd_old hg hb1 hY
      rw [hK] at ht; rw [hK2] at ht; omega
  · obtain ⟨hK, _, hT⟩ := fd_old hg ha1 hX
    by_cases hY : b < M * (D + 1)
    · obtain ⟨_, hK2, hT2⟩ := fd_new hg hb0 hY
      rw [hK] at ht; rw [hK2] at ht; omega
    · obtain ⟨hK2, _, _⟩ := fd_old hg hb1 hY
      rw [hK] at h1 ht hc; rw [hK2] at h2 ht hc
      rw [ht, hc] at h1; omega
end
set_option maxHeartbeats 4000000 in
theorem layoutOnce_law (D S M : Int) (G : Bool) (w : World) (hD1 : D ≤ 9223372036854775807) (hM1 : M ≤ 9223372036854775807) (ht : Tabs w) : Calls Tryd.prog 7 #[.agg #[.int .i64 D, .int .i64 S, .int .i64 M, .bool G]] w fun e w' => e = .returned (.bool true) ∧ Below w.heap.size w w' := by
  have X0 : Hid (Bx w (w.alloc (.cells #[.int .i64 D, .int .i64 S, .int .i64 M, .bool G] 23)).drew w.heap.size 23 (lyL D S M G)) := (Bx.box w ht 23 (lyL D S M G)).next (Below.refl _ _).drew
  have q0 : Hid (∀ z, Calls Tryd.prog 15 #[.agg #[.int .i64 D, .int .i64 S, .int .i64 M, .bool G]] z fun e w' => e = .returned (.agg #[.int .i64 (goD D), .int .i64 (goS S), .int .i64 (goM S M G), .bool G]) ∧ Below z.heap.size z w') := fun z => good18_any z hD1 hM1
  have qw : Hid (∀ z, Tabs z → Calls Tryd.prog 10 #[] z fun e w' => e = .returned (.bool true) ∧ Below z.heap.size z w') := fun z hz => wakes18_any z hz
  have HSZ : Hid ((Tryd.prog.info? 24).map (·.size) = some 4) := Tryd.size24
  have HTA : Hid (∀ z, Below w.heap.size w z → Tabs z) := fun z hz => ht.below hz ht.lt
  have hg := go_gd D S M G
  have h0 := (hold_nought w.heap.size w w (Nat.le_refl _) (Below.refl _ _)).below firm_nought (bx w 23 (lyL D S M G))
  generalize goD D = D2 at *
  generalize goS S = S2 at *
  generalize goM S M G = M2 at *
  have hsd := hg.sd
  obtain ⟨N, hN⟩ : ∃ N : Nat, S2 * D2 = (N : Int) := ⟨(S2 * D2).toNat, by omega⟩
  have qa : Hid (∀ z, Tabs z → ∀ b : Int, Calls Tryd.prog 16 #[.agg #[.int .i64 D2, .int .i64 S2, .int .i64 M2, .bool G], .int .i64 b] z fun e w' => e = .returned (.tuple #[.int .i64 (fdT D2 S2 M2 G b), .int .i64 (fdC D2 S2 M2 G b), .int .i64 (fdE D2 S2 M2 G b)]) ∧ Below z.heap.size z w') := fun z hz b => find_any z hz b
  have qb : Hid (∀ z, Tabs z → Calls Tryd.prog 12 #[.agg #[.int .i64 D2, .int .i64 S2, .int .i64 M2, .bool G]] z fun e w' => e = .returned (.int .i64 (N : Int)) ∧ Below z.heap.size z w') := fun z hz => by
    have h := blocks_any (D := D2) (S := S2) (M := M2) (G := G) z hz
    rw [show bkN D2 S2 M2 G = S2 * D2 from if_pos hg, hN] at h; exact h
  have qc : Hid (∀ z, Tabs z → ∀ t : Int, Calls Tryd.prog 13 #[.agg #[.int .i64 D2, .int .i64 S2, .int .i64 M2, .bool G], .int .i64 t] z fun e w' => e = .returned (.int .i64 (wdN D2 S2 M2 G t)) ∧ Below z.heap.size z w') := fun z hz t => wide_any z hz t
  have HG : Hid (Gd D2 S2 M2 G ∧ S2 * D2 = (N : Int) ∧ N ≤ 128) := ⟨hg, hN, by omega⟩
  have HK : Hid (∀ k : Nat, k < N → (fdE D2 S2 M2 G (k : Int) = 0 ∧ (∃ x, keyOf Tryd.prog 40 (.agg #[.int .i64 (fdT D2 S2 M2 G (k : Int)), .int .i64 (fdC D2 S2 M2 G (k : Int))]) = some x)) ∧ (0 ≤ fdC D2 S2 M2 G (k : Int) ∧ fdC D2 S2 M2 G (k : Int) < wdN D2 S2 M2 G (fdT D2 S2 M2 G (k : Int))) ∧ ¬ (onceJ D2 S2 M2 G k) (.agg #[.int .i64 (fdT D2 S2 M2 G (k : Int)), .int .i64 (fdC D2 S2 M2 G (k : Int))])) := fun k hk => by
    have h0 : (0 : Int) ≤ (k : Int) := by omega
    have h1 : (k : Int) < S2 * D2 := by omega
    obtain ⟨⟨t0, t1⟩, c0, c1⟩ := fd_in hg h0 h1
    have hw := (wd_le (D := D2) (S := S2) (M := M2) (G := G) (fdT D2 S2 M2 G (k : Int))).2
    have hs := hg.s16.2
    refine ⟨⟨fd_ok hg h0 h1, pair_key t0 (by omega) c0 (by omega)⟩, ⟨c0, c1⟩, ?_⟩
    rintro ⟨b, hb, he⟩
    have he2 : fdT D2 S2 M2 G (k : Int) = fdT D2 S2 M2 G (b : Int) ∧ fdC D2 S2 M2 G (k : Int) = fdC D2 S2 M2 G (b : Int) := by simpa using he
    have := fd_inj hg h0 h1 (by omega) (by omega) he2.1 he2.2
    omega
  clear ht hg hsd hN X0
  have hmm := @run_makeMap Tryd.prog
  go_enter Tryd.func7, Tryd.ntmps7
  go_wp2_with (first
    | (go_at_call 15; refine (q0.out _).mono ?_; rintro x w1 ⟨rfl, h1⟩; have H1 : Hid (Hold w.heap.size w ((w1.alloc (.cells #[.int .i64 D2, .int .i64 S2, .int .i64 M2, .bool G] 24)).alloc (.map #[] 0)) (star (mapV 40 (w1.alloc (.cells #[.int .i64 D2, .int .i64 S2, .int .i64 M2, .bool G] 24)).heap.size 0 (fun _ => False)) (star (blkA w1.heap.size 24 (lyL D2 S2 M2 G)) nought))) := Hold.mapvNew ((firm_blk _ _ _).star firm_nought) ((h0.below firm_nought h1).newBlk firm_nought 24 (lyL D2 S2 M2 G).toArray) 40; rw [World.size_alloc] at H1; have hb1 := H1.out.right.blk; have c10 := hb1.cell (i := 0) rfl; have c11 := hb1.cell (i := 1) rfl; have c12 := hb1.cell (i := 2) rfl; have c13 := hb1.cell (i := 3) rfl; clear h1 h0 hb1)
    | (go_at_call 12; refine (qb.out _ (HTA.out _ H1.out.low)).mono ?_; rintro x w2 ⟨rfl, h2⟩; have H2 : Hid (Hold w.heap.size w w2 (star (mapV 40 (w1.heap.size + 1) 0 (fun _ => False)) (star (blkA w1.heap.size 24 (lyL D2 S2 M2 G)) nought))) := H1.out.below ((firm_mapV _ _ _ _).star ((firm_blk _ _ _).star firm_nought)) h2; clear h2 H1 c10 c11 c12 c13))
  generalize w1.heap.size = gl at *
  generalize gl + 1 = gm at *
  clear hmm q0 qb
  have HFR : Hid (∀ n J, Firm (star (mapV 40 gm n J) (star (blkA gl 24 (lyL D2 S2 M2 G)) nought))) := fun n J => (firm_mapV _ _ _ _).star ((firm_blk _ _ _).star firm_nought)
  have HFL : Hid (Firm (star (blkA gl 24 (lyL D2 S2 M2 G)) nought)) := (firm_blk _ _ _).star firm_nought
  go_loopw [14] (fun j wr => ∃ k : Nat, j = .int .i64 (k : Int) ∧ Hid (k ≤ N ∧ Hold w.heap.size w wr (star (mapV 40 gm k (onceJ D2 S2 M2 G k)) (star (blkA gl 24 (lyL D2 S2 M2 G)) nought)))) (fun j _ => N - (intOf j).toNat)
  case atStart => exact ⟨0, rfl, Nat.zero_le _, H2.out.mapvMono fun v => ⟨fun h => h.elim, fun ⟨b, hb, _⟩ => absurd hb (Nat.not_lt_zero _)⟩⟩
  case round =>
    clear H2
    obtain ⟨k, rfl, hk⟩ := hrel
    have hk2 := hk.out.1
    have H5 : Hid (Hold w.heap.size w wr (star (mapV 40 gm k (onceJ D2 S2 M2 G k)) (star (blkA gl 24 (lyL D2 S2 M2 G)) nought))) := hk.out.2
    clear hk
    have hb5 := H5.out.right.blk
    have c50 := hb5.cell (i := 0) rfl
    have c51 := hb5.cell (i := 1) rfl
    have c52 := hb5.cell (i := 2) rfl
    have c53 := hb5.cell (i := 3) rfl
    clear hb5
    by_cases hlt : k < N
    · have hk' : (k : Int) < (N : Int) := by omega
      obtain ⟨⟨hE, x0, hkey⟩, ⟨hC0, hCW⟩, hJ⟩ := HK.out k hlt
      have QA := fun z hz => qa.out z hz (k : Int)
      have HMono : Hid (∀ v, ((onceJ D2 S2 M2 G k) v ∨ v = .agg #[.int .i64 (fdT D2 S2 M2 G (k : Int)), .int .i64 (fdC D2 S2 M2 G (k : Int))]) ↔ (onceJ D2 S2 M2 G (k + 1)) v) := fun v => ⟨fun h => by
        rcases h with ⟨b, hb, he⟩ | he
        · exact ⟨b, by omega, he⟩
        · exact ⟨k, by omega, he⟩, fun ⟨b, hb, he⟩ => by
        rcases Nat.lt_or_ge b k with h | h
        · exact .inl ⟨b, h, he⟩
        · obtain rfl : b = k := by omega
          exact .inr he⟩
      have HJ : Hid (¬ (onceJ D2 S2 M2 G k) (.agg #[.int .i64 (fdT D2 S2 M2 G (k : Int)), .int .i64 (fdC D2 S2 M2 G (k : Int))])) := hJ
      have HKEY : Hid (keyOf Tryd.prog 40 (.agg #[.int .i64 (fdT D2 S2 M2 G (k : Int)), .int .i64 (fdC D2 S2 M2 G (k : Int))]) = some x0) := hkey
      rw [hE] at QA
      have QC := fun z hz => qc.out z hz (fdT D2 S2 M2 G (k : Int))
      have hk128 : k < 128 := by have := HG.out.2.2; omega
      generalize wdN D2 S2 M2 G (fdT D2 S2 M2 G (k : Int)) = Wk at *
      generalize fdT D2 S2 M2 G (k : Int) = Tk at *
      generalize fdC D2 S2 M2 G (k : Int) = Ck at *
      have QA2 : Hid (∀ z, Tabs z → Calls Tryd.prog 16 #[.agg #[.int .i64 D2, .int .i64 S2, .int .i64 M2, .bool G], .int .i64 (k : Int)] z fun e w' => e = .returned (.tuple #[.int .i64 Tk, .int .i64 Ck, .int .i64 0]) ∧ Below z.heap.size z w') := QA
      have QC2 : Hid (∀ z, Tabs z → Calls Tryd.prog 13 #[.agg #[.int .i64 D2, .int .i64 S2, .int .i64 M2, .bool G], .int .i64 Tk] z fun e w' => e = .returned (.int .i64 Wk) ∧ Below z.heap.size z w') := QC
      clear QA QC hE hkey hJ
      go_wp2_with (first
        | (go_at_call 16; refine (QA2.out _ (HTA.out _ H5.out.low)).mono ?_; rintro x w6 ⟨rfl, h6⟩; have H6 : Hid (Hold w.heap.size w w6 (star (mapV 40 gm k (onceJ D2 S2 M2 G k)) (star (blkA gl 24 (lyL D2 S2 M2 G)) nought))) := H5.out.below (HFR.out _ _) h6; have hlk := H6.out.mapv.look key2 Tryd.underlying59 HKEY.out HJ.out; have hb6 := H6.out.right.blk; have c60 := hb6.cell (i := 0) rfl; have c61 := hb6.cell (i := 1) rfl; have c62 := hb6.cell (i := 2) rfl; have c63 := hb6.cell (i := 3) rfl; clear h6 hb6 H5 c50 c51 c52 c53)
        | (go_at_call 13; refine (QC2.out _ (HTA.out _ H6.out.low)).mono ?_; rintro x w7 ⟨rfl, h7⟩; obtain ⟨w8, hrun, h8⟩ := Hold.mapvPut key2 Tryd.underlying59 HFL.out (H6.out.below (HFR.out _ _) h7) (by omega) HKEY.out HJ.out; have H8 : Hid (Hold w.heap.size w w8 (star (mapV 40 gm (k + 1) (onceJ D2 S2 M2 G (k + 1))) (star (blkA gl 24 (lyL D2 S2 M2 G)) nought))) := h8.mapvMono HMono.out; clear h7 h8 H6 hlk c60 c61 c62 c63))
      go_roundw
      case rel => exact ⟨k + 1, by go_num, by omega, H8.out⟩
      case measure => simp [intOf]; omega
    · obtain rfl : k = N := by omega
      have hk' : ¬ (k : Int) < (k : Int) := by omega
      have hmul := HG.out.2.1
      have hk128 := HG.out.2.2
      go_wp2_with (go_at_call 10; refine (qw.out _ (HTA.out _ H5.out.low)).mono ?_; rintro x w9 ⟨rfl, h9⟩; have H9 : Hid (Hold w.heap.size w w9 (star (mapV 40 gm k (onceJ D2 S2 M2 G k)) (star (blkA gl 24 (lyL D2 S2 M2 G)) nought))) := H5.out.below (HFR.out _ _) h9; have hlen := fun ty => H9.out.mapv.len Tryd.underlying59 ty; have hb9 := H9.out.right.blk; have c90 := hb9.cell (i := 0) rfl; have c91 := hb9.cell (i := 1) rfl; clear h9 hb9 H5)
      go_ret
      exact ⟨by simp, H9.out.low⟩
end Go.Proofs.YtbekmjljcjgopaaDoor
