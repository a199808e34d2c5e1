/- Chunks that were put are had. -/
import Derived.Test.YtnhkkhiajiiahaaGreatDoorSlKeeps4Q
import Derived.Deep.DeepCutAuto
import Derived.BigQuiet
namespace Go.Proofs.YtnhkkhiajiiahaaGreatDoor
open Go.RowKit Go.PlainAid
set_option linter.unusedVariables false
set_option maxRecDepth 20000

set_option maxHeartbeats 4000000 in
theorem slabKeeps_law (n : Int) (f : Nat → Nat) (s : Option Addr) (len cap : Nat) (W : World) (hs : Acs W s len cap) (ht : Tabs W) (hr : RTabs W) : Calls Tryz.prog 4 #[.int .i64 n, .agg (nr .u8 32 f).toArray, .slice s len cap] W fun e w' => e = .returned (.bool true) ∧ Below W.heap.size W w' := by
  have hl1 := hs.1
  have hl2 := hs.2.1
  have HA : Hid (Acs W s len cap) := hs
  have HT : Hid (Tabs W) := ht
  have HR : Hid (RTabs W) := hr
  have HTA : Hid (∀ z, Below W.heap.size W z → Tabs z) := fun z hz => ht.below hz ht.lt
  have HW : Hid (∀ z, Below W.heap.size W z → Calls Tryz.prog 10 #[] z fun e w' => e = .returned (.bool true) ∧ Below z.heap.size z w') := fun z hz => wakes17_any (ht.below hz ht.lt) (hr.below hz hr.lt)
  have HS32 : Hid ((Tryz.prog.info? 23).map (·.size) = some (nr .u8 32 f).length) := by rw [show (nr .u8 32 f).length = 32 by simp [nr]]; exact (by kernel_rfl : (Tryz.prog.info? 23).map (·.size) = some 32)
  have h0 := (hold_nought W.heap.size W W (Nat.le_refl _) (Below.refl _ _)).newBlk firm_nought 23 (nr .u8 32 f).toArray
  rw [List.toList_toArray] at h0
  have H0 : Hid (Hold W.heap.size W (W.alloc (.cells (nr .u8 32 f).toArray 23)) (star (blkA W.heap.size 23 (nr .u8 32 f)) nought)) := h0
  obtain ⟨Z, hz1, hz2⟩ := zeros_at 32 (by omega)
  rw [show strOfNums (List.replicate 32 0) = zB 32 from rfl] at hz2
  have HZ : Hid ((∀ x : World, (Instr.makeSlice 35 (.int .i64 32) (.int .i64 32)).run Tryz.prog x = .ok (.slice (some ⟨x.heap.size, 0, none⟩) 32 32) (x.alloc (.cells Z 5 (0, 0)))) ∧ ∀ x : World, (convert 35 9 (.slice (some ⟨x.heap.size, 0, none⟩) 32 32)).run Tryz.prog (x.alloc (.cells Z 5 (0, 0))) = .ok (.string (zB 32)) (x.alloc (.cells Z 5 (0, 0)))) := ⟨hz1, hz2⟩
  obtain ⟨M, hM1, hM3⟩ : ∃ M : Nat, (max 0 n).tmod 4 = (M : Int) ∧ M < 4 := by
    obtain ⟨X, M, hX, hM1, hM2, hM3⟩ := rem_of n 4 (by decide)
    exact ⟨M, by rw [← hM1, ← hX]; congr 1; split <;> omega, by omega⟩
  have HMX : Hid ((max 0 n).tmod 4 = (M : Int)) := hM1
  clear hM1 ht hr hz1 hz2 hs h0
  go_enter Tryz.func4, Tryz.ntmps4
  go_upto_region 1 with fail
  go_cut [7] (fun x wx => ∃ d n : Nat, x = .int .i64 (n : Int) ∧ 2 ^ d = n ∧ (1 ≤ d ∧ d ≤ 4) ∧ wx = W.alloc (.cells (nr .u8 32 f).toArray 23))
  case first =>
    as_aux_lemma =>
      clear HS32 HZ HA hl1 hl2 HW HTA H0 HT HR
      rcases (by omega : M = 0 ∨ M = 1 ∨ M = 2 ∨ M = 3) with rfl | rfl | rfl | rfl
      · have hmx : (max 0 n).tmod 4 = 0 := HMX.out
        go_wp2
        go_meet
        case rel => exact ⟨1, 2, rfl, rfl, ⟨by decide, by decide⟩, rfl⟩
      · have hmx : (max 0 n).tmod 4 = 1 := HMX.out
        go_wp2
        go_meet
        case rel => exact ⟨2, 4, rfl, rfl, ⟨by decide, by decide⟩, rfl⟩
      · have hmx : (max 0 n).tmod 4 = 2 := HMX.out
        go_wp2
        go_meet
        case rel => exact ⟨3, 8, rfl, rfl, ⟨by decide, by decide⟩, rfl⟩
      · have hmx : (max 0 n).tmod 4 = 3 := HMX.out
        go_wp2
        go_meet
        case rel => exact ⟨4, 16, rfl, rfl, ⟨by decide, by decide⟩, rfl⟩
  case rest =>
    obtain ⟨d, N, rfl, hN, hd, hw⟩ := hcut
    rw [hw]
    clear hw HMX hM3
    have HN : Hid (2 ^ d = N ∧ 1 ≤ d ∧ d ≤ 4) := ⟨hN, hd⟩
    have HK : Hid ((tx 32 f).size = 32) := tx_size 32 f
    have h16 : N ≤ 16 := by rw [← hN]; exact pow_le16 d hd.2
    have hbg : Hid (Calls _ _ _ _ _) := beg_any (i := 1) (d := d) (n := N) ((firm_blk _ _ _).star firm_nought) H0.out HT.out HR.out (by decide) hN hd f
    have HBX : Hid (Blk (W.alloc (.cells (nr .u8 32 f).toArray 23)) W.heap.size 23 (nr .u8 32 f)) := Hold.blk H0.out
    have hms : ∀ w : World, _ := mk_strs N (by omega)
    clear hN hd H0
    generalize tx 32 f = key at *
    go_wp2_with (first
      | (refine wpList_load_blk rfl 23 _ rfl W.heap.size rfl 23 (nr .u8 32 f) _ HBX.out Tryz.underlying23 rfl HS32.out ?_)
      | (go_at_call 8; refine hbg.out.mono ?_; rintro e w1 ⟨gx, g, gr, b, b', l, top, rfl, h1, h2, h3, h4⟩; have H1 : Hid (Bth W.heap.size W w1 gx g gr 2 b b' 1 (N : Int) key top nought) := h1.dropR; have HL : Hid (Liv 2 1 b l) := h2; have HI : Hid (InT l d (sl0 top) (fun _ => noB)) := h3; have HF : Hid (Few17 2 b 100) := h4; clear h1 h2 h3 h4 hbg HBX HS32)
      | (go_at_call 10; refine (HW.out _ H1.out.low).mono ?_; rintro e w2 ⟨rfl, hb2⟩; have H2 : Hid (Bth W.heap.size W w2 gx g gr 2 b b' 1 (N : Int) key top nought) := H1.out.below firm_nought hb2; clear hb2 H1))
    have H3 : Hid (Kf W gx g gr w2.heap.size N key b b' top 0 (w2.alloc (.cells (strs N fun _ => noB).toArray 9))) := Kf.new H2.out
    clear H2 hms
    generalize hw3 : w2.alloc (.cells (strs N fun _ => noB).toArray 9) = w3 at *
    generalize hgw : w2.heap.size = gw at *
    clear hw3 hgw
    go_loopw [44] (fun i wr => ∃ k : Nat, k ≤ N ∧ i = .int .i64 (k : Int) ∧ Hid (Kf W gx g gr gw N key b b' top k wr)) (fun i _ => N - (intOf i).toNat)
    case atStart => exact ⟨0, Nat.zero_le _, rfl, H3.out⟩
    case round =>
      clear H3
      obtain ⟨k, hk, rfl, hh⟩ := hrel
      by_cases hlt : k < N
      · have hk' : (k : Int) < (N : Int) := by omega
        have H4 : Hid (Kf W gx g gr gw N key b b' top k (wr.alloc (.cells Z 5 (0, 0)))) := hh.out.below ((Below.refl _ _).alloc (Nat.le_refl _) _)
        have hm := HZ.out.1 wr
        have hc := HZ.out.2 wr
        have e1 := H4.out.blk.cell (strs_at N (flW k) k hlt)
        have e2 := H4.out.blk.frozen k
        clear hh
        go_wp2
        go_roundw
        case rel => exact ⟨k + 1, by omega, by go_num, H4.out.step⟩
        case measure => simp [intOf]; omega
      · obtain rfl : k = N := by omega
        have hk' : ¬ (k : Int) < (k : Int) := by omega
        have HO : Hid (Ko W gx g gr gw d k key 0 wr) := Kf.done hh.out HL.out HI.out HF.out
        clear hh HL HI HF
        go_wp2_with fail
        clear hk hlt hk'
        go_loopw [12] (fun i wr => ∃ j m : Nat, j ≤ 30 ∧ m ≤ j ∧ i = .int .i64 (j : Int) ∧ Hid (Ko W gx g gr gw d k key m wr)) (fun i _ => 30 - (intOf i).toNat)
        case atStart => exact ⟨0, 0, by decide, Nat.le_refl _, rfl, HO.out⟩
        case round =>
          clear HO
          obtain ⟨j, m, hj, hm, rfl, hh⟩ := hrel
          by_cases hc : j < len ∧ j < 30
          · obtain ⟨hj1, hj2⟩ := hc
            have hj1' : (j : Int) < (len : Int) := by omega
            have hj2' : (j : Int) < 30 := by omega
            obtain ⟨sb, so, A, hsa, hA, hrow⟩ := acs_at HA.out hh.out.low j hj1
            have c2 := hrow 2 _ rfl
            obtain ⟨R, hR1, hR3⟩ : ∃ M : Nat, (max 0 A.a).tmod 4 = (M : Int) ∧ M < 4 := by
              obtain ⟨X, M, hX, hM1, hM2, hM3⟩ := rem_of A.a 4 (by decide)
              exact ⟨M, by rw [← hM1, ← hX]; congr 1; split <;> omega, by omega⟩
            have hR2 : IntKind.i64.wrap (1 + (R : Int)) = ((R + 1 : Nat) : Int) := by rw [IntWalk.i64_in _ ⟨by omega, by omega⟩]; omega
            obtain ⟨b2, b2', l2, top2, C2, w2', hB, hL, hI, hK, hF, hz⟩ := hh.out
            have H5 : Hid (Kn W gx g gr gw k key b2 b2' top2 C2 (.slice none 0 0) 0 wr) := Ko.start hB hK hz
            have HL : Hid (Liv 2 1 b2 l2) := hL
            have HI : Hid (InT l2 d (sl0 top2) C2) := hI
            have HF : Hid (Few17 2 b2 (100 + 100 * m)) := hF
            subst hsa
            clear hB hL hI hK hF hz hh hA hrow
            go_wp2_with fail
            clear c2 hR1 hR2
            go_loopw [13, 12, 69] (fun ch i r wr => ∃ (a : Option Addr) (c q j' r' : Nat), ch = .slice a q c ∧ i = .int .i64 (j' : Int) ∧ r = .int .i64 (r' : Int) ∧ r' ≤ R + 1 ∧ q ≤ r' ∧ j' ≤ 30 ∧ j ≤ j' ∧ (r' = 0 → j' = j) ∧ (1 ≤ r' → j < j') ∧ Hid (Kn W gx g gr gw k key b2 b2' top2 C2 (.slice a q c) q wr)) (fun _ _ r _ => R + 1 - (intOf r).toNat)
            case atStart => exact ⟨none, 0, 0, j, 0, rfl, rfl, rfl, by omega, by omega, by omega, by omega, fun _ => rfl, fun h => by omega, H5.out⟩
            case round =>
              clear H5
              obtain ⟨a, c, q, j', r', rfl, rfl, rfl, hr1, hr2, hr3, hr4, hr5, hr6, hk5⟩ := hrel
              have HR5 : Hid (r' = 0 → j' = j) := hr5
              have HR6 : Hid (1 ≤ r' → j < j') := hr6
              clear hr5 hr6
              by_cases hlt : r' < R + 1
              · have hlt' : (r' : Int) < ((R + 1 : Nat) : Int) := by omega
                by_cases hq1 : j' < len
                · have hq1' : (j' : Int) < (len : Int) := by omega
                  by_cases hq2 : j' < 30
                  · have hq2' : (j' : Int) < 30 := by omega
                    obtain ⟨sb2, so2, A, hsa, hA, hall⟩ := acs_all HA.out j' hq1
                    cases hsa
                    have hrow := hall _ hk5.out.low
                    have c1 := hrow 1 _ rfl
                    have c3 := hrow 3 _ rfl
                    have h2k : 0 < k := by rw [← HN.out.1]; exact Nat.two_pow_pos d
                    have hk0 : ¬ (k : Int) = 0 := by omega
                    obtain ⟨S, hS1, hS2⟩ : ∃ S : Nat, (max 0 A.s).tmod (k : Int) = (S : Int) ∧ S < k := by
                      obtain ⟨X, M, hX, hM1, hM2, hM3⟩ := rem_of A.s (k : Int) (by omega)
                      exact ⟨M, by rw [← hM1, ← hX]; congr 1; split <;> omega, by omega⟩
                    have hu8 : IntKind.u8.wrap (j' : Int) = (j' : Int) := IntWalk.u8_in _ ⟨by omega, by omega⟩
                    obtain ⟨dt, hdt⟩ : ∃ dt : Nat, A.t = (dt : Int) := ⟨A.t.toNat, by have := hA.2.2.2.1; omega⟩
                    rw [hdt] at c3
                    have hdt8 : dt ≤ 255 := by have := hA.2.2.2.1; omega
                    have HC3' : Hid (∀ z : World, Below W.heap.size W z → z.cell? ⟨sb, so + j' * 6 + 3, none⟩ = some (.int .u8 (dt : Int))) := fun z hz => by
                      have := hall z hz 3 _ rfl
                      rw [hdt] at this; exact this
                    clear hall
                    clear hrow hA hdt
                    go_wp2_with fail
                    obtain ⟨Z30, hm30, hz30⟩ := pz_made 30 (by omega)
                    have HZ30 : Hid ((∀ x : World, (Instr.makeSlice 35 (.int .i64 30) (.int .i64 30)).run Tryz.prog x = .ok (.slice (some ⟨x.heap.size, 0, none⟩) 30 30) (x.alloc (.cells Z30 5 (0, 0)))) ∧ ∀ x : World, PZ x.heap.size 30 (x.alloc (.cells Z30 5 (0, 0)))) := ⟨hm30, hz30⟩
                    have hm30' := HZ30.out.1
                    have hsz1 : (tx 2 (fun i : Nat => if i = 0 then dt else j')).size = 2 := tx_size 2 _
                    have hsz2 : (zB 30).size = 30 := zB_size 30
                    have hsz3 : (tx 1 fun _ => j').size = 1 := tx_size 1 _
                    clear hm30 hz30
                    have hN0 : Hid (Kn W gx g gr gw k key b2 b2' top2 C2 (.slice a q c) q wr.drew) := hk5.out.below (Below.refl _ _).drew
                    have hlw0 := hN0.out.low
                    have HC3 : Hid (∀ z : World, Below W.heap.size W z → z.cell? ⟨sb, so + j' * 6 + 3, none⟩ = some (.int .u8 (dt : Int))) := HC3'.out
                    clear hk5 HC3' c3 c1
                    refine wp_region_noPanic ?_
                    refine wp_region_held_drew (S := fun z : World => Below W.heap.size W z) (by kernel_rfl) hlw0 (fun hHeld => ?_)
                    generalize wr.drew = z0 at *
                    refine wpAnyH_take (i := 0) (v := ?_) rfl (by kernel_rfl) (by kernel_rfl) (by kernel_rfl) (fun _ _ _ h => h) (Or.inl ⟨by rfl, ?_⟩) (by assumption) ?_
                    rotate_left
                    · intro w hSw; go_simp; try with_reducible rfl
                    go_simp
                    refine wpAnyH_take (i := 1) (v := ?_) rfl (by kernel_rfl) (by kernel_rfl) (by kernel_rfl) (fun _ _ _ h => h) (Or.inl ⟨by rfl, ?_⟩) (by assumption) ?_
                    rotate_left
                    · intro w hSw; go_simp; try with_reducible rfl
                    go_simp
                    refine wpAnyH_take (i := 2) (v := ?_) rfl (by kernel_rfl) (by kernel_rfl) (by kernel_rfl) (fun _ _ _ h => h) (Or.inl ⟨by rfl, ?_⟩) (by assumption) ?_
                    rotate_left
                    · intro w hSw; go_simp; try with_reducible rfl
                    go_simp
                    refine wpAnyH_take (i := 3) (v := ?_) rfl (by kernel_rfl) (by kernel_rfl) (by kernel_rfl) (fun _ _ _ h => h) (Or.inl ⟨by rfl, ?_⟩) (by assumption) ?_
                    rotate_left
                    · intro w hSw; go_simp; try with_reducible rfl
                    go_simp
                    refine wpAnyH_take (i := 4) (v := ?_) rfl (by kernel_rfl) (by kernel_rfl) (by kernel_rfl) (fun _ _ _ h => h) (Or.inl ⟨by rfl, ?_⟩) (by assumption) ?_
                    rotate_left
                    · intro w hSw; go_simp; try with_reducible rfl
                    go_simp
                    refine wpAnyH_take (i := 5) (v := ?_) rfl (by kernel_rfl) (by kernel_rfl) (by kernel_rfl) (fun _ _ _ h => h) (Or.inl ⟨by rfl, ?_⟩) (by assumption) ?_
                    rotate_left
                    · intro w hSw; go_simp; try with_reducible rfl
                    go_simp
                    refine wpAnyH_take (i := 6) (v := .int .u8 (dt : Int)) rfl (by kernel_rfl) (by kernel_rfl) (by kernel_rfl) (fun _ _ _ h => h) (Or.inl ⟨by rfl, ?_⟩) hlw0 ?_
                    · intro w hSw; have hcr := HC3.out _ hSw; clear hSw; go_simp; try with_reducible rfl
                    go_simp
                    refine wpAnyH_take (i := 7) (v := ?_) rfl (by kernel_rfl) (by kernel_rfl) (by kernel_rfl) (fun _ _ _ h => h) (Or.inl ⟨by rfl, ?_⟩) (by assumption) ?_
                    rotate_left
                    · intro w hSw; go_simp; try with_reducible rfl
                    go_simp
                    refine wpAnyH_take (i := 8) (v := ?_) rfl (by kernel_rfl) (by kernel_rfl) (by kernel_rfl) (fun _ _ _ h => h) (Or.inl ⟨by rfl, ?_⟩) (by assumption) ?_
                    rotate_left
                    · intro w hSw; go_simp; try with_reducible rfl
                    go_simp
                    clear HC3
                    refine wpAnyH_ready (rs := [9, 11]) (by kernel_rfl) (by simp) (AllReadyH.cons rfl (fun K hK => ?_) (AllReadyH.cons rfl (fun K hK => ?_) AllReadyH.nil))
                    ·
                      go_simp
                      have hL1 : Below z0.heap.size z0 (z0.alloc (.cells #[.int .u8 (dt : Int), .int .u8 (j' : Int)] 5)) := (Below.refl _ _).alloc (Nat.le_refl _) _
                      have hlw1 : Below W.heap.size W (z0.alloc (.cells #[.int .u8 (dt : Int), .int .u8 (j' : Int)] 5)) := hlw0.trans (hL1.mono hlw0.size)
                      have hN1 : Hid (Kn W gx g gr gw k key b2 b2' top2 C2 (.slice a q c) q (z0.alloc (.cells #[.int .u8 (dt : Int), .int .u8 (j' : Int)] 5))) := hN0.out.below hL1
                      have hB1 : Blk (z0.alloc (.cells #[.int .u8 (dt : Int), .int .u8 (j' : Int)] 5)) z0.heap.size 5 (nr .u8 2 (fun i : Nat => if i = 0 then dt else j')) := Blk.new z0 5 _
                      refine hK.out _ _ (hlw1) (fun hHeld => ?_)
                      clear hK K hL1 hN0 hlw0
                      generalize hz1 : z0.alloc (.cells #[.int .u8 (dt : Int), .int .u8 (j' : Int)] 5) = z1 at *
                      generalize hg1 : z0.heap.size = g1 at *
                      clear hz1 hg1
                      refine wpAnyH_weaken (S' := fun z => Below W.heap.size W z ∧ Blk z g1 5 (nr .u8 2 (fun i : Nat => if i = 0 then dt else j'))) (fun z hz => hz.1) _ _ _ _ ?_
                      refine wpAnyH_take (i := 10) (v := .string (tx 2 (fun i : Nat => if i = 0 then dt else j'))) rfl (by kernel_rfl) (by kernel_rfl) (by kernel_rfl) (fun _ _ _ h => h) (Or.inl ⟨by rfl, ?_⟩) ⟨hlw1, hB1⟩ ?_
                      · intro w hSw; have hcr := conv_blk hSw.2 2 2 (Nat.le_refl _); clear hSw; go_simp; try with_reducible rfl
                      go_simp
                      refine wpAnyH_ready (rs := [11]) (by kernel_rfl) (by simp) (AllReadyH.cons rfl (fun K hK => ?_) AllReadyH.nil)
                      go_simp
                      have hL2 : Below z1.heap.size z1 (z1.alloc (.cells Z30 5)) := (Below.refl _ _).alloc (Nat.le_refl _) _
                      have hlw2 : Below W.heap.size W (z1.alloc (.cells Z30 5)) := hlw1.trans (hL2.mono hlw1.size)
                      have hN2 : Hid (Kn W gx g gr gw k key b2 b2' top2 C2 (.slice a q c) q (z1.alloc (.cells Z30 5))) := hN1.out.below hL2
                      have hB2 : Blk (z1.alloc (.cells Z30 5)) z1.heap.size 5 Z30.toList := Blk.new z1 5 _
                      replace hB1 := hB1.alloc (.cells Z30 5)
                      refine hK.out _ _ (⟨hlw2, hB1⟩) (fun hHeld => ?_)
                      clear hK K hL2 hN1 hlw1
                      generalize hz2 : z1.alloc (.cells Z30 5) = z2 at *
                      generalize hg2 : z1.heap.size = g2 at *
                      clear hz2 hg2
                      refine wpAnyH_weaken (S' := fun z => Below W.heap.size W z ∧ Blk z g1 5 (nr .u8 2 (fun i : Nat => if i = 0 then dt else j')) ∧ Blk z g2 5 Z30.toList) (fun z hz => ⟨hz.1, hz.2.1⟩) _ _ _ _ ?_
                      refine wpAnyH_take (i := 12) (v := .string (zB 30)) rfl (by kernel_rfl) (by kernel_rfl) (by kernel_rfl) (fun _ _ _ h => h) (Or.inl ⟨by rfl, ?_⟩) ⟨hlw2, hB1, hB2⟩ ?_
                      · intro w hSw; have hcr := pz30 (zcells HZ30.out.2 hSw.2.2); clear hSw; go_simp; try with_reducible rfl
                      go_simp
                      refine wpAnyH_take (i := 13) (v := ?_) rfl (by kernel_rfl) (by kernel_rfl) (by kernel_rfl) (fun _ _ _ h => h) (Or.inl ⟨by rfl, ?_⟩) ⟨hlw2, hB1, hB2⟩ ?_
                      rotate_left
                      · intro w hSw; go_simp; try with_reducible rfl
                      go_simp
                      refine wpAnyH_take (i := 14) (v := ?_) rfl (by kernel_rfl) (by kernel_rfl) (by kernel_rfl) (fun _ _ _ h => h) (Or.inl ⟨by rfl, ?_⟩) ⟨hlw2, hB1, hB2⟩ ?_
                      rotate_left
                      · intro w hSw; go_simp; try with_reducible rfl
                      go_simp
                      obtain ⟨wv, hwb⟩ := hN2.out.blk
                      have e1 := hwb.cell (strs_at k wv S hS2)
                      have e2 := hwb.frozen S
                      have hn1 : g1 ≠ gw := hB1.ne hwb (by decide)
                      have hn2 : g2 ≠ gw := hB2.ne hwb (by decide)
                      have HM0 : Hid (Km W gx g gr gw k key b2 b2' top2 C2 S (tx 2 (fun i : Nat => if i = 0 then dt else j') ++ zB 30) (.slice a q c) q (z2.setCell ⟨gw, S, none⟩ (.string (tx 2 (fun i : Nat => if i = 0 then dt else j') ++ zB 30)))) := hN2.out.store _ S
                      have ht32 : (tx 2 (fun i : Nat => if i = 0 then dt else j') ++ zB 30).size = 32 := by rw [ByteArray.size_append, tx_size, zB_size]
                      refine wpAnyH_ready (rs := [15]) (by kernel_rfl) (by simp) (AllReadyH.cons rfl (fun K hK => ?_) AllReadyH.nil)
                      go_simp
                      refine hK.out _ _ ⟨HM0.out.low, hB1.setOther hn1 _ _, hB2.setOther hn2 _ _⟩ (fun hHeld => ?_)
                      clear hK K
                      refine wpAnyH_done (by kernel_rfl) ?_ _
                      refine NoPanic.normal ?_
                      clear e1 e2 hwb hn1 hn2 hB1 hB2 hN2 hlw2
                      generalize tx 2 (fun i : Nat => if i = 0 then dt else j') ++ zB 30 = t at *
                      generalize z2.setCell ⟨gw, S, none⟩ (.string t) = z3 at *
                      have HM1 : Hid (Km W gx g gr gw k key b2 b2' top2 C2 S t (.slice a q c) q z3.drew) := HM0.out.below (Below.refl _ _).drew
                      clear HM0
                      have HT32 : Hid (t.size = 32) := ht32
                      have HS2 : Hid (S < k) := hS2
                      have hSi : (S : Int) < (k : Int) := by omega
                      clear ht32 hS2
                      go_wp2_with fail
                      have hsw := HM1.out.sw HS2.out
                      refine wp_region_noPanic ?_
                      refine wp_region_held_drew (S := fun z : World => z.cell? ⟨gx, 0, none⟩ = some (.pointer (some ⟨g, 0, none⟩)) ∧ z.cell? ⟨gx, 1, none⟩ = some (.int .i64 1) ∧ z.cell? ⟨gx, 2, none⟩ = some (.int .i64 (k : Int)) ∧ z.cell? ⟨gx, 3, none⟩ = some (.string key) ∧ z.cell? ⟨gw, S, none⟩ = some (.string t)) (by kernel_rfl) hsw (fun hHeld => ?_)
                      generalize z3.drew = z4 at *
                      refine wpAnyH_take (i := 0) (v := ?_) rfl (by kernel_rfl) (by kernel_rfl) (by kernel_rfl) (fun _ _ _ h => h) (Or.inl ⟨by rfl, ?_⟩) (by assumption) ?_
                      rotate_left
                      · intro w hSw; go_simp; try with_reducible rfl
                      go_simp
                      refine wpAnyH_take (i := 1) (v := ?_) rfl (by kernel_rfl) (by kernel_rfl) (by kernel_rfl) (fun _ _ _ h => h) (Or.inl ⟨by rfl, ?_⟩) (by assumption) ?_
                      rotate_left
                      · intro w hSw; go_simp; try with_reducible rfl
                      go_simp
                      refine wpAnyH_take (i := 2) (v := ?_) rfl (by kernel_rfl) (by kernel_rfl) (by kernel_rfl) (fun _ _ _ h => h) (Or.inl ⟨by rfl, ?_⟩) (by assumption) ?_
                      rotate_left
                      · intro w hSw; go_simp; try with_reducible rfl
                      go_simp
                      refine wpAnyH_take (i := 3) (v := ?_) rfl (by kernel_rfl) (by kernel_rfl) (by kernel_rfl) (fun _ _ _ h => h) (Or.inl ⟨by rfl, ?_⟩) (by assumption) ?_
                      rotate_left
                      · intro w hSw; go_simp; try with_reducible rfl
                      go_simp
                      refine wpAnyH_take (i := 4) (v := ?_) rfl (by kernel_rfl) (by kernel_rfl) (by kernel_rfl) (fun _ _ _ h => h) (Or.inl ⟨by rfl, ?_⟩) (by assumption) ?_
                      rotate_left
                      · intro w hSw; go_simp; try with_reducible rfl
                      go_simp
                      refine wpAnyH_take (i := 5) (v := ?_) rfl (by kernel_rfl) (by kernel_rfl) (by kernel_rfl) (fun _ _ _ h => h) (Or.inl ⟨by rfl, ?_⟩) (by assumption) ?_
                      rotate_left
                      · intro w hSw; go_simp; try with_reducible rfl
                      go_simp
                      refine wpAnyH_take (i := 6) (v := ?_) rfl (by kernel_rfl) (by kernel_rfl) (by kernel_rfl) (fun _ _ _ h => h) (Or.inl ⟨by rfl, ?_⟩) (by assumption) ?_
                      rotate_left
                      · intro w hSw; go_simp; try with_reducible rfl
                      go_simp
                      refine wpAnyH_take (i := 10) (v := ?_) rfl (by kernel_rfl) (by kernel_rfl) (by kernel_rfl) (fun _ _ _ h => h) (Or.inl ⟨by rfl, ?_⟩) (by assumption) ?_
                      rotate_left
                      · intro w hSw; go_simp; try with_reducible rfl
                      go_simp
                      refine wpAnyH_take (i := 11) (v := ?_) rfl (by kernel_rfl) (by kernel_rfl) (by kernel_rfl) (fun _ _ _ h => h) (Or.inl ⟨by rfl, ?_⟩) (by assumption) ?_
                      rotate_left
                      · intro w hSw; go_simp; try with_reducible rfl
                      go_simp
                      refine wpAnyH_take (i := 12) (v := ?_) rfl (by kernel_rfl) (by kernel_rfl) (by kernel_rfl) (fun _ _ _ h => h) (Or.inl ⟨by rfl, ?_⟩) (by assumption) ?_
                      rotate_left
                      · intro w hSw; go_simp; try with_reducible rfl
                      go_simp
                      refine wpAnyH_take (i := 13) (v := ?_) rfl (by kernel_rfl) (by kernel_rfl) (by kernel_rfl) (fun _ _ _ h => h) (Or.inl ⟨by rfl, ?_⟩) (by assumption) ?_
                      rotate_left
                      · intro w hSw; go_simp; try with_reducible rfl
                      go_simp
                      refine wpAnyH_ready (rs := [7]) (by kernel_rfl) (by simp) (AllReadyH.cons rfl (fun K hK => ?_) AllReadyH.nil)
                      go_simp
                      have hL4 : Below z4.heap.size z4 (z4.alloc (.cells #[.int .u8 (j' : Int)] 5)) := (Below.refl _ _).alloc (Nat.le_refl _) _
                      have HM2 : Hid (Km W gx g gr gw k key b2 b2' top2 C2 S t (.slice a q c) q (z4.alloc (.cells #[.int .u8 (j' : Int)] 5))) := HM1.out.below hL4
                      have hB4 : Blk (z4.alloc (.cells #[.int .u8 (j' : Int)] 5)) z4.heap.size 5 (nr .u8 1 fun _ => j') := Blk.new z4 5 _
                      have hsw2 := HM2.out.sw HS2.out
                      refine hK.out _ _ hsw2 (fun hHeld => ?_)
                      clear hK K hL4 HM1 hsw
                      generalize hz5 : z4.alloc (.cells #[.int .u8 (j' : Int)] 5) = z5 at *
                      generalize hg4 : z4.heap.size = g4 at *
                      clear hz5 hg4
                      refine wpAnyH_weaken (S' := fun z : World => (z.cell? ⟨gx, 0, none⟩ = some (.pointer (some ⟨g, 0, none⟩)) ∧ z.cell? ⟨gx, 1, none⟩ = some (.int .i64 1) ∧ z.cell? ⟨gx, 2, none⟩ = some (.int .i64 (k : Int)) ∧ z.cell? ⟨gx, 3, none⟩ = some (.string key) ∧ z.cell? ⟨gw, S, none⟩ = some (.string t)) ∧ Blk z g4 5 (nr .u8 1 fun _ => j')) (fun z hz => hz.1) _ _ _ _ ?_
                      refine wpAnyH_take (i := 8) (v := .string (tx 1 fun _ => j')) rfl (by kernel_rfl) (by kernel_rfl) (by kernel_rfl) (fun _ _ _ h => h) (Or.inl ⟨by rfl, ?_⟩) ⟨hsw2, hB4⟩ ?_
                      · intro w hSw; have hcr := conv_blk hSw.2 1 1 (Nat.le_refl _); clear hSw; go_simp; try with_reducible rfl
                      go_simp
                      refine wpAnyH_take (i := 9) (v := ?_) rfl (by kernel_rfl) (by kernel_rfl) (by kernel_rfl) (fun _ _ _ h => h) (Or.inl ⟨by rfl, ?_⟩) ⟨hsw2, hB4⟩ ?_
                      rotate_left
                      · intro w hSw; go_simp; try with_reducible rfl
                      go_simp
                      have hno : Hid (((tx 1 fun _ => j') ++ ⟨#[97, 98, 99, 100, 101, 102, 103, 104, 105, 106, 107]⟩ : ByteArray).size = 12) := by show ((tx 1 fun _ => j') ++ ⟨#[97, 98, 99, 100, 101, 102, 103, 104, 105, 106, 107]⟩ : ByteArray).size = 12; rw [ByteArray.size_append, tx_size]; rfl
                      generalize ((tx 1 fun _ => j') ++ ⟨#[97, 98, 99, 100, 101, 102, 103, 104, 105, 106, 107]⟩ : ByteArray) = non at *
                      clear hsw2
                      refine wpAnyH_ready (rs := [14]) (by kernel_rfl) (by simp) (AllReadyH.cons rfl (fun K hK => ?_) AllReadyH.nil)
                      go_simp
                      go_at_call 12
                      refine (Km.seal2 HM2.out HN.out.1 HN.out.2 HK.out HS2.out HT32.out hno.out).mono ?_
                      rintro x z6 ⟨rfl, hb6⟩
                      have HM3 : Hid (Km W gx g gr gw k key b2 b2' top2 C2 S t (.slice a q c) q z6) := HM2.out.below hb6
                      have hB6 := hB4.below hb6 hB4.lt
                      refine hK.out _ _ ⟨HM3.out.sw HS2.out, hB6⟩ (fun hHeld => ?_)
                      have hsw6 := HM3.out.sw HS2.out
                      clear hK K hb6 hB4 HM2
                      refine wpAnyH_take (i := 15) (v := ?_) rfl (by kernel_rfl) (by kernel_rfl) (by kernel_rfl) (fun _ _ _ h => h) (Or.inl ⟨by rfl, ?_⟩) ⟨hsw6, hB6⟩ ?_
                      rotate_left
                      · intro w hSw; go_simp; try with_reducible rfl
                      go_simp
                      refine wpAnyH_take (i := 16) (v := ?_) rfl (by kernel_rfl) (by kernel_rfl) (by kernel_rfl) (fun _ _ _ h => h) (Or.inl ⟨by rfl, ?_⟩) ⟨hsw6, hB6⟩ ?_
                      rotate_left
                      · intro w hSw; go_simp; try with_reducible rfl
                      go_simp
                      refine wpAnyH_take (i := 17) (v := ?_) rfl (by kernel_rfl) (by kernel_rfl) (by kernel_rfl) (fun _ _ _ h => h) (Or.inl ⟨by rfl, ?_⟩) ⟨hsw6, hB6⟩ ?_
                      rotate_left
                      · intro w hSw; go_simp; try with_reducible rfl
                      go_simp
                      refine wpAnyH_take (i := 18) (v := ?_) rfl (by kernel_rfl) (by kernel_rfl) (by kernel_rfl) (fun _ _ _ h => h) (Or.inl ⟨by rfl, ?_⟩) ⟨hsw6, hB6⟩ ?_
                      rotate_left
                      · intro w hSw; go_simp; try with_reducible rfl
                      go_simp
                      refine wpAnyH_take (i := 19) (v := ?_) rfl (by kernel_rfl) (by kernel_rfl) (by kernel_rfl) (fun _ _ _ h => h) (Or.inl ⟨by rfl, ?_⟩) ⟨hsw6, hB6⟩ ?_
                      rotate_left
                      · intro w hSw; go_simp; try with_reducible rfl
                      go_simp
                      refine wpAnyH_done (by kernel_rfl) ?_ _
                      refine NoPanic.normal ?_
                      clear hsw6 hB6
                      obtain ⟨a2, c2, z7, hrun, h7⟩ := Km.push HM3.out HS2.out (by omega) HT32.out hno.out
                      have H7 : Hid (Kn W gx g gr gw k key b2 b2' top2 C2 (.slice a2 (q + 1) c2) (q + 1) z7) := h7
                      generalize clB17 key non (plc 1 S) t = cel at *
                      clear h7 HM3 hno
                      go_wp2_with (at_builtin; refine Lib.wpList_append_run _ rfl _ _ 36 36 rfl _ _ rfl rfl _ _ hrun ?_)
                      go_roundw
                      case rel => exact ⟨a2, c2, q + 1, j' + 1, r' + 1, rfl, by go_num, by go_num, by omega, by omega, by omega, by omega, fun h => by omega, fun _ => by omega, H7.out⟩
                      case measure => simp [intOf]; omega
                    ·
                      go_simp
                      have hL1 : Below z0.heap.size z0 (z0.alloc (.cells Z30 5)) := (Below.refl _ _).alloc (Nat.le_refl _) _
                      have hlw1 : Below W.heap.size W (z0.alloc (.cells Z30 5)) := hlw0.trans (hL1.mono hlw0.size)
                      have hN1 : Hid (Kn W gx g gr gw k key b2 b2' top2 C2 (.slice a q c) q (z0.alloc (.cells Z30 5))) := hN0.out.below hL1
                      have hB1 : Blk (z0.alloc (.cells Z30 5)) z0.heap.size 5 Z30.toList := Blk.new z0 5 _
                      refine hK.out _ _ (hlw1) (fun hHeld => ?_)
                      clear hK K hL1 hN0 hlw0
                      generalize hz1 : z0.alloc (.cells Z30 5) = z1 at *
                      generalize hg1 : z0.heap.size = g1 at *
                      clear hz1 hg1
                      refine wpAnyH_weaken (S' := fun z => Below W.heap.size W z ∧ Blk z g1 5 Z30.toList) (fun z hz => hz.1) _ _ _ _ ?_
                      refine wpAnyH_take (i := 12) (v := .string (zB 30)) rfl (by kernel_rfl) (by kernel_rfl) (by kernel_rfl) (fun _ _ _ h => h) (Or.inl ⟨by rfl, ?_⟩) ⟨hlw1, hB1⟩ ?_
                      · intro w hSw; have hcr := pz30 (zcells HZ30.out.2 hSw.2); clear hSw; go_simp; try with_reducible rfl
                      go_simp
                      refine wpAnyH_ready (rs := [9]) (by kernel_rfl) (by simp) (AllReadyH.cons rfl (fun K hK => ?_) AllReadyH.nil)
                      go_simp
                      have hL2 : Below z1.heap.size z1 (z1.alloc (.cells #[.int .u8 (dt : Int), .int .u8 (j' : Int)] 5)) := (Below.refl _ _).alloc (Nat.le_refl _) _
                      have hlw2 : Below W.heap.size W (z1.alloc (.cells #[.int .u8 (dt : Int), .int .u8 (j' : Int)] 5)) := hlw1.trans (hL2.mono hlw1.size)
                      have hN2 : Hid (Kn W gx g gr gw k key b2 b2' top2 C2 (.slice a q c) q (z1.alloc (.cells #[.int .u8 (dt : Int), .int .u8 (j' : Int)] 5))) := hN1.out.below hL2
                      have hB2 : Blk (z1.alloc (.cells #[.int .u8 (dt : Int), .int .u8 (j' : Int)] 5)) z1.heap.size 5 (nr .u8 2 (fun i : Nat => if i = 0 then dt else j')) := Blk.new z1 5 _
                      replace hB1 := hB1.alloc (.cells #[.int .u8 (dt : Int), .int .u8 (j' : Int)] 5)
                      refine hK.out _ _ (⟨hlw2, hB1⟩) (fun hHeld => ?_)
                      clear hK K hL2 hN1 hlw1
                      generalize hz2 : z1.alloc (.cells #[.int .u8 (dt : Int), .int .u8 (j' : Int)] 5) = z2 at *
                      generalize hg2 : z1.heap.size = g2 at *
                      clear hz2 hg2
                      refine wpAnyH_weaken (S' := fun z => Below W.heap.size W z ∧ Blk z g1 5 Z30.toList ∧ Blk z g2 5 (nr .u8 2 (fun i : Nat => if i = 0 then dt else j'))) (fun z hz => ⟨hz.1, hz.2.1⟩) _ _ _ _ ?_
                      refine wpAnyH_take (i := 10) (v := .string (tx 2 (fun i : Nat => if i = 0 then dt else j'))) rfl (by kernel_rfl) (by kernel_rfl) (by kernel_rfl) (fun _ _ _ h => h) (Or.inl ⟨by rfl, ?_⟩) ⟨hlw2, hB1, hB2⟩ ?_
                      · intro w hSw; have hcr := conv_blk hSw.2.2 2 2 (Nat.le_refl _); clear hSw; go_simp; try with_reducible rfl
                      go_simp
                      refine wpAnyH_take (i := 13) (v := ?_) rfl (by kernel_rfl) (by kernel_rfl) (by kernel_rfl) (fun _ _ _ h => h) (Or.inl ⟨by rfl, ?_⟩) ⟨hlw2, hB1, hB2⟩ ?_
                      rotate_left
                      · intro w hSw; go_simp; try with_reducible rfl
                      go_simp
                      refine wpAnyH_take (i := 14) (v := ?_) rfl (by kernel_rfl) (by kernel_rfl) (by kernel_rfl) (fun _ _ _ h => h) (Or.inl ⟨by rfl, ?_⟩) ⟨hlw2, hB1, hB2⟩ ?_
                      rotate_left
                      · intro w hSw; go_simp; try with_reducible rfl
                      go_simp
                      obtain ⟨wv, hwb⟩ := hN2.out.blk
                      have e1 := hwb.cell (strs_at k wv S hS2)
                      have e2 := hwb.frozen S
                      have hn1 : g1 ≠ gw := hB1.ne hwb (by decide)
                      have hn2 : g2 ≠ gw := hB2.ne hwb (by decide)
                      have HM0 : Hid (Km W gx g gr gw k key b2 b2' top2 C2 S (tx 2 (fun i : Nat => if i = 0 then dt else j') ++ zB 30) (.slice a q c) q (z2.setCell ⟨gw, S, none⟩ (.string (tx 2 (fun i : Nat => if i = 0 then dt else j') ++ zB 30)))) := hN2.out.store _ S
                      have ht32 : (tx 2 (fun i : Nat => if i = 0 then dt else j') ++ zB 30).size = 32 := by rw [ByteArray.size_append, tx_size, zB_size]
                      refine wpAnyH_ready (rs := [15]) (by kernel_rfl) (by simp) (AllReadyH.cons rfl (fun K hK => ?_) AllReadyH.nil)
                      go_simp
                      refine hK.out _ _ ⟨HM0.out.low, hB1.setOther hn1 _ _, hB2.setOther hn2 _ _⟩ (fun hHeld => ?_)
                      clear hK K
                      refine wpAnyH_done (by kernel_rfl) ?_ _
                      refine NoPanic.normal ?_
                      clear e1 e2 hwb hn1 hn2 hB1 hB2 hN2 hlw2
                      generalize tx 2 (fun i : Nat => if i = 0 then dt else j') ++ zB 30 = t at *
                      generalize z2.setCell ⟨gw, S, none⟩ (.string t) = z3 at *
                      have HM1 : Hid (Km W gx g gr gw k key b2 b2' top2 C2 S t (.slice a q c) q z3.drew) := HM0.out.below (Below.refl _ _).drew
                      clear HM0
                      have HT32 : Hid (t.size = 32) := ht32
                      have HS2 : Hid (S < k) := hS2
                      have hSi : (S : Int) < (k : Int) := by omega
                      clear ht32 hS2
                      go_wp2_with fail
                      have hsw := HM1.out.sw HS2.out
                      refine wp_region_noPanic ?_
                      refine wp_region_held_drew (S := fun z : World => z.cell? ⟨gx, 0, none⟩ = some (.pointer (some ⟨g, 0, none⟩)) ∧ z.cell? ⟨gx, 1, none⟩ = some (.int .i64 1) ∧ z.cell? ⟨gx, 2, none⟩ = some (.int .i64 (k : Int)) ∧ z.cell? ⟨gx, 3, none⟩ = some (.string key) ∧ z.cell? ⟨gw, S, none⟩ = some (.string t)) (by kernel_rfl) hsw (fun hHeld => ?_)
                      generalize z3.drew = z4 at *
                      refine wpAnyH_take (i := 0) (v := ?_) rfl (by kernel_rfl) (by kernel_rfl) (by kernel_rfl) (fun _ _ _ h => h) (Or.inl ⟨by rfl, ?_⟩) (by assumption) ?_
                      rotate_left
                      · intro w hSw; go_simp; try with_reducible rfl
                      go_simp
                      refine wpAnyH_take (i := 1) (v := ?_) rfl (by kernel_rfl) (by kernel_rfl) (by kernel_rfl) (fun _ _ _ h => h) (Or.inl ⟨by rfl, ?_⟩) (by assumption) ?_
                      rotate_left
                      · intro w hSw; go_simp; try with_reducible rfl
                      go_simp
                      refine wpAnyH_take (i := 2) (v := ?_) rfl (by kernel_rfl) (by kernel_rfl) (by kernel_rfl) (fun _ _ _ h => h) (Or.inl ⟨by rfl, ?_⟩) (by assumption) ?_
                      rotate_left
                      · intro w hSw; go_simp; try with_reducible rfl
                      go_simp
                      refine wpAnyH_take (i := 3) (v := ?_) rfl (by kernel_rfl) (by kernel_rfl) (by kernel_rfl) (fun _ _ _ h => h) (Or.inl ⟨by rfl, ?_⟩) (by assumption) ?_
                      rotate_left
                      · intro w hSw; go_simp; try with_reducible rfl
                      go_simp
                      refine wpAnyH_take (i := 4) (v := ?_) rfl (by kernel_rfl) (by kernel_rfl) (by kernel_rfl) (fun _ _ _ h => h) (Or.inl ⟨by rfl, ?_⟩) (by assumption) ?_
                      rotate_left
                      · intro w hSw; go_simp; try with_reducible rfl
                      go_simp
                      refine wpAnyH_take (i := 5) (v := ?_) rfl (by kernel_rfl) (by kernel_rfl) (by kernel_rfl) (fun _ _ _ h => h) (Or.inl ⟨by rfl, ?_⟩) (by assumption) ?_
                      rotate_left
                      · intro w hSw; go_simp; try with_reducible rfl
                      go_simp
                      refine wpAnyH_take (i := 6) (v := ?_) rfl (by kernel_rfl) (by kernel_rfl) (by kernel_rfl) (fun _ _ _ h => h) (Or.inl ⟨by rfl, ?_⟩) (by assumption) ?_
                      rotate_left
                      · intro w hSw; go_simp; try with_reducible rfl
                      go_simp
                      refine wpAnyH_take (i := 10) (v := ?_) rfl (by kernel_rfl) (by kernel_rfl) (by kernel_rfl) (fun _ _ _ h => h) (Or.inl ⟨by rfl, ?_⟩) (by assumption) ?_
                      rotate_left
                      · intro w hSw; go_simp; try with_reducible rfl
                      go_simp
                      refine wpAnyH_take (i := 11) (v := ?_) rfl (by kernel_rfl) (by kernel_rfl) (by kernel_rfl) (fun _ _ _ h => h) (Or.inl ⟨by rfl, ?_⟩) (by assumption) ?_
                      rotate_left
                      · intro w hSw; go_simp; try with_reducible rfl
                      go_simp
                      refine wpAnyH_take (i := 12) (v := ?_) rfl (by kernel_rfl) (by kernel_rfl) (by kernel_rfl) (fun _ _ _ h => h) (Or.inl ⟨by rfl, ?_⟩) (by assumption) ?_
                      rotate_left
                      · intro w hSw; go_simp; try with_reducible rfl
                      go_simp
                      refine wpAnyH_take (i := 13) (v := ?_) rfl (by kernel_rfl) (by kernel_rfl) (by kernel_rfl) (fun _ _ _ h => h) (Or.inl ⟨by rfl, ?_⟩) (by assumption) ?_
                      rotate_left
                      · intro w hSw; go_simp; try with_reducible rfl
                      go_simp
                      refine wpAnyH_ready (rs := [7]) (by kernel_rfl) (by simp) (AllReadyH.cons rfl (fun K hK => ?_) AllReadyH.nil)
                      go_simp
                      have hL4 : Below z4.heap.size z4 (z4.alloc (.cells #[.int .u8 (j' : Int)] 5)) := (Below.refl _ _).alloc (Nat.le_refl _) _
                      have HM2 : Hid (Km W gx g gr gw k key b2 b2' top2 C2 S t (.slice a q c) q (z4.alloc (.cells #[.int .u8 (j' : Int)] 5))) := HM1.out.below hL4
                      have hB4 : Blk (z4.alloc (.cells #[.int .u8 (j' : Int)] 5)) z4.heap.size 5 (nr .u8 1 fun _ => j') := Blk.new z4 5 _
                      have hsw2 := HM2.out.sw HS2.out
                      refine hK.out _ _ hsw2 (fun hHeld => ?_)
                      clear hK K hL4 HM1 hsw
                      generalize hz5 : z4.alloc (.cells #[.int .u8 (j' : Int)] 5) = z5 at *
                      generalize hg4 : z4.heap.size = g4 at *
                      clear hz5 hg4
                      refine wpAnyH_weaken (S' := fun z : World => (z.cell? ⟨gx, 0, none⟩ = some (.pointer (some ⟨g, 0, none⟩)) ∧ z.cell? ⟨gx, 1, none⟩ = some (.int .i64 1) ∧ z.cell? ⟨gx, 2, none⟩ = some (.int .i64 (k : Int)) ∧ z.cell? ⟨gx, 3, none⟩ = some (.string key) ∧ z.cell? ⟨gw, S, none⟩ = some (.string t)) ∧ Blk z g4 5 (nr .u8 1 fun _ => j')) (fun z hz => hz.1) _ _ _ _ ?_
                      refine wpAnyH_take (i := 8) (v := .string (tx 1 fun _ => j')) rfl (by kernel_rfl) (by kernel_rfl) (by kernel_rfl) (fun _ _ _ h => h) (Or.inl ⟨by rfl, ?_⟩) ⟨hsw2, hB4⟩ ?_
                      · intro w hSw; have hcr := conv_blk hSw.2 1 1 (Nat.le_refl _); clear hSw; go_simp; try with_reducible rfl
                      go_simp
                      refine wpAnyH_take (i := 9) (v := ?_) rfl (by kernel_rfl) (by kernel_rfl) (by kernel_rfl) (fun _ _ _ h => h) (Or.inl ⟨by rfl, ?_⟩) ⟨hsw2, hB4⟩ ?_
                      rotate_left
                      · intro w hSw; go_simp; try with_reducible rfl
                      go_simp
                      have hno : Hid (((tx 1 fun _ => j') ++ ⟨#[97, 98, 99, 100, 101, 102, 103, 104, 105, 106, 107]⟩ : ByteArray).size = 12) := by show ((tx 1 fun _ => j') ++ ⟨#[97, 98, 99, 100, 101, 102, 103, 104, 105, 106, 107]⟩ : ByteArray).size = 12; rw [ByteArray.size_append, tx_size]; rfl
                      generalize ((tx 1 fun _ => j') ++ ⟨#[97, 98, 99, 100, 101, 102, 103, 104, 105, 106, 107]⟩ : ByteArray) = non at *
                      clear hsw2
                      refine wpAnyH_ready (rs := [14]) (by kernel_rfl) (by simp) (AllReadyH.cons rfl (fun K hK => ?_) AllReadyH.nil)
                      go_simp
                      go_at_call 12
                      refine (Km.seal2 HM2.out HN.out.1 HN.out.2 HK.out HS2.out HT32.out hno.out).mono ?_
                      rintro x z6 ⟨rfl, hb6⟩
                      have HM3 : Hid (Km W gx g gr gw k key b2 b2' top2 C2 S t (.slice a q c) q z6) := HM2.out.below hb6
                      have hB6 := hB4.below hb6 hB4.lt
                      refine hK.out _ _ ⟨HM3.out.sw HS2.out, hB6⟩ (fun hHeld => ?_)
                      have hsw6 := HM3.out.sw HS2.out
                      clear hK K hb6 hB4 HM2
                      refine wpAnyH_take (i := 15) (v := ?_) rfl (by kernel_rfl) (by kernel_rfl) (by kernel_rfl) (fun _ _ _ h => h) (Or.inl ⟨by rfl, ?_⟩) ⟨hsw6, hB6⟩ ?_
                      rotate_left
                      · intro w hSw; go_simp; try with_reducible rfl
                      go_simp
                      refine wpAnyH_take (i := 16) (v := ?_) rfl (by kernel_rfl) (by kernel_rfl) (by kernel_rfl) (fun _ _ _ h => h) (Or.inl ⟨by rfl, ?_⟩) ⟨hsw6, hB6⟩ ?_
                      rotate_left
                      · intro w hSw; go_simp; try with_reducible rfl
                      go_simp
                      refine wpAnyH_take (i := 17) (v := ?_) rfl (by kernel_rfl) (by kernel_rfl) (by kernel_rfl) (fun _ _ _ h => h) (Or.inl ⟨by rfl, ?_⟩) ⟨hsw6, hB6⟩ ?_
                      rotate_left
                      · intro w hSw; go_simp; try with_reducible rfl
                      go_simp
                      refine wpAnyH_take (i := 18) (v := ?_) rfl (by kernel_rfl) (by kernel_rfl) (by kernel_rfl) (fun _ _ _ h => h) (Or.inl ⟨by rfl, ?_⟩) ⟨hsw6, hB6⟩ ?_
                      rotate_left
                      · intro w hSw; go_simp; try with_reducible rfl
                      go_simp
                      refine wpAnyH_take (i := 19) (v := ?_) rfl (by kernel_rfl) (by kernel_rfl) (by kernel_rfl) (fun _ _ _ h => h) (Or.inl ⟨by rfl, ?_⟩) ⟨hsw6, hB6⟩ ?_
                      rotate_left
                      · intro w hSw; go_simp; try with_reducible rfl
                      go_simp
                      refine wpAnyH_done (by kernel_rfl) ?_ _
                      refine NoPanic.normal ?_
                      clear hsw6 hB6
                      obtain ⟨a2, c2, z7, hrun, h7⟩ := Km.push HM3.out HS2.out (by omega) HT32.out hno.out
                      have H7 : Hid (Kn W gx g gr gw k key b2 b2' top2 C2 (.slice a2 (q + 1) c2) (q + 1) z7) := h7
                      generalize clB17 key non (plc 1 S) t = cel at *
                      clear h7 HM3 hno
                      go_wp2_with (at_builtin; refine Lib.wpList_append_run _ rfl _ _ 36 36 rfl _ _ rfl rfl _ _ hrun ?_)
                      go_roundw
                      case rel => exact ⟨a2, c2, q + 1, j' + 1, r' + 1, rfl, by go_num, by go_num, by omega, by omega, by omega, by omega, fun h => by omega, fun _ => by omega, H7.out⟩
                      case measure => simp [intOf]; omega
                  · have hq2' : ¬ (j' : Int) < 30 := by omega
                    go_wp2
                    go_roundw
                    case rel => exact ⟨a, c, q, j', r' + 1, rfl, rfl, by go_num, by omega, by omega, by omega, by omega, fun h => by omega, fun _ => by omega, hk5.out⟩
                    case measure => simp [intOf]; omega
                · have hq1' : ¬ (j' : Int) < (len : Int) := by omega
                  go_wp2
                  go_roundw
                  case rel => exact ⟨a, c, q, j', r' + 1, rfl, rfl, by go_num, by omega, by omega, by omega, by omega, fun h => by omega, fun _ => by omega, hk5.out⟩
                  case measure => simp [intOf]; omega
              · obtain rfl : r' = R + 1 := by omega
                have hlt' : ¬ ((R + 1 : Nat) : Int) < ((R + 1 : Nat) : Int) := by omega
                have HD : Hid (Kn W gx g gr gw k key b2 b2' top2 C2 (.slice a q c) q wr.drew) := hk5.out.below (Below.refl _ _).drew
                clear hk5
                go_wp2_with fail
                refine wp_region_noPanic ?_
                refine wp_region_held_drew (S := fun z : World => z.cell? ⟨gx, 0, none⟩ = some (.pointer (some ⟨g, 0, none⟩)) ∧ z.cell? ⟨gx, 1, none⟩ = some (.int .i64 1) ∧ z.cell? ⟨gx, 2, none⟩ = some (.int .i64 (k : Int)) ∧ z.cell? ⟨gx, 3, none⟩ = some (.string key) ∧ z.cell? ⟨gx, 8, none⟩ = some (.string top2)) (by kernel_rfl) HD.out.sc (fun hHeld => ?_)
                refine wpAnyH_take (i := 0) (v := ?_) rfl (by kernel_rfl) (by kernel_rfl) (by kernel_rfl) (fun _ _ _ h => h) (Or.inl ⟨by rfl, ?_⟩) (by assumption) ?_
                rotate_left
                · intro w hSw; go_simp; try with_reducible rfl
                go_simp
                refine wpAnyH_take (i := 1) (v := ?_) rfl (by kernel_rfl) (by kernel_rfl) (by kernel_rfl) (fun _ _ _ h => h) (Or.inl ⟨by rfl, ?_⟩) (by assumption) ?_
                rotate_left
                · intro w hSw; go_simp; try with_reducible rfl
                go_simp
                refine wpAnyH_take (i := 2) (v := ?_) rfl (by kernel_rfl) (by kernel_rfl) (by kernel_rfl) (fun _ _ _ h => h) (Or.inl ⟨by rfl, ?_⟩) (by assumption) ?_
                rotate_left
                · intro w hSw; go_simp; try with_reducible rfl
                go_simp
                refine wpAnyH_take (i := 3) (v := ?_) rfl (by kernel_rfl) (by kernel_rfl) (by kernel_rfl) (fun _ _ _ h => h) (Or.inl ⟨by rfl, ?_⟩) (by assumption) ?_
                rotate_left
                · intro w hSw; go_simp; try with_reducible rfl
                go_simp
                refine wpAnyH_take (i := 4) (v := ?_) rfl (by kernel_rfl) (by kernel_rfl) (by kernel_rfl) (fun _ _ _ h => h) (Or.inl ⟨by rfl, ?_⟩) (by assumption) ?_
                rotate_left
                · intro w hSw; go_simp; try with_reducible rfl
                go_simp
                refine wpAnyH_take (i := 5) (v := ?_) rfl (by kernel_rfl) (by kernel_rfl) (by kernel_rfl) (fun _ _ _ h => h) (Or.inl ⟨by rfl, ?_⟩) (by assumption) ?_
                rotate_left
                · intro w hSw; go_simp; try with_reducible rfl
                go_simp
                refine wpAnyH_take (i := 6) (v := ?_) rfl (by kernel_rfl) (by kernel_rfl) (by kernel_rfl) (fun _ _ _ h => h) (Or.inl ⟨by rfl, ?_⟩) (by assumption) ?_
                rotate_left
                · intro w hSw; go_simp; try with_reducible rfl
                go_simp
                refine wpAnyH_take (i := 7) (v := ?_) rfl (by kernel_rfl) (by kernel_rfl) (by kernel_rfl) (fun _ _ _ h => h) (Or.inl ⟨by rfl, ?_⟩) (by assumption) ?_
                rotate_left
                · intro w hSw; go_simp; try with_reducible rfl
                go_simp
                refine wpAnyH_take (i := 8) (v := ?_) rfl (by kernel_rfl) (by kernel_rfl) (by kernel_rfl) (fun _ _ _ h => h) (Or.inl ⟨by rfl, ?_⟩) (by assumption) ?_
                rotate_left
                · intro w hSw; go_simp; try with_reducible rfl
                go_simp
                refine wpAnyH_ready (rs := [9]) (by kernel_rfl) (by simp) (AllReadyH.cons rfl (fun K hK => ?_) AllReadyH.nil)
                go_simp
                go_at_call 13
                refine (Kn.prep HD.out (HTA.out _ HD.out.low) HL.out HI.out HN.out.1 HN.out.2 HK.out (by omega)).mono ?_
                rintro x w5 ⟨v5, t5, rfl, h5⟩
                have HR : Hid (Kr W gx g gr gw d k key b2 b2' top2 v5 t5 w5) := h5
                clear h5 HD
                refine hK.out _ _ HR.out.sc (fun hHeld => ?_)
                clear hK K
                refine wpAnyH_take (i := 10) (v := ?_) rfl (by kernel_rfl) (by kernel_rfl) (by kernel_rfl) (fun _ _ _ h => h) (Or.inl ⟨by rfl, ?_⟩) (by assumption) ?_
                rotate_left
                · intro w hSw; go_simp; try with_reducible rfl
                go_simp
                refine wpAnyH_take (i := 11) (v := ?_) rfl (by kernel_rfl) (by kernel_rfl) (by kernel_rfl) (fun _ _ _ h => h) (Or.inl ⟨by rfl, ?_⟩) (by assumption) ?_
                rotate_left
                · intro w hSw; go_simp; try with_reducible rfl
                go_simp
                refine wpAnyH_take (i := 12) (v := ?_) rfl (by kernel_rfl) (by kernel_rfl) (by kernel_rfl) (fun _ _ _ h => h) (Or.inl ⟨by rfl, ?_⟩) (by assumption) ?_
                rotate_left
                · intro w hSw; go_simp; try with_reducible rfl
                go_simp
                refine wpAnyH_take (i := 13) (v := ?_) rfl (by kernel_rfl) (by kernel_rfl) (by kernel_rfl) (fun _ _ _ h => h) (Or.inl ⟨by rfl, ?_⟩) (by assumption) ?_
                rotate_left
                · intro w hSw; go_simp; try with_reducible rfl
                go_simp
                refine wpAnyH_take (i := 14) (v := ?_) rfl (by kernel_rfl) (by kernel_rfl) (by kernel_rfl) (fun _ _ _ h => h) (Or.inl ⟨by rfl, ?_⟩) (by assumption) ?_
                rotate_left
                · intro w hSw; go_simp; try with_reducible rfl
                go_simp
                refine wpAnyH_take (i := 15) (v := ?_) rfl (by kernel_rfl) (by kernel_rfl) (by kernel_rfl) (fun _ _ _ h => h) (Or.inl ⟨by rfl, ?_⟩) (by assumption) ?_
                rotate_left
                · intro w hSw; go_simp; try with_reducible rfl
                go_simp
                refine wpAnyH_take (i := 16) (v := ?_) rfl (by kernel_rfl) (by kernel_rfl) (by kernel_rfl) (fun _ _ _ h => h) (Or.inl ⟨by rfl, ?_⟩) (by assumption) ?_
                rotate_left
                · intro w hSw; go_simp; try with_reducible rfl
                go_simp
                refine wpAnyH_done (by kernel_rfl) ?_ _
                refine NoPanic.normal ?_
                obtain ⟨d0, d1, d2, d3, d4⟩ := HR.out.sc
                go_wp2_with (go_at_call 14; refine (Kr.apply HR.out HN.out.1 HN.out.2 HK.out HF.out (by omega)).mono ?_; rintro x w6 ⟨rfl, h6⟩; have HS : Hid (Ks W gx g gr gw d k key (m + 1) top2 t5 w6) := h6; have e8 := h6.blk.cell (i := 8) rfl; have z8 := h6.blk.frozen 8; clear h6 HR d0 d1 d2 d3 d4)
                go_roundw
                case rel => exact ⟨j', m + 1, hr3, by have := HR6.out; omega, rfl, HS.out.setTop⟩
                case measure => simp [intOf]; have := HR6.out; omega
          · obtain ⟨b3, b3', l3, top3, C3, w3', hB, hL, hI, hK, hF, hz⟩ := hh.out
            have H6 : Hid (Bth W.heap.size W wr gx g gr 2 b3 b3' 1 (k : Int) key top3 (star (blkA gw 9 (strs k w3')) nought)) := hB
            have HL : Hid (Liv 2 1 b3 l3) := hL
            have HI : Hid (InT l3 d (sl0 top3) C3) := hI
            have HKP : Hid (Kp key 1 k C3 w3') := hK
            clear hB hL hI hK hF hz hh
            by_cases hc1 : j < len
            · have hc1' : (j : Int) < (len : Int) := by omega
              have hc2 : ¬ (j : Int) < 30 := by omega
              go_wp2_with fail
              go_loopw [162] (fun i wr => ∃ t : Nat, t ≤ k ∧ i = .int .i64 (t : Int) ∧ Hid (Bth W.heap.size W wr gx g gr 2 b3 b3' 1 (k : Int) key top3 (star (blkA gw 9 (strs k w3')) nought))) (fun i _ => k - (intOf i).toNat)
              case atStart => exact ⟨0, Nat.zero_le _, rfl, H6.out⟩
              case round =>
                clear H6
                obtain ⟨t, ht, rfl, hh⟩ := hrel
                by_cases hlt : t < k
                · have hlt' : (t : Int) < (k : Int) := by omega
                  have e1 := (Hold.blk (Hold.right (Hold.right (Hold.right hh.out)))).cell (strs_at k w3' t hlt)
                  have HD : Hid (Bth W.heap.size W wr.drew gx g gr 2 b3 b3' 1 (k : Int) key top3 (star (blkA gw 9 (strs k w3')) nought)) := hh.out.below ((firm_blk _ _ _).star firm_nought) (Below.refl _ _).drew
                  clear hh
                  go_wp2_with fail
                  clear e1
                  refine wp_region_noPanic ?_
                  refine wp_region_held_drew (S := fun z : World => z.cell? ⟨gx, 0, none⟩ = some (.pointer (some ⟨g, 0, none⟩)) ∧ z.cell? ⟨gx, 1, none⟩ = some (.int .i64 1) ∧ z.cell? ⟨gx, 2, none⟩ = some (.int .i64 (k : Int)) ∧ z.cell? ⟨gx, 3, none⟩ = some (.string key) ∧ z.cell? ⟨gx, 8, none⟩ = some (.string top3)) (by kernel_rfl) HD.out.sc (fun hHeld => ?_)
                  refine wpAnyH_take (i := 0) (v := ?_) rfl (by kernel_rfl) (by kernel_rfl) (by kernel_rfl) (fun _ _ _ h => h) (Or.inl ⟨by rfl, ?_⟩) (by assumption) ?_
                  rotate_left
                  · intro w hSw; go_simp; try with_reducible rfl
                  go_simp
                  refine wpAnyH_take (i := 1) (v := ?_) rfl (by kernel_rfl) (by kernel_rfl) (by kernel_rfl) (fun _ _ _ h => h) (Or.inl ⟨by rfl, ?_⟩) (by assumption) ?_
                  rotate_left
                  · intro w hSw; go_simp; try with_reducible rfl
                  go_simp
                  refine wpAnyH_take (i := 2) (v := ?_) rfl (by kernel_rfl) (by kernel_rfl) (by kernel_rfl) (fun _ _ _ h => h) (Or.inl ⟨by rfl, ?_⟩) (by assumption) ?_
                  rotate_left
                  · intro w hSw; go_simp; try with_reducible rfl
                  go_simp
                  refine wpAnyH_take (i := 3) (v := ?_) rfl (by kernel_rfl) (by kernel_rfl) (by kernel_rfl) (fun _ _ _ h => h) (Or.inl ⟨by rfl, ?_⟩) (by assumption) ?_
                  rotate_left
                  · intro w hSw; go_simp; try with_reducible rfl
                  go_simp
                  refine wpAnyH_take (i := 4) (v := ?_) rfl (by kernel_rfl) (by kernel_rfl) (by kernel_rfl) (fun _ _ _ h => h) (Or.inl ⟨by rfl, ?_⟩) (by assumption) ?_
                  rotate_left
                  · intro w hSw; go_simp; try with_reducible rfl
                  go_simp
                  refine wpAnyH_take (i := 5) (v := ?_) rfl (by kernel_rfl) (by kernel_rfl) (by kernel_rfl) (fun _ _ _ h => h) (Or.inl ⟨by rfl, ?_⟩) (by assumption) ?_
                  rotate_left
                  · intro w hSw; go_simp; try with_reducible rfl
                  go_simp
                  refine wpAnyH_take (i := 6) (v := ?_) rfl (by kernel_rfl) (by kernel_rfl) (by kernel_rfl) (fun _ _ _ h => h) (Or.inl ⟨by rfl, ?_⟩) (by assumption) ?_
                  rotate_left
                  · intro w hSw; go_simp; try with_reducible rfl
                  go_simp
                  refine wpAnyH_take (i := 7) (v := ?_) rfl (by kernel_rfl) (by kernel_rfl) (by kernel_rfl) (fun _ _ _ h => h) (Or.inl ⟨by rfl, ?_⟩) (by assumption) ?_
                  rotate_left
                  · intro w hSw; go_simp; try with_reducible rfl
                  go_simp
                  refine wpAnyH_take (i := 8) (v := ?_) rfl (by kernel_rfl) (by kernel_rfl) (by kernel_rfl) (fun _ _ _ h => h) (Or.inl ⟨by rfl, ?_⟩) (by assumption) ?_
                  rotate_left
                  · intro w hSw; go_simp; try with_reducible rfl
                  go_simp
                  refine wpAnyH_ready (rs := [9]) (by kernel_rfl) (by simp) (AllReadyH.cons rfl (fun K hK => ?_) AllReadyH.nil)
                  go_simp
                  go_at_call 15
                  refine (kp_get HD.out (HTA.out _ HD.out.low) HL.out HI.out HKP.out HN.out.1 HN.out.2 HK.out hlt).mono ?_
                  rintro x w5 ⟨rfl, hb5⟩
                  have H7 : Hid (Bth W.heap.size W w5 gx g gr 2 b3 b3' 1 (k : Int) key top3 (star (blkA gw 9 (strs k w3')) nought)) := HD.out.below ((firm_blk _ _ _).star firm_nought) hb5
                  clear hb5 HD
                  refine hK.out _ _ H7.out.sc (fun hHeld => ?_)
                  clear hK K
                  refine wpAnyH_take (i := 10) (v := ?_) rfl (by kernel_rfl) (by kernel_rfl) (by kernel_rfl) (fun _ _ _ h => h) (Or.inl ⟨by rfl, ?_⟩) (by assumption) ?_
                  rotate_left
                  · intro w hSw; go_simp; try with_reducible rfl
                  go_simp
                  refine wpAnyH_take (i := 11) (v := ?_) rfl (by kernel_rfl) (by kernel_rfl) (by kernel_rfl) (fun _ _ _ h => h) (Or.inl ⟨by rfl, ?_⟩) (by assumption) ?_
                  rotate_left
                  · intro w hSw; go_simp; try with_reducible rfl
                  go_simp
                  refine wpAnyH_take (i := 12) (v := ?_) rfl (by kernel_rfl) (by kernel_rfl) (by kernel_rfl) (fun _ _ _ h => h) (Or.inl ⟨by rfl, ?_⟩) (by assumption) ?_
                  rotate_left
                  · intro w hSw; go_simp; try with_reducible rfl
                  go_simp
                  refine wpAnyH_take (i := 13) (v := ?_) rfl (by kernel_rfl) (by kernel_rfl) (by kernel_rfl) (fun _ _ _ h => h) (Or.inl ⟨by rfl, ?_⟩) (by assumption) ?_
                  rotate_left
                  · intro w hSw; go_simp; try with_reducible rfl
                  go_simp
                  refine wpAnyH_take (i := 14) (v := ?_) rfl (by kernel_rfl) (by kernel_rfl) (by kernel_rfl) (fun _ _ _ h => h) (Or.inl ⟨by rfl, ?_⟩) (by assumption) ?_
                  rotate_left
                  · intro w hSw; go_simp; try with_reducible rfl
                  go_simp
                  refine wpAnyH_done (by kernel_rfl) ?_ _
                  refine NoPanic.normal ?_
                  go_wp2
                  go_roundw
                  case rel => exact ⟨t + 1, by omega, by go_num, H7.out⟩
                  case measure => simp [intOf]; omega
                · obtain rfl : t = k := by omega
                  have hlt' : ¬ (t : Int) < (t : Int) := by omega
                  have HD : Hid (Bth W.heap.size W wr.drew gx g gr 2 b3 b3' 1 (t : Int) key top3 (star (blkA gw 9 (strs t w3')) nought)) := hh.out.below ((firm_blk _ _ _).star firm_nought) (Below.refl _ _).drew
                  clear hh
                  go_wp2_with fail
                  refine wp_region_noPanic ?_
                  refine wp_region_held_drew (S := fun z : World => z.cell? ⟨gx, 0, none⟩ = some (.pointer (some ⟨g, 0, none⟩)) ∧ z.cell? ⟨gx, 1, none⟩ = some (.int .i64 1) ∧ z.cell? ⟨gx, 2, none⟩ = some (.int .i64 (t : Int)) ∧ z.cell? ⟨gx, 3, none⟩ = some (.string key) ∧ z.cell? ⟨gx, 8, none⟩ = some (.string top3)) (by kernel_rfl) HD.out.sc (fun hHeld => ?_)
                  refine wpAnyH_take (i := 0) (v := ?_) rfl (by kernel_rfl) (by kernel_rfl) (by kernel_rfl) (fun _ _ _ h => h) (Or.inl ⟨by rfl, ?_⟩) (by assumption) ?_
                  rotate_left
                  · intro w hSw; go_simp; try with_reducible rfl
                  go_simp
                  refine wpAnyH_take (i := 1) (v := ?_) rfl (by kernel_rfl) (by kernel_rfl) (by kernel_rfl) (fun _ _ _ h => h) (Or.inl ⟨by rfl, ?_⟩) (by assumption) ?_
                  rotate_left
                  · intro w hSw; go_simp; try with_reducible rfl
                  go_simp
                  refine wpAnyH_take (i := 2) (v := ?_) rfl (by kernel_rfl) (by kernel_rfl) (by kernel_rfl) (fun _ _ _ h => h) (Or.inl ⟨by rfl, ?_⟩) (by assumption) ?_
                  rotate_left
                  · intro w hSw; go_simp; try with_reducible rfl
                  go_simp
                  refine wpAnyH_take (i := 3) (v := ?_) rfl (by kernel_rfl) (by kernel_rfl) (by kernel_rfl) (fun _ _ _ h => h) (Or.inl ⟨by rfl, ?_⟩) (by assumption) ?_
                  rotate_left
                  · intro w hSw; go_simp; try with_reducible rfl
                  go_simp
                  refine wpAnyH_take (i := 4) (v := ?_) rfl (by kernel_rfl) (by kernel_rfl) (by kernel_rfl) (fun _ _ _ h => h) (Or.inl ⟨by rfl, ?_⟩) (by assumption) ?_
                  rotate_left
                  · intro w hSw; go_simp; try with_reducible rfl
                  go_simp
                  refine wpAnyH_take (i := 5) (v := ?_) rfl (by kernel_rfl) (by kernel_rfl) (by kernel_rfl) (fun _ _ _ h => h) (Or.inl ⟨by rfl, ?_⟩) (by assumption) ?_
                  rotate_left
                  · intro w hSw; go_simp; try with_reducible rfl
                  go_simp
                  refine wpAnyH_take (i := 6) (v := ?_) rfl (by kernel_rfl) (by kernel_rfl) (by kernel_rfl) (fun _ _ _ h => h) (Or.inl ⟨by rfl, ?_⟩) (by assumption) ?_
                  rotate_left
                  · intro w hSw; go_simp; try with_reducible rfl
                  go_simp
                  refine wpAnyH_take (i := 7) (v := ?_) rfl (by kernel_rfl) (by kernel_rfl) (by kernel_rfl) (fun _ _ _ h => h) (Or.inl ⟨by rfl, ?_⟩) (by assumption) ?_
                  rotate_left
                  · intro w hSw; go_simp; try with_reducible rfl
                  go_simp
                  refine wpAnyH_ready (rs := [8]) (by kernel_rfl) (by simp) (AllReadyH.cons rfl (fun K hK => ?_) AllReadyH.nil)
                  go_simp
                  go_at_call 16
                  refine (kp_bad HD.out (HTA.out _ HD.out.low) HL.out HI.out HKP.out HN.out.1 HN.out.2 HK.out).mono ?_
                  rintro x w5 ⟨a5, c5, rfl, hb5⟩
                  have H7 : Hid (Bth W.heap.size W w5 gx g gr 2 b3 b3' 1 (t : Int) key top3 (star (blkA gw 9 (strs t w3')) nought)) := HD.out.below ((firm_blk _ _ _).star firm_nought) hb5
                  clear hb5 HD
                  refine hK.out _ _ H7.out.sc (fun hHeld => ?_)
                  clear hK K
                  refine wpAnyH_take (i := 9) (v := ?_) rfl (by kernel_rfl) (by kernel_rfl) (by kernel_rfl) (fun _ _ _ h => h) (Or.inl ⟨by rfl, ?_⟩) (by assumption) ?_
                  rotate_left
                  · intro w hSw; go_simp; try with_reducible rfl
                  go_simp
                  refine wpAnyH_take (i := 10) (v := ?_) rfl (by kernel_rfl) (by kernel_rfl) (by kernel_rfl) (fun _ _ _ h => h) (Or.inl ⟨by rfl, ?_⟩) (by assumption) ?_
                  rotate_left
                  · intro w hSw; go_simp; try with_reducible rfl
                  go_simp
                  refine wpAnyH_take (i := 11) (v := ?_) rfl (by kernel_rfl) (by kernel_rfl) (by kernel_rfl) (fun _ _ _ h => h) (Or.inl ⟨by rfl, ?_⟩) (by assumption) ?_
                  rotate_left
                  · intro w hSw; go_simp; try with_reducible rfl
                  go_simp
                  refine wpAnyH_done (by kernel_rfl) ?_ _
                  refine NoPanic.normal ?_
                  go_wp2_with fail
                  go_ret
                  exact ⟨rfl, H7.out.low⟩
            · have hc1' : ¬ (j : Int) < (len : Int) := by omega
              go_wp2_with fail
              go_loopw [162] (fun i wr => ∃ t : Nat, t ≤ k ∧ i = .int .i64 (t : Int) ∧ Hid (Bth W.heap.size W wr gx g gr 2 b3 b3' 1 (k : Int) key top3 (star (blkA gw 9 (strs k w3')) nought))) (fun i _ => k - (intOf i).toNat)
              case atStart => exact ⟨0, Nat.zero_le _, rfl, H6.out⟩
              case round =>
                clear H6
                obtain ⟨t, ht, rfl, hh⟩ := hrel
                by_cases hlt : t < k
                · have hlt' : (t : Int) < (k : Int) := by omega
                  have e1 := (Hold.blk (Hold.right (Hold.right (Hold.right hh.out)))).cell (strs_at k w3' t hlt)
                  have HD : Hid (Bth W.heap.size W wr.drew gx g gr 2 b3 b3' 1 (k : Int) key top3 (star (blkA gw 9 (strs k w3')) nought)) := hh.out.below ((firm_blk _ _ _).star firm_nought) (Below.refl _ _).drew
                  clear hh
                  go_wp2_with fail
                  clear e1
                  refine wp_region_noPanic ?_
                  refine wp_region_held_drew (S := fun z : World => z.cell? ⟨gx, 0, none⟩ = some (.pointer (some ⟨g, 0, none⟩)) ∧ z.cell? ⟨gx, 1, none⟩ = some (.int .i64 1) ∧ z.cell? ⟨gx, 2, none⟩ = some (.int .i64 (k : Int)) ∧ z.cell? ⟨gx, 3, none⟩ = some (.string key) ∧ z.cell? ⟨gx, 8, none⟩ = some (.string top3)) (by kernel_rfl) HD.out.sc (fun hHeld => ?_)
                  refine wpAnyH_take (i := 0) (v := ?_) rfl (by kernel_rfl) (by kernel_rfl) (by kernel_rfl) (fun _ _ _ h => h) (Or.inl ⟨by rfl, ?_⟩) (by assumption) ?_
                  rotate_left
                  · intro w hSw; go_simp; try with_reducible rfl
                  go_simp
                  refine wpAnyH_take (i := 1) (v := ?_) rfl (by kernel_rfl) (by kernel_rfl) (by kernel_rfl) (fun _ _ _ h => h) (Or.inl ⟨by rfl, ?_⟩) (by assumption) ?_
                  rotate_left
                  · intro w hSw; go_simp; try with_reducible rfl
                  go_simp
                  refine wpAnyH_take (i := 2) (v := ?_) rfl (by kernel_rfl) (by kernel_rfl) (by kernel_rfl) (fun _ _ _ h => h) (Or.inl ⟨by rfl, ?_⟩) (by assumption) ?_
                  rotate_left
                  · intro w hSw; go_simp; try with_reducible rfl
                  go_simp
                  refine wpAnyH_take (i := 3) (v := ?_) rfl (by kernel_rfl) (by kernel_rfl) (by kernel_rfl) (fun _ _ _ h => h) (Or.inl ⟨by rfl, ?_⟩) (by assumption) ?_
                  rotate_left
                  · intro w hSw; go_simp; try with_reducible rfl
                  go_simp
                  refine wpAnyH_take (i := 4) (v := ?_) rfl (by kernel_rfl) (by kernel_rfl) (by kernel_rfl) (fun _ _ _ h => h) (Or.inl ⟨by rfl, ?_⟩) (by assumption) ?_
                  rotate_left
                  · intro w hSw; go_simp; try with_reducible rfl
                  go_simp
                  refine wpAnyH_take (i := 5) (v := ?_) rfl (by kernel_rfl) (by kernel_rfl) (by kernel_rfl) (fun _ _ _ h => h) (Or.inl ⟨by rfl, ?_⟩) (by assumption) ?_
                  rotate_left
                  · intro w hSw; go_simp; try with_reducible rfl
                  go_simp
                  refine wpAnyH_take (i := 6) (v := ?_) rfl (by kernel_rfl) (by kernel_rfl) (by kernel_rfl) (fun _ _ _ h => h) (Or.inl ⟨by rfl, ?_⟩) (by assumption) ?_
                  rotate_left
                  · intro w hSw; go_simp; try with_reducible rfl
                  go_simp
                  refine wpAnyH_take (i := 7) (v := ?_) rfl (by kernel_rfl) (by kernel_rfl) (by kernel_rfl) (fun _ _ _ h => h) (Or.inl ⟨by rfl, ?_⟩) (by assumption) ?_
                  rotate_left
                  · intro w hSw; go_simp; try with_reducible rfl
                  go_simp
                  refine wpAnyH_take (i := 8) (v := ?_) rfl (by kernel_rfl) (by kernel_rfl) (by kernel_rfl) (fun _ _ _ h => h) (Or.inl ⟨by rfl, ?_⟩) (by assumption) ?_
                  rotate_left
                  · intro w hSw; go_simp; try with_reducible rfl
                  go_simp
                  refine wpAnyH_ready (rs := [9]) (by kernel_rfl) (by simp) (AllReadyH.cons rfl (fun K hK => ?_) AllReadyH.nil)
                  go_simp
                  go_at_call 15
                  refine (kp_get HD.out (HTA.out _ HD.out.low) HL.out HI.out HKP.out HN.out.1 HN.out.2 HK.out hlt).mono ?_
                  rintro x w5 ⟨rfl, hb5⟩
                  have H7 : Hid (Bth W.heap.size W w5 gx g gr 2 b3 b3' 1 (k : Int) key top3 (star (blkA gw 9 (strs k w3')) nought)) := HD.out.below ((firm_blk _ _ _).star firm_nought) hb5
                  clear hb5 HD
                  refine hK.out _ _ H7.out.sc (fun hHeld => ?_)
                  clear hK K
                  refine wpAnyH_take (i := 10) (v := ?_) rfl (by kernel_rfl) (by kernel_rfl) (by kernel_rfl) (fun _ _ _ h => h) (Or.inl ⟨by rfl, ?_⟩) (by assumption) ?_
                  rotate_left
                  · intro w hSw; go_simp; try with_reducible rfl
                  go_simp
                  refine wpAnyH_take (i := 11) (v := ?_) rfl (by kernel_rfl) (by kernel_rfl) (by kernel_rfl) (fun _ _ _ h => h) (Or.inl ⟨by rfl, ?_⟩) (by assumption) ?_
                  rotate_left
                  · intro w hSw; go_simp; try with_reducible rfl
                  go_simp
                  refine wpAnyH_take (i := 12) (v := ?_) rfl (by kernel_rfl) (by kernel_rfl) (by kernel_rfl) (fun _ _ _ h => h) (Or.inl ⟨by rfl, ?_⟩) (by assumption) ?_
                  rotate_left
                  · intro w hSw; go_simp; try with_reducible rfl
                  go_simp
                  refine wpAnyH_take (i := 13) (v := ?_) rfl (by kernel_rfl) (by kernel_rfl) (by kernel_rfl) (fun _ _ _ h => h) (Or.inl ⟨by rfl, ?_⟩) (by assumption) ?_
                  rotate_left
                  · intro w hSw; go_simp; try with_reducible rfl
                  go_simp
                  refine wpAnyH_take (i := 14) (v := ?_) rfl (by kernel_rfl) (by kernel_rfl) (by kernel_rfl) (fun _ _ _ h => h) (Or.inl ⟨by rfl, ?_⟩) (by assumption) ?_
                  rotate_left
                  · intro w hSw; go_simp; try with_reducible rfl
                  go_simp
                  refine wpAnyH_done (by kernel_rfl) ?_ _
                  refine NoPanic.normal ?_
                  go_wp2
                  go_roundw
                  case rel => exact ⟨t + 1, by omega, by go_num, H7.out⟩
                  case measure => simp [intOf]; omega
                · obtain rfl : t = k := by omega
                  have hlt' : ¬ (t : Int) < (t : Int) := by omega
                  have HD : Hid (Bth W.heap.size W wr.drew gx g gr 2 b3 b3' 1 (t : Int) key top3 (star (blkA gw 9 (strs t w3')) nought)) := hh.out.below ((firm_blk _ _ _).star firm_nought) (Below.refl _ _).drew
                  clear hh
                  go_wp2_with fail
                  refine wp_region_noPanic ?_
                  refine wp_region_held_drew (S := fun z : World => z.cell? ⟨gx, 0, none⟩ = some (.pointer (some ⟨g, 0, none⟩)) ∧ z.cell? ⟨gx, 1, none⟩ = some (.int .i64 1) ∧ z.cell? ⟨gx, 2, none⟩ = some (.int .i64 (t : Int)) ∧ z.cell? ⟨gx, 3, none⟩ = some (.string key) ∧ z.cell? ⟨gx, 8, none⟩ = some (.string top3)) (by kernel_rfl) HD.out.sc (fun hHeld => ?_)
                  refine wpAnyH_take (i := 0) (v := ?_) rfl (by kernel_rfl) (by kernel_rfl) (by kernel_rfl) (fun _ _ _ h => h) (Or.inl ⟨by rfl, ?_⟩) (by assumption) ?_
                  rotate_left
                  · intro w hSw; go_simp; try with_reducible rfl
                  go_simp
                  refine wpAnyH_take (i := 1) (v := ?_) rfl (by kernel_rfl) (by kernel_rfl) (by kernel_rfl) (fun _ _ _ h => h) (Or.inl ⟨by rfl, ?_⟩) (by assumption) ?_
                  rotate_left
                  · intro w hSw; go_simp; try with_reducible rfl
                  go_simp
                  refine wpAnyH_take (i := 2) (v := ?_) rfl (by kernel_rfl) (by kernel_rfl) (by kernel_rfl) (fun _ _ _ h => h) (Or.inl ⟨by rfl, ?_⟩) (by assumption) ?_
                  rotate_left
                  · intro w hSw; go_simp; try with_reducible rfl
                  go_simp
                  refine wpAnyH_take (i := 3) (v := ?_) rfl (by kernel_rfl) (by kernel_rfl) (by kernel_rfl) (fun _ _ _ h => h) (Or.inl ⟨by rfl, ?_⟩) (by assumption) ?_
                  rotate_left
                  · intro w hSw; go_simp; try with_reducible rfl
                  go_simp
                  refine wpAnyH_take (i := 4) (v := ?_) rfl (by kernel_rfl) (by kernel_rfl) (by kernel_rfl) (fun _ _ _ h => h) (Or.inl ⟨by rfl, ?_⟩) (by assumption) ?_
                  rotate_left
                  · intro w hSw; go_simp; try with_reducible rfl
                  go_simp
                  refine wpAnyH_take (i := 5) (v := ?_) rfl (by kernel_rfl) (by kernel_rfl) (by kernel_rfl) (fun _ _ _ h => h) (Or.inl ⟨by rfl, ?_⟩) (by assumption) ?_
                  rotate_left
                  · intro w hSw; go_simp; try with_reducible rfl
                  go_simp
                  refine wpAnyH_take (i := 6) (v := ?_) rfl (by kernel_rfl) (by kernel_rfl) (by kernel_rfl) (fun _ _ _ h => h) (Or.inl ⟨by rfl, ?_⟩) (by assumption) ?_
                  rotate_left
                  · intro w hSw; go_simp; try with_reducible rfl
                  go_simp
                  refine wpAnyH_take (i := 7) (v := ?_) rfl (by kernel_rfl) (by kernel_rfl) (by kernel_rfl) (fun _ _ _ h => h) (Or.inl ⟨by rfl, ?_⟩) (by assumption) ?_
                  rotate_left
                  · intro w hSw; go_simp; try with_reducible rfl
                  go_simp
                  refine wpAnyH_ready (rs := [8]) (by kernel_rfl) (by simp) (AllReadyH.cons rfl (fun K hK => ?_) AllReadyH.nil)
                  go_simp
                  go_at_call 16
                  refine (kp_bad HD.out (HTA.out _ HD.out.low) HL.out HI.out HKP.out HN.out.1 HN.out.2 HK.out).mono ?_
                  rintro x w5 ⟨a5, c5, rfl, hb5⟩
                  have H7 : Hid (Bth W.heap.size W w5 gx g gr 2 b3 b3' 1 (t : Int) key top3 (star (blkA gw 9 (strs t w3')) nought)) := HD.out.below ((firm_blk _ _ _).star firm_nought) hb5
                  clear hb5 HD
                  refine hK.out _ _ H7.out.sc (fun hHeld => ?_)
                  clear hK K
                  refine wpAnyH_take (i := 9) (v := ?_) rfl (by kernel_rfl) (by kernel_rfl) (by kernel_rfl) (fun _ _ _ h => h) (Or.inl ⟨by rfl, ?_⟩) (by assumption) ?_
                  rotate_left
                  · intro w hSw; go_simp; try with_reducible rfl
                  go_simp
                  refine wpAnyH_take (i := 10) (v := ?_) rfl (by kernel_rfl) (by kernel_rfl) (by kernel_rfl) (fun _ _ _ h => h) (Or.inl ⟨by rfl, ?_⟩) (by assumption) ?_
                  rotate_left
                  · intro w hSw; go_simp; try with_reducible rfl
                  go_simp
                  refine wpAnyH_take (i := 11) (v := ?_) rfl (by kernel_rfl) (by kernel_rfl) (by kernel_rfl) (fun _ _ _ h => h) (Or.inl ⟨by rfl, ?_⟩) (by assumption) ?_
                  rotate_left
                  · intro w hSw; go_simp; try with_reducible rfl
                  go_simp
                  refine wpAnyH_done (by kernel_rfl) ?_ _
                  refine NoPanic.normal ?_
                  go_wp2_with fail
                  go_ret
                  exact ⟨rfl, H7.out.low⟩
end Go.Proofs.YtnhkkhiajiiahaaGreatDoor
