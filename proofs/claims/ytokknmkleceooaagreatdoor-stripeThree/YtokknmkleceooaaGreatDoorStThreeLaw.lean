/- StripeThree: its walk. -/
import Derived.Test.YtokknmkleceooaaGreatDoorStThr0
import Derived.Test.YtokknmkleceooaaGreatDoorStArg2
namespace Go.Proofs.YtokknmkleceooaaGreatDoor
open Go.RowKit Go.PlainAid
set_option linter.unusedVariables false
set_option maxRecDepth 20000

set_option maxHeartbeats 8000000 in
theorem stripeThree_law (x0 x1 x2 x3 : Int) (a1 : Option Addr) (len1 cap1 : Nat) (W : World) (hx0 : -9223372036854775808 ≤ x0 ∧ x0 ≤ 9223372036854775807) (hx1 : -9223372036854775808 ≤ x1 ∧ x1 ≤ 9223372036854775807) (hx2 : -9223372036854775808 ≤ x2 ∧ x2 ≤ 9223372036854775807) (hx3 : -9223372036854775808 ≤ x3 ∧ x3 ≤ 9223372036854775807) (h1 : BytsArg W a1 len1 cap1) (ht : Tabs W) :
    Calls Tryz.prog 6 #[.agg #[.int .i64 x0, .int .i64 x1, .int .i64 x2, .int .i64 x3], .slice a1 len1 cap1] W fun e w' => e = .returned (.bool true) ∧ Below W.heap.size W w' := by
  obtain ⟨f, l1, c1, -, hf⟩ := h1
  unfold maxLen at c1
  have hba : Below W.heap.size W (W.alloc (.cells #[.int .i64 x0, .int .i64 x1, .int .i64 x2, .int .i64 x3] 34)) := (Below.refl _ _).alloc (Nat.le_refl _) _
  have hB := Blk.new W 34 #[.int .i64 x0, .int .i64 x1, .int .i64 x2, .int .i64 x3]
  have HX : Hid (∀ z, Below (W.alloc (.cells #[.int .i64 x0, .int .i64 x1, .int .i64 x2, .int .i64 x3] 34)).heap.size (W.alloc (.cells #[.int .i64 x0, .int .i64 x1, .int .i64 x2, .int .i64 x3] 34)) z → z.cell? ⟨W.heap.size, 0, none⟩ = some (.int .i64 x0) ∧ z.cell? ⟨W.heap.size, 1, none⟩ = some (.int .i64 x1) ∧ z.cell? ⟨W.heap.size, 2, none⟩ = some (.int .i64 x2)) := fun z hz => by
    have hC := hB.below hz hB.lt
    exact ⟨hC.cell (i := 0) rfl, hC.cell (i := 1) rfl, hC.cell (i := 2) rfl⟩
  have HBA : Hid (Below W.heap.size W (W.alloc (.cells #[.int .i64 x0, .int .i64 x1, .int .i64 x2, .int .i64 x3] 34))) := hba
  have HBL : Hid (∀ z, Below W.heap.size W z → Calls Tryz.prog 8 #[.int .i64 x0, .slice a1 len1 cap1] z _) := fun z hz => blocks_any x0 hx0.2 a1 len1 cap1 f z (by omega) ⟨hf.1, hf.2.below hz (Nat.le_refl _)⟩
  have HT : Hid (∀ z, Below W.heap.size W z → Tabs z) := fun z hz => ht.below hz ht.lt
  have HF : Hid (∀ i, (bkF len1 f i).size = 32) := fun i => bkF_size _ _ i
  generalize bkF len1 f = F at *
  obtain ⟨m, hm⟩ : ∃ m, bkN x0 = m := ⟨_, rfl⟩
  have hm2 : 2 ≤ m ∧ m ≤ 8 := by rw [← hm]; unfold bkN; omega
  rw [hm] at HBL
  obtain ⟨N, hN⟩ : ∃ N, m + 2 = N := ⟨_, rfl⟩
  have hN4 : 4 ≤ N ∧ N ≤ 10 := by omega
  obtain ⟨y, hy⟩ : ∃ y : Nat, x1.toNat = y := ⟨_, rfl⟩
  have m1 : (if 0 < x1 then x1 else 0) = (y : Int) := by split <;> omega
  have m2 : max 0 x1 = (y : Int) := by omega
  obtain ⟨r, hr⟩ : ∃ r : Nat, y % N = r := ⟨_, rfl⟩
  have hrN : r < N := by rw [← hr]; exact Nat.mod_lt _ (by omega)
  have m4 : (y : Int).tmod (N : Int) = (r : Int) := by rw [Int.tmod_eq_emod_of_nonneg (by omega)]; rw [← hr]; exact (Int.natCast_emod y N).symm
  have m5 : ¬ (N : Int) = 0 := by omega
  clear hba hB hf ht hm hy hr
  have hmm := @run_makeMap Tryz.prog
  go_enter Tryz.func6, Tryz.ntmps6
  go_upto_region 1 with fail
  generalize W.alloc (.cells #[.int .i64 x0, .int .i64 x1, .int .i64 x2, .int .i64 x3] 34) = Wa at *
  have hs0 := (HX.out _ (Below.refl _ _)).1
  go_upto_region 2 with (first
    | (go_at_call 8; refine (HBL.out _ HBA.out).mono ?_; rintro e w2 ⟨v, rfl, hr2, hb2⟩; have HR2 : Hid (World.ownsRow w2 _ 9 1 v m (strs m F)) := hr2; have HB2 : Hid (Below Wa.heap.size Wa w2) := hb2; clear hr2 hb2 HBL hs0; obtain ⟨ga, ca, rfl, k1, k2, kv⟩ := own_vals HR2.out (by omega); have HB0 : Hid (Below W.heap.size W w2) := HBA.out.trans (HB2.out.mono HBA.out.size); have hly := lay_any (HT.out _ HB0.out) (some ⟨ga, 0, none⟩) m N ca F hN hm2 ⟨k1, k2⟩ kv (fun i _ => HF.out i) (d := 1) (n := 2) (slot := 1) rfl ⟨by decide, by decide⟩ (by decide); have HLY : Hid (Calls _ _ _ _ _) := hly; clear k1 k2 kv hly)
    | (go_at_call 13; refine HLY.out.mono ?_; rintro e w3 ⟨g, gr, b, b', vl, vm, vc, P, rfl, h3, h4⟩; have HL : Hid (Ly w2.heap.size w2 w3 g gr N b b' vl vm vc N (shS g 2 P) (mkC m F) nought) := h3; have HS : Hid (LyS N N 1 1 b b' (ceC 1 (mkC m F)) P) := h4; clear h3 h4 HLY))
  obtain ⟨hl, cl, rfl⟩ := own_any6 HL.out.l (by omega)
  obtain ⟨hc, cc, rfl⟩ := own_any6 HL.out.c (by omega)
  have HX2 : Hid (∀ z, Below w2.heap.size w2 z → z.cell? ⟨W.heap.size, 0, none⟩ = some (.int .i64 x0) ∧ z.cell? ⟨W.heap.size, 1, none⟩ = some (.int .i64 x1) ∧ z.cell? ⟨W.heap.size, 2, none⟩ = some (.int .i64 x2)) := fun z hz => HX.out z (HB2.out.trans (hz.mono HB2.out.size))
  have HW3 : Hid (Lw w2.heap.size w2 w3 g gr N b b' (.slice (some ⟨hl, 0, none⟩) N cl) vm (.slice (some ⟨hc, 0, none⟩) N cc) (shX g 2 P fun _ => true) (fun i => (shS g 2 P i).at gr) (mkC m F) nought) := HL.out.lw
  clear HL HX HB2 HR2
  go_upto_region 5 with (go_at_call 12; refine (wakes19_any (HT.out _ (HB0.out.trans (HW3.out.low.mono HB0.out.size)))).mono ?_; rintro e w4 ⟨rfl, hb4⟩; have HW4 : Hid (Lw w2.heap.size w2 (w4.alloc (.map #[] 0)) g gr N b b' (.slice (some ⟨hl, 0, none⟩) N cl) vm (.slice (some ⟨hc, 0, none⟩) N cc) (shX g 2 P fun _ => true) (fun i => (shS g 2 P i).at gr) (mkC m F) (star (mapV 3 w4.heap.size 0 (thJ N r 0)) nought)) := (HW3.out.below firm_nought hb4).mapvNew (fun v ⟨_, _, q, h, _⟩ => by omega); clear hb4 HW3)
  clear hmm
  generalize w4.alloc (.map #[] 0) = w5 at *
  generalize w4.heap.size = gm at *
  have HFM : Hid (∀ k, Firm (star (mapV 3 gm k (thJ N r k)) nought)) := fun k => (firm_mapV _ _ _ _).star firm_nought
  go_wp2_with fail
  go_loopw [35] (fun i wr => ∃ (k : Nat) (bq : Bs) (u : Nat → Bool), k ≤ 3 ∧ i = .int .i64 (k : Int) ∧ Hid (Lw w2.heap.size w2 wr g gr N bq b' (.slice (some ⟨hl, 0, none⟩) N cl) vm (.slice (some ⟨hc, 0, none⟩) N cc) (shX g 2 P u) (fun i => (shS g 2 P i).at gr) (mkC m F) (star (mapV 3 gm k (thJ N r k)) nought)) ∧ Hid (Thr N b bq u (thZ N r k))) (fun i _ => 3 - (intOf i).toNat)
  case atStart => exact ⟨0, b, fun _ => true, by omega, rfl, HW4.out, Thr.start HS.out.okn fun j ⟨q, h, _⟩ => by omega⟩
  case round =>
    clear HW4
    obtain ⟨k, bq, u, hk, rfl, HL, HTH⟩ := hrel
    by_cases hlt : k < 3
    · have hk' : (k : Int) < 3 := by omega
      obtain ⟨i, hi⟩ : ∃ i, thI N r k = i := ⟨_, rfl⟩
      have hiN : i < N := by rw [← hi]; exact thI_lt hN4.1 k
      have hi' : ((r : Int) + (k : Int)).tmod (N : Int) = (i : Int) := by
        rw [Int.tmod_eq_emod_of_nonneg (by omega), ← hi]
        show _ = (((r + k) % N : Nat) : Int)
        rw [Int.natCast_emod, Int.natCast_add]
      obtain ⟨hx0', hx1', hx2'⟩ := HX2.out wr HL.out.low
      obtain ⟨x, hkey⟩ := int_key (a := (i : Int)) (by omega) (by omega)
      obtain ⟨w6, hrun, h6⟩ := HL.out.mapvPut Tryz.underlying70 (by omega) hkey (J' := thJ N r (k + 1)) (by rw [thJ_iff, ← hi]; exact thZ_new hN4.1 hrN hlt) (fun v => by rw [← hi]; exact thJ_next N r k v)
      have H6 : Hid (Lw w2.heap.size w2 w6 g gr N bq b' (.slice (some ⟨hl, 0, none⟩) N cl) vm (.slice (some ⟨hc, 0, none⟩) N cc) (shX g 2 P u) (fun i => (shS g 2 P i).at gr) (mkC m F) (star (mapV 3 gm (k + 1) (thJ N r (k + 1))) nought)) := h6
      have HZ : Hid (∀ j, thZ N r (k + 1) j ↔ thZ N r k j ∨ j = i) := fun j => by rw [← hi]; exact thZ_next N r k j
      clear h6 HL hkey hi
      go_upto_region 10 with fail
      have hx26 := (HX2.out w6 H6.out.low).2.2
      obtain ⟨tb, htb⟩ : ∃ tb, (bits BinOp.and IntKind.i64 (x2 / 2 ^ k) 1 == 0) = tb := ⟨_, rfl⟩
      cases tb with
      | true =>
        have c0 := (H6.out.cell (i := i) (j := 0) hiN rfl).1
        replace c0 : w6.cell? ⟨hl, i * 6, none⟩ = some (.pointer (some ⟨g, 0, none⟩)) := c0
        have hdk := H6.out.disk hiN
        have hfa := H6.out.fail (HFM.out (k + 1)) hiN
        have HFA : Hid (Calls _ _ _ _ _) := hfa
        clear hfa
        go_wp2_with (first
          | (go_at_call 24; refine hdk.mono ?_; rintro e wa ⟨rfl, hwa⟩; rw [hwa]; clear hwa wa)
          | (go_at_call 25; refine HFA.out.mono ?_; rintro e w7 ⟨rfl, h7⟩; have H7 : Hid (Lw w2.heap.size w2 w7 g gr N (faB bq i) b' (.slice (some ⟨hl, 0, none⟩) N cl) vm (.slice (some ⟨hc, 0, none⟩) N cc) (shX g 2 P u) (fun i => (shS g 2 P i).at gr) (mkC m F) (star (mapV 3 gm (k + 1) (thJ N r (k + 1))) nought)) := h7; clear h7 HFA H6 hdk c0 hx26))
        go_roundw
        case rel => exact ⟨k + 1, faB bq i, u, by omega, by go_num, H7.out, HTH.out.fail i HZ.out⟩
        case measure => simp [intOf]; omega
      | false =>
        obtain ⟨c5, f5⟩ := H6.out.cell (i := i) (j := 5) hiN rfl
        have H7 : Hid (Lw w2.heap.size w2 (w6.setCell ⟨hl, i * 6 + 5, none⟩ (.bool false)) g gr N bq b' (.slice (some ⟨hl, 0, none⟩) N cl) vm (.slice (some ⟨hc, 0, none⟩) N cc) (shX g 2 P (fun j => if j = i then false else u j)) (fun i => (shS g 2 P i).at gr) (mkC m F) (star (mapV 3 gm (k + 1) (thJ N r (k + 1))) nought)) := H6.out.unuse (HFM.out (k + 1)) hiN
        clear H6
        go_wp2_with fail
        go_roundw
        case rel => exact ⟨k + 1, bq, fun j => if j = i then false else u j, by omega, by go_num, H7.out, HTH.out.unuse i HZ.out⟩
        case measure => simp [intOf]; omega
    · obtain rfl : k = 3 := by omega
      have HBW : Hid (∀ z, Below w2.heap.size w2 z → Tabs z) := fun z hz => HT.out z (HB0.out.trans (hz.mono HB0.out.size))
      have hld := HL.out.load HTH.out.ok (by omega) (d := 1) rfl ⟨by decide, by decide⟩ (HBW.out _ HL.out.low) 1
      have HLD : Hid (Calls _ _ _ _ _) := hld
      have HL24 : Hid (∀ er G, LdR N (feT bq 1 P u 1) (feE bq 1 P u 1) er G → er = 24) := fun er G h => thr_load hN4 hrN HTH.out HS.out ⟨by decide, by decide⟩ h
      clear hld
      go_upto_region 15 with (go_at_call 17; refine HLD.out.mono ?_; rintro e w7 ⟨hb7, v1, v2, er, G, rfl, hD, hz, -⟩; obtain rfl := HL24.out _ _ hD; obtain ⟨rfl, rfl⟩ := hz (by decide); have HW7 : Hid (Lw w2.heap.size w2 w7 g gr N bq b' (.slice (some ⟨hl, 0, none⟩) N cl) vm (.slice (some ⟨hc, 0, none⟩) N cc) (shX g 2 P u) (fun i => (shS g 2 P i).at gr) (mkC m F) (star (mapV 3 gm 3 (thJ N r 3)) nought)) := HL.out.below (HFM.out 3) hb7; clear hb7 hD hz HLD HL24 HL)
      go_wp2_with fail
      go_loopw [86] (fun i wz => ∃ j : Nat, j ≤ N ∧ i = .int .i64 (j : Int) ∧ Hid (Below w7.heap.size w7 wz)) (fun i _ => N - (intOf i).toNat)
      case atStart => exact ⟨0, Nat.zero_le _, rfl, Below.refl _ _⟩
      case round =>
        obtain ⟨j, hj, rfl, HBJ⟩ := hrel
        have HWJ : Hid (Lw w2.heap.size w2 _ g gr N bq b' (.slice (some ⟨hl, 0, none⟩) N cl) vm (.slice (some ⟨hc, 0, none⟩) N cc) (shX g 2 P u) (fun i => (shS g 2 P i).at gr) (mkC m F) (star (mapV 3 gm 3 (thJ N r 3)) nought)) := HW7.out.below (HFM.out 3) HBJ.out
        by_cases hjN : j < N
        · have hj' : (j : Int) < (N : Int) := by omega
          have hon := HWJ.out.one HTH.out.ok (by omega) (d := 1) rfl ⟨by decide, by decide⟩ (HBW.out _ HWJ.out.low) 1 (j : Int)
          have HON : Hid (Calls _ _ _ _ _) := hon
          have HO : Hid (∀ s er, OnR N (feT bq 1 P u 1) (feE bq 1 P u 1) (j : Int) s er → (thZ N r 3 j → er = 24) ∧ (¬ thZ N r 3 j → er = 0 ∧ s = mkC m F j)) := fun s er h => thr_one hN4 hrN HTH.out HS.out ⟨by decide, by decide⟩ hjN h
          obtain ⟨x, hkey⟩ := int_key (a := (j : Int)) (by omega) (by omega)
          clear hon
          go_upto_region 21 with (go_at_call 19; refine HON.out.mono ?_; rintro e w8 ⟨hb8, s, er, rfl, hD⟩; have HD : Hid _ := HO.out _ _ hD; have HW8 : Hid (Lw w2.heap.size w2 w8 g gr N bq b' (.slice (some ⟨hl, 0, none⟩) N cl) vm (.slice (some ⟨hc, 0, none⟩) N cc) (shX g 2 P u) (fun i => (shS g 2 P i).at gr) (mkC m F) (star (mapV 3 gm 3 (thJ N r 3)) nought)) := HWJ.out.below (HFM.out 3) hb8; have HB8 : Hid (Below w7.heap.size w7 w8) := HBJ.out.trans (hb8.mono HBJ.out.size); clear hb8 hD HON HO)
          by_cases hz : thZ N r 3 j
          · obtain rfl := HD.out.1 hz
            have hlk := HW8.out.mapv.lookIn key1 Tryz.underlying70 hkey ((thJ_iff N r 3 j).2 hz)
            clear HD hz hkey
            go_wp2_with fail
            go_roundw
            case rel => exact ⟨j + 1, by omega, by go_num, HB8.out⟩
            case measure => simp [intOf]; omega
          · obtain ⟨rfl, rfl⟩ := HD.out.2 hz
            have hlk := HW8.out.mapv.look key1 Tryz.underlying70 hkey (fun h => hz ((thJ_iff N r 3 j).1 h))
            have c7 := HW8.out.chunk hjN
            clear HD hz hkey
            generalize mkC m F j = ck at *
            go_wp2_with fail
            go_roundw
            case rel => exact ⟨j + 1, by omega, by go_num, HB8.out⟩
            case measure => simp [intOf]; omega
        · obtain rfl : j = N := by omega
          have hwh := HWJ.out.whole HTH.out.ok (by omega) (d := 1) rfl ⟨by decide, by decide⟩ (HBW.out _ HWJ.out.low) 1
          rw [thr_whole hN4 HTH.out HS.out ⟨by decide, by decide⟩] at hwh
          have HWH : Hid (Calls _ _ _ _ _) := hwh
          clear hwh
          go_wp2_with (go_at_call 21; refine HWH.out.mono ?_; rintro e w9 ⟨hb9, rfl⟩; have HB9 : Hid (Below w2.heap.size w2 w9) := HWJ.out.low.trans (hb9.mono HWJ.out.low.size); clear hb9)
          go_ret
          exact ⟨rfl, HB0.out.trans (HB9.out.mono HB0.out.size)⟩
end Go.Proofs.YtokknmkleceooaaGreatDoor
