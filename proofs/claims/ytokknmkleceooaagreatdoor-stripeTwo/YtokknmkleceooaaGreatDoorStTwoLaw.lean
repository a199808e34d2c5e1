import Derived.Test.YtokknmkleceooaaGreatDoorStTM
import Derived.Test.YtokknmkleceooaaGreatDoorStArg3
import Derived.Test.YtokknmkleceooaaGreatDoorStRMk
namespace Go.Proofs.YtokknmkleceooaaGreatDoor
open Go.RowKit Go.PlainAid
set_option linter.unusedVariables false
set_option maxRecDepth 20000
theorem Tryz.size67 : (Tryz.prog.info? 67).map (·.size) = some 2 := by kernel_rfl
def twT (t0 t1 i : Nat) : Nat := if i = 0 then t0 else t1
def twL (t0 t1 : Nat) : List Value := [.int .i64 (t0 : Int), .int .i64 (t1 : Int)]
theorem twL_at (t0 t1 : Nat) {i : Nat} (hi : i < 2) : (twL t0 t1)[i]? = some (.int .i64 (twT t0 t1 i : Int)) := by
  rcases (by omega : i = 0 ∨ i = 1) with rfl | rfl <;> rfl
theorem tw_index (w : World) (t0 t1 i : Nat) (hi : i < 2) : (Instr.index 67 (.agg (twL t0 t1).toArray) (.int .i64 (i : Int))).run Tryz.prog w = .ok (.int .i64 (twT t0 t1 i : Int)) w :=
  run_index_agg w 67 3 2 (twL t0 t1) i _ Tryz.underlying67 hi (twL_at t0 t1 hi) Tryz.isAgg3 Tryz.sizeOf3
set_option maxHeartbeats 4000000 in
theorem stripeTwo_law (x0 x1 x2 x3 : Int) (a1 : Option Addr) (len1 cap1 : Nat) (a2 : Option Addr) (len2 cap2 : Nat) (W : World) (hx0 : -9223372036854775808 ≤ x0 ∧ x0 ≤ 9223372036854775807) (hx1 : -9223372036854775808 ≤ x1 ∧ x1 ≤ 9223372036854775807) (hx2 : -9223372036854775808 ≤ x2 ∧ x2 ≤ 9223372036854775807) (hx3 : -9223372036854775808 ≤ x3 ∧ x3 ≤ 9223372036854775807) (h1 : BytsArg W a1 len1 cap1) (hs : Has W a2 len2 cap2) (ht : Tabs W) :
    Calls Tryz.prog 5 #[.agg #[.int .i64 x0, .int .i64 x1, .int .i64 x2, .int .i64 x3], .slice a1 len1 cap1, .slice a2 len2 cap2] W fun e w' => e = .returned (.bool true) ∧ Below W.heap.size W w' := by
  obtain ⟨f, l1, c1, -, hf⟩ := h1
  unfold maxLen at c1
  have hl1 := hs.1
  have hl2 := hs.2.1
  unfold maxLen at hl2
  have HA : Hid (Has W a2 len2 cap2) := hs
  have hba : Below W.heap.size W (W.alloc (.cells #[.int .i64 x0, .int .i64 x1, .int .i64 x2, .int .i64 x3] 34)) := (Below.refl _ _).alloc (Nat.le_refl _) _
  have hB := Blk.new W 34 #[.int .i64 x0, .int .i64 x1, .int .i64 x2, .int .i64 x3]
  have HX : Hid (∀ z, Below (W.alloc (.cells #[.int .i64 x0, .int .i64 x1, .int .i64 x2, .int .i64 x3] 34)).heap.size (W.alloc (.cells #[.int .i64 x0, .int .i64 x1, .int .i64 x2, .int .i64 x3] 34)) z → z.cell? ⟨W.heap.size, 0, none⟩ = some (.int .i64 x0) ∧ z.cell? ⟨W.heap.size, 1, none⟩ = some (.int .i64 x1) ∧ z.cell? ⟨W.heap.size, 2, none⟩ = some (.int .i64 x2) ∧ z.cell? ⟨W.heap.size, 3, none⟩ = some (.int .i64 x3)) := fun z hz => by
    have hC := hB.below hz hB.lt
    exact ⟨hC.cell (i := 0) rfl, hC.cell (i := 1) rfl, hC.cell (i := 2) rfl, hC.cell (i := 3) rfl⟩
  have HBA : Hid (Below W.heap.size W (W.alloc (.cells #[.int .i64 x0, .int .i64 x1, .int .i64 x2, .int .i64 x3] 34))) := hba
  have HT : Hid (∀ z, Below W.heap.size W z → Tabs z) := fun z hz => ht.below hz ht.lt
  obtain ⟨y, hy⟩ : ∃ y : Nat, x1.toNat = y := ⟨_, rfl⟩
  have m1 : (if 0 < x1 then x1 else 0) = (y : Int) := by split <;> omega
  have m2 : max 0 x1 = (y : Int) := by omega
  obtain ⟨e, he⟩ : ∃ e : Nat, y % 4 = e := ⟨_, rfl⟩
  have m3 : (y : Int).tmod 4 = (e : Int) := by rw [Int.tmod_eq_emod_of_nonneg (by omega)]; omega
  have he4 : (e : Int) < 4 := by omega
  have he0 : 0 ≤ (e : Int) := by omega
  have he4' : e < 4 := by omega
  obtain ⟨n, hn⟩ : ∃ n : Nat, 2 ^ (e + 1) = n := ⟨_, rfl⟩
  have m6 : wrap64 (2 * 2 ^ e) = (n : Int) := by rw [← hn]; rcases (by omega : e = 0 ∨ e = 1 ∨ e = 2 ∨ e = 3) with h | h | h | h <;> rw [h] <;> kernel_rfl
  have hn2 : 2 ≤ n ∧ n ≤ 16 := by rw [← hn]; rcases (by omega : e = 0 ∨ e = 1 ∨ e = 2 ∨ e = 3) with h | h | h | h <;> rw [h] <;> decide
  have hd : 1 ≤ e + 1 ∧ e + 1 ≤ 4 := by omega
  have m7 : ¬ (n : Int) = 0 := by omega
  obtain ⟨yy, hyy⟩ : ∃ y : Nat, x2.toNat = y := ⟨_, rfl⟩
  have m8 : (if 0 < x2 then x2 else 0) = (yy : Int) := by split <;> omega
  have m9 : max 0 x2 = (yy : Int) := by omega
  obtain ⟨sl, hsl⟩ : ∃ sl : Nat, yy % n = sl := ⟨_, rfl⟩
  have hsn : sl < n := by rw [← hsl]; exact Nat.mod_lt _ (by omega)
  have m10 : (yy : Int).tmod (n : Int) = (sl : Int) := by rw [Int.tmod_eq_emod_of_nonneg (by omega), ← hsl]; exact (Int.natCast_emod yy n).symm
  have HBL : Hid (∀ z, Below W.heap.size W z → Calls Tryz.prog 8 #[.int .i64 x0, .slice a1 len1 cap1] z _) := fun z hz => blocks_any x0 hx0.2 a1 len1 cap1 f z (by omega) ⟨hf.1, hf.2.below hz (Nat.le_refl _)⟩
  have HF : Hid (∀ i, (bkF len1 f i).size = 32) := fun i => bkF_size _ _ i
  generalize bkF len1 f = F at *
  obtain ⟨m, hm⟩ : ∃ m, bkN x0 = m := ⟨_, rfl⟩
  have hm2 : 2 ≤ m ∧ m ≤ 8 := by rw [← hm]; unfold bkN; omega
  rw [hm] at HBL
  obtain ⟨N, hN⟩ : ∃ N, m + 2 = N := ⟨_, rfl⟩
  have hN4 : 4 ≤ N ∧ N ≤ 10 := by omega
  have hN0 : ¬ (N : Int) = 0 := by omega
  obtain ⟨y3, hy3⟩ : ∃ y : Nat, x3.toNat = y := ⟨_, rfl⟩
  have n1 : (if 0 < x3 then x3 else 0) = (y3 : Int) := by split <;> omega
  have n2 : max 0 x3 = (y3 : Int) := by omega
  obtain ⟨t0, ht0⟩ : ∃ t : Nat, y3 % N = t := ⟨_, rfl⟩
  have ht0N : t0 < N := by rw [← ht0]; exact Nat.mod_lt _ (by omega)
  have n3 : (y3 : Int).tmod (N : Int) = (t0 : Int) := by rw [Int.tmod_eq_emod_of_nonneg (by omega), ← ht0]; exact (Int.natCast_emod y3 N).symm
  obtain ⟨y0, hy0⟩ : ∃ y : Nat, x0.toNat = y := ⟨_, rfl⟩
  have n4 : (if 0 < x0 then x0 else 0) = (y0 : Int) := by split <;> omega
  have n5 : max 0 x0 = (y0 : Int) := by omega
  obtain ⟨t1, ht1⟩ : ∃ t : Nat, y0 % N = t := ⟨_, rfl⟩
  have ht1N : t1 < N := by rw [← ht1]; exact Nat.mod_lt _ (by omega)
  have n6 : (y0 : Int).tmod (N : Int) = (t1 : Int) := by rw [Int.tmod_eq_emod_of_nonneg (by omega), ← ht1]; exact (Int.natCast_emod y0 N).symm
  obtain ⟨C, hC1, hC2, hC3⟩ : ∃ C : Nat, (if (20 : Int) < (len2 : Int) then (20 : Int) else (len2 : Int)) = (C : Int) ∧ C ≤ 20 ∧ C ≤ len2 := ⟨min len2 20, by split <;> omega, by omega, by omega⟩
  have hC4 : C ≤ cap2 := by omega
  have hC5 : min (len2 : Int) 20 = (C : Int) := by omega
  have hC6 : (C : Int) ≤ (len2 : Int) := by omega
  have hC7 : (C : Int) ≤ (cap2 : Int) := by omega
  clear hba hB hs hf ht hy he hyy hsl hm hy3 ht0 hy0 ht1
  go_enter Tryz.func5, Tryz.ntmps5
  go_upto_region 1 with fail
  generalize W.alloc (.cells #[.int .i64 x0, .int .i64 x1, .int .i64 x2, .int .i64 x3] 34) = Wa at *
  obtain ⟨k0, k1, k2, k3⟩ := HX.out _ (Below.refl _ _)
  go_upto_region 4 with (first
    | (go_at_call 8; refine (HBL.out _ HBA.out).mono ?_; rintro e w2 ⟨v, rfl, hr2, hb2⟩; have HR2 : Hid (World.ownsRow w2 _ 9 1 v m (strs m F)) := hr2; have HB2 : Hid (Below Wa.heap.size Wa w2) := hb2; clear hr2 hb2 HBL k0 k1 k2 k3; obtain ⟨ga, ca, rfl, k1, k2, kv⟩ := own_vals HR2.out (by omega); have HB0 : Hid (Below W.heap.size W w2) := HBA.out.trans (HB2.out.mono HBA.out.size); have hly := lay_any (HT.out _ HB0.out) (some ⟨ga, 0, none⟩) m N ca F hN hm2 ⟨k1, k2⟩ kv (fun i _ => HF.out i) (n := n) (slot := sl) hn hd hsn; have HLY : Hid (Calls _ _ _ _ _) := hly; clear k1 k2 kv hly)
    | (go_at_call 13; refine HLY.out.mono ?_; rintro e w3 ⟨g, gr, b, b', vl, vm, vc, P, rfl, h3, h4⟩; have HL : Hid (Ly w2.heap.size w2 w3 g gr N b b' vl vm vc N (shS g n P) (mkC m F) nought) := h3; have HS : Hid (LyS N N (e + 1) sl b b' (ceC sl (mkC m F)) P) := h4; clear h3 h4 HLY))
  obtain ⟨hl, cl, rfl⟩ := own_any6 HL.out.l (by omega)
  obtain ⟨hm, cm, rfl⟩ := own_any6 HL.out.m (by omega)
  obtain ⟨hc, cc, rfl⟩ := own_any6 HL.out.c (by omega)
  have HL3 : Hid (Lh w2.heap.size w2 w3 g gr N n hl cl hm cm b b' (.slice (some ⟨hc, 0, none⟩) N cc) P (fun _ => true) (mkC m F) nought) := HL.out.lw
  have HX2 : Hid (∀ z, Below w2.heap.size w2 z → z.cell? ⟨W.heap.size, 0, none⟩ = some (.int .i64 x0) ∧ z.cell? ⟨W.heap.size, 3, none⟩ = some (.int .i64 x3)) := fun z hz => by
    obtain ⟨a0, _, _, a3⟩ := HX.out z (HB2.out.trans (hz.mono HB2.out.size))
    exact ⟨a0, a3⟩
  clear HL HX HB2 HR2
  obtain ⟨Ck, hCk⟩ : ∃ Ck, mkC m F = Ck := ⟨_, rfl⟩
  have HCk : Hid (mkC m F = Ck) := hCk
  rw [hCk] at HL3
  clear hCk
  go_upto_region 6 with (go_at_call 12; refine (wakes19_any (HT.out _ (HB0.out.trans ((Lw.low HL3.out).mono HB0.out.size)))).mono ?_; rintro e w4 ⟨rfl, hb4⟩; have HL4 : Hid (Lh w2.heap.size w2 w4 g gr N n hl cl hm cm b b' (.slice (some ⟨hc, 0, none⟩) N cc) P (fun _ => true) Ck nought) := Lw.below firm_nought HL3.out hb4; clear hb4 HL3)
  go_cut [13] from 67 (fun x wc => ∃ gt, x = .pointer (some ⟨gt, 0, none⟩) ∧ Lh w2.heap.size w2 wc g gr N n hl cl hm cm b b' (.slice (some ⟨hc, 0, none⟩) N cc) P (fun _ => true) Ck (star (blkA gt 67 (twL t0 t1)) nought))
  case first =>
    have HL5 : Hid (Lh w2.heap.size w2 w4.drew g gr N n hl cl hm cm b b' (.slice (some ⟨hc, 0, none⟩) N cc) P (fun _ => true) Ck nought) := Lw.below firm_nought HL4.out (Below.refl _ _).drew
    obtain ⟨k0, k3⟩ := HX2.out _ (Lw.low HL5.out)
    obtain ⟨k0a, k3a⟩ := HX2.out (w4.alloc (.cells #[.int .i64 0, .int .i64 0] 67)) ((Lw.low HL4.out).alloc (Lw.size HL4.out) _)
    have HBX6 : Hid (Lh w2.heap.size w2 (w4.alloc (.cells #[.int .i64 (t0 : Int), .int .i64 (t1 : Int)] 67)) g gr N n hl cl hm cm b b' (.slice (some ⟨hc, 0, none⟩) N cc) P (fun _ => true) Ck (star (blkA w4.heap.size 67 (twL t0 t1)) nought)) := Lw.box firm_nought HL4.out _ _
    clear HL4
    go_region
    all_goals (go_wp2_with fail; go_meet; exact ⟨_, rfl, Lw.below ((firm_blk _ _ _).star firm_nought) HBX6.out (Below.refl _ _).drew⟩)
  obtain ⟨gt, rfl, h5⟩ := hcut
  have HL4' : Hid (Lh w2.heap.size w2 _ g gr N n hl cl hm cm b b' (.slice (some ⟨hc, 0, none⟩) N cc) P (fun _ => true) Ck (star (blkA gt 67 (twL t0 t1)) nought)) := h5
  clear h5 HL4 HX2
  have HFT : Hid (∀ gh L, Firm (star (blkA gh 41 L) (star (blkA gt 67 (twL t0 t1)) nought))) := fun gh L => (firm_blk _ _ _).star ((firm_blk _ _ _).star firm_nought)
  have HFR : Hid (Firm (star (blkA gt 67 (twL t0 t1)) nought)) := (firm_blk _ _ _).star firm_nought
  go_wp2_with fail
  go_loopw [73] (fun j wr => ∃ (k : Nat) (bq bq' : Bs) (P' : Nat → ByteArray) (u' : Nat → Bool), k ≤ C ∧ j = .int .i64 (k : Int) ∧ Hid (Lh w2.heap.size w2 wr g gr N n hl cl hm cm bq bq' (.slice (some ⟨hc, 0, none⟩) N cc) P' u' Ck (star (blkA gt 67 (twL t0 t1)) nought)) ∧ Hid (Hd N bq bq') ∧ Hid (Tw t0 t1 b bq P P' u')) (fun j _ => C - (intOf j).toNat)
  case atStart => exact ⟨0, b, b', P, fun _ => true, Nat.zero_le _, rfl, HL4'.out, HS.out.hd, Tw.start⟩
  case round =>
    clear HL4'
    obtain ⟨k, bq, bq', P', u', hk, rfl, HL, HH, HTW⟩ := hrel
    by_cases hlt : k < C
    · have hk' : (k : Int) < (C : Int) := by omega
      obtain ⟨sb, so, A, hsa, hA, hrow⟩ := has_at HA.out (HB0.out.trans ((Lw.low HL.out).mono HB0.out.size)) k (by omega)
      subst hsa
      obtain ⟨ad, ak, aa, ac⟩ := A
      obtain ⟨ha1, ha2, ha3, ha4⟩ := hA
      unfold maxLen at ha4
      have HROW : Hid (wr.rangeAt sb (so + k * 4) [.int .i64 ad, .int .i64 ak, .int .i64 aa, .string ac]) := hrow
      have HBX : Hid (Lh w2.heap.size w2 (wr.alloc (.cells #[.int .i64 ad, .int .i64 ak, .int .i64 aa, .string ac] 41)) g gr N n hl cl hm cm bq bq' (.slice (some ⟨hc, 0, none⟩) N cc) P' u' Ck (star (blkA wr.heap.size 41 (haL ad ak aa ac)) (star (blkA gt 67 (twL t0 t1)) nought))) := Lw.box HFR.out HL.out _ _
      have HSZ : Hid ((Tryz.prog.info? 41).map (·.size) = some 4) := Tryz.size41
      have hz := zeroHarm
      obtain ⟨p, hp⟩ : ∃ p, k % 2 = p := ⟨_, rfl⟩
      have hp2 : p < 2 := by omega
      have hpm : (k : Int).tmod 2 = (p : Int) := by rw [Int.tmod_eq_emod_of_nonneg (by omega)]; omega
      have hpi : (p : Int) < 2 := by omega
      obtain ⟨t, htt⟩ : ∃ t, twT t0 t1 p = t := ⟨_, rfl⟩
      have HTT : Hid (t < N ∧ (t = t0 ∨ t = t1)) := by show _ ∧ _; rw [← htt]; unfold twT; split <;> simp [ht0N, ht1N]
      clear hrow HL
      go_upto_region 10 with (first
        | (refine wpList_load_mid rfl 41 _ rfl sb (so + k * 4) rfl [.int .i64 ad, .int .i64 ak, .int .i64 aa, .string ac] _ HROW.out Tryz.underlying41 rfl HSZ.out ?_))
      generalize hwb : wr.alloc (.cells #[.int .i64 ad, .int .i64 ak, .int .i64 aa, .string ac] 41) = wb at *
      generalize hga : wr.heap.size = gh at *
      clear hwb hga hz HROW
      have hbT : Blk wb gt 67 (twL t0 t1) := Lw.boxed2 HBX.out
      have c2 : wb.cell? ⟨gt, p, none⟩ = some (.int .i64 (t : Int)) := by rw [← htt]; exact hbT.cell (twL_at t0 t1 hp2)
      have c1 := (Lw.boxed HBX.out).cell (i := 1) rfl
      have f1 := (Lw.boxed HBX.out).frozen 1
      have HB3 : Hid (Lh w2.heap.size w2 (wb.setCell ⟨gh, 1, none⟩ (.int .i64 (t : Int))) g gr N n hl cl hm cm bq bq' (.slice (some ⟨hc, 0, none⟩) N cc) P' u' Ck (star (blkA gh 41 (haL ad (t : Int) aa ac)) (star (blkA gt 67 (twL t0 t1)) nought))) := Lw.boxset HFR.out HBX.out 1 (.int .i64 (t : Int))
      have HBK : Hid (Blk (wb.setCell ⟨gh, 1, none⟩ (.int .i64 (t : Int))) gh 41 [.int .i64 ad, .int .i64 (t : Int), .int .i64 aa, .string ac]) := Lw.boxed HB3.out
      have hhm := harm_any (HFT.out _ _) HB3.out HH.out (by omega) ad (t : Int) aa ac ha1 (by have := HTT.out.1; omega) ha3 (by omega)
      have HHM : Hid (Calls _ _ _ _ _) := hhm
      clear hhm ha1 ha2 ha3 ha4 HBX hbT
      go_upto_region 11 with fail
      clear c1 f1 c2
      generalize wb.setCell ⟨gh, 1, none⟩ (.int .i64 (t : Int)) = wc at *
      go_wp2_with (first
        | (refine wpList_load_blk rfl 41 _ rfl gh rfl 41 [.int .i64 ad, .int .i64 (t : Int), .int .i64 aa, .string ac] _ HBK.out Tryz.underlying41 rfl HSZ.out ?_)
        | (go_at_call 14; refine HHM.out.mono ?_; rintro x w5 ⟨rfl, br, br', Pr, ur, h5, h6, h7⟩; have H5 : Hid (Lh w2.heap.size w2 w5 g gr N n hl cl hm cm br br' (.slice (some ⟨hc, 0, none⟩) N cc) Pr ur Ck (star (blkA gh 41 (haL ad (t : Int) aa ac)) (star (blkA gt 67 (twL t0 t1)) nought))) := h5; have H6 : Hid (Hd N br br') := h6; have H7 : Hid (Un (hmI N (t : Int)) bq br P' Pr u' ur) := h7; clear h5 h6 h7 HB3 HBK HHM))
      go_roundw
      case rel =>
        refine ⟨k + 1, br, br', Pr, ur, by omega, by go_num, Lw.unbox H5.out, H6.out, HTW.out.next H7.out ?_⟩
        unfold hmI
        rw [Int.toNat_natCast, Nat.mod_eq_of_lt HTT.out.1]
        exact HTT.out.2
      case measure => simp [intOf]; omega
    · obtain rfl : k = C := by omega
      have hk' : ¬ (k : Int) < (k : Int) := by omega
      have HTB : Hid (∀ z, Below w2.heap.size w2 z → Tabs z) := fun z hz => HT.out z (HB0.out.trans (hz.mono HB0.out.size))
      subst hn
      have HBT : Hid (Blk wr gt 67 (twL t0 t1)) := Lw.boxed HL.out
      have HSZ : Hid ((Tryz.prog.info? 67).map (·.size) = some 2) := Tryz.size67
      go_upto_region 14 with (refine wpList_load_blk rfl 67 _ rfl gt rfl 67 (twL t0 t1) _ HBT.out Tryz.underlying67 rfl HSZ.out ?_)
      clear HBT HSZ
      go_loopw [89] (fun j wz => ∃ q : Nat, q ≤ 2 ∧ j = .int .i64 (q : Int) ∧ Hid (Below wr.heap.size wr wz) ∧ Hid (∀ x, x < q → feE bq (e + 1) P' u' (sl : Int) (twT t0 t1 x) = 0 → feT bq (e + 1) P' u' (sl : Int) (twT t0 t1 x) = Ck (twT t0 t1 x))) (fun j _ => 2 - (intOf j).toNat)
      case atStart => exact ⟨0, Nat.zero_le _, rfl, Below.refl _ _, fun x hx => by omega⟩
      case round =>
        obtain ⟨q, hq, rfl, HBI, HPH⟩ := hrel
        have HI : Hid (Lh w2.heap.size w2 _ g gr N (2 ^ (e + 1)) hl cl hm cm bq bq' (.slice (some ⟨hc, 0, none⟩) N cc) P' u' Ck (star (blkA gt 67 (twL t0 t1)) nought)) := Lw.below HFR.out HL.out HBI.out
        by_cases hq2 : q < 2
        · have hq2' : (q : Int) < 2 := by omega
          obtain ⟨i, hi⟩ : ∃ i, twT t0 t1 q = i := ⟨_, rfl⟩
          have hiN : i < N := by rw [← hi]; unfold twT; split <;> assumption
          have hiN' : (i : Int) < (N : Int) := by omega
          have hix := tw_index wr t0 t1 q hq2
          rw [hi] at hix
          have HNX : Hid ((feE bq (e + 1) P' u' (sl : Int) i = 0 → feT bq (e + 1) P' u' (sl : Int) i = Ck i) → ∀ x, x < q + 1 → feE bq (e + 1) P' u' (sl : Int) (twT t0 t1 x) = 0 → feT bq (e + 1) P' u' (sl : Int) (twT t0 t1 x) = Ck (twT t0 t1 x)) := fun h x hx => by
            by_cases ex : x = q
            · subst ex; rw [hi]; exact h
            · exact HPH.out x (by omega)
          go_upto_region 16 with fail
          clear hix
          have HR7 : Hid (Lh w2.heap.size w2 _ g gr N (2 ^ (e + 1)) hl cl hm cm bq bq' (.slice (some ⟨hc, 0, none⟩) N cc) P' u' Ck (star (blkA gt 67 (twL t0 t1)) nought)) := Lw.below HFR.out HI.out (Below.refl _ _).drew
          have hR0 : wr.drew.rangeAt hl (i * 6) [.pointer (some ⟨g, 0, none⟩), .int .i64 (i : Int), .int .i64 ((2 ^ (e + 1) : Nat) : Int), .string kB19] ∧ wr.drew.cell? ⟨hl, i * 6 + 4, none⟩ = some (.string (P' i)) := Lh.slab HR7.out hiN
          have HGT : Hid (Calls _ _ _ _ _) := sgetN (key := kB19) HH.out.okn hiN (by omega) hd rfl (P' i) (sl : Int) (Lw.bk HR7.out) (HTB.out _ (Lw.low HR7.out))
          refine wp_region_noPanic ?_
          refine wp_region_held_drew (S := fun y : World => y.rangeAt hl (i * 6) [.pointer (some ⟨g, 0, none⟩), .int .i64 (i : Int), .int .i64 ((2 ^ (e + 1) : Nat) : Int), .string kB19] ∧ y.cell? ⟨hl, i * 6 + 4, none⟩ = some (.string (P' i))) (by kernel_rfl) hR0 (fun hHeld => ?_)
          refine tkH 0 ?_; go_simp
          refine tkH 1 ?_; go_simp
          refine tkH 2 ?_; go_simp
          refine tkH 3 ?_; go_simp
          refine wpAnyH_take (i := 4) (v := .agg #[.pointer (some ⟨g, 0, none⟩), .int .i64 (i : Int), .int .i64 ((2 ^ (e + 1) : Nat) : Int), .string kB19]) rfl (by kernel_rfl) (by kernel_rfl) (by kernel_rfl) (fun _ _ _ h => h) (yieldsIf_load_mid rfl 45 _ rfl hl (i * 6) rfl [.pointer (some ⟨g, 0, none⟩), .int .i64 (i : Int), .int .i64 ((2 ^ (e + 1) : Nat) : Int), .string kB19] _ (fun _ h => h.1) Tryz.underlying45 rfl (by kernel_rfl)) (by assumption) ?_
          go_simp
          refine tkH 5 ?_; go_simp
          refine tkH 6 ?_; go_simp
          refine tkH 7 ?_; go_simp
          refine tkH 8 ?_; go_simp
          refine tkH 9 ?_; go_simp
          refine tkH 10 ?_; go_simp
          refine rdH 11 fun K hK => ?_
          go_simp
          go_at_call 23
          refine HGT.out.mono ?_
          rintro x w8 ⟨rfl, hb8⟩
          have H8 : Hid (Lh w2.heap.size w2 w8 g gr N (2 ^ (e + 1)) hl cl hm cm bq bq' (.slice (some ⟨hc, 0, none⟩) N cc) P' u' Ck (star (blkA gt 67 (twL t0 t1)) nought)) := Lw.below HFR.out HR7.out hb8
          have HB8 : Hid (Below _ _ w8) := (HBI.out.trans ((Below.refl _ _).drew.mono HBI.out.size)).trans (hb8.mono (HBI.out.trans ((Below.refl _ _).drew.mono HBI.out.size)).size)
          clear hb8 hR0 HR7 HGT
          refine hK.out _ _ (Lh.slab H8.out hiN) (fun hHeld => ?_)
          clear hK K
          refine tkH 12 ?_; go_simp
          refine tkH 13 ?_; go_simp
          refine tkH 14 ?_; go_simp
          refine tkH 15 ?_; go_simp
          refine tkH 16 ?_; go_simp
          refine wpAnyH_done (by kernel_rfl) ?_ _
          refine NoPanic.normal ?_
          have cu : w8.cell? ⟨hl, i * 6 + 5, none⟩ = some (.bool (u' i)) := (Lw.cell H8.out (i := i) (j := 5) hiN rfl).1
          have c7 : w8.cell? ⟨hc, i, none⟩ = some (.string (Ck i)) := Lw.chunk H8.out hiN
          have HPI : Hid (feE bq (e + 1) P' u' (sl : Int) i = if u' i = true then gtE bq i (e + 1) kB19 (P' i) (sl : Int) else 11) := rfl
          have HPT : Hid (feT bq (e + 1) P' u' (sl : Int) i = if u' i = true then gtT bq i (e + 1) kB19 (P' i) (sl : Int) else noB) := rfl
          generalize u' i = ub at cu HPI HPT
          generalize gtE bq i (e + 1) kB19 (P' i) (sl : Int) = ge at *
          generalize gtT bq i (e + 1) kB19 (P' i) (sl : Int) = gs at *
          generalize Ck i = ck at c7 HNX
          cases ub with
          | false =>
            have HN1 : Hid (∀ x, x < q + 1 → _) := HNX.out (fun h => by rw [HPI.out, if_neg (by decide)] at h; cases h)
            clear HNX HPI HPT
            go_wp2_with fail
            go_roundw
            case rel => exact ⟨q + 1, by omega, by go_num, HB8.out, HN1.out⟩
            case measure => simp [intOf]; omega
          | true =>
            by_cases hg0 : ge = 0
            · subst hg0
              by_cases hgs : gs = ck
              · subst hgs
                have HN1 : Hid (∀ x, x < q + 1 → _) := HNX.out (fun h => by rw [HPT.out, if_pos rfl])
                clear HNX HPI HPT
                go_wp2_with fail
                go_roundw
                case rel => exact ⟨q + 1, by omega, by go_num, HB8.out, HN1.out⟩
                case measure => simp [intOf]; omega
              · have hg1 : (gs.toList == ck.toList) = false := by rw [teq]; exact decide_eq_false hgs
                clear hgs HNX HPI HPT
                go_wp2_with fail
                go_ret
                exact ⟨rfl, HB0.out.trans ((Lw.low H8.out).mono HB0.out.size)⟩
            · have hg1 : (ge == 0) = false := by simp [hg0]
              have HN1 : Hid (∀ x, x < q + 1 → _) := HNX.out (fun h => by rw [HPI.out, if_pos rfl] at h; exact absurd h hg0)
              clear hg0 HNX HPI HPT
              go_wp2_with fail
              go_roundw
              case rel => exact ⟨q + 1, by omega, by go_num, HB8.out, HN1.out⟩
              case measure => simp [intOf]; omega
        · obtain rfl : q = 2 := by omega
          have HG : Hid (Tg N Ck (feT bq (e + 1) P' u' (sl : Int)) (feE bq (e + 1) P' u' (sl : Int))) := by
            have hmN : m = N - 2 := by omega
            have := HCk.out
            rw [hmN] at this
            have h4 := HS.out
            rw [hmN] at h4
            have h5 := HPH.out
            show Tg _ _ _ _
            rw [← this] at h5 ⊢
            exact HTW.out.tg hN4 HH.out.p h4 hd hsn (h5 0 (by decide)) (h5 1 (by decide))
          obtain ⟨E, hE⟩ : ∃ E, feE bq (e + 1) P' u' (sl : Int) = E := ⟨_, rfl⟩
          obtain ⟨T, hT⟩ : ∃ T, feT bq (e + 1) P' u' (sl : Int) = T := ⟨_, rfl⟩
          have hld := Lw.load HI.out HH.out.okn (by omega) rfl hd (HTB.out _ (Lw.low HI.out)) (sl : Int)
          rw [hE, hT] at hld HG
          have HLD : Hid (Calls _ _ _ _ _) := hld
          clear hld HPH
          go_upto_region 21 with (go_at_call 17; refine HLD.out.mono ?_; rintro x w6 ⟨hb6, v1, v2, er, G, rfl, hD, -, hv⟩; obtain ⟨rfl, hGC⟩ := HG.out.load hD; rw [hGC] at hv; clear hGC; obtain ⟨hv1, hv2⟩ := hv rfl; have HV1 : Hid (World.ownsRow w6 _ 9 1 v1 N (strs N Ck)) := hv1; have HV2 : Hid (World.ownsRow w6 _ 3 1 v2 _ _) := hv2; have H6 : Hid (Lh w2.heap.size w2 w6 g gr N (2 ^ (e + 1)) hl cl hm cm bq bq' (.slice (some ⟨hc, 0, none⟩) N cc) P' u' Ck (star (blkA gt 67 (twL t0 t1)) nought)) := Lw.below HFR.out HI.out hb6; clear hb6 hD hv hv1 hv2 HLD HI)
          obtain ⟨a1, c1, rfl, -, -, v1v⟩ := own_vals HV1.out (by omega)
          obtain ⟨a2, c2, rfl, -, -⟩ := mowns_form HV2.out (fun j => .int .i64 (((misL (fun i => decide (E i = 0)) N).getD j 0 : Nat) : Int)) (fun i hi => by unfold nmsL; simp [hi])
          obtain ⟨_, _, hvc, -, -, v2v⟩ := own_vals (Lw.c H6.out) (by omega)
          cases hvc
          have heq := equal19_yes (some ⟨a1, 0, none⟩) (some ⟨hc, 0, none⟩) N c1 cc Ck w6 (by omega) v1v v2v
          have HEQ : Hid (Calls _ _ _ _ _) := heq
          obtain ⟨ml, hml⟩ : ∃ ml, (misL (fun i => decide (E i = 0)) N).length = ml := ⟨_, rfl⟩
          have hml2 : ml ≤ 2 := by rw [← hml]; exact HG.out.lost
          have HWB : Hid (whB N T E = decide (ml = 0)) := by show _ = _; rw [← hml]; exact HG.out.whole
          rw [hml]
          have hgt : (2 < (ml : Int)) = False := by simp; omega
          have hgt2 : (decide ((2 : Int) < (ml : Int))) = false := by simp; omega
          clear heq v1v v2v hml HV1 HV2
          go_wp2_with (go_at_call 11; refine HEQ.out.mono ?_; rintro x w7 ⟨rfl, hb7⟩; have H7 : Hid (Lh w2.heap.size w2 w7 g gr N (2 ^ (e + 1)) hl cl hm cm bq bq' (.slice (some ⟨hc, 0, none⟩) N cc) P' u' Ck (star (blkA gt 67 (twL t0 t1)) nought)) := Lw.below HFR.out H6.out hb7; clear hb7 H6 HEQ)
          go_loopw [147] (fun j wy => ∃ i : Nat, i ≤ N ∧ j = .int .i64 (i : Int) ∧ Hid (Below w7.heap.size w7 wy)) (fun j _ => N - (intOf j).toNat)
          case atStart => exact ⟨0, Nat.zero_le _, rfl, Below.refl _ _⟩
          case round =>
            obtain ⟨i, hi, rfl, HBJ⟩ := hrel
            have HJ : Hid (Lh w2.heap.size w2 _ g gr N (2 ^ (e + 1)) hl cl hm cm bq bq' (.slice (some ⟨hc, 0, none⟩) N cc) P' u' Ck (star (blkA gt 67 (twL t0 t1)) nought)) := Lw.below HFR.out H7.out HBJ.out
            by_cases hiN : i < N
            · have hiN' : (i : Int) < (N : Int) := by omega
              have hon := Lw.one HJ.out HH.out.okn (by omega) rfl hd (HTB.out _ (Lw.low HJ.out)) (sl : Int) (i : Int)
              rw [hE, hT] at hon
              have HON : Hid (Calls _ _ _ _ _) := hon
              clear hon
              go_upto_region 27 with (go_at_call 19; refine HON.out.mono ?_; rintro x w8 ⟨hb8, s, f, rfl, hO⟩; obtain ⟨rfl, rfl⟩ := HG.out.one hiN hO; have HB8 : Hid (Below w7.heap.size w7 w8) := HBJ.out.trans (hb8.mono HBJ.out.size); have H8 : Hid (Lh w2.heap.size w2 w8 g gr N (2 ^ (e + 1)) hl cl hm cm bq bq' (.slice (some ⟨hc, 0, none⟩) N cc) P' u' Ck (star (blkA gt 67 (twL t0 t1)) nought)) := Lw.below HFR.out HJ.out hb8; clear hb8 hO HON HJ HBJ)
              have c7 : w8.cell? ⟨hc, i, none⟩ = some (.string (Ck i)) := Lw.chunk H8.out hiN
              generalize Ck i = ck at *
              go_wp2_with fail
              go_roundw
              case rel => exact ⟨i + 1, by omega, by go_num, HB8.out⟩
              case measure => simp [intOf]; omega
            · obtain rfl : i = N := by omega
              have hwh := Lw.whole HJ.out HH.out.okn (by omega) rfl hd (HTB.out _ (Lw.low HJ.out)) (sl : Int)
              rw [hE, hT, HWB.out] at hwh
              have HWH : Hid (Calls _ _ _ _ _) := hwh
              clear hwh
              have hbb : (decide (ml = 0) == ((ml : Int) == 0)) = true := by
                by_cases e0 : ml = 0
                · subst e0; rfl
                · simp [e0]
              generalize decide (ml = 0) = bw at *
              go_wp2_with (go_at_call 21; refine HWH.out.mono ?_; rintro x w9 ⟨hb9, rfl⟩; have HB9 : Hid (Below w2.heap.size w2 w9) := (Lw.low HJ.out).trans (hb9.mono (Lw.low HJ.out).size); clear hb9)
              go_ret
              exact ⟨rfl, HB0.out.trans (HB9.out.mono HB0.out.size)⟩
end Go.Proofs.YtokknmkleceooaaGreatDoor
