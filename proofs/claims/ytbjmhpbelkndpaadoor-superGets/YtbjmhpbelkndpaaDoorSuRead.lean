/- What the program reads of bytes. -/
import Derived.Test.YtbjmhpbelkndpaaDoorSuRead0
namespace Go.Proofs.YtbjmhpbelkndpaaDoor
open Go.RowKit Go.PlainAid
set_option linter.unusedVariables false
set_option maxRecDepth 20000

theorem step_store_midR {P : Program} {ops : Array Oper} {o : Oper} {a : Act} {w : World} {K : Act → World → Prop} {Q : Exit → Act → World → Prop} {E : Prop} (hgd : o.guard = none) (ty : TypeId) (x y : Operand) (ho : o.op = .store ty x y)
    (b off : Nat) (cells : Array Value) (hx : a.eval x = .pointer (some ⟨b, off, none⟩)) (hy : a.eval y = .agg cells)
    (ht : w.there b off cells.size) (hi : (P.info? ty).map (·.size) = some cells.size) (h1 : cells.all (·.oneCell') = true) (h : K (a.put o.dst undef) (w.setCells b off cells.toList)) :
    if Region.wanted o (yielded ops a.tmps) = true then Oper.wp P o a w K Q else E := by
  rw [if_pos (by simp [Region.wanted, hgd])]
  exact wp_store_mid ty x y ho b off cells hx hy ht hi h1 h
section
variable {B : Nat} {w0 w : World} {g : Nat} {X : Asn} {t : ByteArray}
theorem there3 {w : World} {G T : Nat} {L : List Value} {n k : Nat} (h : Blk w G T L) (hl : L.length = n * 3) (hk : k < n) : w.there G (k * 3) 3 := fun j hj => by
  obtain ⟨v, hv⟩ := h.hasCell (k * 3 + j) (by omega)
  exact ⟨by rw [hv]; rfl, h.frozen _⟩
set_option maxRecDepth 20000 in
set_option maxHeartbeats 4000000 in
theorem sread_any (hX : Firm X) (h : Hold B w0 w (star (rdr g t 0) X)) (ht : t.size ≤ 140737488355328) : Calls Tryd.prog 11 #[.pointer (some ⟨g, 0, none⟩)] w fun x w' => ∃ G1 G2 M, x = .returned (.agg (supV (wayP.told t) (some ⟨G1, 0, none⟩) (some ⟨G2, 0, none⟩) (wayP.ns t) (wayP.nm t)).toArray) ∧ memP M (wayP.nm t) (wayP.told t).st (wayP.told t).top (wayP.told t).log ∧ Hold B w0 w' (star (rdr g (wayP.fin t).1 (wayP.fin t).2) (star (blkA G2 64 M) (star (blkA G1 3 (si (wayP.ns t) (wayP.told t).seat)) X))) := by
  have hF := wayP_fine t ht
  obtain ⟨HS, hHS⟩ : ∃ HS, w.heap.size = HS := ⟨_, rfl⟩
  have hzero := zeroSup
  have hA : Hid (Rd B w0 ((w.alloc (.cells zS.toArray 26)).alloc (.cells zS.toArray 26)) g (HS + 1) HS X (rdS hbP (t, 0) 0) zS) := by
    have h1 := h.newBlk ((firm_rdr _ _ _).star hX) 26 zS.toArray
    have h2 := h1.newBlk ((firm_blk _ _ _).star ((firm_rdr _ _ _).star hX)) 26 zS.toArray
    rw [World.size_alloc, List.toList_toArray, hHS] at h2
    exact (h2.monoR (fun F h => star_swap h)).swap
  have N0 : Hid (∀ w C, Rd B w0 w g (HS + 1) HS X (rdS hbP (t, 0) 0) C → Calls Tryd.prog 22 #[.pointer (some ⟨g, 0, none⟩)] w fun x w' => x = .returned (.int .u64 (rdV hbP (t, 0) 0)) ∧ Rd B w0 w' g (HS + 1) HS X (rdS hbP (t, 0) 1) C) := fun w C h => Rd.num hX h (Nat.le_trans (rdS_size _ _ _) ht)
  have N1 : Hid (∀ w C, Rd B w0 w g (HS + 1) HS X (rdS hbP (t, 0) 1) C → Calls Tryd.prog 22 #[.pointer (some ⟨g, 0, none⟩)] w fun x w' => x = .returned (.int .u64 (rdV hbP (t, 0) 1)) ∧ Rd B w0 w' g (HS + 1) HS X (rdS hbP (t, 0) 2) C) := fun w C h => Rd.num hX h (Nat.le_trans (rdS_size _ _ _) ht)
  have N2 : Hid (∀ w C, Rd B w0 w g (HS + 1) HS X (rdS hbP (t, 0) 2) C → Calls Tryd.prog 23 #[.pointer (some ⟨g, 0, none⟩), .int .i64 9] w fun x w' => x = .returned (.int .i64 (rdV hbP (t, 0) 2)) ∧ Rd B w0 w' g (HS + 1) HS X (rdS hbP (t, 0) 3) C) := fun w C h => Rd.below hX h (Nat.le_trans (rdS_size _ _ _) ht) 9 (by decide)
  have N3 : Hid (∀ w C, Rd B w0 w g (HS + 1) HS X (rdS hbP (t, 0) 3) C → Calls Tryd.prog 23 #[.pointer (some ⟨g, 0, none⟩), .int .i64 17] w fun x w' => x = .returned (.int .i64 (rdV hbP (t, 0) 3)) ∧ Rd B w0 w' g (HS + 1) HS X (rdS hbP (t, 0) 4) C) := fun w C h => Rd.below hX h (Nat.le_trans (rdS_size _ _ _) ht) 17 (by decide)
  have N4 : Hid (∀ w C, Rd B w0 w g (HS + 1) HS X (rdS hbP (t, 0) 4) C → Calls Tryd.prog 23 #[.pointer (some ⟨g, 0, none⟩), .int .i64 17] w fun x w' => x = .returned (.int .i64 (rdV hbP (t, 0) 4)) ∧ Rd B w0 w' g (HS + 1) HS X (rdS hbP (t, 0) 5) C) := fun w C h => Rd.below hX h (Nat.le_trans (rdS_size _ _ _) ht) 17 (by decide)
  have N5 : Hid (∀ w C, Rd B w0 w g (HS + 1) HS X (rdS hbP (t, 0) 5) C → Calls Tryd.prog 23 #[.pointer (some ⟨g, 0, none⟩), .int .i64 17] w fun x w' => x = .returned (.int .i64 (rdV hbP (t, 0) 5)) ∧ Rd B w0 w' g (HS + 1) HS X (rdS hbP (t, 0) 6) C) := fun w C h => Rd.below hX h (Nat.le_trans (rdS_size _ _ _) ht) 17 (by decide)
  have N6 : Hid (∀ w C, Rd B w0 w g (HS + 1) HS X (rdS hbP (t, 0) 6) C → Calls Tryd.prog 23 #[.pointer (some ⟨g, 0, none⟩), .int .i64 2] w fun x w' => x = .returned (.int .i64 (rdV hbP (t, 0) 6)) ∧ Rd B w0 w' g (HS + 1) HS X (rdS hbP (t, 0) 7) C) := fun w C h => Rd.below hX h (Nat.le_trans (rdS_size _ _ _) ht) 2 (by decide)
  have N7 : Hid (∀ w C, Rd B w0 w g (HS + 1) HS X (rdS hbP (t, 0) 7) C → Calls Tryd.prog 23 #[.pointer (some ⟨g, 0, none⟩), .int .i64 13] w fun x w' => x = .returned (.int .i64 (rdV hbP (t, 0) 7)) ∧ Rd B w0 w' g (HS + 1) HS X (rdS hbP (t, 0) 8) C) := fun w C h => Rd.below hX h (Nat.le_trans (rdS_size _ _ _) ht) 13 (by decide)
  have hns := hF.ns
  have hnm := hF.nm
  have v7 : rdV hbP (t, 0) 7 = ((wayP.ns t : Nat) : Int) := by
    have := (way_range wayP hbP (t, 0) 7).1
    show _ = (((rdV hbP (t, 0) 7).toNat : Nat) : Int); omega
  have vm : rdV (fun _ => 13) (wayP.sS t) 0 = ((wayP.nm t : Nat) : Int) := by
    have := (way_range wayP (fun _ => 13) (wayP.sS t) 0).1
    show _ = (((rdV (fun _ => 13) (wayP.sS t) 0).toNat : Nat) : Int); omega
  rw [v7] at N7
  have hsz8 : (rdS hbP (t, 0) 8).1.size ≤ 140737488355328 := Nat.le_trans (rdS_size _ _ _) ht
  have NS : Hid (∀ w C G L k, Rd B w0 w g (HS + 1) HS (star (blkA G 3 L) X) (rdS (fun _ => 12) (wayP.s8 t) k) C → Calls Tryd.prog 23 #[.pointer (some ⟨g, 0, none⟩), .int .i64 12] w fun x w' => x = .returned (.int .i64 (rdV (fun _ => 12) (wayP.s8 t) k)) ∧ Rd B w0 w' g (HS + 1) HS (star (blkA G 3 L) X) (rdS (fun _ => 12) (wayP.s8 t) (k + 1)) C) := fun w C G L k h => Rd.below ((firm_blk _ _ _).star hX) h (Nat.le_trans (rdS_size _ _ _) hsz8) 12 (by decide)
  have hszS : (wayP.sS t).1.size ≤ 140737488355328 := Nat.le_trans (rdS_size _ _ _) hsz8
  have NM : Hid (∀ w C G L, Rd B w0 w g (HS + 1) HS (star (blkA G 3 L) X) (wayP.sS t) C → Calls Tryd.prog 23 #[.pointer (some ⟨g, 0, none⟩), .int .i64 13] w fun x w' => x = .returned (.int .i64 ((wayP.nm t : Nat) : Int)) ∧ Rd B w0 w' g (HS + 1) HS (star (blkA G 3 L) X) (wayP.sM t) C) := fun w C G L h => by
    rw [← vm]
    exact Rd.below ((firm_blk _ _ _).star hX) h hszS 13 (by decide)
  have hszM : ∀ k, (mbS 4 (wayP.sM t) k).1.size ≤ 140737488355328 := fun k => Nat.le_trans (mbS_size _ _ _) (Nat.le_trans (rdS_size _ _ _) hszS)
  have M1 : Hid (∀ w C G L H M k, Rd B w0 w g (HS + 1) HS (star (blkA H 64 M) (star (blkA G 3 L) X)) (mbS 4 (wayP.sM t) k) C → Calls Tryd.prog 23 #[.pointer (some ⟨g, 0, none⟩), .int .i64 4] w fun x w' => x = .returned (.int .i64 (mSt 4 (wayP.sM t) k)) ∧ Rd B w0 w' g (HS + 1) HS (star (blkA H 64 M) (star (blkA G 3 L) X)) (m1 4 (mbS 4 (wayP.sM t) k)) C) := fun w C G L H M k h => Rd.below ((firm_blk _ _ _).star ((firm_blk _ _ _).star hX)) h (hszM k) 4 (by decide)
  have M2 : Hid (∀ w C G L H M k, Rd B w0 w g (HS + 1) HS (star (blkA H 64 M) (star (blkA G 3 L) X)) (m1 4 (mbS 4 (wayP.sM t) k)) C → Calls Tryd.prog 24 #[.pointer (some ⟨g, 0, none⟩)] w fun x w' => x = .returned (.string (mTop 4 (wayP.sM t) k)) ∧ Rd B w0 w' g (HS + 1) HS (star (blkA H 64 M) (star (blkA G 3 L) X)) (m2 (m1 4 (mbS 4 (wayP.sM t) k))) C) := fun w C G L H M k h => Rd.text ((firm_blk _ _ _).star ((firm_blk _ _ _).star hX)) h (Nat.le_trans (m1_size _ _) (hszM k))
  have M3 : Hid (∀ w C G L H M k, Rd B w0 w g (HS + 1) HS (star (blkA H 64 M) (star (blkA G 3 L) X)) (m2 (m1 4 (mbS 4 (wayP.sM t) k))) C → Calls Tryd.prog 24 #[.pointer (some ⟨g, 0, none⟩)] w fun x w' => x = .returned (.string (mLog 4 (wayP.sM t) k)) ∧ Rd B w0 w' g (HS + 1) HS (star (blkA H 64 M) (star (blkA G 3 L) X)) (mbS 4 (wayP.sM t) (k + 1)) C) := fun w C G L H M k h => Rd.text ((firm_blk _ _ _).star ((firm_blk _ _ _).star hX)) h (Nat.le_trans (m2_size _) (Nat.le_trans (m1_size _ _) (hszM k)))
  have hmk := made_ints (wayP.ns t) (by have : (wayP.told t).ns = wayP.ns t := rfl; omega)
  obtain ⟨ML, hML, hmm⟩ := made_mems (wayP.nm t) (by have : (wayP.told t).nm = wayP.nm t := rfl; omega)
  have HML : Hid _ := hML
  have hn13 : wayP.ns t ≤ 100 := hns
  have hm13 : wayP.nm t ≤ 100 := hnm
  have HW : Hid (∀ (sa ma : Option Addr), supV (wayP.told t) sa ma (wayP.ns t) (wayP.nm t) = [.int .u64 (rdV hbP (t, 0) 0), .int .u64 (rdV hbP (t, 0) 1), .int .i64 (rdV hbP (t, 0) 2), .int .i64 (rdV hbP (t, 0) 3), .int .i64 (rdV hbP (t, 0) 4), .int .i64 (rdV hbP (t, 0) 5), .bool (rdV hbP (t, 0) 6 == 1), .slice sa (wayP.ns t) (wayP.ns t), .slice ma (wayP.nm t) (wayP.nm t)]) := fun sa ma => rfl
  have HLI : Hid ((wayP.told t).seat = rdV (fun _ => 12) (wayP.s8 t) ∧ (wayP.told t).st = mSt 4 (wayP.sM t) ∧ (wayP.told t).top = mTop 4 (wayP.sM t) ∧ (wayP.told t).log = mLog 4 (wayP.sM t)) := ⟨rfl, rfl, rfl, rfl⟩
  have HFIN : Hid (wayP.fin t = mbS 4 (wayP.sM t) (wayP.nm t)) := rfl
  have HS8 : Hid (wayP.s8 t = rdS hbP (t, 0) 8) := rfl
  have HSS : Hid (wayP.sS t = rdS (fun _ => 12) (wayP.s8 t) (wayP.ns t)) := rfl
  clear hF hns hnm v7 vm hsz8 hszS hszM hML
  generalize wayP.told t = RR at *
  generalize wayP.fin t = FF at *
  generalize wayP.ns t = NN at *
  generalize wayP.nm t = MM at *
  generalize wayP.s8 t = S8 at *
  generalize wayP.sS t = SS at *
  generalize wayP.sM t = SM at *
  generalize rdS hbP (t, 0) 0 = Q0 at *
  generalize rdS hbP (t, 0) 1 = Q1 at *
  generalize rdS hbP (t, 0) 2 = Q2 at *
  generalize rdS hbP (t, 0) 3 = Q3 at *
  generalize rdS hbP (t, 0) 4 = Q4 at *
  generalize rdS hbP (t, 0) 5 = Q5 at *
  generalize rdS hbP (t, 0) 6 = Q6 at *
  generalize rdS hbP (t, 0) 7 = Q7 at *
  generalize rdS hbP (t, 0) 8 = Q8 at *
  generalize rdV hbP (t, 0) 0 = V0 at *
  generalize rdV hbP (t, 0) 1 = V1 at *
  generalize rdV hbP (t, 0) 2 = V2 at *
  generalize rdV hbP (t, 0) 3 = V3 at *
  generalize rdV hbP (t, 0) 4 = V4 at *
  generalize rdV hbP (t, 0) 5 = V5 at *
  generalize rdV hbP (t, 0) 6 = V6 at *
  generalize rdV (fun _ => 12) S8 = VS at *
  generalize mSt 4 SM = VT at *
  generalize mTop 4 SM = VO at *
  generalize mLog 4 SM = VL at *
  clear h ht
  go_enter Tryd.func11, Tryd.ntmps11
  go_wp2_with (first
    | (go_at_call 22; refine (N0.out _ _ hA.out).mono ?_; rintro x w1 ⟨rfl, h1r⟩; have h1 : Hid (Rd B w0 _ g (HS + 1) HS X Q1 zS) := h1r; clear h1r  hA N0)
    | (go_at_call 22; refine (N1.out _ _ h1.out).mono ?_; rintro x w2 ⟨rfl, h2r⟩; have c0 := h2r.own.cell (i := 0) rfl; have f0 := h2r.own.frozen 0; have k0 := Rd.set hX h2r 0 (.int .u64 V0); have c1 := k0.own.cell (i := 1) rfl; have f1 := k0.own.frozen 1; have k1 := Rd.set hX k0 1 (.int .u64 V1); have h2 : Hid (Rd B w0 _ g (HS + 1) HS X Q2 ((zS.set 0 (.int .u64 V0)).set 1 (.int .u64 V1))) := k1; clear h2r k0 k1 h1 N1)
    | (go_at_call 23; refine (N2.out _ _ h2.out).mono ?_; rintro x w3 ⟨rfl, h3r⟩; have h3 : Hid (Rd B w0 _ g (HS + 1) HS X Q3 ((zS.set 0 (.int .u64 V0)).set 1 (.int .u64 V1))) := h3r; clear h3r  h2 N2)
    | (go_at_call 23; refine (N3.out _ _ h3.out).mono ?_; rintro x w4 ⟨rfl, h4r⟩; have c2 := h4r.own.cell (i := 2) rfl; have f2 := h4r.own.frozen 2; have k2 := Rd.set hX h4r 2 (.int .i64 V2); have c3 := k2.own.cell (i := 3) rfl; have f3 := k2.own.frozen 3; have k3 := Rd.set hX k2 3 (.int .i64 V3); have h4 : Hid (Rd B w0 _ g (HS + 1) HS X Q4 ((((zS.set 0 (.int .u64 V0)).set 1 (.int .u64 V1)).set 2 (.int .i64 V2)).set 3 (.int .i64 V3))) := k3; clear h4r k2 k3 h3 N3)
    | (go_at_call 23; refine (N4.out _ _ h4.out).mono ?_; rintro x w5 ⟨rfl, h5r⟩; have h5 : Hid (Rd B w0 _ g (HS + 1) HS X Q5 ((((zS.set 0 (.int .u64 V0)).set 1 (.int .u64 V1)).set 2 (.int .i64 V2)).set 3 (.int .i64 V3))) := h5r; clear h5r  h4 N4)
    | (go_at_call 23; refine (N5.out _ _ h5.out).mono ?_; rintro x w6 ⟨rfl, h6r⟩; have c4 := h6r.own.cell (i := 4) rfl; have f4 := h6r.own.frozen 4; have k4 := Rd.set hX h6r 4 (.int .i64 V4); have c5 := k4.own.cell (i := 5) rfl; have f5 := k4.own.frozen 5; have k5 := Rd.set hX k4 5 (.int .i64 V5); have h6 : Hid (Rd B w0 _ g (HS + 1) HS X Q6 ((((((zS.set 0 (.int .u64 V0)).set 1 (.int .u64 V1)).set 2 (.int .i64 V2)).set 3 (.int .i64 V3)).set 4 (.int .i64 V4)).set 5 (.int .i64 V5))) := k5; clear h6r k4 k5 h5 N5)
    | (go_at_call 23; refine (N6.out _ _ h6.out).mono ?_; rintro x w7 ⟨rfl, h7r⟩; have c6 := h7r.own.cell (i := 6) rfl; have f6 := h7r.own.frozen 6; have k6 := Rd.set hX h7r 6 (.bool (V6 == 1)); have h7 : Hid (Rd B w0 _ g (HS + 1) HS X Q7 (((((((zS.set 0 (.int .u64 V0)).set 1 (.int .u64 V1)).set 2 (.int .i64 V2)).set 3 (.int .i64 V3)).set 4 (.int .i64 V4)).set 5 (.int .i64 V5)).set 6 (.bool (V6 == 1)))) := k6; clear h7r k6 h6 N6)
    | (go_at_call 23; refine (N7.out _ _ h7.out).mono ?_; rintro x w8 ⟨rfl, h8r⟩; have h8m := h8r.more hX 3 (si NN (sk 0 fun _ => 0)); have c7 := h8m.own.cell (i := 7) rfl; have f7 := h8m.own.frozen 7; have k7 := Rd.set ((firm_blk _ _ _).star hX) h8m 7 (.slice (some ⟨w8.heap.size, 0, none⟩) NN NN); have d7 := k7.own.cell (i := 7) rfl; have h8 : Hid (Rd B w0 _ g (HS + 1) HS (star (blkA w8.heap.size 3 (si NN (sk 0 fun _ => 0))) X) Q8 ((((((((zS.set 0 (.int .u64 V0)).set 1 (.int .u64 V1)).set 2 (.int .i64 V2)).set 3 (.int .i64 V3)).set 4 (.int .i64 V4)).set 5 (.int .i64 V5)).set 6 (.bool (V6 == 1))).set 7 (.slice (some ⟨w8.heap.size, 0, none⟩) NN NN))) := k7; clear h8r h8m k7 h7 N7))
  clear c0 f0 c1 f1 c2 f2 c3 f3 c4 f4 c5 f5 c6 f6 c7 f7 d7 hmk hzero
  obtain ⟨G1, hG1⟩ : ∃ G1, w8.heap.size = G1 := ⟨_, rfl⟩
  rw [hG1] at h8 ⊢
  generalize (w8.alloc (.cells (si NN (sk 0 fun _ => 0)).toArray 3)).setCell ⟨HS + 1, 7, none⟩ (.slice (some ⟨G1, 0, none⟩) NN NN) = w9 at *
  have HC8 : Hid (∀ x, ((((((((zS.set 0 (.int .u64 V0)).set 1 (.int .u64 V1)).set 2 (.int .i64 V2)).set 3 (.int .i64 V3)).set 4 (.int .i64 V4)).set 5 (.int .i64 V5)).set 6 (.bool (V6 == 1))).set 7 (.slice (some ⟨G1, 0, none⟩) NN NN)).set 8 (.slice x MM MM) = supV RR (some ⟨G1, 0, none⟩) x NN MM) := fun x => by rw [HW.out]; rfl
  have HC7 : Hid (((((((((zS.set 0 (.int .u64 V0)).set 1 (.int .u64 V1)).set 2 (.int .i64 V2)).set 3 (.int .i64 V3)).set 4 (.int .i64 V4)).set 5 (.int .i64 V5)).set 6 (.bool (V6 == 1))).set 7 (.slice (some ⟨G1, 0, none⟩) NN NN))[7]? = some (.slice (some ⟨G1, 0, none⟩) NN NN)) := rfl
  have HC8' : Hid (∃ v, ((((((((zS.set 0 (.int .u64 V0)).set 1 (.int .u64 V1)).set 2 (.int .i64 V2)).set 3 (.int .i64 V3)).set 4 (.int .i64 V4)).set 5 (.int .i64 V5)).set 6 (.bool (V6 == 1))).set 7 (.slice (some ⟨G1, 0, none⟩) NN NN))[8]? = some v) := ⟨_, rfl⟩
  generalize ((((((((zS.set 0 (.int .u64 V0)).set 1 (.int .u64 V1)).set 2 (.int .i64 V2)).set 3 (.int .i64 V3)).set 4 (.int .i64 V4)).set 5 (.int .i64 V5)).set 6 (.bool (V6 == 1))).set 7 (.slice (some ⟨G1, 0, none⟩) NN NN)) = CC at *
  clear HW hG1
  have h9 : Hid (Rd B w0 w9 g (HS + 1) HS (star (blkA G1 3 (si NN (sk 0 VS))) X) (rdS (fun _ => 12) S8 0) CC) := by
    have e : si NN (sk 0 VS) = si NN (sk 0 fun _ => 0) := rfl
    rw [e]
    show Rd B w0 w9 g (HS + 1) HS _ S8 CC
    rw [HS8.out]
    exact h8.out
  clear h8 HS8
  go_loopw [35] (fun i wr => ∃ k : Nat, k ≤ NN ∧ i = .int .i64 (k : Int) ∧ Hid (Rd B w0 wr g (HS + 1) HS (star (blkA G1 3 (si NN (sk k VS))) X) (rdS (fun _ => 12) S8 k) CC)) (fun i _ => NN - (intOf i).toNat)
  case atStart => exact ⟨0, Nat.zero_le _, rfl, h9.out⟩
  case round =>
    clear h9
    obtain ⟨k, hk, rfl, hh⟩ := hrel
    by_cases hlt : k < NN
    · have hk' : (k : Int) < (NN : Int) := by omega
      have hk0 : (0 : Int) ≤ (k : Int) := by omega
      have hr2 : Hid (Rd B w0 wr.drew g (HS + 1) HS (star (blkA G1 3 (si NN (sk k VS))) X) (rdS (fun _ => 12) S8 k) CC) := Hold.drew ((firm_rdr _ _ _).star (firm_rd ((firm_blk _ _ _).star hX))) hh.out
      clear hh
      go_wp2
      refine wp_region_noPanic ?_
      refine wp_region_held_drew (S := fun z : World => z.cell? ⟨HS + 1, 7, none⟩ = some (.slice (some ⟨G1, 0, none⟩) NN NN)) (by kernel_rfl) (hr2.out.own.cell HC7.out) (fun hHeld => ?_)
      refine wpAnyH_take (i := 0) (v := ?_) rfl (by kernel_rfl) (by kernel_rfl) (by kernel_rfl) (fun _ _ _ h => h) (Or.inl ⟨by rfl, ?_⟩) (by assumption) ?_
      rotate_left
      · intro w hSw; go_simp; try with_reducible rfl
      go_simp
      refine wpAnyH_take (i := 1) (v := ?_) rfl (by kernel_rfl) (by kernel_rfl) (by kernel_rfl) (fun _ _ _ h => h) (Or.inl ⟨by rfl, ?_⟩) (by assumption) ?_
      rotate_left
      · intro w hSw; go_simp; try with_reducible rfl
      go_simp
      refine wpAnyH_take (i := 2) (v := ?_) rfl (by kernel_rfl) (by kernel_rfl) (by kernel_rfl) (fun _ _ _ h => h) (Or.inl ⟨by rfl, ?_⟩) (by assumption) ?_
      rotate_left
      · intro w hSw; go_simp; try with_reducible rfl
      go_simp
      refine wpAnyH_take (i := 3) (v := ?_) rfl (by kernel_rfl) (by kernel_rfl) (by kernel_rfl) (fun _ _ _ h => h) (Or.inl ⟨by rfl, ?_⟩) (by assumption) ?_
      rotate_left
      · intro w hSw; go_simp; try with_reducible rfl
      go_simp
      refine wpAnyH_ready (rs := [4]) (by kernel_rfl) (by simp) (AllReadyH.cons rfl (fun K hK => ?_) AllReadyH.nil)
      go_simp
      go_at_call 23
      refine (NS.out _ _ _ _ k hr2.out).mono ?_
      rintro x wa ⟨rfl, ha'⟩
      have ha : Hid (Rd B w0 wa g (HS + 1) HS (star (blkA G1 3 (si NN (sk k VS))) X) (rdS (fun _ => 12) S8 (k + 1)) CC) := ha'
      have cG := ha'.row.cell (si_at NN (sk k VS) k hlt)
      have fG := ha'.row.frozen k
      clear ha' hr2
      refine hK.out _ _ (ha.out.own.cell HC7.out) (fun hHeld => ?_)
      clear hK K
      refine wpAnyH_take (i := 5) (v := ?_) rfl (by kernel_rfl) (by kernel_rfl) (by kernel_rfl) (fun _ _ _ h => h) (Or.inl ⟨by rfl, ?_⟩) (by assumption) ?_
      rotate_left
      · intro w hSw; go_simp; try with_reducible rfl
      go_simp
      refine wpAnyH_ready (rs := [6]) (by kernel_rfl) (by simp) (AllReadyH.cons rfl (fun K hK => ?_) AllReadyH.nil)
      go_simp
      refine hK.out _ _ ((ha.out.setRow hX k (.int .i64 (VS k))).own.cell HC7.out) (fun hHeld => ?_)
      clear hK K
      refine wpAnyH_done (by kernel_rfl) ?_ _
      refine NoPanic.normal ?_
      have hb : Hid (Rd B w0 (wa.setCell ⟨G1, k, none⟩ (.int .i64 (VS k))) g (HS + 1) HS (star (blkA G1 3 (si NN (sk (k + 1) VS))) X) (rdS (fun _ => 12) S8 (k + 1)) CC) := by rw [← si_step]; exact ha.out.setRow hX k (.int .i64 (VS k))
      clear ha cG fG hHeld
      go_wp2
      go_roundw
      case rel => exact ⟨k + 1, by omega, by go_num, hb.out⟩
      case measure => simp [intOf]; omega
    · obtain rfl : k = NN := by omega
      have hk' : ¬ (k : Int) < (k : Int) := by omega
      have hh2 : Hid (Rd B w0 wr g (HS + 1) HS (star (blkA G1 3 (si k (sk k VS))) X) SS CC) := by rw [HSS.out]; exact hh.out
      clear hh HSS
      go_wp2_with (go_at_call 23; refine (NM.out _ _ _ _ hh2.out).mono ?_; rintro x wb ⟨rfl, hbr⟩; have hbm := hbr.more ((firm_blk _ _ _).star hX) 64 ML; obtain ⟨v8, hv8⟩ := HC8'.out; have c8 := hbm.own.cell hv8; have f8 := hbm.own.frozen 8; have k8 := Rd.set ((firm_blk _ _ _).star ((firm_blk _ _ _).star hX)) hbm 8 (.slice (some ⟨wb.heap.size, 0, none⟩) MM MM); have HB : Hid (Rd B w0 _ g (HS + 1) HS (star (blkA wb.heap.size 64 ML) (star (blkA G1 3 (si k (sk k VS))) X)) SM (CC.set 8 (.slice (some ⟨wb.heap.size, 0, none⟩) MM MM))) := k8; have d8 := k8.own.cell (i := 8) (List.getElem?_set_self (List.getElem?_eq_some_iff.1 hv8).1); clear hbr hbm k8 hh2 hv8)
      clear c8 f8 d8 hmm
      obtain ⟨G2, hG2⟩ : ∃ G2, wb.heap.size = G2 := ⟨_, rfl⟩
      rw [hG2] at HB ⊢
      rw [HC8.out] at HB
      have HD8 : Hid ((supV RR (some ⟨G1, 0, none⟩) (some ⟨G2, 0, none⟩) k MM)[8]? = some (.slice (some ⟨G2, 0, none⟩) MM MM)) := by
        show _ = _
        obtain ⟨v8, hv8⟩ := HC8'.out
        rw [← HC8.out, List.getElem?_set_self (List.getElem?_eq_some_iff.1 hv8).1]
      generalize (wb.alloc (.cells ML.toArray 64)).setCell ⟨HS + 1, 8, none⟩ (.slice (some ⟨G2, 0, none⟩) MM MM) = wz at *
      have HLN : Hid ((supV RR (some ⟨G1, 0, none⟩) (some ⟨G2, 0, none⟩) k MM).length = 9) := rfl
      obtain ⟨DD, hDD⟩ : ∃ DD, supV RR (some ⟨G1, 0, none⟩) (some ⟨G2, 0, none⟩) k MM = DD := ⟨_, rfl⟩
      have HONE : Hid (∀ v ∈ supV RR (some ⟨G1, 0, none⟩) (some ⟨G2, 0, none⟩) k MM, v.oneCell' = true) := fun v hv => by
        simp only [supV, List.mem_cons, List.not_mem_nil, or_false] at hv
        rcases hv with rfl | rfl | rfl | rfl | rfl | rfl | rfl | rfl | rfl <;> rfl
      rw [hDD] at HB HD8 HLN HONE
      have HDD : Hid _ := hDD
      clear hDD hG2 HC7 HC8 HC8'
      have HPM : Hid (memP ML MM (sk 0 VT) (tk 0 VO) (tk 0 VL)) := HML.out
      clear HML
      obtain ⟨wq, hwq⟩ : ∃ wq, wq = wr := ⟨_, rfl⟩
      subst hwq
      go_loopw [52] (fun i wr => ∃ (j : Nat) (M : List Value), j ≤ MM ∧ i = .int .i64 (j : Int) ∧ Hid (memP M MM (sk j VT) (tk j VO) (tk j VL)) ∧ Hid (Rd B w0 wr g (HS + 1) HS (star (blkA G2 64 M) (star (blkA G1 3 (si k (sk k VS))) X)) (mbS 4 SM j) DD)) (fun i _ => MM - (intOf i).toNat)
      case atStart => exact ⟨0, ML, Nat.zero_le _, rfl, HPM.out, HB.out⟩
      case round =>
        clear HB HPM
        obtain ⟨j, M, hj, rfl, hP, hh⟩ := hrel
        by_cases hlt2 : j < MM
        · have hj' : (j : Int) < (MM : Int) := by omega
          have hj0 : (0 : Int) ≤ (j : Int) := by omega
          have hr2 : Hid (Rd B w0 wr.drew g (HS + 1) HS (star (blkA G2 64 M) (star (blkA G1 3 (si k (sk k VS))) X)) (mbS 4 SM j) DD) := Hold.drew ((firm_rdr _ _ _).star (firm_rd ((firm_blk _ _ _).star ((firm_blk _ _ _).star hX)))) hh.out
          clear hh
          go_wp2
          refine wp_region_noPanic ?_
          refine wp_region_held_drew (S := fun z : World => z.cell? ⟨HS + 1, 8, none⟩ = some (.slice (some ⟨G2, 0, none⟩) MM MM)) (by kernel_rfl) (hr2.out.own.cell HD8.out) (fun hHeld => ?_)
          refine wpAnyH_take (i := 0) (v := ?_) rfl (by kernel_rfl) (by kernel_rfl) (by kernel_rfl) (fun _ _ _ h => h) (Or.inl ⟨by rfl, ?_⟩) (by assumption) ?_
          rotate_left
          · intro w hSw; go_simp; try with_reducible rfl
          go_simp
          refine wpAnyH_take (i := 1) (v := ?_) rfl (by kernel_rfl) (by kernel_rfl) (by kernel_rfl) (fun _ _ _ h => h) (Or.inl ⟨by rfl, ?_⟩) (by assumption) ?_
          rotate_left
          · intro w hSw; go_simp; try with_reducible rfl
          go_simp
          refine wpAnyH_take (i := 2) (v := ?_) rfl (by kernel_rfl) (by kernel_rfl) (by kernel_rfl) (fun _ _ _ h => h) (Or.inl ⟨by rfl, ?_⟩) (by assumption) ?_
          rotate_left
          · intro w hSw; go_simp; try with_reducible rfl
          go_simp
          refine wpAnyH_take (i := 3) (v := ?_) rfl (by kernel_rfl) (by kernel_rfl) (by kernel_rfl) (fun _ _ _ h => h) (Or.inl ⟨by rfl, ?_⟩) (by assumption) ?_
          rotate_left
          · intro w hSw; go_simp; try with_reducible rfl
          go_simp
          refine wpAnyH_take (i := 5) (v := ?_) rfl (by kernel_rfl) (by kernel_rfl) (by kernel_rfl) (fun _ _ _ h => h) (Or.inl ⟨by rfl, ?_⟩) (by assumption) ?_
          rotate_left
          · intro w hSw; go_simp; try with_reducible rfl
          go_simp
          refine wpAnyH_take (i := 7) (v := ?_) rfl (by kernel_rfl) (by kernel_rfl) (by kernel_rfl) (fun _ _ _ h => h) (Or.inl ⟨by rfl, ?_⟩) (by assumption) ?_
          rotate_left
          · intro w hSw; go_simp; try with_reducible rfl
          go_simp
          refine wpAnyH_ready (rs := [4]) (by kernel_rfl) (by simp) (AllReadyH.cons rfl (fun K hK => ?_) AllReadyH.nil)
          go_simp
          go_at_call 23
          refine (M1.out _ _ _ _ _ _ j hr2.out).mono ?_
          rintro x wa ⟨rfl, ha'⟩
          have ha : Hid (Rd B w0 wa g (HS + 1) HS (star (blkA G2 64 M) (star (blkA G1 3 (si k (sk k VS))) X)) (m1 4 (mbS 4 SM j)) DD) := ha'
          clear ha' hr2
          refine hK.out _ _ (ha.out.own.cell HD8.out) (fun hHeld => ?_)
          clear hK K
          refine wpAnyH_ready (rs := [6]) (by kernel_rfl) (by simp) (AllReadyH.cons rfl (fun K hK => ?_) AllReadyH.nil)
          go_simp
          go_at_call 24
          refine (M2.out _ _ _ _ _ _ j ha.out).mono ?_
          rintro x wc ⟨rfl, hc'⟩
          have hc : Hid (Rd B w0 wc g (HS + 1) HS (star (blkA G2 64 M) (star (blkA G1 3 (si k (sk k VS))) X)) (m2 (m1 4 (mbS 4 SM j))) DD) := hc'
          clear hc' ha
          refine hK.out _ _ (hc.out.own.cell HD8.out) (fun hHeld => ?_)
          clear hK K
          refine wpAnyH_ready (rs := [8]) (by kernel_rfl) (by simp) (AllReadyH.cons rfl (fun K hK => ?_) AllReadyH.nil)
          go_simp
          go_at_call 24
          refine (M3.out _ _ _ _ _ _ j hc.out).mono ?_
          rintro x wd ⟨rfl, hd'⟩
          have hd : Hid (Rd B w0 wd g (HS + 1) HS (star (blkA G2 64 M) (star (blkA G1 3 (si k (sk k VS))) X)) (mbS 4 SM (j + 1)) DD) := hd'
          clear hd' hc
          refine hK.out _ _ (hd.out.own.cell HD8.out) (fun hHeld => ?_)
          clear hK K
          refine wpAnyH_take (i := 9) (v := ?_) rfl (by kernel_rfl) (by kernel_rfl) (by kernel_rfl) (fun _ _ _ h => h) (Or.inl ⟨by rfl, ?_⟩) (by assumption) ?_
          rotate_left
          · intro w hSw; go_simp; try with_reducible rfl
          go_simp
          refine wpAnyH_take (i := 10) (v := ?_) rfl (by kernel_rfl) (by kernel_rfl) (by kernel_rfl) (fun _ _ _ h => h) (Or.inl ⟨by rfl, ?_⟩) (by assumption) ?_
          rotate_left
          · intro w hSw; go_simp; try with_reducible rfl
          go_simp
          have HE : Hid (Rd B w0 (wd.setCells G2 (j * 3) [.int .i64 (VT j), .string (VO j), .string (VL j)]) g (HS + 1) HS (star (blkA G2 64 (set3 M (j * 3) (VT j) (VO j) (VL j))) (star (blkA G1 3 (si k (sk k VS))) X)) (mbS 4 SM (j + 1)) DD) := ((hd.out.setRow ((firm_blk _ _ _).star hX) (j * 3) (.int .i64 (VT j))).setRow ((firm_blk _ _ _).star hX) (j * 3 + 1) (.string (VO j))).setRow ((firm_blk _ _ _).star hX) (j * 3 + 1 + 1) (.string (VL j))
          have HTH : Hid (wd.there G2 (j * 3) 3) := there3 hd.out.row hP.out.1 hlt2
          refine wpAnyH_ready (rs := [11]) (by kernel_rfl) (by simp) (AllReadyH.cons rfl (fun K hK => ?_) AllReadyH.nil)
          refine step_store_midR rfl 64 _ _ rfl G2 (j * 3) #[.int .i64 (VT j), .string (VO j), .string (VL j)] rfl rfl HTH.out Tryd.size64 (show (mrow (VT j) (VO j) (VL j)).toArray.all _ = true from all_oneCell_toArray (mrow_one _ _ _)) ?_
          refine hK.out _ _ (HE.out.own.cell HD8.out) (fun hHeld => ?_)
          clear hK K
          refine wpAnyH_done (by kernel_rfl) ?_ _
          refine NoPanic.normal ?_
          have HP2 : Hid (memP (set3 M (j * 3) (VT j) (VO j) (VL j)) MM (sk (j + 1) VT) (tk (j + 1) VO) (tk (j + 1) VL)) := memP_step hP.out hlt2
          clear hd HTH hHeld hP
          go_simp
          generalize wd.setCells G2 (j * 3) [.int .i64 (VT j), .string (VO j), .string (VL j)] = wn at *
          go_wp2
          go_roundw
          case rel => exact ⟨j + 1, _, by omega, by go_num, HP2.out, HE.out⟩
          case measure => simp [intOf]; omega
        · obtain rfl : j = MM := by omega
          have hj' : ¬ (j : Int) < (j : Int) := by omega
          have hb2 := (Hold.mono hh.out (fun F h => star_monoR h (fun F h => star_swap h))).swap
          have hb3 : Hid (Hold _ _ _ _) := hb2.setRowBlk ((firm_rdr _ _ _).star ((firm_blk _ _ _).star ((firm_blk _ _ _).star ((firm_blk _ _ _).star hX)))) DD
          have HB2 : Hid (Blk wr HS 26 zS) := hb2.blk
          have HR3 : Hid ((loadVar 26 ⟨HS, 0, none⟩).run Tryd.prog (wr.setRow HS DD.toArray) = .ok (.agg DD.toArray) (wr.setRow HS DD.toArray)) := run_loadVar_row _ HS 26 26 DD.toArray (0, 0) _ hb3.out.blk Tryd.underlying26 rfl (by rw [Tryd.size26]; simp [HLN.out])
          have HLI2 : Hid (memP M j RR.st RR.top RR.log) := by
            show memP _ _ _ _ _
            rw [HLI.out.2.1, HLI.out.2.2.1, HLI.out.2.2.2]; exact memP_full hP.out
          have HFI : Hid (Hold B w0 (wr.setRow HS DD.toArray) (star (rdr g FF.1 FF.2) (star (blkA G2 64 M) (star (blkA G1 3 (si k RR.seat)) X)))) := by
            show Hold _ _ _ _
            rw [HFIN.out, HLI.out.1, ← si_full]; exact hb3.out.right.swap.right
          have HOWN : Hid (Blk wr (HS + 1) 26 DD) := Rd.own hh.out
          have HSZ : Hid ((Tryd.prog.info? 26).map (·.size) = some DD.length) := by
            show _ = _
            rw [Tryd.size26, HLN.out]
          clear hb2
          go_wp2_with (first
            | (refine wpList_load_blk rfl 26 _ rfl (HS + 1) rfl 26 DD _ HOWN.out Tryd.underlying26 rfl HSZ.out ?_)
            | (refine wpList_store_blk rfl 26 _ _ rfl HS zS DD rfl rfl 26 HB2.out HSZ.out (by rw [HLN.out]; rfl) HONE.out ?_))
          exact bodyPost_ret_by (v := .agg DD.toArray) (results_cell 2 26 ⟨HS, 0, none⟩ Tryd.results11 rfl HR3.out) rfl ⟨_, _, by rw [← HDD.out], M, HLI2.out, HFI.out⟩
end
end Go.Proofs.YtbjmhpbelkndpaaDoor
