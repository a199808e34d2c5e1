/- The records that a law makes of plain data. -/
import Derived.Test.YtbjmhpbelkndpaaDoorSuRec1
import Derived.Test.YtbjmhpbelkndpaaDoorSuGood2
import Derived.Test.YtbjmhpbelkndpaaDoorTrCells
namespace Go.Proofs.YtbjmhpbelkndpaaDoor
open Go.RowKit Go.PlainAid
set_option linter.unusedVariables false
set_option maxRecDepth 20000

set_option maxRecDepth 20000 in
set_option maxHeartbeats 16000000 in
theorem records_any (x : Raw) (A : Nat → Int) (D : Nat → Dsk) (w : World) (hx : x.At A D w) : Calls Tryd.prog 18 #[.agg x.row.toArray] w fun e w' => ∃ sa sc ma mc mb md, e = .returned (.tuple #[.agg (supV (x.toR A D) sa ma sc mc).toArray, .agg (supV (x.toR A D) sa mb sc md).toArray]) ∧
    Hold w.heap.size w w' (star (rowK 3 1 (.slice sa (x.toR A D).ns sc) (x.toR A D).ns (si (x.toR A D).ns (x.toR A D).seat)) (star (rowK 64 3 (.slice ma (x.toR A D).nm mc) (x.toR A D).nm (memF (x.toR A D).st (x.toR A D).top (x.toR A D).log (x.toR A D).nm)) (star (rowK 49 3 (.slice mb (x.toR A D).nm md) (x.toR A D).nm (memF (x.toR A D).st (x.toR A D).top (x.toR A D).log (x.toR A D).nm)) nought))) := by
  obtain ⟨HS, hHS⟩ : ∃ HS, w.heap.size = HS := ⟨_, rfl⟩
  have hX := firm_nought
  have h : Hold HS w w nought := by rw [← hHS]; exact hold_nought _ _ _ (Nat.le_refl _) (Below.refl _ _)
  have k1 := h.newBlk hX 59 x.row.toArray
  have k2 := k1.newBlk ((firm_blk _ _ _).star hX) 26 zS.toArray
  have k3 := k2.newBlk ((firm_blk _ _ _).star ((firm_blk _ _ _).star hX)) 32 zS.toArray
  rw [World.size_alloc, World.size_alloc, hHS] at k3
  obtain ⟨C, hC1, hC2, hC3⟩ : ∃ C : Nat, (if (30 : Int) < (x.xn : Int) then (30 : Int) else (x.xn : Int)) = (C : Int) ∧ C = min x.xn 30 ∧ C ≤ x.xn := ⟨min x.xn 30, by split <;> omega, rfl, by omega⟩
  have hxl := hx.xl
  have hdl := hx.dl
  have hC4 : C ≤ x.xc := by omega
  have hbelow : Below w.heap.size w (((w.alloc (.cells x.row.toArray 59)).alloc (.cells zS.toArray 26)).alloc (.cells zS.toArray 32)) := (((Below.refl _ _).alloc (Nat.le_refl _) _).alloc (by simp) _).alloc (by simp; omega) _
  have hx3 := hx.below hbelow
  obtain ⟨sa, sc, w4, hrun, k4⟩ := seats_app ((firm_blk _ _ _).star ((firm_blk _ _ _).star ((firm_blk _ _ _).star hX))) k3 x A D hx3 C hC3 (by omega)
  have k6 : Hold HS w w4 (star (blkA HS 59 x.row) (star (rowK 3 1 (.slice sa C sc) C (si C A)) (star (blkA (HS + 1 + 1) 32 zS) (star (blkA (HS + 1) 26 zS) nought)))) := k4.mono (fun F h => by
    have e1 := star_monoR h (fun F h => star_monoR h (fun F h => star_swap h))
    have e2 := star_monoR e1 (fun F h => star_swap h)
    exact star_swap e2)
  have k7 := k6.setBlk ((firm_rowK _ _ _ _ _).star ((firm_blk _ _ _).star ((firm_blk _ _ _).star hX))) 7 (.slice sa C sc)
  have c7 := k3.right.right.blk.cell (i := 7) rfl
  have d7 := k6.blk.cell (i := 7) rfl
  have f7 := k6.blk.frozen 7
  obtain ⟨w5, hw5⟩ : ∃ w5, w4.setCell ⟨HS, 7, none⟩ (.slice sa C sc) = w5 := ⟨_, rfl⟩
  rw [hw5] at k7
  have q0 := k7.blk.cell (i := 0) rfl
  have q1 := k7.blk.cell (i := 1) rfl
  have q2 := k7.blk.cell (i := 2) rfl
  have q3 := k7.blk.cell (i := 3) rfl
  have q4 := k7.blk.cell (i := 4) rfl
  have q5 := k7.blk.cell (i := 5) rfl
  have q6 := k7.blk.cell (i := 6) rfl
  have q7 := k7.blk.cell (i := 7) rfl
  have q8 := k7.blk.cell (i := 8) rfl
  obtain ⟨M, hM1, hM2, hM3⟩ : ∃ M : Nat, (if (20 : Int) < (x.dn : Int) then (20 : Int) else (x.dn : Int)) = (M : Int) ∧ M = min x.dn 20 ∧ M ≤ x.dn := ⟨min x.dn 20, by split <;> omega, rfl, by omega⟩
  have hM4 : M ≤ x.dc := by omega
  have hM5 : M ≤ 20 := by omega
  have hC5 : C ≤ 30 := by omega
  obtain ⟨LA, hLA⟩ : ∃ LA : Value → List Value, LA = fun v => [.int .u64 x.count, .int .u64 x.epoch, .int .i64 x.data, .int .i64 x.slots, .int .i64 x.mark, .int .i64 x.built, .bool x.grow, .slice sa C sc, v] := ⟨_, rfl⟩
  obtain ⟨RE, hRE⟩ : ∃ RE : Asn, star (blkA HS 59 (x.row.set 7 (.slice sa C sc))) (star (rowK 3 1 (.slice sa C sc) C (si C A)) (star (blkA (HS + 1 + 1) 32 zS) (star (blkA (HS + 1) 26 zS) nought))) = RE := ⟨_, rfl⟩
  have fR : Firm RE := by rw [← hRE]; exact (firm_blk _ _ _).star ((firm_rowK _ _ _ _ _).star ((firm_blk _ _ _).star ((firm_blk _ _ _).star hX)))
  have HRB : Hid (∀ z, (∃ P, Firm P ∧ Hold HS w z (star P RE)) → z.cell? ⟨HS, 8, none⟩ = some (.slice x.da x.dn x.dc)) := fun z ⟨P, _, h⟩ => by rw [← hRE] at h; exact h.right.blk.cell rfl
  have k7' : Hold HS w w5 RE := by rw [← hRE]; exact k7
  have k8 := k7'.newBlk fR 26 (LA (.slice none 0 0)).toArray
  have k9 := k8.newBlk ((firm_blk _ _ _).star fR) 32 (LA (.slice none 0 0)).toArray
  rw [World.size_alloc, List.toList_toArray] at k9
  obtain ⟨Ga, hGa⟩ : ∃ Ga, w5.heap.size = Ga := ⟨_, rfl⟩
  rw [hGa] at k8 k9
  have HGA : Hid (HS + 1 + 1 < Ga) := by have := k7.right.right.blk.lt; rw [hGa] at this; exact this
  have k8r := k8.right
  rw [← hRE] at k8r
  have p0 := k8r.blk.cell (i := 0) rfl
  have p1 := k8r.blk.cell (i := 1) rfl
  have p2 := k8r.blk.cell (i := 2) rfl
  have p3 := k8r.blk.cell (i := 3) rfl
  have p4 := k8r.blk.cell (i := 4) rfl
  have p5 := k8r.blk.cell (i := 5) rfl
  have p6 := k8r.blk.cell (i := 6) rfl
  have p7 := k8r.blk.cell (i := 7) rfl
  have p8 := HRB.out _ ⟨_, firm_blk _ _ _, k9.right⟩
  have HST : Hid (StR HS w ((w5.alloc (.cells (LA (.slice none 0 0)).toArray 26)).alloc (.cells (LA (.slice none 0 0)).toArray 32)) Ga (Ga + 1) LA RE (x.toR A D).st (x.toR A D).top (x.toR A D).log 0 0 (.slice none 0 0) (.slice none 0 0)) := by
    refine k9.swap.mono (fun F h => ?_)
    obtain ⟨G, H, h1, ⟨I, J, h2, h3, h4, h5⟩, h6, h7⟩ := h
    exact ⟨G, H, star_nilK h1, ⟨I, J, star_nilK h2, h3, h4, h5⟩, h6, h7⟩
  have HCA : Hid (∀ v u, (LA v).set 8 u = LA u) := fun v u => by rw [hLA]; rfl
  have HC8 : Hid (∀ v, (LA v)[8]? = some v) := fun v => by rw [hLA]; rfl
  have HLN : Hid (∀ v, (LA v).length = 9) := fun v => by rw [hLA]; rfl
  have HLO : Hid (∀ a n c, ∀ u ∈ LA (.slice a n c), u.oneCell' = true) := fun a n c u hu => by
    rw [hLA] at hu
    simp only [List.mem_cons, List.not_mem_nil, or_false] at hu
    rcases hu with rfl | rfl | rfl | rfl | rfl | rfl | rfl | rfl | rfl <;> rfl
  have HSU : Hid (∀ (ma : Option Addr) (mc : Nat), supV (x.toR A D) sa ma sc mc = LA (.slice ma M mc)) := fun ma mc => by rw [hLA, hM2]; show [_, _, _, _, _, _, _, Value.slice sa (min x.xn 30) sc, _] = _; rw [← hC2]; rfl
  have HN1 : Hid ((x.toR A D).ns = C ∧ (x.toR A D).nm = M ∧ (x.toR A D).seat = A) := ⟨hC2.symm, hM2.symm, rfl⟩
  have HRD : Hid ((x.toR A D).st = (fun i => (D i).st) ∧ (x.toR A D).top = (fun i => dgB (D i).top (if (D i).short then 30 else 31)) ∧ (x.toR A D).log = fun i => dgB (D i).log 31) := ⟨rfl, rfl, rfl⟩
  have HDX0 : ∀ w', Below w.heap.size w w' → ∀ i, i < x.dn → ∃ b o, x.da = some ⟨b, o, none⟩ ∧ (D i).Ok ∧ w'.rangeAt b (o + i * 4) (D i).row := hx.dx
  rw [hHS] at HDX0
  have HDX : Hid (∀ w', Below HS w w' → ∀ i, i < x.dn → ∃ b o, x.da = some ⟨b, o, none⟩ ∧ (D i).Ok ∧ w'.rangeAt b (o + i * 4) (D i).row) := HDX0
  clear HDX0
  have HREq : Hid _ := hRE
  have HFR : Hid (Firm RE) := fR
  have e0 : LA (.slice none 0 0) = [.int .u64 x.count, .int .u64 x.epoch, .int .i64 x.data, .int .i64 x.slots, .int .i64 x.mark, .int .i64 x.built, .bool x.grow, .slice sa C sc, .slice none 0 0] := by rw [hLA]
  rw [e0] at p0
  rw [e0] at p1
  rw [e0] at p2
  rw [e0] at p3
  rw [e0] at p4
  rw [e0] at p5
  rw [e0] at p6
  rw [e0] at p7
  rw [e0] at p8 HST
  have hz1 : ∀ w, (zeroValue 26).run Tryd.prog w = .ok (.agg #[.int .u64 0, .int .u64 0, .int .i64 0, .int .i64 0, .int .i64 0, .int .i64 0, .bool false, .slice none 0 0, .slice none 0 0]) w := zeroSup
  have hz2 : ∀ w, (zeroValue 32).run Tryd.prog w = .ok (.agg #[.int .u64 0, .int .u64 0, .int .i64 0, .int .i64 0, .int .i64 0, .int .i64 0, .bool false, .slice none 0 0, .slice none 0 0]) w := zeroRSup
  clear k1 k2 k3 k4 k6 k7 k7' k8 k8r k9 hx hx3 hbelow hC2 hM2 hRE fR hLA e0 h hX
  generalize x.toR A D = RR at *
  have hrun : (Builtin.append_ #[23, 23] 23 #[.slice none 0 0, .slice x.xa C x.xc]).run Tryd.prog (((w.alloc (.cells #[.int .u64 x.count, .int .u64 x.epoch, .int .i64 x.data, .int .i64 x.slots, .int .i64 x.mark, .int .i64 x.built, .bool x.grow, .slice x.xa x.xn x.xc, .slice x.da x.dn x.dc] 59)).alloc (.cells #[.int .u64 0, .int .u64 0, .int .i64 0, .int .i64 0, .int .i64 0, .int .i64 0, .bool false, .slice none 0 0, .slice none 0 0] 26)).alloc (.cells #[.int .u64 0, .int .u64 0, .int .i64 0, .int .i64 0, .int .i64 0, .int .i64 0, .bool false, .slice none 0 0, .slice none 0 0] 32)) = .ok (.slice sa C sc) w4 := hrun
  obtain ⟨xrow, hxrow⟩ : ∃ xr, x.row = xr := ⟨_, rfl⟩
  have hxr2 : x.row = [.int .u64 x.count, .int .u64 x.epoch, .int .i64 x.data, .int .i64 x.slots, .int .i64 x.mark, .int .i64 x.built, .bool x.grow, .slice x.xa x.xn x.xc, .slice x.da x.dn x.dc] := rfl
  rw [hxr2]
  clear hxrow hxr2 xrow
  generalize x.count = xcount at *
  generalize x.epoch = xepoch at *
  generalize x.data = xdata at *
  generalize x.slots = xslots at *
  generalize x.mark = xmark at *
  generalize x.built = xbuilt at *
  generalize x.grow = xgrow at *
  generalize x.xa = xxa at *
  generalize x.xn = xxn at *
  generalize x.xc = xxc at *
  generalize x.da = xda at *
  generalize x.dn = xdn at *
  generalize x.dc = xdc at *
  have hmsz : maxLen = 9223372036854775807 ∨ True := .inr trivial
  clear hmsz
  obtain ⟨hxl1, hxl2⟩ := hxl
  obtain ⟨hdl1, hdl2⟩ := hdl
  go_enter Tryd.func18, Tryd.ntmps18
  go_wp2_with (at_builtin; refine Lib.wpList_append_run _ rfl _ _ 23 23 rfl _ _ rfl rfl _ _ hrun ?_)
  clear q0 q1 q2 q3 q4 q5 q6 q7 q8 p0 p1 p2 p3 p4 p5 p6 p7 p8 c7 d7 f7 hrun hz1 hz2 hC1 hM1 hw5
  generalize ((w5.alloc (.cells #[.int .u64 xcount, .int .u64 xepoch, .int .i64 xdata, .int .i64 xslots, .int .i64 xmark, .int .i64 xbuilt, .bool xgrow, .slice sa C sc, .slice none 0 0] 26)).alloc (.cells #[.int .u64 xcount, .int .u64 xepoch, .int .i64 xdata, .int .i64 xslots, .int .i64 xmark, .int .i64 xbuilt, .bool xgrow, .slice sa C sc, .slice none 0 0] 32)) = w7 at *
  obtain ⟨Z, hZl, hZ⟩ := zeroDisk
  have HZ : Hid (Z.length = 4) := hZl
  obtain ⟨ZM, hmkM, hZM0⟩ := pz_made 31 (by decide)
  have hZM : ∀ x : World, PZ x.heap.size 31 (x.alloc (.cells ZM 5 (0, 0))) := hZM0
  have hmkM : ∀ x : World, (Instr.makeSlice 74 (.int .i64 31) (.int .i64 31)).run Tryd.prog x = .ok (.slice (some ⟨x.heap.size, 0, none⟩) 31 31) (x.alloc (.cells ZM 5 (0, 0))) := hmkM
  have HZM : Hid _ := hZM
  have HMKM : Hid _ := hmkM
  clear hZl hZM0 hZM hmkM
  go_loopw [62] (fun i wr => ∃ (k : Nat) (ma mb : Option Addr) (mc md : Nat), k ≤ M ∧ i = .int .i64 (k : Int) ∧ Hid (StR HS w wr Ga (Ga + 1) LA RE RR.st RR.top RR.log k k (.slice ma k mc) (.slice mb k md))) (fun i _ => M - (intOf i).toNat)
  case atStart => exact ⟨0, none, none, 0, 0, Nat.zero_le _, rfl, HST.out⟩
  case round =>
    clear HST
    obtain ⟨k, ma, mb, mc, md, hk, rfl, hh⟩ := hrel
    by_cases hlt : k < M
    · have hk' : (k : Int) < (M : Int) := by omega
      obtain ⟨b, o, hda, hok, hr⟩ := HDX.out wr (Hold.low hh.out) k (by omega)
      subst hda
      obtain ⟨hok1, hok2, hok3⟩ := hok
      have r1 : RR.st k = (D k).st := by rw [HRD.out.1]
      have r2 : RR.top k = dgB (D k).top (if (D k).short then 30 else 31) := by rw [HRD.out.2.1]
      have r3 : RR.log k = dgB (D k).log 31 := by rw [HRD.out.2.2]
      have R1 : Hid _ := r1
      have R2 : Hid _ := r2
      have R3 : Hid _ := r3
      have HR : Hid (wr.rangeAt b (o + k * 4) (D k).row) := hr
      obtain ⟨wx, hwx⟩ : ∃ wx, (wr.alloc (.cells Z.toArray 54)).setRow wr.heap.size (D k).row.toArray = wx := ⟨_, rfl⟩
      have hxx := Below.boxed wr 54 Z (D k).row
      have hxb := Blk.boxed wr 54 Z (D k).row
      rw [hwx] at hxx hxb
      have hst := hh.out.boxed HFR.out 54 Z (D k).row
      rw [hwx] at hst
      have hh2 : Hid (StR HS w wx Ga (Ga + 1) LA (star (blkA wr.heap.size 54 (D k).row) RE) RR.st RR.top RR.log k k (.slice ma k mc) (.slice mb k md)) := hst
      have c0 := hxb.cell (i := 0) rfl
      have c1 := hxb.cell (i := 1) rfl
      have c2 := hxb.cell (i := 2) rfl
      have c3 := hxb.cell (i := 3) rfl
      have HXB : Hid (Blk wx wr.heap.size 54 (D k).row) := hxb
      have HONE : Hid (∀ v ∈ (D k).row, v.oneCell' = true) := (D k).one
      have HLEN : Hid ((D k).row.length = 4) := rfl
      obtain ⟨NN, hNN⟩ : ∃ NN : Nat, NN = (if (D k).short then 30 else 31) := ⟨_, rfl⟩
      have hN31 : NN ≤ 31 := by rw [hNN]; split <;> omega
      have HNN : Hid _ := hNN
      obtain ⟨ZN, hmkN, hZN⟩ := pz_made NN (by omega)
      have HZN : Hid _ := hZN
      have HMKN : Hid _ := hmkN
      clear r1 r2 r3 hr hh hxx hxb hNN hZN hmkN hst
      rw [← HNN.out] at R2
      have HD0 : Hid ((D k).row[0]? = some (.int .i64 (D k).st)) := rfl
      obtain ⟨dr, hdr⟩ : ∃ dr, (D k).row = dr := ⟨_, rfl⟩
      rw [hdr] at HR hwx HXB HONE HLEN hh2 HD0
      clear hdr
      generalize (D k).top = tp at *
      generalize (D k).log = lg at *
      generalize (D k).st = sst at *
      go_upto_if 67 with (first
        | (refine wpList_load_mid rfl 54 _ rfl b (o + k * 4) rfl dr _ HR.out Tryd.underlying54 rfl (by rw [Tryd.size54, HLEN.out]) ?_)
        | (refine wpList_store_blk rfl 54 _ _ rfl wr.heap.size Z dr rfl rfl 54 (Blk.box _ _ _) (by rw [Tryd.size54, HLEN.out]) (by rw [HZ.out, HLEN.out]) HONE.out ?_; rw [hwx]; clear hwx))
      go_cut [8] (fun c wz => c = .int .i64 (NN : Int) ∧ wz = wx)
      case first =>
        cases hsh : (D k).short
        · rw [hsh] at c3
          go_wp2
          go_meet
          case rel => exact ⟨by rw [HNN.out, hsh]; rfl, rfl⟩
        · rw [hsh] at c3
          go_wp2
          go_meet
          case rel => exact ⟨by rw [HNN.out, hsh]; rfl, rfl⟩
      case rest =>
        obtain ⟨rfl, hwc⟩ := hcut
        rw [hwc]
        clear hwc
        go_upto_region 10 with fail
        go_cut [9, 10] (fun s9 s10 wz => s9 = .string (dgB tp NN) ∧ s10 = .string (dgB lg 31) ∧ Below wx.heap.size wx wz)
        case first =>
          have hZN := HZN.out
          have hZM := HZM.out
          have hsz1 : ¬ 9223372036854775807 < (tx 1 fun _ => tp).size + (zB NN).size := by rw [tx_size, zB_size]; omega
          have hsz2 : ¬ 9223372036854775807 < (tx 1 fun _ => lg).size + (zB 31).size := by rw [tx_size, zB_size]; omega
          have hmkN := HMKN.out
          have hmkM := HMKM.out
          obtain ⟨wb, hwb⟩ : ∃ wb, wx = wb := ⟨_, rfl⟩
          rw [hwb] at c1 c2 ⊢
          have HWB : Hid (wx = wb) := hwb
          clear hwb
          have hc1 : Hid (∀ z, Below wb.drew.heap.size wb.drew z → z.cell? ⟨wr.heap.size, 1, none⟩ = some (.int .u8 (tp : Int)) ∧ z.cell? ⟨wr.heap.size, 2, none⟩ = some (.int .u8 (lg : Int)) ∧ Below wb.heap.size wb z) := fun z hz => ⟨(hz.cell (p := ⟨wr.heap.size, 1, none⟩) (cell_blk_lt c1)).trans c1, (hz.cell (p := ⟨wr.heap.size, 2, none⟩) (cell_blk_lt c2)).trans c2, ⟨hz.os, hz.tape, hz.output, hz.size, hz.block⟩⟩
          have hS0 : wb.drew.cell? ⟨wr.heap.size, 1, none⟩ = some (.int .u8 (tp : Int)) ∧ wb.drew.cell? ⟨wr.heap.size, 2, none⟩ = some (.int .u8 (lg : Int)) ∧ Below wb.heap.size wb wb.drew := ⟨c1, c2, (Below.refl _ _).drew⟩
          refine wp_region_noPanic ?_
          refine wp_region_held_drew (S := fun z => z.cell? ⟨wr.heap.size, 1, none⟩ = some (.int .u8 (tp : Int)) ∧ z.cell? ⟨wr.heap.size, 2, none⟩ = some (.int .u8 (lg : Int)) ∧ Below wb.heap.size wb z) (by kernel_rfl) hS0 (fun hHeld => ?_)
          refine wpAnyH_take (i := 0) (v := ?_) rfl (by kernel_rfl) (by kernel_rfl) (by kernel_rfl) (fun _ _ _ h => h) (Or.inl ⟨by rfl, ?_⟩) (by assumption) ?_
          rotate_left
          · intro w hSw; go_simp; try with_reducible rfl
          go_simp
          refine wpAnyH_take (i := 1) (v := ?_) rfl (by kernel_rfl) (by kernel_rfl) (by kernel_rfl) (fun _ _ _ h => h) (Or.inl ⟨by rfl, ?_⟩) (by assumption) ?_
          rotate_left
          · intro w hSw; go_simp; try with_reducible rfl
          go_simp
          refine wpAnyH_take (i := 4) (v := ?_) rfl (by kernel_rfl) (by kernel_rfl) (by kernel_rfl) (fun _ _ _ h => h) (Or.inl ⟨by rfl, ?_⟩) (by assumption) ?_
          rotate_left
          · intro w hSw; go_simp; try with_reducible rfl
          go_simp
          refine wpAnyH_take (i := 8) (v := ?_) rfl (by kernel_rfl) (by kernel_rfl) (by kernel_rfl) (fun _ _ _ h => h) (Or.inl ⟨by rfl, ?_⟩) (by assumption) ?_
          rotate_left
          · intro w hSw; go_simp; try with_reducible rfl
          go_simp
          refine wpAnyH_take (i := 9) (v := ?_) rfl (by kernel_rfl) (by kernel_rfl) (by kernel_rfl) (fun _ _ _ h => h) (Or.inl ⟨by rfl, ?_⟩) (by assumption) ?_
          rotate_left
          · intro w hSw; go_simp; try with_reducible rfl
          go_simp
          obtain ⟨z0, hz0⟩ : ∃ z0, wb.drew = z0 := ⟨_, rfl⟩
          have hL0 : Below wb.heap.size wb z0 := by rw [← hz0]; exact (Below.refl _ _).drew
          rw [hz0] at hc1 ⊢
          refine wpAnyH_weaken (S' := fun z => Below z0.heap.size z0 z) (fun z hz => hc1.out z hz) _ _ _ _ ?_
          have hRf : Below z0.heap.size z0 z0 := Below.refl _ _
          clear hS0 hHeld hz0 c0 c1 c2 c3 hc1 HR hh2 HXB
          refine wpAnyH_ready (rs := [2, 5, 10, 12]) (by kernel_rfl) (by simp) (AllReadyH.cons rfl (fun K hK => ?_) (AllReadyH.cons rfl (fun K hK => ?_) (AllReadyH.cons rfl (fun K hK => ?_) (AllReadyH.cons rfl (fun K hK => ?_) (AllReadyH.nil)))))
          · go_simp
            have cv := conv_byte z0 tp
            have hL1 : Below wb.heap.size wb (z0.alloc (.cells #[.int .u8 (tp : Int)] 5)) := hL0.alloc hL0.size _
            refine hK.out _ _ ((Below.refl z0.heap.size z0).alloc (Nat.le_refl _) _) (fun hHeld => ?_)
            clear hK K
            refine wpAnyH_weaken (S' := fun z => Below (z0.alloc (.cells #[.int .u8 (tp : Int)] 5)).heap.size (z0.alloc (.cells #[.int .u8 (tp : Int)] 5)) z) (fun z hz => ((Below.refl z0.heap.size z0).alloc (Nat.le_refl _) _).trans (hz.mono (by simp))) _ _ _ _ ?_
            have hRf : Below (z0.alloc (.cells #[.int .u8 (tp : Int)] 5)).heap.size (z0.alloc (.cells #[.int .u8 (tp : Int)] 5)) (z0.alloc (.cells #[.int .u8 (tp : Int)] 5)) := Below.refl _ _
            generalize z0.alloc (.cells #[.int .u8 (tp : Int)] 5) = z1 at *
            refine wpAnyH_take (i := 3) (v := .string (tx 1 fun _ => tp)) rfl (by kernel_rfl) (by kernel_rfl) (by kernel_rfl) (fun _ _ _ h => h) (Or.inl ⟨by rfl, ?_⟩) hRf ?_
            · intro w hSw; have hcr := cv _ hSw; go_simp; try with_reducible rfl
            go_simp
            clear cv
            refine wpAnyH_ready (rs := [5, 10, 12]) (by kernel_rfl) (by simp) (AllReadyH.cons rfl (fun K hK => ?_) (AllReadyH.cons rfl (fun K hK => ?_) (AllReadyH.cons rfl (fun K hK => ?_) (AllReadyH.nil))))
            · go_simp
              have cv := conv_noughts z1 NN ZN hZN
              have hL2 : Below wb.heap.size wb (z1.alloc (.cells ZN 5)) := hL1.alloc hL1.size _
              refine hK.out _ _ ((Below.refl z1.heap.size z1).alloc (Nat.le_refl _) _) (fun hHeld => ?_)
              clear hK K
              refine wpAnyH_weaken (S' := fun z => Below (z1.alloc (.cells ZN 5)).heap.size (z1.alloc (.cells ZN 5)) z) (fun z hz => ((Below.refl z1.heap.size z1).alloc (Nat.le_refl _) _).trans (hz.mono (by simp))) _ _ _ _ ?_
              have hRf : Below (z1.alloc (.cells ZN 5)).heap.size (z1.alloc (.cells ZN 5)) (z1.alloc (.cells ZN 5)) := Below.refl _ _
              generalize z1.alloc (.cells ZN 5) = z2 at *
              refine wpAnyH_take (i := 6) (v := .string (zB NN)) rfl (by kernel_rfl) (by kernel_rfl) (by kernel_rfl) (fun _ _ _ h => h) (Or.inl ⟨by rfl, ?_⟩) hRf ?_
              · intro w hSw; have hcr := cv _ hSw; go_simp; try with_reducible rfl
              go_simp
              clear cv
              refine wpAnyH_take (i := 7) (v := ?_) rfl (by kernel_rfl) (by kernel_rfl) (by kernel_rfl) (fun _ _ _ h => h) (Or.inl ⟨by rfl, ?_⟩) (by assumption) ?_
              rotate_left
              · intro w hSw; go_simp; try with_reducible rfl
              go_simp
              refine wpAnyH_take (i := 15) (v := ?_) rfl (by kernel_rfl) (by kernel_rfl) (by kernel_rfl) (fun _ _ _ h => h) (Or.inl ⟨by rfl, ?_⟩) (by assumption) ?_
              rotate_left
              · intro w hSw; go_simp; try with_reducible rfl
              go_simp
              refine wpAnyH_ready (rs := [10, 12]) (by kernel_rfl) (by simp) (AllReadyH.cons rfl (fun K hK => ?_) (AllReadyH.cons rfl (fun K hK => ?_) (AllReadyH.nil)))
              · go_simp
                have cv := conv_byte z2 lg
                have hL3 : Below wb.heap.size wb (z2.alloc (.cells #[.int .u8 (lg : Int)] 5)) := hL2.alloc hL2.size _
                refine hK.out _ _ ((Below.refl z2.heap.size z2).alloc (Nat.le_refl _) _) (fun hHeld => ?_)
                clear hK K
                refine wpAnyH_weaken (S' := fun z => Below (z2.alloc (.cells #[.int .u8 (lg : Int)] 5)).heap.size (z2.alloc (.cells #[.int .u8 (lg : Int)] 5)) z) (fun z hz => ((Below.refl z2.heap.size z2).alloc (Nat.le_refl _) _).trans (hz.mono (by simp))) _ _ _ _ ?_
                have hRf : Below (z2.alloc (.cells #[.int .u8 (lg : Int)] 5)).heap.size (z2.alloc (.cells #[.int .u8 (lg : Int)] 5)) (z2.alloc (.cells #[.int .u8 (lg : Int)] 5)) := Below.refl _ _
                generalize z2.alloc (.cells #[.int .u8 (lg : Int)] 5) = z3 at *
                refine wpAnyH_take (i := 11) (v := .string (tx 1 fun _ => lg)) rfl (by kernel_rfl) (by kernel_rfl) (by kernel_rfl) (fun _ _ _ h => h) (Or.inl ⟨by rfl, ?_⟩) hRf ?_
                · intro w hSw; have hcr := cv _ hSw; go_simp; try with_reducible rfl
                go_simp
                clear cv
                refine wpAnyH_ready (rs := [12]) (by kernel_rfl) (by simp) (AllReadyH.cons rfl (fun K hK => ?_) (AllReadyH.nil))
                · go_simp
                  have cv := conv_noughts z3 31 ZM hZM
                  have hL4 : Below wb.heap.size wb (z3.alloc (.cells ZM 5)) := hL3.alloc hL3.size _
                  refine hK.out _ _ ((Below.refl z3.heap.size z3).alloc (Nat.le_refl _) _) (fun hHeld => ?_)
                  clear hK K
                  refine wpAnyH_weaken (S' := fun z => Below (z3.alloc (.cells ZM 5)).heap.size (z3.alloc (.cells ZM 5)) z) (fun z hz => ((Below.refl z3.heap.size z3).alloc (Nat.le_refl _) _).trans (hz.mono (by simp))) _ _ _ _ ?_
                  have hRf : Below (z3.alloc (.cells ZM 5)).heap.size (z3.alloc (.cells ZM 5)) (z3.alloc (.cells ZM 5)) := Below.refl _ _
                  generalize z3.alloc (.cells ZM 5) = z4 at *
                  refine wpAnyH_take (i := 13) (v := .string (zB 31)) rfl (by kernel_rfl) (by kernel_rfl) (by kernel_rfl) (fun _ _ _ h => h) (Or.inl ⟨by rfl, ?_⟩) hRf ?_
                  · intro w hSw; have hcr := cv _ hSw; go_simp; try with_reducible rfl
                  go_simp
                  clear cv
                  refine wpAnyH_take (i := 14) (v := ?_) rfl (by kernel_rfl) (by kernel_rfl) (by kernel_rfl) (fun _ _ _ h => h) (Or.inl ⟨by rfl, ?_⟩) (by assumption) ?_
                  rotate_left
                  · intro w hSw; go_simp; try with_reducible rfl
                  go_simp
                  refine wpAnyH_take (i := 16) (v := ?_) rfl (by kernel_rfl) (by kernel_rfl) (by kernel_rfl) (fun _ _ _ h => h) (Or.inl ⟨by rfl, ?_⟩) (by assumption) ?_
                  rotate_left
                  · intro w hSw; go_simp; try with_reducible rfl
                  go_simp
                  refine wpAnyH_done (by kernel_rfl) ?_ _
                  refine NoPanic.normal ?_
                  go_wp2
                  go_meet
                  case rel => exact ⟨rfl, rfl, by rw [HWB.out]; exact hL4⟩
              · go_simp
                have cv := conv_noughts z2 31 ZM hZM
                have hL3 : Below wb.heap.size wb (z2.alloc (.cells ZM 5)) := hL2.alloc hL2.size _
                refine hK.out _ _ ((Below.refl z2.heap.size z2).alloc (Nat.le_refl _) _) (fun hHeld => ?_)
                clear hK K
                refine wpAnyH_weaken (S' := fun z => Below (z2.alloc (.cells ZM 5)).heap.size (z2.alloc (.cells ZM 5)) z) (fun z hz => ((Below.refl z2.heap.size z2).alloc (Nat.le_refl _) _).trans (hz.mono (by simp))) _ _ _ _ ?_
                have hRf : Below (z2.alloc (.cells ZM 5)).heap.size (z2.alloc (.cells ZM 5)) (z2.alloc (.cells ZM 5)) := Below.refl _ _
                generalize z2.alloc (.cells ZM 5) = z3 at *
                refine wpAnyH_take (i := 13) (v := .string (zB 31)) rfl (by kernel_rfl) (by kernel_rfl) (by kernel_rfl) (fun _ _ _ h => h) (Or.inl ⟨by rfl, ?_⟩) hRf ?_
                · intro w hSw; have hcr := cv _ hSw; go_simp; try with_reducible rfl
                go_simp
                clear cv
                refine wpAnyH_ready (rs := [10]) (by kernel_rfl) (by simp) (AllReadyH.cons rfl (fun K hK => ?_) (AllReadyH.nil))
                · go_simp
                  have cv := conv_byte z3 lg
                  have hL4 : Below wb.heap.size wb (z3.alloc (.cells #[.int .u8 (lg : Int)] 5)) := hL3.alloc hL3.size _
                  refine hK.out _ _ ((Below.refl z3.heap.size z3).alloc (Nat.le_refl _) _) (fun hHeld => ?_)
                  clear hK K
                  refine wpAnyH_weaken (S' := fun z => Below (z3.alloc (.cells #[.int .u8 (lg : Int)] 5)).heap.size (z3.alloc (.cells #[.int .u8 (lg : Int)] 5)) z) (fun z hz => ((Below.refl z3.heap.size z3).alloc (Nat.le_refl _) _).trans (hz.mono (by simp))) _ _ _ _ ?_
                  have hRf : Below (z3.alloc (.cells #[.int .u8 (lg : Int)] 5)).heap.size (z3.alloc (.cells #[.int .u8 (lg : Int)] 5)) (z3.alloc (.cells #[.int .u8 (lg : Int)] 5)) := Below.refl _ _
                  generalize z3.alloc (.cells #[.int .u8 (lg : Int)] 5) = z4 at *
                  refine wpAnyH_take (i := 11) (v := .string (tx 1 fun _ => lg)) rfl (by kernel_rfl) (by kernel_rfl) (by kernel_rfl) (fun _ _ _ h => h) (Or.inl ⟨by rfl, ?_⟩) hRf ?_
                  · intro w hSw; have hcr := cv _ hSw; go_simp; try with_reducible rfl
                  go_simp
                  clear cv
                  refine wpAnyH_take (i := 14) (v := ?_) rfl (by kernel_rfl) (by kernel_rfl) (by kernel_rfl) (fun _ _ _ h => h) (Or.inl ⟨by rfl, ?_⟩) (by assumption) ?_
                  rotate_left
                  · intro w hSw; go_simp; try with_reducible rfl
                  go_simp
                  refine wpAnyH_take (i := 16) (v := ?_) rfl (by kernel_rfl) (by kernel_rfl) (by kernel_rfl) (fun _ _ _ h => h) (Or.inl ⟨by rfl, ?_⟩) (by assumption) ?_
                  rotate_left
                  · intro w hSw; go_simp; try with_reducible rfl
                  go_simp
                  refine wpAnyH_done (by kernel_rfl) ?_ _
                  refine NoPanic.normal ?_
                  go_wp2
                  go_meet
                  case rel => exact ⟨rfl, rfl, by rw [HWB.out]; exact hL4⟩
            · go_simp
              have cv := conv_byte z1 lg
              have hL2 : Below wb.heap.size wb (z1.alloc (.cells #[.int .u8 (lg : Int)] 5)) := hL1.alloc hL1.size _
              refine hK.out _ _ ((Below.refl z1.heap.size z1).alloc (Nat.le_refl _) _) (fun hHeld => ?_)
              clear hK K
              refine wpAnyH_weaken (S' := fun z => Below (z1.alloc (.cells #[.int .u8 (lg : Int)] 5)).heap.size (z1.alloc (.cells #[.int .u8 (lg : Int)] 5)) z) (fun z hz => ((Below.refl z1.heap.size z1).alloc (Nat.le_refl _) _).trans (hz.mono (by simp))) _ _ _ _ ?_
              have hRf : Below (z1.alloc (.cells #[.int .u8 (lg : Int)] 5)).heap.size (z1.alloc (.cells #[.int .u8 (lg : Int)] 5)) (z1.alloc (.cells #[.int .u8 (lg : Int)] 5)) := Below.refl _ _
              generalize z1.alloc (.cells #[.int .u8 (lg : Int)] 5) = z2 at *
              refine wpAnyH_take (i := 11) (v := .string (tx 1 fun _ => lg)) rfl (by kernel_rfl) (by kernel_rfl) (by kernel_rfl) (fun _ _ _ h => h) (Or.inl ⟨by rfl, ?_⟩) hRf ?_
              · intro w hSw; have hcr := cv _ hSw; go_simp; try with_reducible rfl
              go_simp
              clear cv
              refine wpAnyH_ready (rs := [5, 12]) (by kernel_rfl) (by simp) (AllReadyH.cons rfl (fun K hK => ?_) (AllReadyH.cons rfl (fun K hK => ?_) (AllReadyH.nil)))
              · go_simp
                have cv := conv_noughts z2 NN ZN hZN
                have hL3 : Below wb.heap.size wb (z2.alloc (.cells ZN 5)) := hL2.alloc hL2.size _
                refine hK.out _ _ ((Below.refl z2.heap.size z2).alloc (Nat.le_refl _) _) (fun hHeld => ?_)
                clear hK K
                refine wpAnyH_weaken (S' := fun z => Below (z2.alloc (.cells ZN 5)).heap.size (z2.alloc (.cells ZN 5)) z) (fun z hz => ((Below.refl z2.heap.size z2).alloc (Nat.le_refl _) _).trans (hz.mono (by simp))) _ _ _ _ ?_
                have hRf : Below (z2.alloc (.cells ZN 5)).heap.size (z2.alloc (.cells ZN 5)) (z2.alloc (.cells ZN 5)) := Below.refl _ _
                generalize z2.alloc (.cells ZN 5) = z3 at *
                refine wpAnyH_take (i := 6) (v := .string (zB NN)) rfl (by kernel_rfl) (by kernel_rfl) (by kernel_rfl) (fun _ _ _ h => h) (Or.inl ⟨by rfl, ?_⟩) hRf ?_
                · intro w hSw; have hcr := cv _ hSw; go_simp; try with_reducible rfl
                go_simp
                clear cv
                refine wpAnyH_take (i := 7) (v := ?_) rfl (by kernel_rfl) (by kernel_rfl) (by kernel_rfl) (fun _ _ _ h => h) (Or.inl ⟨by rfl, ?_⟩) (by assumption) ?_
                rotate_left
                · intro w hSw; go_simp; try with_reducible rfl
                go_simp
                refine wpAnyH_take (i := 15) (v := ?_) rfl (by kernel_rfl) (by kernel_rfl) (by kernel_rfl) (fun _ _ _ h => h) (Or.inl ⟨by rfl, ?_⟩) (by assumption) ?_
                rotate_left
                · intro w hSw; go_simp; try with_reducible rfl
                go_simp
                refine wpAnyH_ready (rs := [12]) (by kernel_rfl) (by simp) (AllReadyH.cons rfl (fun K hK => ?_) (AllReadyH.nil))
                · go_simp
                  have cv := conv_noughts z3 31 ZM hZM
                  have hL4 : Below wb.heap.size wb (z3.alloc (.cells ZM 5)) := hL3.alloc hL3.size _
                  refine hK.out _ _ ((Below.refl z3.heap.size z3).alloc (Nat.le_refl _) _) (fun hHeld => ?_)
                  clear hK K
                  refine wpAnyH_weaken (S' := fun z => Below (z3.alloc (.cells ZM 5)).heap.size (z3.alloc (.cells ZM 5)) z) (fun z hz => ((Below.refl z3.heap.size z3).alloc (Nat.le_refl _) _).trans (hz.mono (by simp))) _ _ _ _ ?_
                  have hRf : Below (z3.alloc (.cells ZM 5)).heap.size (z3.alloc (.cells ZM 5)) (z3.alloc (.cells ZM 5)) := Below.refl _ _
                  generalize z3.alloc (.cells ZM 5) = z4 at *
                  refine wpAnyH_take (i := 13) (v := .string (zB 31)) rfl (by kernel_rfl) (by kernel_rfl) (by kernel_rfl) (fun _ _ _ h => h) (Or.inl ⟨by rfl, ?_⟩) hRf ?_
                  · intro w hSw; have hcr := cv _ hSw; go_simp; try with_reducible rfl
                  go_simp
                  clear cv
                  refine wpAnyH_take (i := 14) (v := ?_) rfl (by kernel_rfl) (by kernel_rfl) (by kernel_rfl) (fun _ _ _ h => h) (Or.inl ⟨by rfl, ?_⟩) (by assumption) ?_
                  rotate_left
                  · intro w hSw; go_simp; try with_reducible rfl
                  go_simp
                  refine wpAnyH_take (i := 16) (v := ?_) rfl (by kernel_rfl) (by kernel_rfl) (by kernel_rfl) (fun _ _ _ h => h) (Or.inl ⟨by rfl, ?_⟩) (by assumption) ?_
                  rotate_left
                  · intro w hSw; go_simp; try with_reducible rfl
                  go_simp
                  refine wpAnyH_done (by kernel_rfl) ?_ _
                  refine NoPanic.normal ?_
                  go_wp2
                  go_meet
                  case rel => exact ⟨rfl, rfl, by rw [HWB.out]; exact hL4⟩
              · go_simp
                have cv := conv_noughts z2 31 ZM hZM
                have hL3 : Below wb.heap.size wb (z2.alloc (.cells ZM 5)) := hL2.alloc hL2.size _
                refine hK.out _ _ ((Below.refl z2.heap.size z2).alloc (Nat.le_refl _) _) (fun hHeld => ?_)
                clear hK K
                refine wpAnyH_weaken (S' := fun z => Below (z2.alloc (.cells ZM 5)).heap.size (z2.alloc (.cells ZM 5)) z) (fun z hz => ((Below.refl z2.heap.size z2).alloc (Nat.le_refl _) _).trans (hz.mono (by simp))) _ _ _ _ ?_
                have hRf : Below (z2.alloc (.cells ZM 5)).heap.size (z2.alloc (.cells ZM 5)) (z2.alloc (.cells ZM 5)) := Below.refl _ _
                generalize z2.alloc (.cells ZM 5) = z3 at *
                refine wpAnyH_take (i := 13) (v := .string (zB 31)) rfl (by kernel_rfl) (by kernel_rfl) (by kernel_rfl) (fun _ _ _ h => h) (Or.inl ⟨by rfl, ?_⟩) hRf ?_
                · intro w hSw; have hcr := cv _ hSw; go_simp; try with_reducible rfl
                go_simp
                clear cv
                refine wpAnyH_take (i := 14) (v := ?_) rfl (by kernel_rfl) (by kernel_rfl) (by kernel_rfl) (fun _ _ _ h => h) (Or.inl ⟨by rfl, ?_⟩) (by assumption) ?_
                rotate_left
                · intro w hSw; go_simp; try with_reducible rfl
                go_simp
                refine wpAnyH_ready (rs := [5]) (by kernel_rfl) (by simp) (AllReadyH.cons rfl (fun K hK => ?_) (AllReadyH.nil))
                · go_simp
                  have cv := conv_noughts z3 NN ZN hZN
                  have hL4 : Below wb.heap.size wb (z3.alloc (.cells ZN 5)) := hL3.alloc hL3.size _
                  refine hK.out _ _ ((Below.refl z3.heap.size z3).alloc (Nat.le_refl _) _) (fun hHeld => ?_)
                  clear hK K
                  refine wpAnyH_weaken (S' := fun z => Below (z3.alloc (.cells ZN 5)).heap.size (z3.alloc (.cells ZN 5)) z) (fun z hz => ((Below.refl z3.heap.size z3).alloc (Nat.le_refl _) _).trans (hz.mono (by simp))) _ _ _ _ ?_
                  have hRf : Below (z3.alloc (.cells ZN 5)).heap.size (z3.alloc (.cells ZN 5)) (z3.alloc (.cells ZN 5)) := Below.refl _ _
                  generalize z3.alloc (.cells ZN 5) = z4 at *
                  refine wpAnyH_take (i := 6) (v := .string (zB NN)) rfl (by kernel_rfl) (by kernel_rfl) (by kernel_rfl) (fun _ _ _ h => h) (Or.inl ⟨by rfl, ?_⟩) hRf ?_
                  · intro w hSw; have hcr := cv _ hSw; go_simp; try with_reducible rfl
                  go_simp
                  clear cv
                  refine wpAnyH_take (i := 7) (v := ?_) rfl (by kernel_rfl) (by kernel_rfl) (by kernel_rfl) (fun _ _ _ h => h) (Or.inl ⟨by rfl, ?_⟩) (by assumption) ?_
                  rotate_left
                  · intro w hSw; go_simp; try with_reducible rfl
                  go_simp
                  refine wpAnyH_take (i := 15) (v := ?_) rfl (by kernel_rfl) (by kernel_rfl) (by kernel_rfl) (fun _ _ _ h => h) (Or.inl ⟨by rfl, ?_⟩) (by assumption) ?_
                  rotate_left
                  · intro w hSw; go_simp; try with_reducible rfl
                  go_simp
                  refine wpAnyH_take (i := 16) (v := ?_) rfl (by kernel_rfl) (by kernel_rfl) (by kernel_rfl) (fun _ _ _ h => h) (Or.inl ⟨by rfl, ?_⟩) (by assumption) ?_
                  rotate_left
                  · intro w hSw; go_simp; try with_reducible rfl
                  go_simp
                  refine wpAnyH_done (by kernel_rfl) ?_ _
                  refine NoPanic.normal ?_
                  go_wp2
                  go_meet
                  case rel => exact ⟨rfl, rfl, by rw [HWB.out]; exact hL4⟩
            · go_simp
              have cv := conv_noughts z1 31 ZM hZM
              have hL2 : Below wb.heap.size wb (z1.alloc (.cells ZM 5)) := hL1.alloc hL1.size _
              refine hK.out _ _ ((Below.refl z1.heap.size z1).alloc (Nat.le_refl _) _) (fun hHeld => ?_)
              clear hK K
              refine wpAnyH_weaken (S' := fun z => Below (z1.alloc (.cells ZM 5)).heap.size (z1.alloc (.cells ZM 5)) z) (fun z hz => ((Below.refl z1.heap.size z1).alloc (Nat.le_refl _) _).trans (hz.mono (by simp))) _ _ _ _ ?_
              have hRf : Below (z1.alloc (.cells ZM 5)).heap.size (z1.alloc (.cells ZM 5)) (z1.alloc (.cells ZM 5)) := Below.refl _ _
              generalize z1.alloc (.cells ZM 5) = z2 at *
              refine wpAnyH_take (i := 13) (v := .string (zB 31)) rfl (by kernel_rfl) (by kernel_rfl) (by kernel_rfl) (fun _ _ _ h => h) (Or.inl ⟨by rfl, ?_⟩) hRf ?_
              · intro w hSw; have hcr := cv _ hSw; go_simp; try with_reducible rfl
              go_simp
              clear cv
              refine wpAnyH_ready (rs := [5, 10]) (by kernel_rfl) (by simp) (AllReadyH.cons rfl (fun K hK => ?_) (AllReadyH.cons rfl (fun K hK => ?_) (AllReadyH.nil)))
              · go_simp
                have cv := conv_noughts z2 NN ZN hZN
                have hL3 : Below wb.heap.size wb (z2.alloc (.cells ZN 5)) := hL2.alloc hL2.size _
                refine hK.out _ _ ((Below.refl z2.heap.size z2).alloc (Nat.le_refl _) _) (fun hHeld => ?_)
                clear hK K
                refine wpAnyH_weaken (S' := fun z => Below (z2.alloc (.cells ZN 5)).heap.size (z2.alloc (.cells ZN 5)) z) (fun z hz => ((Below.refl z2.heap.size z2).alloc (Nat.le_refl _) _).trans (hz.mono (by simp))) _ _ _ _ ?_
                have hRf : Below (z2.alloc (.cells ZN 5)).heap.size (z2.alloc (.cells ZN 5)) (z2.alloc (.cells ZN 5)) := Below.refl _ _
                generalize z2.alloc (.cells ZN 5) = z3 at *
                refine wpAnyH_take (i := 6) (v := .string (zB NN)) rfl (by kernel_rfl) (by kernel_rfl) (by kernel_rfl) (fun _ _ _ h => h) (Or.inl ⟨by rfl, ?_⟩) hRf ?_
                · intro w hSw; have hcr := cv _ hSw; go_simp; try with_reducible rfl
                go_simp
                clear cv
                refine wpAnyH_take (i := 7) (v := ?_) rfl (by kernel_rfl) (by kernel_rfl) (by kernel_rfl) (fun _ _ _ h => h) (Or.inl ⟨by rfl, ?_⟩) (by assumption) ?_
                rotate_left
                · intro w hSw; go_simp; try with_reducible rfl
                go_simp
                refine wpAnyH_take (i := 15) (v := ?_) rfl (by kernel_rfl) (by kernel_rfl) (by kernel_rfl) (fun _ _ _ h => h) (Or.inl ⟨by rfl, ?_⟩) (by assumption) ?_
                rotate_left
                · intro w hSw; go_simp; try with_reducible rfl
                go_simp
                refine wpAnyH_ready (rs := [10]) (by kernel_rfl) (by simp) (AllReadyH.cons rfl (fun K hK => ?_) (AllReadyH.nil))
                · go_simp
                  have cv := conv_byte z3 lg
                  have hL4 : Below wb.heap.size wb (z3.alloc (.cells #[.int .u8 (lg : Int)] 5)) := hL3.alloc hL3.size _
                  refine hK.out _ _ ((Below.refl z3.heap.size z3).alloc (Nat.le_refl _) _) (fun hHeld => ?_)
                  clear hK K
                  refine wpAnyH_weaken (S' := fun z => Below (z3.alloc (.cells #[.int .u8 (lg : Int)] 5)).heap.size (z3.alloc (.cells #[.int .u8 (lg : Int)] 5)) z) (fun z hz => ((Below.refl z3.heap.size z3).alloc (Nat.le_refl _) _).trans (hz.mono (by simp))) _ _ _ _ ?_
                  have hRf : Below (z3.alloc (.cells #[.int .u8 (lg : Int)] 5)).heap.size (z3.alloc (.cells #[.int .u8 (lg : Int)] 5)) (z3.alloc (.cells #[.int .u8 (lg : Int)] 5)) := Below.refl _ _
                  generalize z3.alloc (.cells #[.int .u8 (lg : Int)] 5) = z4 at *
                  refine wpAnyH_take (i := 11) (v := .string (tx 1 fun _ => lg)) rfl (by kernel_rfl) (by kernel_rfl) (by kernel_rfl) (fun _ _ _ h => h) (Or.inl ⟨by rfl, ?_⟩) hRf ?_
                  · intro w hSw; have hcr := cv _ hSw; go_simp; try with_reducible rfl
                  go_simp
                  clear cv
                  refine wpAnyH_take (i := 14) (v := ?_) rfl (by kernel_rfl) (by kernel_rfl) (by kernel_rfl) (fun _ _ _ h => h) (Or.inl ⟨by rfl, ?_⟩) (by assumption) ?_
                  rotate_left
                  · intro w hSw; go_simp; try with_reducible rfl
                  go_simp
                  refine wpAnyH_take (i := 16) (v := ?_) rfl (by kernel_rfl) (by kernel_rfl) (by kernel_rfl) (fun _ _ _ h => h) (Or.inl ⟨by rfl, ?_⟩) (by assumption) ?_
                  rotate_left
                  · intro w hSw; go_simp; try with_reducible rfl
                  go_simp
                  refine wpAnyH_done (by kernel_rfl) ?_ _
                  refine NoPanic.normal ?_
                  go_wp2
                  go_meet
                  case rel => exact ⟨rfl, rfl, by rw [HWB.out]; exact hL4⟩
              · go_simp
                have cv := conv_byte z2 lg
                have hL3 : Below wb.heap.size wb (z2.alloc (.cells #[.int .u8 (lg : Int)] 5)) := hL2.alloc hL2.size _
                refine hK.out _ _ ((Below.refl z2.heap.size z2).alloc (Nat.le_refl _) _) (fun hHeld => ?_)
                clear hK K
                refine wpAnyH_weaken (S' := fun z => Below (z2.alloc (.cells #[.int .u8 (lg : Int)] 5)).heap.size (z2.alloc (.cells #[.int .u8 (lg : Int)] 5)) z) (fun z hz => ((Below.refl z2.heap.size z2).alloc (Nat.le_refl _) _).trans (hz.mono (by simp))) _ _ _ _ ?_
                have hRf : Below (z2.alloc (.cells #[.int .u8 (lg : Int)] 5)).heap.size (z2.alloc (.cells #[.int .u8 (lg : Int)] 5)) (z2.alloc (.cells #[.int .u8 (lg : Int)] 5)) := Below.refl _ _
                generalize z2.alloc (.cells #[.int .u8 (lg : Int)] 5) = z3 at *
                refine wpAnyH_take (i := 11) (v := .string (tx 1 fun _ => lg)) rfl (by kernel_rfl) (by kernel_rfl) (by kernel_rfl) (fun _ _ _ h => h) (Or.inl ⟨by rfl, ?_⟩) hRf ?_
                · intro w hSw; have hcr := cv _ hSw; go_simp; try with_reducible rfl
                go_simp
                clear cv
                refine wpAnyH_take (i := 14) (v := ?_) rfl (by kernel_rfl) (by kernel_rfl) (by kernel_rfl) (fun _ _ _ h => h) (Or.inl ⟨by rfl, ?_⟩) (by assumption) ?_
                rotate_left
                · intro w hSw; go_simp; try with_reducible rfl
                go_simp
                refine wpAnyH_ready (rs := [5]) (by kernel_rfl) (by simp) (AllReadyH.cons rfl (fun K hK => ?_) (AllReadyH.nil))
                · go_simp
                  have cv := conv_noughts z3 NN ZN hZN
                  have hL4 : Below wb.heap.size wb (z3.alloc (.cells ZN 5)) := hL3.alloc hL3.size _
                  refine hK.out _ _ ((Below.refl z3.heap.size z3).alloc (Nat.le_refl _) _) (fun hHeld => ?_)
                  clear hK K
                  refine wpAnyH_weaken (S' := fun z => Below (z3.alloc (.cells ZN 5)).heap.size (z3.alloc (.cells ZN 5)) z) (fun z hz => ((Below.refl z3.heap.size z3).alloc (Nat.le_refl _) _).trans (hz.mono (by simp))) _ _ _ _ ?_
                  have hRf : Below (z3.alloc (.cells ZN 5)).heap.size (z3.alloc (.cells ZN 5)) (z3.alloc (.cells ZN 5)) := Below.refl _ _
                  generalize z3.alloc (.cells ZN 5) = z4 at *
                  refine wpAnyH_take (i := 6) (v := .string (zB NN)) rfl (by kernel_rfl) (by kernel_rfl) (by kernel_rfl) (fun _ _ _ h => h) (Or.inl ⟨by rfl, ?_⟩) hRf ?_
                  · intro w hSw; have hcr := cv _ hSw; go_simp; try with_reducible rfl
                  go_simp
                  clear cv
                  refine wpAnyH_take (i := 7) (v := ?_) rfl (by kernel_rfl) (by kernel_rfl) (by kernel_rfl) (fun _ _ _ h => h) (Or.inl ⟨by rfl, ?_⟩) (by assumption) ?_
                  rotate_left
                  · intro w hSw; go_simp; try with_reducible rfl
                  go_simp
                  refine wpAnyH_take (i := 15) (v := ?_) rfl (by kernel_rfl) (by kernel_rfl) (by kernel_rfl) (fun _ _ _ h => h) (Or.inl ⟨by rfl, ?_⟩) (by assumption) ?_
                  rotate_left
                  · intro w hSw; go_simp; try with_reducible rfl
                  go_simp
                  refine wpAnyH_take (i := 16) (v := ?_) rfl (by kernel_rfl) (by kernel_rfl) (by kernel_rfl) (fun _ _ _ h => h) (Or.inl ⟨by rfl, ?_⟩) (by assumption) ?_
                  rotate_left
                  · intro w hSw; go_simp; try with_reducible rfl
                  go_simp
                  refine wpAnyH_done (by kernel_rfl) ?_ _
                  refine NoPanic.normal ?_
                  go_wp2
                  go_meet
                  case rel => exact ⟨rfl, rfl, by rw [HWB.out]; exact hL4⟩
          · go_simp
            have cv := conv_noughts z0 NN ZN hZN
            have hL1 : Below wb.heap.size wb (z0.alloc (.cells ZN 5)) := hL0.alloc hL0.size _
            refine hK.out _ _ ((Below.refl z0.heap.size z0).alloc (Nat.le_refl _) _) (fun hHeld => ?_)
            clear hK K
            refine wpAnyH_weaken (S' := fun z => Below (z0.alloc (.cells ZN 5)).heap.size (z0.alloc (.cells ZN 5)) z) (fun z hz => ((Below.refl z0.heap.size z0).alloc (Nat.le_refl _) _).trans (hz.mono (by simp))) _ _ _ _ ?_
            have hRf : Below (z0.alloc (.cells ZN 5)).heap.size (z0.alloc (.cells ZN 5)) (z0.alloc (.cells ZN 5)) := Below.refl _ _
            generalize z0.alloc (.cells ZN 5) = z1 at *
            refine wpAnyH_take (i := 6) (v := .string (zB NN)) rfl (by kernel_rfl) (by kernel_rfl) (by kernel_rfl) (fun _ _ _ h => h) (Or.inl ⟨by rfl, ?_⟩) hRf ?_
            · intro w hSw; have hcr := cv _ hSw; go_simp; try with_reducible rfl
            go_simp
            clear cv
            refine wpAnyH_ready (rs := [2, 10, 12]) (by kernel_rfl) (by simp) (AllReadyH.cons rfl (fun K hK => ?_) (AllReadyH.cons rfl (fun K hK => ?_) (AllReadyH.cons rfl (fun K hK => ?_) (AllReadyH.nil))))
            · go_simp
              have cv := conv_byte z1 tp
              have hL2 : Below wb.heap.size wb (z1.alloc (.cells #[.int .u8 (tp : Int)] 5)) := hL1.alloc hL1.size _
              refine hK.out _ _ ((Below.refl z1.heap.size z1).alloc (Nat.le_refl _) _) (fun hHeld => ?_)
              clear hK K
              refine wpAnyH_weaken (S' := fun z => Below (z1.alloc (.cells #[.int .u8 (tp : Int)] 5)).heap.size (z1.alloc (.cells #[.int .u8 (tp : Int)] 5)) z) (fun z hz => ((Below.refl z1.heap.size z1).alloc (Nat.le_refl _) _).trans (hz.mono (by simp))) _ _ _ _ ?_
              have hRf : Below (z1.alloc (.cells #[.int .u8 (tp : Int)] 5)).heap.size (z1.alloc (.cells #[.int .u8 (tp : Int)] 5)) (z1.alloc (.cells #[.int .u8 (tp : Int)] 5)) := Below.refl _ _
              generalize z1.alloc (.cells #[.int .u8 (tp : Int)] 5) = z2 at *
              refine wpAnyH_take (i := 3) (v := .string (tx 1 fun _ => tp)) rfl (by kernel_rfl) (by kernel_rfl) (by kernel_rfl) (fun _ _ _ h => h) (Or.inl ⟨by rfl, ?_⟩) hRf ?_
              · intro w hSw; have hcr := cv _ hSw; go_simp; try with_reducible rfl
              go_simp
              clear cv
              refine wpAnyH_take (i := 7) (v := ?_) rfl (by kernel_rfl) (by kernel_rfl) (by kernel_rfl) (fun _ _ _ h => h) (Or.inl ⟨by rfl, ?_⟩) (by assumption) ?_
              rotate_left
              · intro w hSw; go_simp; try with_reducible rfl
              go_simp
              refine wpAnyH_take (i := 15) (v := ?_) rfl (by kernel_rfl) (by kernel_rfl) (by kernel_rfl) (fun _ _ _ h => h) (Or.inl ⟨by rfl, ?_⟩) (by assumption) ?_
              rotate_left
              · intro w hSw; go_simp; try with_reducible rfl
              go_simp
              refine wpAnyH_ready (rs := [10, 12]) (by kernel_rfl) (by simp) (AllReadyH.cons rfl (fun K hK => ?_) (AllReadyH.cons rfl (fun K hK => ?_) (AllReadyH.nil)))
              · go_simp
                have cv := conv_byte z2 lg
                have hL3 : Below wb.heap.size wb (z2.alloc (.cells #[.int .u8 (lg : Int)] 5)) := hL2.alloc hL2.size _
                refine hK.out _ _ ((Below.refl z2.heap.size z2).alloc (Nat.le_refl _) _) (fun hHeld => ?_)
                clear hK K
                refine wpAnyH_weaken (S' := fun z => Below (z2.alloc (.cells #[.int .u8 (lg : Int)] 5)).heap.size (z2.alloc (.cells #[.int .u8 (lg : Int)] 5)) z) (fun z hz => ((Below.refl z2.heap.size z2).alloc (Nat.le_refl _) _).trans (hz.mono (by simp))) _ _ _ _ ?_
                have hRf : Below (z2.alloc (.cells #[.int .u8 (lg : Int)] 5)).heap.size (z2.alloc (.cells #[.int .u8 (lg : Int)] 5)) (z2.alloc (.cells #[.int .u8 (lg : Int)] 5)) := Below.refl _ _
                generalize z2.alloc (.cells #[.int .u8 (lg : Int)] 5) = z3 at *
                refine wpAnyH_take (i := 11) (v := .string (tx 1 fun _ => lg)) rfl (by kernel_rfl) (by kernel_rfl) (by kernel_rfl) (fun _ _ _ h => h) (Or.inl ⟨by rfl, ?_⟩) hRf ?_
                · intro w hSw; have hcr := cv _ hSw; go_simp; try with_reducible rfl
                go_simp
                clear cv
                refine wpAnyH_ready (rs := [12]) (by kernel_rfl) (by simp) (AllReadyH.cons rfl (fun K hK => ?_) (AllReadyH.nil))
                · go_simp
                  have cv := conv_noughts z3 31 ZM hZM
                  have hL4 : Below wb.heap.size wb (z3.alloc (.cells ZM 5)) := hL3.alloc hL3.size _
                  refine hK.out _ _ ((Below.refl z3.heap.size z3).alloc (Nat.le_refl _) _) (fun hHeld => ?_)
                  clear hK K
                  refine wpAnyH_weaken (S' := fun z => Below (z3.alloc (.cells ZM 5)).heap.size (z3.alloc (.cells ZM 5)) z) (fun z hz => ((Below.refl z3.heap.size z3).alloc (Nat.le_refl _) _).trans (hz.mono (by simp))) _ _ _ _ ?_
                  have hRf : Below (z3.alloc (.cells ZM 5)).heap.size (z3.alloc (.cells ZM 5)) (z3.alloc (.cells ZM 5)) := Below.refl _ _
                  generalize z3.alloc (.cells ZM 5) = z4 at *
                  refine wpAnyH_take (i := 13) (v := .string (zB 31)) rfl (by kernel_rfl) (by kernel_rfl) (by kernel_rfl) (fun _ _ _ h => h) (Or.inl ⟨by rfl, ?_⟩) hRf ?_
                  · intro w hSw; have hcr := cv _ hSw; go_simp; try with_reducible rfl
                  go_simp
                  clear cv
                  refine wpAnyH_take (i := 14) (v := ?_) rfl (by kernel_rfl) (by kernel_rfl) (by kernel_rfl) (fun _ _ _ h => h) (Or.inl ⟨by rfl, ?_⟩) (by assumption) ?_
                  rotate_left
                  · intro w hSw; go_simp; try with_reducible rfl
                  go_simp
                  refine wpAnyH_take (i := 16) (v := ?_) rfl (by kernel_rfl) (by kernel_rfl) (by kernel_rfl) (fun _ _ _ h => h) (Or.inl ⟨by rfl, ?_⟩) (by assumption) ?_
                  rotate_left
                  · intro w hSw; go_simp; try with_reducible rfl
                  go_simp
                  refine wpAnyH_done (by kernel_rfl) ?_ _
                  refine NoPanic.normal ?_
                  go_wp2
                  go_meet
                  case rel => exact ⟨rfl, rfl, by rw [HWB.out]; exact hL4⟩
              · go_simp
                have cv := conv_noughts z2 31 ZM hZM
                have hL3 : Below wb.heap.size wb (z2.alloc (.cells ZM 5)) := hL2.alloc hL2.size _
                refine hK.out _ _ ((Below.refl z2.heap.size z2).alloc (Nat.le_refl _) _) (fun hHeld => ?_)
                clear hK K
                refine wpAnyH_weaken (S' := fun z => Below (z2.alloc (.cells ZM 5)).heap.size (z2.alloc (.cells ZM 5)) z) (fun z hz => ((Below.refl z2.heap.size z2).alloc (Nat.le_refl _) _).trans (hz.mono (by simp))) _ _ _ _ ?_
                have hRf : Below (z2.alloc (.cells ZM 5)).heap.size (z2.alloc (.cells ZM 5)) (z2.alloc (.cells ZM 5)) := Below.refl _ _
                generalize z2.alloc (.cells ZM 5) = z3 at *
                refine wpAnyH_take (i := 13) (v := .string (zB 31)) rfl (by kernel_rfl) (by kernel_rfl) (by kernel_rfl) (fun _ _ _ h => h) (Or.inl ⟨by rfl, ?_⟩) hRf ?_
                · intro w hSw; have hcr := cv _ hSw; go_simp; try with_reducible rfl
                go_simp
                clear cv
                refine wpAnyH_ready (rs := [10]) (by kernel_rfl) (by simp) (AllReadyH.cons rfl (fun K hK => ?_) (AllReadyH.nil))
                · go_simp
                  have cv := conv_byte z3 lg
                  have hL4 : Below wb.heap.size wb (z3.alloc (.cells #[.int .u8 (lg : Int)] 5)) := hL3.alloc hL3.size _
                  refine hK.out _ _ ((Below.refl z3.heap.size z3).alloc (Nat.le_refl _) _) (fun hHeld => ?_)
                  clear hK K
                  refine wpAnyH_weaken (S' := fun z => Below (z3.alloc (.cells #[.int .u8 (lg : Int)] 5)).heap.size (z3.alloc (.cells #[.int .u8 (lg : Int)] 5)) z) (fun z hz => ((Below.refl z3.heap.size z3).alloc (Nat.le_refl _) _).trans (hz.mono (by simp))) _ _ _ _ ?_
                  have hRf : Below (z3.alloc (.cells #[.int .u8 (lg : Int)] 5)).heap.size (z3.alloc (.cells #[.int .u8 (lg : Int)] 5)) (z3.alloc (.cells #[.int .u8 (lg : Int)] 5)) := Below.refl _ _
                  generalize z3.alloc (.cells #[.int .u8 (lg : Int)] 5) = z4 at *
                  refine wpAnyH_take (i := 11) (v := .string (tx 1 fun _ => lg)) rfl (by kernel_rfl) (by kernel_rfl) (by kernel_rfl) (fun _ _ _ h => h) (Or.inl ⟨by rfl, ?_⟩) hRf ?_
                  · intro w hSw; have hcr := cv _ hSw; go_simp; try with_reducible rfl
                  go_simp
                  clear cv
                  refine wpAnyH_take (i := 14) (v := ?_) rfl (by kernel_rfl) (by kernel_rfl) (by kernel_rfl) (fun _ _ _ h => h) (Or.inl ⟨by rfl, ?_⟩) (by assumption) ?_
                  rotate_left
                  · intro w hSw; go_simp; try with_reducible rfl
                  go_simp
                  refine wpAnyH_take (i := 16) (v := ?_) rfl (by kernel_rfl) (by kernel_rfl) (by kernel_rfl) (fun _ _ _ h => h) (Or.inl ⟨by rfl, ?_⟩) (by assumption) ?_
                  rotate_left
                  · intro w hSw; go_simp; try with_reducible rfl
                  go_simp
                  refine wpAnyH_done (by kernel_rfl) ?_ _
                  refine NoPanic.normal ?_
                  go_wp2
                  go_meet
                  case rel => exact ⟨rfl, rfl, by rw [HWB.out]; exact hL4⟩
            · go_simp
              have cv := conv_byte z1 lg
              have hL2 : Below wb.heap.size wb (z1.alloc (.cells #[.int .u8 (lg : Int)] 5)) := hL1.alloc hL1.size _
              refine hK.out _ _ ((Below.refl z1.heap.size z1).alloc (Nat.le_refl _) _) (fun hHeld => ?_)
              clear hK K
              refine wpAnyH_weaken (S' := fun z => Below (z1.alloc (.cells #[.int .u8 (lg : Int)] 5)).heap.size (z1.alloc (.cells #[.int .u8 (lg : Int)] 5)) z) (fun z hz => ((Below.refl z1.heap.size z1).alloc (Nat.le_refl _) _).trans (hz.mono (by simp))) _ _ _ _ ?_
              have hRf : Below (z1.alloc (.cells #[.int .u8 (lg : Int)] 5)).heap.size (z1.alloc (.cells #[.int .u8 (lg : Int)] 5)) (z1.alloc (.cells #[.int .u8 (lg : Int)] 5)) := Below.refl _ _
              generalize z1.alloc (.cells #[.int .u8 (lg : Int)] 5) = z2 at *
              refine wpAnyH_take (i := 11) (v := .string (tx 1 fun _ => lg)) rfl (by kernel_rfl) (by kernel_rfl) (by kernel_rfl) (fun _ _ _ h => h) (Or.inl ⟨by rfl, ?_⟩) hRf ?_
              · intro w hSw; have hcr := cv _ hSw; go_simp; try with_reducible rfl
              go_simp
              clear cv
              refine wpAnyH_ready (rs := [2, 12]) (by kernel_rfl) (by simp) (AllReadyH.cons rfl (fun K hK => ?_) (AllReadyH.cons rfl (fun K hK => ?_) (AllReadyH.nil)))
              · go_simp
                have cv := conv_byte z2 tp
                have hL3 : Below wb.heap.size wb (z2.alloc (.cells #[.int .u8 (tp : Int)] 5)) := hL2.alloc hL2.size _
                refine hK.out _ _ ((Below.refl z2.heap.size z2).alloc (Nat.le_refl _) _) (fun hHeld => ?_)
                clear hK K
                refine wpAnyH_weaken (S' := fun z => Below (z2.alloc (.cells #[.int .u8 (tp : Int)] 5)).heap.size (z2.alloc (.cells #[.int .u8 (tp : Int)] 5)) z) (fun z hz => ((Below.refl z2.heap.size z2).alloc (Nat.le_refl _) _).trans (hz.mono (by simp))) _ _ _ _ ?_
                have hRf : Below (z2.alloc (.cells #[.int .u8 (tp : Int)] 5)).heap.size (z2.alloc (.cells #[.int .u8 (tp : Int)] 5)) (z2.alloc (.cells #[.int .u8 (tp : Int)] 5)) := Below.refl _ _
                generalize z2.alloc (.cells #[.int .u8 (tp : Int)] 5) = z3 at *
                refine wpAnyH_take (i := 3) (v := .string (tx 1 fun _ => tp)) rfl (by kernel_rfl) (by kernel_rfl) (by kernel_rfl) (fun _ _ _ h => h) (Or.inl ⟨by rfl, ?_⟩) hRf ?_
                · intro w hSw; have hcr := cv _ hSw; go_simp; try with_reducible rfl
                go_simp
                clear cv
                refine wpAnyH_take (i := 7) (v := ?_) rfl (by kernel_rfl) (by kernel_rfl) (by kernel_rfl) (fun _ _ _ h => h) (Or.inl ⟨by rfl, ?_⟩) (by assumption) ?_
                rotate_left
                · intro w hSw; go_simp; try with_reducible rfl
                go_simp
                refine wpAnyH_take (i := 15) (v := ?_) rfl (by kernel_rfl) (by kernel_rfl) (by kernel_rfl) (fun _ _ _ h => h) (Or.inl ⟨by rfl, ?_⟩) (by assumption) ?_
                rotate_left
                · intro w hSw; go_simp; try with_reducible rfl
                go_simp
                refine wpAnyH_ready (rs := [12]) (by kernel_rfl) (by simp) (AllReadyH.cons rfl (fun K hK => ?_) (AllReadyH.nil))
                · go_simp
                  have cv := conv_noughts z3 31 ZM hZM
                  have hL4 : Below wb.heap.size wb (z3.alloc (.cells ZM 5)) := hL3.alloc hL3.size _
                  refine hK.out _ _ ((Below.refl z3.heap.size z3).alloc (Nat.le_refl _) _) (fun hHeld => ?_)
                  clear hK K
                  refine wpAnyH_weaken (S' := fun z => Below (z3.alloc (.cells ZM 5)).heap.size (z3.alloc (.cells ZM 5)) z) (fun z hz => ((Below.refl z3.heap.size z3).alloc (Nat.le_refl _) _).trans (hz.mono (by simp))) _ _ _ _ ?_
                  have hRf : Below (z3.alloc (.cells ZM 5)).heap.size (z3.alloc (.cells ZM 5)) (z3.alloc (.cells ZM 5)) := Below.refl _ _
                  generalize z3.alloc (.cells ZM 5) = z4 at *
                  refine wpAnyH_take (i := 13) (v := .string (zB 31)) rfl (by kernel_rfl) (by kernel_rfl) (by kernel_rfl) (fun _ _ _ h => h) (Or.inl ⟨by rfl, ?_⟩) hRf ?_
                  · intro w hSw; have hcr := cv _ hSw; go_simp; try with_reducible rfl
                  go_simp
                  clear cv
                  refine wpAnyH_take (i := 14) (v := ?_) rfl (by kernel_rfl) (by kernel_rfl) (by kernel_rfl) (fun _ _ _ h => h) (Or.inl ⟨by rfl, ?_⟩) (by assumption) ?_
                  rotate_left
                  · intro w hSw; go_simp; try with_reducible rfl
                  go_simp
                  refine wpAnyH_take (i := 16) (v := ?_) rfl (by kernel_rfl) (by kernel_rfl) (by kernel_rfl) (fun _ _ _ h => h) (Or.inl ⟨by rfl, ?_⟩) (by assumption) ?_
                  rotate_left
                  · intro w hSw; go_simp; try with_reducible rfl
                  go_simp
                  refine wpAnyH_done (by kernel_rfl) ?_ _
                  refine NoPanic.normal ?_
                  go_wp2
                  go_meet
                  case rel => exact ⟨rfl, rfl, by rw [HWB.out]; exact hL4⟩
              · go_simp
                have cv := conv_noughts z2 31 ZM hZM
                have hL3 : Below wb.heap.size wb (z2.alloc (.cells ZM 5)) := hL2.alloc hL2.size _
                refine hK.out _ _ ((Below.refl z2.heap.size z2).alloc (Nat.le_refl _) _) (fun hHeld => ?_)
                clear hK K
                refine wpAnyH_weaken (S' := fun z => Below (z2.alloc (.cells ZM 5)).heap.size (z2.alloc (.cells ZM 5)) z) (fun z hz => ((Below.refl z2.heap.size z2).alloc (Nat.le_refl _) _).trans (hz.mono (by simp))) _ _ _ _ ?_
                have hRf : Below (z2.alloc (.cells ZM 5)).heap.size (z2.alloc (.cells ZM 5)) (z2.alloc (.cells ZM 5)) := Below.refl _ _
                generalize z2.alloc (.cells ZM 5) = z3 at *
                refine wpAnyH_take (i := 13) (v := .string (zB 31)) rfl (by kernel_rfl) (by kernel_rfl) (by kernel_rfl) (fun _ _ _ h => h) (Or.inl ⟨by rfl, ?_⟩) hRf ?_
                · intro w hSw; have hcr := cv _ hSw; go_simp; try with_reducible rfl
                go_simp
                clear cv
                refine wpAnyH_take (i := 14) (v := ?_) rfl (by kernel_rfl) (by kernel_rfl) (by kernel_rfl) (fun _ _ _ h => h) (Or.inl ⟨by rfl, ?_⟩) (by assumption) ?_
                rotate_left
                · intro w hSw; go_simp; try with_reducible rfl
                go_simp
                refine wpAnyH_ready (rs := [2]) (by kernel_rfl) (by simp) (AllReadyH.cons rfl (fun K hK => ?_) (AllReadyH.nil))
                · go_simp
                  have cv := conv_byte z3 tp
                  have hL4 : Below wb.heap.size wb (z3.alloc (.cells #[.int .u8 (tp : Int)] 5)) := hL3.alloc hL3.size _
                  refine hK.out _ _ ((Below.refl z3.heap.size z3).alloc (Nat.le_refl _) _) (fun hHeld => ?_)
                  clear hK K
                  refine wpAnyH_weaken (S' := fun z => Below (z3.alloc (.cells #[.int .u8 (tp : Int)] 5)).heap.size (z3.alloc (.cells #[.int .u8 (tp : Int)] 5)) z) (fun z hz => ((Below.refl z3.heap.size z3).alloc (Nat.le_refl _) _).trans (hz.mono (by simp))) _ _ _ _ ?_
                  have hRf : Below (z3.alloc (.cells #[.int .u8 (tp : Int)] 5)).heap.size (z3.alloc (.cells #[.int .u8 (tp : Int)] 5)) (z3.alloc (.cells #[.int .u8 (tp : Int)] 5)) := Below.refl _ _
                  generalize z3.alloc (.cells #[.int .u8 (tp : Int)] 5) = z4 at *
                  refine wpAnyH_take (i := 3) (v := .string (tx 1 fun _ => tp)) rfl (by kernel_rfl) (by kernel_rfl) (by kernel_rfl) (fun _ _ _ h => h) (Or.inl ⟨by rfl, ?_⟩) hRf ?_
                  · intro w hSw; have hcr := cv _ hSw; go_simp; try with_reducible rfl
                  go_simp
                  clear cv
                  refine wpAnyH_take (i := 7) (v := ?_) rfl (by kernel_rfl) (by kernel_rfl) (by kernel_rfl) (fun _ _ _ h => h) (Or.inl ⟨by rfl, ?_⟩) (by assumption) ?_
                  rotate_left
                  · intro w hSw; go_simp; try with_reducible rfl
                  go_simp
                  refine wpAnyH_take (i := 15) (v := ?_) rfl (by kernel_rfl) (by kernel_rfl) (by kernel_rfl) (fun _ _ _ h => h) (Or.inl ⟨by rfl, ?_⟩) (by assumption) ?_
                  rotate_left
                  · intro w hSw; go_simp; try with_reducible rfl
                  go_simp
                  refine wpAnyH_take (i := 16) (v := ?_) rfl (by kernel_rfl) (by kernel_rfl) (by kernel_rfl) (fun _ _ _ h => h) (Or.inl ⟨by rfl, ?_⟩) (by assumption) ?_
                  rotate_left
                  · intro w hSw; go_simp; try with_reducible rfl
                  go_simp
                  refine wpAnyH_done (by kernel_rfl) ?_ _
                  refine NoPanic.normal ?_
                  go_wp2
                  go_meet
                  case rel => exact ⟨rfl, rfl, by rw [HWB.out]; exact hL4⟩
            · go_simp
              have cv := conv_noughts z1 31 ZM hZM
              have hL2 : Below wb.heap.size wb (z1.alloc (.cells ZM 5)) := hL1.alloc hL1.size _
              refine hK.out _ _ ((Below.refl z1.heap.size z1).alloc (Nat.le_refl _) _) (fun hHeld => ?_)
              clear hK K
              refine wpAnyH_weaken (S' := fun z => Below (z1.alloc (.cells ZM 5)).heap.size (z1.alloc (.cells ZM 5)) z) (fun z hz => ((Below.refl z1.heap.size z1).alloc (Nat.le_refl _) _).trans (hz.mono (by simp))) _ _ _ _ ?_
              have hRf : Below (z1.alloc (.cells ZM 5)).heap.size (z1.alloc (.cells ZM 5)) (z1.alloc (.cells ZM 5)) := Below.refl _ _
              generalize z1.alloc (.cells ZM 5) = z2 at *
              refine wpAnyH_take (i := 13) (v := .string (zB 31)) rfl (by kernel_rfl) (by kernel_rfl) (by kernel_rfl) (fun _ _ _ h => h) (Or.inl ⟨by rfl, ?_⟩) hRf ?_
              · intro w hSw; have hcr := cv _ hSw; go_simp; try with_reducible rfl
              go_simp
              clear cv
              refine wpAnyH_ready (rs := [2, 10]) (by kernel_rfl) (by simp) (AllReadyH.cons rfl (fun K hK => ?_) (AllReadyH.cons rfl (fun K hK => ?_) (AllReadyH.nil)))
              · go_simp
                have cv := conv_byte z2 tp
                have hL3 : Below wb.heap.size wb (z2.alloc (.cells #[.int .u8 (tp : Int)] 5)) := hL2.alloc hL2.size _
                refine hK.out _ _ ((Below.refl z2.heap.size z2).alloc (Nat.le_refl _) _) (fun hHeld => ?_)
                clear hK K
                refine wpAnyH_weaken (S' := fun z => Below (z2.alloc (.cells #[.int .u8 (tp : Int)] 5)).heap.size (z2.alloc (.cells #[.int .u8 (tp : Int)] 5)) z) (fun z hz => ((Below.refl z2.heap.size z2).alloc (Nat.le_refl _) _).trans (hz.mono (by simp))) _ _ _ _ ?_
                have hRf : Below (z2.alloc (.cells #[.int .u8 (tp : Int)] 5)).heap.size (z2.alloc (.cells #[.int .u8 (tp : Int)] 5)) (z2.alloc (.cells #[.int .u8 (tp : Int)] 5)) := Below.refl _ _
                generalize z2.alloc (.cells #[.int .u8 (tp : Int)] 5) = z3 at *
                refine wpAnyH_take (i := 3) (v := .string (tx 1 fun _ => tp)) rfl (by kernel_rfl) (by kernel_rfl) (by kernel_rfl) (fun _ _ _ h => h) (Or.inl ⟨by rfl, ?_⟩) hRf ?_
                · intro w hSw; have hcr := cv _ hSw; go_simp; try with_reducible rfl
                go_simp
                clear cv
                refine wpAnyH_take (i := 7) (v := ?_) rfl (by kernel_rfl) (by kernel_rfl) (by kernel_rfl) (fun _ _ _ h => h) (Or.inl ⟨by rfl, ?_⟩) (by assumption) ?_
                rotate_left
                · intro w hSw; go_simp; try with_reducible rfl
                go_simp
                refine wpAnyH_take (i := 15) (v := ?_) rfl (by kernel_rfl) (by kernel_rfl) (by kernel_rfl) (fun _ _ _ h => h) (Or.inl ⟨by rfl, ?_⟩) (by assumption) ?_
                rotate_left
                · intro w hSw; go_simp; try with_reducible rfl
                go_simp
                refine wpAnyH_ready (rs := [10]) (by kernel_rfl) (by simp) (AllReadyH.cons rfl (fun K hK => ?_) (AllReadyH.nil))
                · go_simp
                  have cv := conv_byte z3 lg
                  have hL4 : Below wb.heap.size wb (z3.alloc (.cells #[.int .u8 (lg : Int)] 5)) := hL3.alloc hL3.size _
                  refine hK.out _ _ ((Below.refl z3.heap.size z3).alloc (Nat.le_refl _) _) (fun hHeld => ?_)
                  clear hK K
                  refine wpAnyH_weaken (S' := fun z => Below (z3.alloc (.cells #[.int .u8 (lg : Int)] 5)).heap.size (z3.alloc (.cells #[.int .u8 (lg : Int)] 5)) z) (fun z hz => ((Below.refl z3.heap.size z3).alloc (Nat.le_refl _) _).trans (hz.mono (by simp))) _ _ _ _ ?_
                  have hRf : Below (z3.alloc (.cells #[.int .u8 (lg : Int)] 5)).heap.size (z3.alloc (.cells #[.int .u8 (lg : Int)] 5)) (z3.alloc (.cells #[.int .u8 (lg : Int)] 5)) := Below.refl _ _
                  generalize z3.alloc (.cells #[.int .u8 (lg : Int)] 5) = z4 at *
                  refine wpAnyH_take (i := 11) (v := .string (tx 1 fun _ => lg)) rfl (by kernel_rfl) (by kernel_rfl) (by kernel_rfl) (fun _ _ _ h => h) (Or.inl ⟨by rfl, ?_⟩) hRf ?_
                  · intro w hSw; have hcr := cv _ hSw; go_simp; try with_reducible rfl
                  go_simp
                  clear cv
                  refine wpAnyH_take (i := 14) (v := ?_) rfl (by kernel_rfl) (by kernel_rfl) (by kernel_rfl) (fun _ _ _ h => h) (Or.inl ⟨by rfl, ?_⟩) (by assumption) ?_
                  rotate_left
                  · intro w hSw; go_simp; try with_reducible rfl
                  go_simp
                  refine wpAnyH_take (i := 16) (v := ?_) rfl (by kernel_rfl) (by kernel_rfl) (by kernel_rfl) (fun _ _ _ h => h) (Or.inl ⟨by rfl, ?_⟩) (by assumption) ?_
                  rotate_left
                  · intro w hSw; go_simp; try with_reducible rfl
                  go_simp
                  refine wpAnyH_done (by kernel_rfl) ?_ _
                  refine NoPanic.normal ?_
                  go_wp2
                  go_meet
                  case rel => exact ⟨rfl, rfl, by rw [HWB.out]; exact hL4⟩
              · go_simp
                have cv := conv_byte z2 lg
                have hL3 : Below wb.heap.size wb (z2.alloc (.cells #[.int .u8 (lg : Int)] 5)) := hL2.alloc hL2.size _
                refine hK.out _ _ ((Below.refl z2.heap.size z2).alloc (Nat.le_refl _) _) (fun hHeld => ?_)
                clear hK K
                refine wpAnyH_weaken (S' := fun z => Below (z2.alloc (.cells #[.int .u8 (lg : Int)] 5)).heap.size (z2.alloc (.cells #[.int .u8 (lg : Int)] 5)) z) (fun z hz => ((Below.refl z2.heap.size z2).alloc (Nat.le_refl _) _).trans (hz.mono (by simp))) _ _ _ _ ?_
                have hRf : Below (z2.alloc (.cells #[.int .u8 (lg : Int)] 5)).heap.size (z2.alloc (.cells #[.int .u8 (lg : Int)] 5)) (z2.alloc (.cells #[.int .u8 (lg : Int)] 5)) := Below.refl _ _
                generalize z2.alloc (.cells #[.int .u8 (lg : Int)] 5) = z3 at *
                refine wpAnyH_take (i := 11) (v := .string (tx 1 fun _ => lg)) rfl (by kernel_rfl) (by kernel_rfl) (by kernel_rfl) (fun _ _ _ h => h) (Or.inl ⟨by rfl, ?_⟩) hRf ?_
                · intro w hSw; have hcr := cv _ hSw; go_simp; try with_reducible rfl
                go_simp
                clear cv
                refine wpAnyH_take (i := 14) (v := ?_) rfl (by kernel_rfl) (by kernel_rfl) (by kernel_rfl) (fun _ _ _ h => h) (Or.inl ⟨by rfl, ?_⟩) (by assumption) ?_
                rotate_left
                · intro w hSw; go_simp; try with_reducible rfl
                go_simp
                refine wpAnyH_ready (rs := [2]) (by kernel_rfl) (by simp) (AllReadyH.cons rfl (fun K hK => ?_) (AllReadyH.nil))
                · go_simp
                  have cv := conv_byte z3 tp
                  have hL4 : Below wb.heap.size wb (z3.alloc (.cells #[.int .u8 (tp : Int)] 5)) := hL3.alloc hL3.size _
                  refine hK.out _ _ ((Below.refl z3.heap.size z3).alloc (Nat.le_refl _) _) (fun hHeld => ?_)
                  clear hK K
                  refine wpAnyH_weaken (S' := fun z => Below (z3.alloc (.cells #[.int .u8 (tp : Int)] 5)).heap.size (z3.alloc (.cells #[.int .u8 (tp : Int)] 5)) z) (fun z hz => ((Below.refl z3.heap.size z3).alloc (Nat.le_refl _) _).trans (hz.mono (by simp))) _ _ _ _ ?_
                  have hRf : Below (z3.alloc (.cells #[.int .u8 (tp : Int)] 5)).heap.size (z3.alloc (.cells #[.int .u8 (tp : Int)] 5)) (z3.alloc (.cells #[.int .u8 (tp : Int)] 5)) := Below.refl _ _
                  generalize z3.alloc (.cells #[.int .u8 (tp : Int)] 5) = z4 at *
                  refine wpAnyH_take (i := 3) (v := .string (tx 1 fun _ => tp)) rfl (by kernel_rfl) (by kernel_rfl) (by kernel_rfl) (fun _ _ _ h => h) (Or.inl ⟨by rfl, ?_⟩) hRf ?_
                  · intro w hSw; have hcr := cv _ hSw; go_simp; try with_reducible rfl
                  go_simp
                  clear cv
                  refine wpAnyH_take (i := 7) (v := ?_) rfl (by kernel_rfl) (by kernel_rfl) (by kernel_rfl) (fun _ _ _ h => h) (Or.inl ⟨by rfl, ?_⟩) (by assumption) ?_
                  rotate_left
                  · intro w hSw; go_simp; try with_reducible rfl
                  go_simp
                  refine wpAnyH_take (i := 15) (v := ?_) rfl (by kernel_rfl) (by kernel_rfl) (by kernel_rfl) (fun _ _ _ h => h) (Or.inl ⟨by rfl, ?_⟩) (by assumption) ?_
                  rotate_left
                  · intro w hSw; go_simp; try with_reducible rfl
                  go_simp
                  refine wpAnyH_take (i := 16) (v := ?_) rfl (by kernel_rfl) (by kernel_rfl) (by kernel_rfl) (fun _ _ _ h => h) (Or.inl ⟨by rfl, ?_⟩) (by assumption) ?_
                  rotate_left
                  · intro w hSw; go_simp; try with_reducible rfl
                  go_simp
                  refine wpAnyH_done (by kernel_rfl) ?_ _
                  refine NoPanic.normal ?_
                  go_wp2
                  go_meet
                  case rel => exact ⟨rfl, rfl, by rw [HWB.out]; exact hL4⟩
          · go_simp
            have cv := conv_byte z0 lg
            have hL1 : Below wb.heap.size wb (z0.alloc (.cells #[.int .u8 (lg : Int)] 5)) := hL0.alloc hL0.size _
            refine hK.out _ _ ((Below.refl z0.heap.size z0).alloc (Nat.le_refl _) _) (fun hHeld => ?_)
            clear hK K
            refine wpAnyH_weaken (S' := fun z => Below (z0.alloc (.cells #[.int .u8 (lg : Int)] 5)).heap.size (z0.alloc (.cells #[.int .u8 (lg : Int)] 5)) z) (fun z hz => ((Below.refl z0.heap.size z0).alloc (Nat.le_refl _) _).trans (hz.mono (by simp))) _ _ _ _ ?_
            have hRf : Below (z0.alloc (.cells #[.int .u8 (lg : Int)] 5)).heap.size (z0.alloc (.cells #[.int .u8 (lg : Int)] 5)) (z0.alloc (.cells #[.int .u8 (lg : Int)] 5)) := Below.refl _ _
            generalize z0.alloc (.cells #[.int .u8 (lg : Int)] 5) = z1 at *
            refine wpAnyH_take (i := 11) (v := .string (tx 1 fun _ => lg)) rfl (by kernel_rfl) (by kernel_rfl) (by kernel_rfl) (fun _ _ _ h => h) (Or.inl ⟨by rfl, ?_⟩) hRf ?_
            · intro w hSw; have hcr := cv _ hSw; go_simp; try with_reducible rfl
            go_simp
            clear cv
            refine wpAnyH_ready (rs := [2, 5, 12]) (by kernel_rfl) (by simp) (AllReadyH.cons rfl (fun K hK => ?_) (AllReadyH.cons rfl (fun K hK => ?_) (AllReadyH.cons rfl (fun K hK => ?_) (AllReadyH.nil))))
            · go_simp
              have cv := conv_byte z1 tp
              have hL2 : Below wb.heap.size wb (z1.alloc (.cells #[.int .u8 (tp : Int)] 5)) := hL1.alloc hL1.size _
              refine hK.out _ _ ((Below.refl z1.heap.size z1).alloc (Nat.le_refl _) _) (fun hHeld => ?_)
              clear hK K
              refine wpAnyH_weaken (S' := fun z => Below (z1.alloc (.cells #[.int .u8 (tp : Int)] 5)).heap.size (z1.alloc (.cells #[.int .u8 (tp : Int)] 5)) z) (fun z hz => ((Below.refl z1.heap.size z1).alloc (Nat.le_refl _) _).trans (hz.mono (by simp))) _ _ _ _ ?_
              have hRf : Below (z1.alloc (.cells #[.int .u8 (tp : Int)] 5)).heap.size (z1.alloc (.cells #[.int .u8 (tp : Int)] 5)) (z1.alloc (.cells #[.int .u8 (tp : Int)] 5)) := Below.refl _ _
              generalize z1.alloc (.cells #[.int .u8 (tp : Int)] 5) = z2 at *
              refine wpAnyH_take (i := 3) (v := .string (tx 1 fun _ => tp)) rfl (by kernel_rfl) (by kernel_rfl) (by kernel_rfl) (fun _ _ _ h => h) (Or.inl ⟨by rfl, ?_⟩) hRf ?_
              · intro w hSw; have hcr := cv _ hSw; go_simp; try with_reducible rfl
              go_simp
              clear cv
              refine wpAnyH_ready (rs := [5, 12]) (by kernel_rfl) (by simp) (AllReadyH.cons rfl (fun K hK => ?_) (AllReadyH.cons rfl (fun K hK => ?_) (AllReadyH.nil)))
              · go_simp
                have cv := conv_noughts z2 NN ZN hZN
                have hL3 : Below wb.heap.size wb (z2.alloc (.cells ZN 5)) := hL2.alloc hL2.size _
                refine hK.out _ _ ((Below.refl z2.heap.size z2).alloc (Nat.le_refl _) _) (fun hHeld => ?_)
                clear hK K
                refine wpAnyH_weaken (S' := fun z => Below (z2.alloc (.cells ZN 5)).heap.size (z2.alloc (.cells ZN 5)) z) (fun z hz => ((Below.refl z2.heap.size z2).alloc (Nat.le_refl _) _).trans (hz.mono (by simp))) _ _ _ _ ?_
                have hRf : Below (z2.alloc (.cells ZN 5)).heap.size (z2.alloc (.cells ZN 5)) (z2.alloc (.cells ZN 5)) := Below.refl _ _
                generalize z2.alloc (.cells ZN 5) = z3 at *
                refine wpAnyH_take (i := 6) (v := .string (zB NN)) rfl (by kernel_rfl) (by kernel_rfl) (by kernel_rfl) (fun _ _ _ h => h) (Or.inl ⟨by rfl, ?_⟩) hRf ?_
                · intro w hSw; have hcr := cv _ hSw; go_simp; try with_reducible rfl
                go_simp
                clear cv
                refine wpAnyH_take (i := 7) (v := ?_) rfl (by kernel_rfl) (by kernel_rfl) (by kernel_rfl) (fun _ _ _ h => h) (Or.inl ⟨by rfl, ?_⟩) (by assumption) ?_
                rotate_left
                · intro w hSw; go_simp; try with_reducible rfl
                go_simp
                refine wpAnyH_take (i := 15) (v := ?_) rfl (by kernel_rfl) (by kernel_rfl) (by kernel_rfl) (fun _ _ _ h => h) (Or.inl ⟨by rfl, ?_⟩) (by assumption) ?_
                rotate_left
                · intro w hSw; go_simp; try with_reducible rfl
                go_simp
                refine wpAnyH_ready (rs := [12]) (by kernel_rfl) (by simp) (AllReadyH.cons rfl (fun K hK => ?_) (AllReadyH.nil))
                · go_simp
                  have cv := conv_noughts z3 31 ZM hZM
                  have hL4 : Below wb.heap.size wb (z3.alloc (.cells ZM 5)) := hL3.alloc hL3.size _
                  refine hK.out _ _ ((Below.refl z3.heap.size z3).alloc (Nat.le_refl _) _) (fun hHeld => ?_)
                  clear hK K
                  refine wpAnyH_weaken (S' := fun z => Below (z3.alloc (.cells ZM 5)).heap.size (z3.alloc (.cells ZM 5)) z) (fun z hz => ((Below.refl z3.heap.size z3).alloc (Nat.le_refl _) _).trans (hz.mono (by simp))) _ _ _ _ ?_
                  have hRf : Below (z3.alloc (.cells ZM 5)).heap.size (z3.alloc (.cells ZM 5)) (z3.alloc (.cells ZM 5)) := Below.refl _ _
                  generalize z3.alloc (.cells ZM 5) = z4 at *
                  refine wpAnyH_take (i := 13) (v := .string (zB 31)) rfl (by kernel_rfl) (by kernel_rfl) (by kernel_rfl) (fun _ _ _ h => h) (Or.inl ⟨by rfl, ?_⟩) hRf ?_
                  · intro w hSw; have hcr := cv _ hSw; go_simp; try with_reducible rfl
                  go_simp
                  clear cv
                  refine wpAnyH_take (i := 14) (v := ?_) rfl (by kernel_rfl) (by kernel_rfl) (by kernel_rfl) (fun _ _ _ h => h) (Or.inl ⟨by rfl, ?_⟩) (by assumption) ?_
                  rotate_left
                  · intro w hSw; go_simp; try with_reducible rfl
                  go_simp
                  refine wpAnyH_take (i := 16) (v := ?_) rfl (by kernel_rfl) (by kernel_rfl) (by kernel_rfl) (fun _ _ _ h => h) (Or.inl ⟨by rfl, ?_⟩) (by assumption) ?_
                  rotate_left
                  · intro w hSw; go_simp; try with_reducible rfl
                  go_simp
                  refine wpAnyH_done (by kernel_rfl) ?_ _
                  refine NoPanic.normal ?_
                  go_wp2
                  go_meet
                  case rel => exact ⟨rfl, rfl, by rw [HWB.out]; exact hL4⟩
              · go_simp
                have cv := conv_noughts z2 31 ZM hZM
                have hL3 : Below wb.heap.size wb (z2.alloc (.cells ZM 5)) := hL2.alloc hL2.size _
                refine hK.out _ _ ((Below.refl z2.heap.size z2).alloc (Nat.le_refl _) _) (fun hHeld => ?_)
                clear hK K
                refine wpAnyH_weaken (S' := fun z => Below (z2.alloc (.cells ZM 5)).heap.size (z2.alloc (.cells ZM 5)) z) (fun z hz => ((Below.refl z2.heap.size z2).alloc (Nat.le_refl _) _).trans (hz.mono (by simp))) _ _ _ _ ?_
                have hRf : Below (z2.alloc (.cells ZM 5)).heap.size (z2.alloc (.cells ZM 5)) (z2.alloc (.cells ZM 5)) := Below.refl _ _
                generalize z2.alloc (.cells ZM 5) = z3 at *
                refine wpAnyH_take (i := 13) (v := .string (zB 31)) rfl (by kernel_rfl) (by kernel_rfl) (by kernel_rfl) (fun _ _ _ h => h) (Or.inl ⟨by rfl, ?_⟩) hRf ?_
                · intro w hSw; have hcr := cv _ hSw; go_simp; try with_reducible rfl
                go_simp
                clear cv
                refine wpAnyH_take (i := 14) (v := ?_) rfl (by kernel_rfl) (by kernel_rfl) (by kernel_rfl) (fun _ _ _ h => h) (Or.inl ⟨by rfl, ?_⟩) (by assumption) ?_
                rotate_left
                · intro w hSw; go_simp; try with_reducible rfl
                go_simp
                refine wpAnyH_ready (rs := [5]) (by kernel_rfl) (by simp) (AllReadyH.cons rfl (fun K hK => ?_) (AllReadyH.nil))
                · go_simp
                  have cv := conv_noughts z3 NN ZN hZN
                  have hL4 : Below wb.heap.size wb (z3.alloc (.cells ZN 5)) := hL3.alloc hL3.size _
                  refine hK.out _ _ ((Below.refl z3.heap.size z3).alloc (Nat.le_refl _) _) (fun hHeld => ?_)
                  clear hK K
                  refine wpAnyH_weaken (S' := fun z => Below (z3.alloc (.cells ZN 5)).heap.size (z3.alloc (.cells ZN 5)) z) (fun z hz => ((Below.refl z3.heap.size z3).alloc (Nat.le_refl _) _).trans (hz.mono (by simp))) _ _ _ _ ?_
                  have hRf : Below (z3.alloc (.cells ZN 5)).heap.size (z3.alloc (.cells ZN 5)) (z3.alloc (.cells ZN 5)) := Below.refl _ _
                  generalize z3.alloc (.cells ZN 5) = z4 at *
                  refine wpAnyH_take (i := 6) (v := .string (zB NN)) rfl (by kernel_rfl) (by kernel_rfl) (by kernel_rfl) (fun _ _ _ h => h) (Or.inl ⟨by rfl, ?_⟩) hRf ?_
                  · intro w hSw; have hcr := cv _ hSw; go_simp; try with_reducible rfl
                  go_simp
                  clear cv
                  refine wpAnyH_take (i := 7) (v := ?_) rfl (by kernel_rfl) (by kernel_rfl) (by kernel_rfl) (fun _ _ _ h => h) (Or.inl ⟨by rfl, ?_⟩) (by assumption) ?_
                  rotate_left
                  · intro w hSw; go_simp; try with_reducible rfl
                  go_simp
                  refine wpAnyH_take (i := 15) (v := ?_) rfl (by kernel_rfl) (by kernel_rfl) (by kernel_rfl) (fun _ _ _ h => h) (Or.inl ⟨by rfl, ?_⟩) (by assumption) ?_
                  rotate_left
                  · intro w hSw; go_simp; try with_reducible rfl
                  go_simp
                  refine wpAnyH_take (i := 16) (v := ?_) rfl (by kernel_rfl) (by kernel_rfl) (by kernel_rfl) (fun _ _ _ h => h) (Or.inl ⟨by rfl, ?_⟩) (by assumption) ?_
                  rotate_left
                  · intro w hSw; go_simp; try with_reducible rfl
                  go_simp
                  refine wpAnyH_done (by kernel_rfl) ?_ _
                  refine NoPanic.normal ?_
                  go_wp2
                  go_meet
                  case rel => exact ⟨rfl, rfl, by rw [HWB.out]; exact hL4⟩
            · go_simp
              have cv := conv_noughts z1 NN ZN hZN
              have hL2 : Below wb.heap.size wb (z1.alloc (.cells ZN 5)) := hL1.alloc hL1.size _
              refine hK.out _ _ ((Below.refl z1.heap.size z1).alloc (Nat.le_refl _) _) (fun hHeld => ?_)
              clear hK K
              refine wpAnyH_weaken (S' := fun z => Below (z1.alloc (.cells ZN 5)).heap.size (z1.alloc (.cells ZN 5)) z) (fun z hz => ((Below.refl z1.heap.size z1).alloc (Nat.le_refl _) _).trans (hz.mono (by simp))) _ _ _ _ ?_
              have hRf : Below (z1.alloc (.cells ZN 5)).heap.size (z1.alloc (.cells ZN 5)) (z1.alloc (.cells ZN 5)) := Below.refl _ _
              generalize z1.alloc (.cells ZN 5) = z2 at *
              refine wpAnyH_take (i := 6) (v := .string (zB NN)) rfl (by kernel_rfl) (by kernel_rfl) (by kernel_rfl) (fun _ _ _ h => h) (Or.inl ⟨by rfl, ?_⟩) hRf ?_
              · intro w hSw; have hcr := cv _ hSw; go_simp; try with_reducible rfl
              go_simp
              clear cv
              refine wpAnyH_ready (rs := [2, 12]) (by kernel_rfl) (by simp) (AllReadyH.cons rfl (fun K hK => ?_) (AllReadyH.cons rfl (fun K hK => ?_) (AllReadyH.nil)))
              · go_simp
                have cv := conv_byte z2 tp
                have hL3 : Below wb.heap.size wb (z2.alloc (.cells #[.int .u8 (tp : Int)] 5)) := hL2.alloc hL2.size _
                refine hK.out _ _ ((Below.refl z2.heap.size z2).alloc (Nat.le_refl _) _) (fun hHeld => ?_)
                clear hK K
                refine wpAnyH_weaken (S' := fun z => Below (z2.alloc (.cells #[.int .u8 (tp : Int)] 5)).heap.size (z2.alloc (.cells #[.int .u8 (tp : Int)] 5)) z) (fun z hz => ((Below.refl z2.heap.size z2).alloc (Nat.le_refl _) _).trans (hz.mono (by simp))) _ _ _ _ ?_
                have hRf : Below (z2.alloc (.cells #[.int .u8 (tp : Int)] 5)).heap.size (z2.alloc (.cells #[.int .u8 (tp : Int)] 5)) (z2.alloc (.cells #[.int .u8 (tp : Int)] 5)) := Below.refl _ _
                generalize z2.alloc (.cells #[.int .u8 (tp : Int)] 5) = z3 at *
                refine wpAnyH_take (i := 3) (v := .string (tx 1 fun _ => tp)) rfl (by kernel_rfl) (by kernel_rfl) (by kernel_rfl) (fun _ _ _ h => h) (Or.inl ⟨by rfl, ?_⟩) hRf ?_
                · intro w hSw; have hcr := cv _ hSw; go_simp; try with_reducible rfl
                go_simp
                clear cv
                refine wpAnyH_take (i := 7) (v := ?_) rfl (by kernel_rfl) (by kernel_rfl) (by kernel_rfl) (fun _ _ _ h => h) (Or.inl ⟨by rfl, ?_⟩) (by assumption) ?_
                rotate_left
                · intro w hSw; go_simp; try with_reducible rfl
                go_simp
                refine wpAnyH_take (i := 15) (v := ?_) rfl (by kernel_rfl) (by kernel_rfl) (by kernel_rfl) (fun _ _ _ h => h) (Or.inl ⟨by rfl, ?_⟩) (by assumption) ?_
                rotate_left
                · intro w hSw; go_simp; try with_reducible rfl
                go_simp
                refine wpAnyH_ready (rs := [12]) (by kernel_rfl) (by simp) (AllReadyH.cons rfl (fun K hK => ?_) (AllReadyH.nil))
                · go_simp
                  have cv := conv_noughts z3 31 ZM hZM
                  have hL4 : Below wb.heap.size wb (z3.alloc (.cells ZM 5)) := hL3.alloc hL3.size _
                  refine hK.out _ _ ((Below.refl z3.heap.size z3).alloc (Nat.le_refl _) _) (fun hHeld => ?_)
                  clear hK K
                  refine wpAnyH_weaken (S' := fun z => Below (z3.alloc (.cells ZM 5)).heap.size (z3.alloc (.cells ZM 5)) z) (fun z hz => ((Below.refl z3.heap.size z3).alloc (Nat.le_refl _) _).trans (hz.mono (by simp))) _ _ _ _ ?_
                  have hRf : Below (z3.alloc (.cells ZM 5)).heap.size (z3.alloc (.cells ZM 5)) (z3.alloc (.cells ZM 5)) := Below.refl _ _
                  generalize z3.alloc (.cells ZM 5) = z4 at *
                  refine wpAnyH_take (i := 13) (v := .string (zB 31)) rfl (by kernel_rfl) (by kernel_rfl) (by kernel_rfl) (fun _ _ _ h => h) (Or.inl ⟨by rfl, ?_⟩) hRf ?_
                  · intro w hSw; have hcr := cv _ hSw; go_simp; try with_reducible rfl
                  go_simp
                  clear cv
                  refine wpAnyH_take (i := 14) (v := ?_) rfl (by kernel_rfl) (by kernel_rfl) (by kernel_rfl) (fun _ _ _ h => h) (Or.inl ⟨by rfl, ?_⟩) (by assumption) ?_
                  rotate_left
                  · intro w hSw; go_simp; try with_reducible rfl
                  go_simp
                  refine wpAnyH_take (i := 16) (v := ?_) rfl (by kernel_rfl) (by kernel_rfl) (by kernel_rfl) (fun _ _ _ h => h) (Or.inl ⟨by rfl, ?_⟩) (by assumption) ?_
                  rotate_left
                  · intro w hSw; go_simp; try with_reducible rfl
                  go_simp
                  refine wpAnyH_done (by kernel_rfl) ?_ _
                  refine NoPanic.normal ?_
                  go_wp2
                  go_meet
                  case rel => exact ⟨rfl, rfl, by rw [HWB.out]; exact hL4⟩
              · go_simp
                have cv := conv_noughts z2 31 ZM hZM
                have hL3 : Below wb.heap.size wb (z2.alloc (.cells ZM 5)) := hL2.alloc hL2.size _
                refine hK.out _ _ ((Below.refl z2.heap.size z2).alloc (Nat.le_refl _) _) (fun hHeld => ?_)
                clear hK K
                refine wpAnyH_weaken (S' := fun z => Below (z2.alloc (.cells ZM 5)).heap.size (z2.alloc (.cells ZM 5)) z) (fun z hz => ((Below.refl z2.heap.size z2).alloc (Nat.le_refl _) _).trans (hz.mono (by simp))) _ _ _ _ ?_
                have hRf : Below (z2.alloc (.cells ZM 5)).heap.size (z2.alloc (.cells ZM 5)) (z2.alloc (.cells ZM 5)) := Below.refl _ _
                generalize z2.alloc (.cells ZM 5) = z3 at *
                refine wpAnyH_take (i := 13) (v := .string (zB 31)) rfl (by kernel_rfl) (by kernel_rfl) (by kernel_rfl) (fun _ _ _ h => h) (Or.inl ⟨by rfl, ?_⟩) hRf ?_
                · intro w hSw; have hcr := cv _ hSw; go_simp; try with_reducible rfl
                go_simp
                clear cv
                refine wpAnyH_take (i := 14) (v := ?_) rfl (by kernel_rfl) (by kernel_rfl) (by kernel_rfl) (fun _ _ _ h => h) (Or.inl ⟨by rfl, ?_⟩) (by assumption) ?_
                rotate_left
                · intro w hSw; go_simp; try with_reducible rfl
                go_simp
                refine wpAnyH_ready (rs := [2]) (by kernel_rfl) (by simp) (AllReadyH.cons rfl (fun K hK => ?_) (AllReadyH.nil))
                · go_simp
                  have cv := conv_byte z3 tp
                  have hL4 : Below wb.heap.size wb (z3.alloc (.cells #[.int .u8 (tp : Int)] 5)) := hL3.alloc hL3.size _
                  refine hK.out _ _ ((Below.refl z3.heap.size z3).alloc (Nat.le_refl _) _) (fun hHeld => ?_)
                  clear hK K
                  refine wpAnyH_weaken (S' := fun z => Below (z3.alloc (.cells #[.int .u8 (tp : Int)] 5)).heap.size (z3.alloc (.cells #[.int .u8 (tp : Int)] 5)) z) (fun z hz => ((Below.refl z3.heap.size z3).alloc (Nat.le_refl _) _).trans (hz.mono (by simp))) _ _ _ _ ?_
                  have hRf : Below (z3.alloc (.cells #[.int .u8 (tp : Int)] 5)).heap.size (z3.alloc (.cells #[.int .u8 (tp : Int)] 5)) (z3.alloc (.cells #[.int .u8 (tp : Int)] 5)) := Below.refl _ _
                  generalize z3.alloc (.cells #[.int .u8 (tp : Int)] 5) = z4 at *
                  refine wpAnyH_take (i := 3) (v := .string (tx 1 fun _ => tp)) rfl (by kernel_rfl) (by kernel_rfl) (by kernel_rfl) (fun _ _ _ h => h) (Or.inl ⟨by rfl, ?_⟩) hRf ?_
                  · intro w hSw; have hcr := cv _ hSw; go_simp; try with_reducible rfl
                  go_simp
                  clear cv
                  refine wpAnyH_take (i := 7) (v := ?_) rfl (by kernel_rfl) (by kernel_rfl) (by kernel_rfl) (fun _ _ _ h => h) (Or.inl ⟨by rfl, ?_⟩) (by assumption) ?_
                  rotate_left
                  · intro w hSw; go_simp; try with_reducible rfl
                  go_simp
                  refine wpAnyH_take (i := 15) (v := ?_) rfl (by kernel_rfl) (by kernel_rfl) (by kernel_rfl) (fun _ _ _ h => h) (Or.inl ⟨by rfl, ?_⟩) (by assumption) ?_
                  rotate_left
                  · intro w hSw; go_simp; try with_reducible rfl
                  go_simp
                  refine wpAnyH_take (i := 16) (v := ?_) rfl (by kernel_rfl) (by kernel_rfl) (by kernel_rfl) (fun _ _ _ h => h) (Or.inl ⟨by rfl, ?_⟩) (by assumption) ?_
                  rotate_left
                  · intro w hSw; go_simp; try with_reducible rfl
                  go_simp
                  refine wpAnyH_done (by kernel_rfl) ?_ _
                  refine NoPanic.normal ?_
                  go_wp2
                  go_meet
                  case rel => exact ⟨rfl, rfl, by rw [HWB.out]; exact hL4⟩
            · go_simp
              have cv := conv_noughts z1 31 ZM hZM
              have hL2 : Below wb.heap.size wb (z1.alloc (.cells ZM 5)) := hL1.alloc hL1.size _
              refine hK.out _ _ ((Below.refl z1.heap.size z1).alloc (Nat.le_refl _) _) (fun hHeld => ?_)
              clear hK K
              refine wpAnyH_weaken (S' := fun z => Below (z1.alloc (.cells ZM 5)).heap.size (z1.alloc (.cells ZM 5)) z) (fun z hz => ((Below.refl z1.heap.size z1).alloc (Nat.le_refl _) _).trans (hz.mono (by simp))) _ _ _ _ ?_
              have hRf : Below (z1.alloc (.cells ZM 5)).heap.size (z1.alloc (.cells ZM 5)) (z1.alloc (.cells ZM 5)) := Below.refl _ _
              generalize z1.alloc (.cells ZM 5) = z2 at *
              refine wpAnyH_take (i := 13) (v := .string (zB 31)) rfl (by kernel_rfl) (by kernel_rfl) (by kernel_rfl) (fun _ _ _ h => h) (Or.inl ⟨by rfl, ?_⟩) hRf ?_
              · intro w hSw; have hcr := cv _ hSw; go_simp; try with_reducible rfl
              go_simp
              clear cv
              refine wpAnyH_take (i := 14) (v := ?_) rfl (by kernel_rfl) (by kernel_rfl) (by kernel_rfl) (fun _ _ _ h => h) (Or.inl ⟨by rfl, ?_⟩) (by assumption) ?_
              rotate_left
              · intro w hSw; go_simp; try with_reducible rfl
              go_simp
              refine wpAnyH_ready (rs := [2, 5]) (by kernel_rfl) (by simp) (AllReadyH.cons rfl (fun K hK => ?_) (AllReadyH.cons rfl (fun K hK => ?_) (AllReadyH.nil)))
              · go_simp
                have cv := conv_byte z2 tp
                have hL3 : Below wb.heap.size wb (z2.alloc (.cells #[.int .u8 (tp : Int)] 5)) := hL2.alloc hL2.size _
                refine hK.out _ _ ((Below.refl z2.heap.size z2).alloc (Nat.le_refl _) _) (fun hHeld => ?_)
                clear hK K
                refine wpAnyH_weaken (S' := fun z => Below (z2.alloc (.cells #[.int .u8 (tp : Int)] 5)).heap.size (z2.alloc (.cells #[.int .u8 (tp : Int)] 5)) z) (fun z hz => ((Below.refl z2.heap.size z2).alloc (Nat.le_refl _) _).trans (hz.mono (by simp))) _ _ _ _ ?_
                have hRf : Below (z2.alloc (.cells #[.int .u8 (tp : Int)] 5)).heap.size (z2.alloc (.cells #[.int .u8 (tp : Int)] 5)) (z2.alloc (.cells #[.int .u8 (tp : Int)] 5)) := Below.refl _ _
                generalize z2.alloc (.cells #[.int .u8 (tp : Int)] 5) = z3 at *
                refine wpAnyH_take (i := 3) (v := .string (tx 1 fun _ => tp)) rfl (by kernel_rfl) (by kernel_rfl) (by kernel_rfl) (fun _ _ _ h => h) (Or.inl ⟨by rfl, ?_⟩) hRf ?_
                · intro w hSw; have hcr := cv _ hSw; go_simp; try with_reducible rfl
                go_simp
                clear cv
                refine wpAnyH_ready (rs := [5]) (by kernel_rfl) (by simp) (AllReadyH.cons rfl (fun K hK => ?_) (AllReadyH.nil))
                · go_simp
                  have cv := conv_noughts z3 NN ZN hZN
                  have hL4 : Below wb.heap.size wb (z3.alloc (.cells ZN 5)) := hL3.alloc hL3.size _
                  refine hK.out _ _ ((Below.refl z3.heap.size z3).alloc (Nat.le_refl _) _) (fun hHeld => ?_)
                  clear hK K
                  refine wpAnyH_weaken (S' := fun z => Below (z3.alloc (.cells ZN 5)).heap.size (z3.alloc (.cells ZN 5)) z) (fun z hz => ((Below.refl z3.heap.size z3).alloc (Nat.le_refl _) _).trans (hz.mono (by simp))) _ _ _ _ ?_
                  have hRf : Below (z3.alloc (.cells ZN 5)).heap.size (z3.alloc (.cells ZN 5)) (z3.alloc (.cells ZN 5)) := Below.refl _ _
                  generalize z3.alloc (.cells ZN 5) = z4 at *
                  refine wpAnyH_take (i := 6) (v := .string (zB NN)) rfl (by kernel_rfl) (by kernel_rfl) (by kernel_rfl) (fun _ _ _ h => h) (Or.inl ⟨by rfl, ?_⟩) hRf ?_
                  · intro w hSw; have hcr := cv _ hSw; go_simp; try with_reducible rfl
                  go_simp
                  clear cv
                  refine wpAnyH_take (i := 7) (v := ?_) rfl (by kernel_rfl) (by kernel_rfl) (by kernel_rfl) (fun _ _ _ h => h) (Or.inl ⟨by rfl, ?_⟩) (by assumption) ?_
                  rotate_left
                  · intro w hSw; go_simp; try with_reducible rfl
                  go_simp
                  refine wpAnyH_take (i := 15) (v := ?_) rfl (by kernel_rfl) (by kernel_rfl) (by kernel_rfl) (fun _ _ _ h => h) (Or.inl ⟨by rfl, ?_⟩) (by assumption) ?_
                  rotate_left
                  · intro w hSw; go_simp; try with_reducible rfl
                  go_simp
                  refine wpAnyH_take (i := 16) (v := ?_) rfl (by kernel_rfl) (by kernel_rfl) (by kernel_rfl) (fun _ _ _ h => h) (Or.inl ⟨by rfl, ?_⟩) (by assumption) ?_
                  rotate_left
                  · intro w hSw; go_simp; try with_reducible rfl
                  go_simp
                  refine wpAnyH_done (by kernel_rfl) ?_ _
                  refine NoPanic.normal ?_
                  go_wp2
                  go_meet
                  case rel => exact ⟨rfl, rfl, by rw [HWB.out]; exact hL4⟩
              · go_simp
                have cv := conv_noughts z2 NN ZN hZN
                have hL3 : Below wb.heap.size wb (z2.alloc (.cells ZN 5)) := hL2.alloc hL2.size _
                refine hK.out _ _ ((Below.refl z2.heap.size z2).alloc (Nat.le_refl _) _) (fun hHeld => ?_)
                clear hK K
                refine wpAnyH_weaken (S' := fun z => Below (z2.alloc (.cells ZN 5)).heap.size (z2.alloc (.cells ZN 5)) z) (fun z hz => ((Below.refl z2.heap.size z2).alloc (Nat.le_refl _) _).trans (hz.mono (by simp))) _ _ _ _ ?_
                have hRf : Below (z2.alloc (.cells ZN 5)).heap.size (z2.alloc (.cells ZN 5)) (z2.alloc (.cells ZN 5)) := Below.refl _ _
                generalize z2.alloc (.cells ZN 5) = z3 at *
                refine wpAnyH_take (i := 6) (v := .string (zB NN)) rfl (by kernel_rfl) (by kernel_rfl) (by kernel_rfl) (fun _ _ _ h => h) (Or.inl ⟨by rfl, ?_⟩) hRf ?_
                · intro w hSw; have hcr := cv _ hSw; go_simp; try with_reducible rfl
                go_simp
                clear cv
                refine wpAnyH_ready (rs := [2]) (by kernel_rfl) (by simp) (AllReadyH.cons rfl (fun K hK => ?_) (AllReadyH.nil))
                · go_simp
                  have cv := conv_byte z3 tp
                  have hL4 : Below wb.heap.size wb (z3.alloc (.cells #[.int .u8 (tp : Int)] 5)) := hL3.alloc hL3.size _
                  refine hK.out _ _ ((Below.refl z3.heap.size z3).alloc (Nat.le_refl _) _) (fun hHeld => ?_)
                  clear hK K
                  refine wpAnyH_weaken (S' := fun z => Below (z3.alloc (.cells #[.int .u8 (tp : Int)] 5)).heap.size (z3.alloc (.cells #[.int .u8 (tp : Int)] 5)) z) (fun z hz => ((Below.refl z3.heap.size z3).alloc (Nat.le_refl _) _).trans (hz.mono (by simp))) _ _ _ _ ?_
                  have hRf : Below (z3.alloc (.cells #[.int .u8 (tp : Int)] 5)).heap.size (z3.alloc (.cells #[.int .u8 (tp : Int)] 5)) (z3.alloc (.cells #[.int .u8 (tp : Int)] 5)) := Below.refl _ _
                  generalize z3.alloc (.cells #[.int .u8 (tp : Int)] 5) = z4 at *
                  refine wpAnyH_take (i := 3) (v := .string (tx 1 fun _ => tp)) rfl (by kernel_rfl) (by kernel_rfl) (by kernel_rfl) (fun _ _ _ h => h) (Or.inl ⟨by rfl, ?_⟩) hRf ?_
                  · intro w hSw; have hcr := cv _ hSw; go_simp; try with_reducible rfl
                  go_simp
                  clear cv
                  refine wpAnyH_take (i := 7) (v := ?_) rfl (by kernel_rfl) (by kernel_rfl) (by kernel_rfl) (fun _ _ _ h => h) (Or.inl ⟨by rfl, ?_⟩) (by assumption) ?_
                  rotate_left
                  · intro w hSw; go_simp; try with_reducible rfl
                  go_simp
                  refine wpAnyH_take (i := 15) (v := ?_) rfl (by kernel_rfl) (by kernel_rfl) (by kernel_rfl) (fun _ _ _ h => h) (Or.inl ⟨by rfl, ?_⟩) (by assumption) ?_
                  rotate_left
                  · intro w hSw; go_simp; try with_reducible rfl
                  go_simp
                  refine wpAnyH_take (i := 16) (v := ?_) rfl (by kernel_rfl) (by kernel_rfl) (by kernel_rfl) (fun _ _ _ h => h) (Or.inl ⟨by rfl, ?_⟩) (by assumption) ?_
                  rotate_left
                  · intro w hSw; go_simp; try with_reducible rfl
                  go_simp
                  refine wpAnyH_done (by kernel_rfl) ?_ _
                  refine NoPanic.normal ?_
                  go_wp2
                  go_meet
                  case rel => exact ⟨rfl, rfl, by rw [HWB.out]; exact hL4⟩
          · go_simp
            have cv := conv_noughts z0 31 ZM hZM
            have hL1 : Below wb.heap.size wb (z0.alloc (.cells ZM 5)) := hL0.alloc hL0.size _
            refine hK.out _ _ ((Below.refl z0.heap.size z0).alloc (Nat.le_refl _) _) (fun hHeld => ?_)
            clear hK K
            refine wpAnyH_weaken (S' := fun z => Below (z0.alloc (.cells ZM 5)).heap.size (z0.alloc (.cells ZM 5)) z) (fun z hz => ((Below.refl z0.heap.size z0).alloc (Nat.le_refl _) _).trans (hz.mono (by simp))) _ _ _ _ ?_
            have hRf : Below (z0.alloc (.cells ZM 5)).heap.size (z0.alloc (.cells ZM 5)) (z0.alloc (.cells ZM 5)) := Below.refl _ _
            generalize z0.alloc (.cells ZM 5) = z1 at *
            refine wpAnyH_take (i := 13) (v := .string (zB 31)) rfl (by kernel_rfl) (by kernel_rfl) (by kernel_rfl) (fun _ _ _ h => h) (Or.inl ⟨by rfl, ?_⟩) hRf ?_
            · intro w hSw; have hcr := cv _ hSw; go_simp; try with_reducible rfl
            go_simp
            clear cv
            refine wpAnyH_ready (rs := [2, 5, 10]) (by kernel_rfl) (by simp) (AllReadyH.cons rfl (fun K hK => ?_) (AllReadyH.cons rfl (fun K hK => ?_) (AllReadyH.cons rfl (fun K hK => ?_) (AllReadyH.nil))))
            · go_simp
              have cv := conv_byte z1 tp
              have hL2 : Below wb.heap.size wb (z1.alloc (.cells #[.int .u8 (tp : Int)] 5)) := hL1.alloc hL1.size _
              refine hK.out _ _ ((Below.refl z1.heap.size z1).alloc (Nat.le_refl _) _) (fun hHeld => ?_)
              clear hK K
              refine wpAnyH_weaken (S' := fun z => Below (z1.alloc (.cells #[.int .u8 (tp : Int)] 5)).heap.size (z1.alloc (.cells #[.int .u8 (tp : Int)] 5)) z) (fun z hz => ((Below.refl z1.heap.size z1).alloc (Nat.le_refl _) _).trans (hz.mono (by simp))) _ _ _ _ ?_
              have hRf : Below (z1.alloc (.cells #[.int .u8 (tp : Int)] 5)).heap.size (z1.alloc (.cells #[.int .u8 (tp : Int)] 5)) (z1.alloc (.cells #[.int .u8 (tp : Int)] 5)) := Below.refl _ _
              generalize z1.alloc (.cells #[.int .u8 (tp : Int)] 5) = z2 at *
              refine wpAnyH_take (i := 3) (v := .string (tx 1 fun _ => tp)) rfl (by kernel_rfl) (by kernel_rfl) (by kernel_rfl) (fun _ _ _ h => h) (Or.inl ⟨by rfl, ?_⟩) hRf ?_
              · intro w hSw; have hcr := cv _ hSw; go_simp; try with_reducible rfl
              go_simp
              clear cv
              refine wpAnyH_ready (rs := [5, 10]) (by kernel_rfl) (by simp) (AllReadyH.cons rfl (fun K hK => ?_) (AllReadyH.cons rfl (fun K hK => ?_) (AllReadyH.nil)))
              · go_simp
                have cv := conv_noughts z2 NN ZN hZN
                have hL3 : Below wb.heap.size wb (z2.alloc (.cells ZN 5)) := hL2.alloc hL2.size _
                refine hK.out _ _ ((Below.refl z2.heap.size z2).alloc (Nat.le_refl _) _) (fun hHeld => ?_)
                clear hK K
                refine wpAnyH_weaken (S' := fun z => Below (z2.alloc (.cells ZN 5)).heap.size (z2.alloc (.cells ZN 5)) z) (fun z hz => ((Below.refl z2.heap.size z2).alloc (Nat.le_refl _) _).trans (hz.mono (by simp))) _ _ _ _ ?_
                have hRf : Below (z2.alloc (.cells ZN 5)).heap.size (z2.alloc (.cells ZN 5)) (z2.alloc (.cells ZN 5)) := Below.refl _ _
                generalize z2.alloc (.cells ZN 5) = z3 at *
                refine wpAnyH_take (i := 6) (v := .string (zB NN)) rfl (by kernel_rfl) (by kernel_rfl) (by kernel_rfl) (fun _ _ _ h => h) (Or.inl ⟨by rfl, ?_⟩) hRf ?_
                · intro w hSw; have hcr := cv _ hSw; go_simp; try with_reducible rfl
                go_simp
                clear cv
                refine wpAnyH_take (i := 7) (v := ?_) rfl (by kernel_rfl) (by kernel_rfl) (by kernel_rfl) (fun _ _ _ h => h) (Or.inl ⟨by rfl, ?_⟩) (by assumption) ?_
                rotate_left
                · intro w hSw; go_simp; try with_reducible rfl
                go_simp
                refine wpAnyH_take (i := 15) (v := ?_) rfl (by kernel_rfl) (by kernel_rfl) (by kernel_rfl) (fun _ _ _ h => h) (Or.inl ⟨by rfl, ?_⟩) (by assumption) ?_
                rotate_left
                · intro w hSw; go_simp; try with_reducible rfl
                go_simp
                refine wpAnyH_ready (rs := [10]) (by kernel_rfl) (by simp) (AllReadyH.cons rfl (fun K hK => ?_) (AllReadyH.nil))
                · go_simp
                  have cv := conv_byte z3 lg
                  have hL4 : Below wb.heap.size wb (z3.alloc (.cells #[.int .u8 (lg : Int)] 5)) := hL3.alloc hL3.size _
                  refine hK.out _ _ ((Below.refl z3.heap.size z3).alloc (Nat.le_refl _) _) (fun hHeld => ?_)
                  clear hK K
                  refine wpAnyH_weaken (S' := fun z => Below (z3.alloc (.cells #[.int .u8 (lg : Int)] 5)).heap.size (z3.alloc (.cells #[.int .u8 (lg : Int)] 5)) z) (fun z hz => ((Below.refl z3.heap.size z3).alloc (Nat.le_refl _) _).trans (hz.mono (by simp))) _ _ _ _ ?_
                  have hRf : Below (z3.alloc (.cells #[.int .u8 (lg : Int)] 5)).heap.size (z3.alloc (.cells #[.int .u8 (lg : Int)] 5)) (z3.alloc (.cells #[.int .u8 (lg : Int)] 5)) := Below.refl _ _
                  generalize z3.alloc (.cells #[.int .u8 (lg : Int)] 5) = z4 at *
                  refine wpAnyH_take (i := 11) (v := .string (tx 1 fun _ => lg)) rfl (by kernel_rfl) (by kernel_rfl) (by kernel_rfl) (fun _ _ _ h => h) (Or.inl ⟨by rfl, ?_⟩) hRf ?_
                  · intro w hSw; have hcr := cv _ hSw; go_simp; try with_reducible rfl
                  go_simp
                  clear cv
                  refine wpAnyH_take (i := 14) (v := ?_) rfl (by kernel_rfl) (by kernel_rfl) (by kernel_rfl) (fun _ _ _ h => h) (Or.inl ⟨by rfl, ?_⟩) (by assumption) ?_
                  rotate_left
                  · intro w hSw; go_simp; try with_reducible rfl
                  go_simp
                  refine wpAnyH_take (i := 16) (v := ?_) rfl (by kernel_rfl) (by kernel_rfl) (by kernel_rfl) (fun _ _ _ h => h) (Or.inl ⟨by rfl, ?_⟩) (by assumption) ?_
                  rotate_left
                  · intro w hSw; go_simp; try with_reducible rfl
                  go_simp
                  refine wpAnyH_done (by kernel_rfl) ?_ _
                  refine NoPanic.normal ?_
                  go_wp2
                  go_meet
                  case rel => exact ⟨rfl, rfl, by rw [HWB.out]; exact hL4⟩
              · go_simp
                have cv := conv_byte z2 lg
                have hL3 : Below wb.heap.size wb (z2.alloc (.cells #[.int .u8 (lg : Int)] 5)) := hL2.alloc hL2.size _
                refine hK.out _ _ ((Below.refl z2.heap.size z2).alloc (Nat.le_refl _) _) (fun hHeld => ?_)
                clear hK K
                refine wpAnyH_weaken (S' := fun z => Below (z2.alloc (.cells #[.int .u8 (lg : Int)] 5)).heap.size (z2.alloc (.cells #[.int .u8 (lg : Int)] 5)) z) (fun z hz => ((Below.refl z2.heap.size z2).alloc (Nat.le_refl _) _).trans (hz.mono (by simp))) _ _ _ _ ?_
                have hRf : Below (z2.alloc (.cells #[.int .u8 (lg : Int)] 5)).heap.size (z2.alloc (.cells #[.int .u8 (lg : Int)] 5)) (z2.alloc (.cells #[.int .u8 (lg : Int)] 5)) := Below.refl _ _
                generalize z2.alloc (.cells #[.int .u8 (lg : Int)] 5) = z3 at *
                refine wpAnyH_take (i := 11) (v := .string (tx 1 fun _ => lg)) rfl (by kernel_rfl) (by kernel_rfl) (by kernel_rfl) (fun _ _ _ h => h) (Or.inl ⟨by rfl, ?_⟩) hRf ?_
                · intro w hSw; have hcr := cv _ hSw; go_simp; try with_reducible rfl
                go_simp
                clear cv
                refine wpAnyH_take (i := 14) (v := ?_) rfl (by kernel_rfl) (by kernel_rfl) (by kernel_rfl) (fun _ _ _ h => h) (Or.inl ⟨by rfl, ?_⟩) (by assumption) ?_
                rotate_left
                · intro w hSw; go_simp; try with_reducible rfl
                go_simp
                refine wpAnyH_ready (rs := [5]) (by kernel_rfl) (by simp) (AllReadyH.cons rfl (fun K hK => ?_) (AllReadyH.nil))
                · go_simp
                  have cv := conv_noughts z3 NN ZN hZN
                  have hL4 : Below wb.heap.size wb (z3.alloc (.cells ZN 5)) := hL3.alloc hL3.size _
                  refine hK.out _ _ ((Below.refl z3.heap.size z3).alloc (Nat.le_refl _) _) (fun hHeld => ?_)
                  clear hK K
                  refine wpAnyH_weaken (S' := fun z => Below (z3.alloc (.cells ZN 5)).heap.size (z3.alloc (.cells ZN 5)) z) (fun z hz => ((Below.refl z3.heap.size z3).alloc (Nat.le_refl _) _).trans (hz.mono (by simp))) _ _ _ _ ?_
                  have hRf : Below (z3.alloc (.cells ZN 5)).heap.size (z3.alloc (.cells ZN 5)) (z3.alloc (.cells ZN 5)) := Below.refl _ _
                  generalize z3.alloc (.cells ZN 5) = z4 at *
                  refine wpAnyH_take (i := 6) (v := .string (zB NN)) rfl (by kernel_rfl) (by kernel_rfl) (by kernel_rfl) (fun _ _ _ h => h) (Or.inl ⟨by rfl, ?_⟩) hRf ?_
                  · intro w hSw; have hcr := cv _ hSw; go_simp; try with_reducible rfl
                  go_simp
                  clear cv
                  refine wpAnyH_take (i := 7) (v := ?_) rfl (by kernel_rfl) (by kernel_rfl) (by kernel_rfl) (fun _ _ _ h => h) (Or.inl ⟨by rfl, ?_⟩) (by assumption) ?_
                  rotate_left
                  · intro w hSw; go_simp; try with_reducible rfl
                  go_simp
                  refine wpAnyH_take (i := 15) (v := ?_) rfl (by kernel_rfl) (by kernel_rfl) (by kernel_rfl) (fun _ _ _ h => h) (Or.inl ⟨by rfl, ?_⟩) (by assumption) ?_
                  rotate_left
                  · intro w hSw; go_simp; try with_reducible rfl
                  go_simp
                  refine wpAnyH_take (i := 16) (v := ?_) rfl (by kernel_rfl) (by kernel_rfl) (by kernel_rfl) (fun _ _ _ h => h) (Or.inl ⟨by rfl, ?_⟩) (by assumption) ?_
                  rotate_left
                  · intro w hSw; go_simp; try with_reducible rfl
                  go_simp
                  refine wpAnyH_done (by kernel_rfl) ?_ _
                  refine NoPanic.normal ?_
                  go_wp2
                  go_meet
                  case rel => exact ⟨rfl, rfl, by rw [HWB.out]; exact hL4⟩
            · go_simp
              have cv := conv_noughts z1 NN ZN hZN
              have hL2 : Below wb.heap.size wb (z1.alloc (.cells ZN 5)) := hL1.alloc hL1.size _
              refine hK.out _ _ ((Below.refl z1.heap.size z1).alloc (Nat.le_refl _) _) (fun hHeld => ?_)
              clear hK K
              refine wpAnyH_weaken (S' := fun z => Below (z1.alloc (.cells ZN 5)).heap.size (z1.alloc (.cells ZN 5)) z) (fun z hz => ((Below.refl z1.heap.size z1).alloc (Nat.le_refl _) _).trans (hz.mono (by simp))) _ _ _ _ ?_
              have hRf : Below (z1.alloc (.cells ZN 5)).heap.size (z1.alloc (.cells ZN 5)) (z1.alloc (.cells ZN 5)) := Below.refl _ _
              generalize z1.alloc (.cells ZN 5) = z2 at *
              refine wpAnyH_take (i := 6) (v := .string (zB NN)) rfl (by kernel_rfl) (by kernel_rfl) (by kernel_rfl) (fun _ _ _ h => h) (Or.inl ⟨by rfl, ?_⟩) hRf ?_
              · intro w hSw; have hcr := cv _ hSw; go_simp; try with_reducible rfl
              go_simp
              clear cv
              refine wpAnyH_ready (rs := [2, 10]) (by kernel_rfl) (by simp) (AllReadyH.cons rfl (fun K hK => ?_) (AllReadyH.cons rfl (fun K hK => ?_) (AllReadyH.nil)))
              · go_simp
                have cv := conv_byte z2 tp
                have hL3 : Below wb.heap.size wb (z2.alloc (.cells #[.int .u8 (tp : Int)] 5)) := hL2.alloc hL2.size _
                refine hK.out _ _ ((Below.refl z2.heap.size z2).alloc (Nat.le_refl _) _) (fun hHeld => ?_)
                clear hK K
                refine wpAnyH_weaken (S' := fun z => Below (z2.alloc (.cells #[.int .u8 (tp : Int)] 5)).heap.size (z2.alloc (.cells #[.int .u8 (tp : Int)] 5)) z) (fun z hz => ((Below.refl z2.heap.size z2).alloc (Nat.le_refl _) _).trans (hz.mono (by simp))) _ _ _ _ ?_
                have hRf : Below (z2.alloc (.cells #[.int .u8 (tp : Int)] 5)).heap.size (z2.alloc (.cells #[.int .u8 (tp : Int)] 5)) (z2.alloc (.cells #[.int .u8 (tp : Int)] 5)) := Below.refl _ _
                generalize z2.alloc (.cells #[.int .u8 (tp : Int)] 5) = z3 at *
                refine wpAnyH_take (i := 3) (v := .string (tx 1 fun _ => tp)) rfl (by kernel_rfl) (by kernel_rfl) (by kernel_rfl) (fun _ _ _ h => h) (Or.inl ⟨by rfl, ?_⟩) hRf ?_
                · intro w hSw; have hcr := cv _ hSw; go_simp; try with_reducible rfl
                go_simp
                clear cv
                refine wpAnyH_take (i := 7) (v := ?_) rfl (by kernel_rfl) (by kernel_rfl) (by kernel_rfl) (fun _ _ _ h => h) (Or.inl ⟨by rfl, ?_⟩) (by assumption) ?_
                rotate_left
                · intro w hSw; go_simp; try with_reducible rfl
                go_simp
                refine wpAnyH_take (i := 15) (v := ?_) rfl (by kernel_rfl) (by kernel_rfl) (by kernel_rfl) (fun _ _ _ h => h) (Or.inl ⟨by rfl, ?_⟩) (by assumption) ?_
                rotate_left
                · intro w hSw; go_simp; try with_reducible rfl
                go_simp
                refine wpAnyH_ready (rs := [10]) (by kernel_rfl) (by simp) (AllReadyH.cons rfl (fun K hK => ?_) (AllReadyH.nil))
                · go_simp
                  have cv := conv_byte z3 lg
                  have hL4 : Below wb.heap.size wb (z3.alloc (.cells #[.int .u8 (lg : Int)] 5)) := hL3.alloc hL3.size _
                  refine hK.out _ _ ((Below.refl z3.heap.size z3).alloc (Nat.le_refl _) _) (fun hHeld => ?_)
                  clear hK K
                  refine wpAnyH_weaken (S' := fun z => Below (z3.alloc (.cells #[.int .u8 (lg : Int)] 5)).heap.size (z3.alloc (.cells #[.int .u8 (lg : Int)] 5)) z) (fun z hz => ((Below.refl z3.heap.size z3).alloc (Nat.le_refl _) _).trans (hz.mono (by simp))) _ _ _ _ ?_
                  have hRf : Below (z3.alloc (.cells #[.int .u8 (lg : Int)] 5)).heap.size (z3.alloc (.cells #[.int .u8 (lg : Int)] 5)) (z3.alloc (.cells #[.int .u8 (lg : Int)] 5)) := Below.refl _ _
                  generalize z3.alloc (.cells #[.int .u8 (lg : Int)] 5) = z4 at *
                  refine wpAnyH_take (i := 11) (v := .string (tx 1 fun _ => lg)) rfl (by kernel_rfl) (by kernel_rfl) (by kernel_rfl) (fun _ _ _ h => h) (Or.inl ⟨by rfl, ?_⟩) hRf ?_
                  · intro w hSw; have hcr := cv _ hSw; go_simp; try with_reducible rfl
                  go_simp
                  clear cv
                  refine wpAnyH_take (i := 14) (v := ?_) rfl (by kernel_rfl) (by kernel_rfl) (by kernel_rfl) (fun _ _ _ h => h) (Or.inl ⟨by rfl, ?_⟩) (by assumption) ?_
                  rotate_left
                  · intro w hSw; go_simp; try with_reducible rfl
                  go_simp
                  refine wpAnyH_take (i := 16) (v := ?_) rfl (by kernel_rfl) (by kernel_rfl) (by kernel_rfl) (fun _ _ _ h => h) (Or.inl ⟨by rfl, ?_⟩) (by assumption) ?_
                  rotate_left
                  · intro w hSw; go_simp; try with_reducible rfl
                  go_simp
                  refine wpAnyH_done (by kernel_rfl) ?_ _
                  refine NoPanic.normal ?_
                  go_wp2
                  go_meet
                  case rel => exact ⟨rfl, rfl, by rw [HWB.out]; exact hL4⟩
              · go_simp
                have cv := conv_byte z2 lg
                have hL3 : Below wb.heap.size wb (z2.alloc (.cells #[.int .u8 (lg : Int)] 5)) := hL2.alloc hL2.size _
                refine hK.out _ _ ((Below.refl z2.heap.size z2).alloc (Nat.le_refl _) _) (fun hHeld => ?_)
                clear hK K
                refine wpAnyH_weaken (S' := fun z => Below (z2.alloc (.cells #[.int .u8 (lg : Int)] 5)).heap.size (z2.alloc (.cells #[.int .u8 (lg : Int)] 5)) z) (fun z hz => ((Below.refl z2.heap.size z2).alloc (Nat.le_refl _) _).trans (hz.mono (by simp))) _ _ _ _ ?_
                have hRf : Below (z2.alloc (.cells #[.int .u8 (lg : Int)] 5)).heap.size (z2.alloc (.cells #[.int .u8 (lg : Int)] 5)) (z2.alloc (.cells #[.int .u8 (lg : Int)] 5)) := Below.refl _ _
                generalize z2.alloc (.cells #[.int .u8 (lg : Int)] 5) = z3 at *
                refine wpAnyH_take (i := 11) (v := .string (tx 1 fun _ => lg)) rfl (by kernel_rfl) (by kernel_rfl) (by kernel_rfl) (fun _ _ _ h => h) (Or.inl ⟨by rfl, ?_⟩) hRf ?_
                · intro w hSw; have hcr := cv _ hSw; go_simp; try with_reducible rfl
                go_simp
                clear cv
                refine wpAnyH_take (i := 14) (v := ?_) rfl (by kernel_rfl) (by kernel_rfl) (by kernel_rfl) (fun _ _ _ h => h) (Or.inl ⟨by rfl, ?_⟩) (by assumption) ?_
                rotate_left
                · intro w hSw; go_simp; try with_reducible rfl
                go_simp
                refine wpAnyH_ready (rs := [2]) (by kernel_rfl) (by simp) (AllReadyH.cons rfl (fun K hK => ?_) (AllReadyH.nil))
                · go_simp
                  have cv := conv_byte z3 tp
                  have hL4 : Below wb.heap.size wb (z3.alloc (.cells #[.int .u8 (tp : Int)] 5)) := hL3.alloc hL3.size _
                  refine hK.out _ _ ((Below.refl z3.heap.size z3).alloc (Nat.le_refl _) _) (fun hHeld => ?_)
                  clear hK K
                  refine wpAnyH_weaken (S' := fun z => Below (z3.alloc (.cells #[.int .u8 (tp : Int)] 5)).heap.size (z3.alloc (.cells #[.int .u8 (tp : Int)] 5)) z) (fun z hz => ((Below.refl z3.heap.size z3).alloc (Nat.le_refl _) _).trans (hz.mono (by simp))) _ _ _ _ ?_
                  have hRf : Below (z3.alloc (.cells #[.int .u8 (tp : Int)] 5)).heap.size (z3.alloc (.cells #[.int .u8 (tp : Int)] 5)) (z3.alloc (.cells #[.int .u8 (tp : Int)] 5)) := Below.refl _ _
                  generalize z3.alloc (.cells #[.int .u8 (tp : Int)] 5) = z4 at *
                  refine wpAnyH_take (i := 3) (v := .string (tx 1 fun _ => tp)) rfl (by kernel_rfl) (by kernel_rfl) (by kernel_rfl) (fun _ _ _ h => h) (Or.inl ⟨by rfl, ?_⟩) hRf ?_
                  · intro w hSw; have hcr := cv _ hSw; go_simp; try with_reducible rfl
                  go_simp
                  clear cv
                  refine wpAnyH_take (i := 7) (v := ?_) rfl (by kernel_rfl) (by kernel_rfl) (by kernel_rfl) (fun _ _ _ h => h) (Or.inl ⟨by rfl, ?_⟩) (by assumption) ?_
                  rotate_left
                  · intro w hSw; go_simp; try with_reducible rfl
                  go_simp
                  refine wpAnyH_take (i := 15) (v := ?_) rfl (by kernel_rfl) (by kernel_rfl) (by kernel_rfl) (fun _ _ _ h => h) (Or.inl ⟨by rfl, ?_⟩) (by assumption) ?_
                  rotate_left
                  · intro w hSw; go_simp; try with_reducible rfl
                  go_simp
                  refine wpAnyH_take (i := 16) (v := ?_) rfl (by kernel_rfl) (by kernel_rfl) (by kernel_rfl) (fun _ _ _ h => h) (Or.inl ⟨by rfl, ?_⟩) (by assumption) ?_
                  rotate_left
                  · intro w hSw; go_simp; try with_reducible rfl
                  go_simp
                  refine wpAnyH_done (by kernel_rfl) ?_ _
                  refine NoPanic.normal ?_
                  go_wp2
                  go_meet
                  case rel => exact ⟨rfl, rfl, by rw [HWB.out]; exact hL4⟩
            · go_simp
              have cv := conv_byte z1 lg
              have hL2 : Below wb.heap.size wb (z1.alloc (.cells #[.int .u8 (lg : Int)] 5)) := hL1.alloc hL1.size _
              refine hK.out _ _ ((Below.refl z1.heap.size z1).alloc (Nat.le_refl _) _) (fun hHeld => ?_)
              clear hK K
              refine wpAnyH_weaken (S' := fun z => Below (z1.alloc (.cells #[.int .u8 (lg : Int)] 5)).heap.size (z1.alloc (.cells #[.int .u8 (lg : Int)] 5)) z) (fun z hz => ((Below.refl z1.heap.size z1).alloc (Nat.le_refl _) _).trans (hz.mono (by simp))) _ _ _ _ ?_
              have hRf : Below (z1.alloc (.cells #[.int .u8 (lg : Int)] 5)).heap.size (z1.alloc (.cells #[.int .u8 (lg : Int)] 5)) (z1.alloc (.cells #[.int .u8 (lg : Int)] 5)) := Below.refl _ _
              generalize z1.alloc (.cells #[.int .u8 (lg : Int)] 5) = z2 at *
              refine wpAnyH_take (i := 11) (v := .string (tx 1 fun _ => lg)) rfl (by kernel_rfl) (by kernel_rfl) (by kernel_rfl) (fun _ _ _ h => h) (Or.inl ⟨by rfl, ?_⟩) hRf ?_
              · intro w hSw; have hcr := cv _ hSw; go_simp; try with_reducible rfl
              go_simp
              clear cv
              refine wpAnyH_take (i := 14) (v := ?_) rfl (by kernel_rfl) (by kernel_rfl) (by kernel_rfl) (fun _ _ _ h => h) (Or.inl ⟨by rfl, ?_⟩) (by assumption) ?_
              rotate_left
              · intro w hSw; go_simp; try with_reducible rfl
              go_simp
              refine wpAnyH_ready (rs := [2, 5]) (by kernel_rfl) (by simp) (AllReadyH.cons rfl (fun K hK => ?_) (AllReadyH.cons rfl (fun K hK => ?_) (AllReadyH.nil)))
              · go_simp
                have cv := conv_byte z2 tp
                have hL3 : Below wb.heap.size wb (z2.alloc (.cells #[.int .u8 (tp : Int)] 5)) := hL2.alloc hL2.size _
                refine hK.out _ _ ((Below.refl z2.heap.size z2).alloc (Nat.le_refl _) _) (fun hHeld => ?_)
                clear hK K
                refine wpAnyH_weaken (S' := fun z => Below (z2.alloc (.cells #[.int .u8 (tp : Int)] 5)).heap.size (z2.alloc (.cells #[.int .u8 (tp : Int)] 5)) z) (fun z hz => ((Below.refl z2.heap.size z2).alloc (Nat.le_refl _) _).trans (hz.mono (by simp))) _ _ _ _ ?_
                have hRf : Below (z2.alloc (.cells #[.int .u8 (tp : Int)] 5)).heap.size (z2.alloc (.cells #[.int .u8 (tp : Int)] 5)) (z2.alloc (.cells #[.int .u8 (tp : Int)] 5)) := Below.refl _ _
                generalize z2.alloc (.cells #[.int .u8 (tp : Int)] 5) = z3 at *
                refine wpAnyH_take (i := 3) (v := .string (tx 1 fun _ => tp)) rfl (by kernel_rfl) (by kernel_rfl) (by kernel_rfl) (fun _ _ _ h => h) (Or.inl ⟨by rfl, ?_⟩) hRf ?_
                · intro w hSw; have hcr := cv _ hSw; go_simp; try with_reducible rfl
                go_simp
                clear cv
                refine wpAnyH_ready (rs := [5]) (by kernel_rfl) (by simp) (AllReadyH.cons rfl (fun K hK => ?_) (AllReadyH.nil))
                · go_simp
                  have cv := conv_noughts z3 NN ZN hZN
                  have hL4 : Below wb.heap.size wb (z3.alloc (.cells ZN 5)) := hL3.alloc hL3.size _
                  refine hK.out _ _ ((Below.refl z3.heap.size z3).alloc (Nat.le_refl _) _) (fun hHeld => ?_)
                  clear hK K
                  refine wpAnyH_weaken (S' := fun z => Below (z3.alloc (.cells ZN 5)).heap.size (z3.alloc (.cells ZN 5)) z) (fun z hz => ((Below.refl z3.heap.size z3).alloc (Nat.le_refl _) _).trans (hz.mono (by simp))) _ _ _ _ ?_
                  have hRf : Below (z3.alloc (.cells ZN 5)).heap.size (z3.alloc (.cells ZN 5)) (z3.alloc (.cells ZN 5)) := Below.refl _ _
                  generalize z3.alloc (.cells ZN 5) = z4 at *
                  refine wpAnyH_take (i := 6) (v := .string (zB NN)) rfl (by kernel_rfl) (by kernel_rfl) (by kernel_rfl) (fun _ _ _ h => h) (Or.inl ⟨by rfl, ?_⟩) hRf ?_
                  · intro w hSw; have hcr := cv _ hSw; go_simp; try with_reducible rfl
                  go_simp
                  clear cv
                  refine wpAnyH_take (i := 7) (v := ?_) rfl (by kernel_rfl) (by kernel_rfl) (by kernel_rfl) (fun _ _ _ h => h) (Or.inl ⟨by rfl, ?_⟩) (by assumption) ?_
                  rotate_left
                  · intro w hSw; go_simp; try with_reducible rfl
                  go_simp
                  refine wpAnyH_take (i := 15) (v := ?_) rfl (by kernel_rfl) (by kernel_rfl) (by kernel_rfl) (fun _ _ _ h => h) (Or.inl ⟨by rfl, ?_⟩) (by assumption) ?_
                  rotate_left
                  · intro w hSw; go_simp; try with_reducible rfl
                  go_simp
                  refine wpAnyH_take (i := 16) (v := ?_) rfl (by kernel_rfl) (by kernel_rfl) (by kernel_rfl) (fun _ _ _ h => h) (Or.inl ⟨by rfl, ?_⟩) (by assumption) ?_
                  rotate_left
                  · intro w hSw; go_simp; try with_reducible rfl
                  go_simp
                  refine wpAnyH_done (by kernel_rfl) ?_ _
                  refine NoPanic.normal ?_
                  go_wp2
                  go_meet
                  case rel => exact ⟨rfl, rfl, by rw [HWB.out]; exact hL4⟩
              · go_simp
                have cv := conv_noughts z2 NN ZN hZN
                have hL3 : Below wb.heap.size wb (z2.alloc (.cells ZN 5)) := hL2.alloc hL2.size _
                refine hK.out _ _ ((Below.refl z2.heap.size z2).alloc (Nat.le_refl _) _) (fun hHeld => ?_)
                clear hK K
                refine wpAnyH_weaken (S' := fun z => Below (z2.alloc (.cells ZN 5)).heap.size (z2.alloc (.cells ZN 5)) z) (fun z hz => ((Below.refl z2.heap.size z2).alloc (Nat.le_refl _) _).trans (hz.mono (by simp))) _ _ _ _ ?_
                have hRf : Below (z2.alloc (.cells ZN 5)).heap.size (z2.alloc (.cells ZN 5)) (z2.alloc (.cells ZN 5)) := Below.refl _ _
                generalize z2.alloc (.cells ZN 5) = z3 at *
                refine wpAnyH_take (i := 6) (v := .string (zB NN)) rfl (by kernel_rfl) (by kernel_rfl) (by kernel_rfl) (fun _ _ _ h => h) (Or.inl ⟨by rfl, ?_⟩) hRf ?_
                · intro w hSw; have hcr := cv _ hSw; go_simp; try with_reducible rfl
                go_simp
                clear cv
                refine wpAnyH_ready (rs := [2]) (by kernel_rfl) (by simp) (AllReadyH.cons rfl (fun K hK => ?_) (AllReadyH.nil))
                · go_simp
                  have cv := conv_byte z3 tp
                  have hL4 : Below wb.heap.size wb (z3.alloc (.cells #[.int .u8 (tp : Int)] 5)) := hL3.alloc hL3.size _
                  refine hK.out _ _ ((Below.refl z3.heap.size z3).alloc (Nat.le_refl _) _) (fun hHeld => ?_)
                  clear hK K
                  refine wpAnyH_weaken (S' := fun z => Below (z3.alloc (.cells #[.int .u8 (tp : Int)] 5)).heap.size (z3.alloc (.cells #[.int .u8 (tp : Int)] 5)) z) (fun z hz => ((Below.refl z3.heap.size z3).alloc (Nat.le_refl _) _).trans (hz.mono (by simp))) _ _ _ _ ?_
                  have hRf : Below (z3.alloc (.cells #[.int .u8 (tp : Int)] 5)).heap.size (z3.alloc (.cells #[.int .u8 (tp : Int)] 5)) (z3.alloc (.cells #[.int .u8 (tp : Int)] 5)) := Below.refl _ _
                  generalize z3.alloc (.cells #[.int .u8 (tp : Int)] 5) = z4 at *
                  refine wpAnyH_take (i := 3) (v := .string (tx 1 fun _ => tp)) rfl (by kernel_rfl) (by kernel_rfl) (by kernel_rfl) (fun _ _ _ h => h) (Or.inl ⟨by rfl, ?_⟩) hRf ?_
                  · intro w hSw; have hcr := cv _ hSw; go_simp; try with_reducible rfl
                  go_simp
                  clear cv
                  refine wpAnyH_take (i := 7) (v := ?_) rfl (by kernel_rfl) (by kernel_rfl) (by kernel_rfl) (fun _ _ _ h => h) (Or.inl ⟨by rfl, ?_⟩) (by assumption) ?_
                  rotate_left
                  · intro w hSw; go_simp; try with_reducible rfl
                  go_simp
                  refine wpAnyH_take (i := 15) (v := ?_) rfl (by kernel_rfl) (by kernel_rfl) (by kernel_rfl) (fun _ _ _ h => h) (Or.inl ⟨by rfl, ?_⟩) (by assumption) ?_
                  rotate_left
                  · intro w hSw; go_simp; try with_reducible rfl
                  go_simp
                  refine wpAnyH_take (i := 16) (v := ?_) rfl (by kernel_rfl) (by kernel_rfl) (by kernel_rfl) (fun _ _ _ h => h) (Or.inl ⟨by rfl, ?_⟩) (by assumption) ?_
                  rotate_left
                  · intro w hSw; go_simp; try with_reducible rfl
                  go_simp
                  refine wpAnyH_done (by kernel_rfl) ?_ _
                  refine NoPanic.normal ?_
                  go_wp2
                  go_meet
                  case rel => exact ⟨rfl, rfl, by rw [HWB.out]; exact hL4⟩
        case rest =>
          obtain ⟨rfl, rfl, hbc⟩ := hcut
          have hh3 := hh2.out.below ((firm_blk _ _ _).star HFR.out) hbc
          have cA := hh3.a.cell (HC8.out _)
          have cB := hh3.bx.cell HD0.out
          obtain ⟨ma', mc', w8, hrunA, hbA, hA⟩ := hh3.pushA ((firm_blk _ _ _).star HFR.out) HCA.out (by omega) sst (dgB tp NN) (dgB lg 31) R1.out R2.out R3.out
          have cA2 := hbA.cell (HC8.out _)
          have fA2 := hbA.frozen 8
          have cB2 := hA.bx.cell HD0.out
          have cN2 := hA.b.cell (HC8.out _)
          obtain ⟨w9, hw9⟩ : ∃ w9, w8.setCell ⟨Ga, 8, none⟩ (.slice ma' (k + 1) mc') = w9 := ⟨_, rfl⟩
          rw [hw9] at hA cB2 cN2
          obtain ⟨mb', md', w10, hrunB, hbB, hBB⟩ := hA.pushB ((firm_blk _ _ _).star HFR.out) HCA.out (by omega) sst (dgB tp NN) (dgB lg 31) R1.out R2.out R3.out
          have cN3 := hbB.cell (HC8.out _)
          have fN3 := hbB.frozen 8
          have HFIN : Hid (StR HS w (w10.setCell ⟨Ga + 1, 8, none⟩ (.slice mb' (k + 1) md')) Ga (Ga + 1) LA RE RR.st RR.top RR.log (k + 1) (k + 1) (.slice ma' (k + 1) mc') (.slice mb' (k + 1) md')) := hBB.unboxed
          clear hh3 hbA hA hbB hBB hh2 hbc c0 c1 c2 c3 HXB HR HMKN HZN
          go_wp2_with (first
            | (at_builtin; refine Lib.wpList_append_run _ rfl _ _ 24 24 rfl _ _ rfl rfl _ _ hrunA ?_)
            | (at_builtin; refine Lib.wpList_append_run _ rfl _ _ 30 30 rfl _ _ rfl rfl _ _ hrunB ?_))
          go_roundw
          case rel => exact ⟨k + 1, ma', mb', mc', md', by omega, by go_num, HFIN.out⟩
          case measure => simp [intOf]; omega
    · obtain rfl : k = M := by omega
      have hk' : ¬ (k : Int) < (k : Int) := by omega
      have hA := hh.out.a
      have hBb := hh.out.b
      have HA : Hid (Blk wr Ga 26 (LA (.slice ma k mc))) := hA
      have HB : Hid (Blk wr (Ga + 1) 32 (LA (.slice mb k md))) := hBb
      have hfull : Hold HS w wr (star (star (blkA Ga 26 (LA (.slice ma k mc))) (rowK 64 3 (.slice ma k mc) k (memF RR.st RR.top RR.log k))) (star (star (blkA (Ga + 1) 32 (LA (.slice mb k md))) (rowK 49 3 (.slice mb k md) k (memF RR.st RR.top RR.log k))) (star (blkA HS 59 (x.row.set 7 (.slice sa C sc))) (star (rowK 3 1 (.slice sa C sc) C (si C A)) (star (blkA (HS + 1 + 1) 32 zS) (star (blkA (HS + 1) 26 zS) nought)))))) := by
        have := hh.out
        unfold StR at this
        rw [← HREq.out] at this
        exact this
      have hx1 := hfull.assoc.right.swap.assoc.right
      have hx2 := (hx1.mono (fun F h => star_monoR h (fun F h => star_swap h))).swap.right
      have hx3 := ((hx2.mono (fun F h => star_monoR h (fun F h => star_monoR h (fun F h => star_monoR h (fun F h => star_swap h))))).mono (fun F h => star_monoR h (fun F h => star_monoR h (fun F h => star_swap h)))).mono (fun F h => star_monoR h (fun F h => star_swap h))
      have hx4 := hx3.swap.drew ((firm_blk _ _ _).star ((firm_rowK _ _ _ _ _).star ((firm_rowK _ _ _ _ _).star ((firm_rowK _ _ _ _ _).star ((firm_blk _ _ _).star firm_nought)))))
      have hx5 := hx4.setRowBlk ((firm_rowK _ _ _ _ _).star ((firm_rowK _ _ _ _ _).star ((firm_rowK _ _ _ _ _).star ((firm_blk _ _ _).star firm_nought)))) (LA (.slice ma k mc))
      have hx6 := ((hx5.right.mono (fun F h => star_monoR h (fun F h => star_monoR h (fun F h => star_swap h)))).mono (fun F h => star_monoR h (fun F h => star_swap h))).swap
      have hx7 := hx6.setRowBlk ((firm_rowK _ _ _ _ _).star ((firm_rowK _ _ _ _ _).star ((firm_rowK _ _ _ _ _).star firm_nought))) (LA (.slice mb k md))
      have hx8 := ((hx7.right.mono (fun F h => star_monoR h (fun F h => star_swap h))).swap).mono (fun F h => star_monoR h (fun F h => star_swap h))
      have hga := HGA.out
      have B1 : Hid (Blk wr.drew (HS + 1) 26 zS) := hx4.blk
      have B2 : Hid (Blk (wr.drew.setRow (HS + 1) (LA (.slice ma k mc)).toArray) (HS + 1 + 1) 32 zS) := hx6.blk
      have HF8 : Hid (Hold HS w _ _) := hx8
      have HR1 : Hid ((loadVar 26 ⟨HS + 1, 0, none⟩).run Tryd.prog ((wr.drew.setRow (HS + 1) (LA (.slice ma k mc)).toArray).setRow (HS + 1 + 1) (LA (.slice mb k md)).toArray) = .ok (.agg (LA (.slice ma k mc)).toArray) _) := run_loadVar_row _ (HS + 1) 26 26 _ (0, 0) _ (hx5.blk.setRowOther (by omega) _) Tryd.underlying26 rfl (by rw [Tryd.size26]; simp [HLN.out])
      have HR2 : Hid ((loadVar 32 ⟨HS + 1 + 1, 0, none⟩).run Tryd.prog ((wr.drew.setRow (HS + 1) (LA (.slice ma k mc)).toArray).setRow (HS + 1 + 1) (LA (.slice mb k md)).toArray) = .ok (.agg (LA (.slice mb k md)).toArray) _) := run_loadVar_row _ (HS + 1 + 1) 32 32 _ (0, 0) _ hx7.blk Tryd.underlying32 rfl (by rw [Tryd.size32]; simp [HLN.out])
      have S0 : Hid (Blk wr.drew Ga 26 (LA (.slice ma k mc)) ∧ Blk wr.drew (Ga + 1) 32 (LA (.slice mb k md))) := ⟨hA.drew, hBb.drew⟩
      have S1 : Hid (Blk (wr.drew.setRow (HS + 1) (LA (.slice ma k mc)).toArray) Ga 26 (LA (.slice ma k mc)) ∧ Blk (wr.drew.setRow (HS + 1) (LA (.slice ma k mc)).toArray) (Ga + 1) 32 (LA (.slice mb k md))) := ⟨hA.drew.setRowOther (by omega) _, hBb.drew.setRowOther (by omega) _⟩
      have S2 : Hid (Blk ((wr.drew.setRow (HS + 1) (LA (.slice ma k mc)).toArray).setRow (HS + 1 + 1) (LA (.slice mb k md)).toArray) Ga 26 (LA (.slice ma k mc)) ∧ Blk ((wr.drew.setRow (HS + 1) (LA (.slice ma k mc)).toArray).setRow (HS + 1 + 1) (LA (.slice mb k md)).toArray) (Ga + 1) 32 (LA (.slice mb k md))) := ⟨S1.out.1.setRowOther (by omega) _, S1.out.2.setRowOther (by omega) _⟩
      clear hx1 hx2 hx3 hx4 hx5 hx6 hx7 hx8 hfull hA hBb HA HB hga
      have HSA : Hid ((Tryd.prog.info? 26).map (·.size) = some (LA (.slice ma k mc)).length) := by
        show _ = _
        rw [Tryd.size26, HLN.out]
      have HSB : Hid ((Tryd.prog.info? 32).map (·.size) = some (LA (.slice mb k md)).length) := by
        show _ = _
        rw [Tryd.size32, HLN.out]
      have HOA := HLO.out ma k mc
      have HOB := HLO.out mb k md
      have HU1 := HSU.out ma mc
      have HU2 := HSU.out mb md
      have HOA : Hid _ := HOA
      have HOB : Hid _ := HOB
      have HU1 : Hid _ := HU1
      have HU2 : Hid _ := HU2
      have HLA : Hid ((LA (.slice ma k mc)).length = 9) := HLN.out _
      have HLB : Hid ((LA (.slice mb k md)).length = 9) := HLN.out _
      generalize LA (.slice ma k mc) = L1 at *
      generalize LA (.slice mb k md) = L2 at *
      have HZ9 : Hid (zS.length = 9) := rfl
      generalize zS = ZS at *
      go_wp2
      refine wp_region_noPanic ?_
      refine wp_region_held_drew (S := fun z => Blk z Ga 26 L1 ∧ Blk z (Ga + 1) 32 L2) (by kernel_rfl) S0.out (fun hHeld => ?_)
      refine wpAnyH_take (i := 0) (v := .agg L1.toArray) rfl (by kernel_rfl) (by kernel_rfl) (by kernel_rfl) (fun _ _ _ h => h) (yields_row rfl 26 _ rfl Ga rfl 26 L1 _ (fun _ h => h.1) Tryd.underlying26 rfl HSA.out) S0.out ?_
      go_simp
      refine wpAnyH_take (i := 1) (v := .agg L2.toArray) rfl (by kernel_rfl) (by kernel_rfl) (by kernel_rfl) (fun _ _ _ h => h) (yields_row rfl 32 _ rfl (Ga + 1) rfl 32 L2 _ (fun _ h => h.2) Tryd.underlying32 rfl HSB.out) S0.out ?_
      go_simp
      refine wpAnyH_ready (rs := [2]) (by kernel_rfl) (by simp) (AllReadyH.cons rfl (fun K hK => ?_) AllReadyH.nil)
      refine step_store_blk rfl 26 _ _ rfl (HS + 1) ZS L1 rfl rfl 26 B1.out HSA.out (by rw [HZ9.out, HLA.out]) HOA.out ?_
      refine hK.out _ _ S1.out (fun hHeld => ?_)
      clear hK K
      refine wpAnyH_ready (rs := [3]) (by kernel_rfl) (by simp) (AllReadyH.cons rfl (fun K hK => ?_) AllReadyH.nil)
      refine step_store_blk rfl 32 _ _ rfl (HS + 1 + 1) ZS L2 rfl rfl 32 B2.out HSB.out (by rw [HZ9.out, HLB.out]) HOB.out ?_
      refine hK.out _ _ S2.out (fun hHeld => ?_)
      clear hK K
      refine wpAnyH_done (by kernel_rfl) ?_ _
      refine NoPanic.normal ?_
      go_simp
      go_wp2
      exact bodyPost_ret_by (v := .tuple #[.agg L1.toArray, .agg L2.toArray]) (results_two 2 3 26 32 ⟨HS + 1, 0, none⟩ ⟨HS + 1 + 1, 0, none⟩ Tryd.results18 rfl rfl HR1.out HR2.out) rfl ⟨sa, sc, ma, mc, mb, md, by rw [HU1.out, HU2.out], by rw [HN1.out.1, HN1.out.2.1, HN1.out.2.2, hHS]; exact HF8.out⟩
end Go.Proofs.YtbjmhpbelkndpaaDoor
