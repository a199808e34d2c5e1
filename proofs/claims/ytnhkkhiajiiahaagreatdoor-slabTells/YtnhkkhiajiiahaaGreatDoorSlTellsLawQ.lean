/- A chunk is had as it was put, or an error is told. -/
import Derived.Test.YtnhkkhiajiiahaaGreatDoorSlTl2Q
import Derived.Deep.DeepCutAuto
import Derived.BigQuiet
namespace Go.Proofs.YtnhkkhiajiiahaaGreatDoor
open Go.RowKit Go.PlainAid
set_option linter.unusedVariables false
set_option maxRecDepth 20000

set_option maxHeartbeats 4000000 in
theorem slabTells_law (n : Int) (f : Nat → Nat) (s : Option Addr) (len cap : Nat) (W : World) (hs : Acs W s len cap) (ht : Tabs W) (hr : RTabs W) : Calls Tryz.prog 5 #[.int .i64 n, .agg (nr .u8 32 f).toArray, .slice s len cap] W fun e w' => e = .returned (.bool true) ∧ Below W.heap.size W w' := by
  have hl1 := hs.1
  have hl2 := hs.2.1
  have HA : Hid (Acs W s len cap) := hs
  have HT : Hid (Tabs W) := ht
  have HR : Hid (RTabs W) := hr
  have HTA : Hid (∀ z, Below W.heap.size W z → Tabs z) := fun z hz => ht.below hz ht.lt
  have HW : Hid (∀ z, Below W.heap.size W z → Calls Tryz.prog 10 #[] z fun e w' => e = .returned (.bool true) ∧ Below z.heap.size z w') := fun z hz => wakes17_any (ht.below hz ht.lt) (hr.below hz hr.lt)
  have HS32 : Hid ((Tryz.prog.info? 23).map (·.size) = some (nr .u8 32 f).length) := by rw [show (nr .u8 32 f).length = 32 by simp [nr]]; exact (by kernel_rfl : (Tryz.prog.info? 23).map (·.size) = some 32)
  have h0 := (hold_nought W.heap.size W W (Nat.le_refl _) (Below.refl _ _)).newBlk firm_nought 23 (nr .u8 32 f).toArray
  rw [List.toList_toArray] at h0
  have H0 : Hid (Hold W.heap.size W (W.alloc (.cells (nr .u8 32 f).toArray 23)) (star (blkA W.heap.size 23 (nr .u8 32 f)) nought)) := h0
  have HS6 : Hid ((Tryz.prog.info? 32).map (·.size) = some 6) := (by kernel_rfl : (Tryz.prog.info? 32).map (·.size) = some 6)
  have hzA : Hid (∀ w : World, _) := zeroAct
  obtain ⟨C, hC1, hC2, hC3, hC5⟩ : ∃ C : Nat, (if (30 : Int) < (len : Int) then (30 : Int) else (len : Int)) = (C : Int) ∧ C ≤ 30 ∧ C ≤ len ∧ min (len : Int) 30 = (C : Int) := ⟨min len 30, by split <;> omega, by omega, by omega, by omega⟩
  have hC4 : C ≤ cap := by omega
  have HCC : Hid ((if (30 : Int) < (len : Int) then (30 : Int) else (len : Int)) = (C : Int) ∧ C ≤ 30 ∧ C ≤ len ∧ min (len : Int) 30 = (C : Int) ∧ C ≤ cap) := ⟨hC1, hC2, hC3, hC5, hC4⟩
  clear hC1 hC2 hC3 hC4 hC5
  obtain ⟨M, hM1, hM3⟩ : ∃ M : Nat, (max 0 n).tmod 4 = (M : Int) ∧ M < 4 := by
    obtain ⟨X, M, hX, hM1, hM2, hM3⟩ := rem_of n 4 (by decide)
    exact ⟨M, by rw [← hM1, ← hX]; congr 1; split <;> omega, by omega⟩
  have HMX : Hid ((max 0 n).tmod 4 = (M : Int)) := hM1
  clear hM1 ht hr hs h0
  go_enter Tryz.func5, Tryz.ntmps5
  go_upto_region 1 with fail
  go_cut [7] (fun x wx => ∃ d n : Nat, x = .int .i64 (n : Int) ∧ 2 ^ d = n ∧ (1 ≤ d ∧ d ≤ 4) ∧ wx = W.alloc (.cells (nr .u8 32 f).toArray 23))
  case first =>
    as_aux_lemma =>
      clear HS32 HA hl1 hl2 HW HTA H0 HT HR HS6 hzA HCC
      rcases (by omega : M = 0 ∨ M = 1 ∨ M = 2 ∨ M = 3) with rfl | rfl | rfl | rfl
      · have hmx : (max 0 n).tmod 4 = 0 := HMX.out
        go_wp2
        go_meet
        case rel => exact ⟨1, 2, rfl, rfl, ⟨by decide, by decide⟩, rfl⟩
      · have hmx : (max 0 n).tmod 4 = 1 := HMX.out
        go_wp2
        go_meet
        case rel => exact ⟨2, 4, rfl, rfl, ⟨by decide, by decide⟩, rfl⟩
      · have hmx : (max 0 n).tmod 4 = 2 := HMX.out
        go_wp2
        go_meet
        case rel => exact ⟨3, 8, rfl, rfl, ⟨by decide, by decide⟩, rfl⟩
      · have hmx : (max 0 n).tmod 4 = 3 := HMX.out
        go_wp2
        go_meet
        case rel => exact ⟨4, 16, rfl, rfl, ⟨by decide, by decide⟩, rfl⟩
  case rest =>
    obtain ⟨d, N, rfl, hN, hd, hw⟩ := hcut
    rw [hw]
    clear hw HMX hM3
    have HN : Hid (2 ^ d = N ∧ 1 ≤ d ∧ d ≤ 4) := ⟨hN, hd⟩
    have HK : Hid ((tx 32 f).size = 32) := tx_size 32 f
    have h16 : N ≤ 16 := by rw [← hN]; exact pow_le16 d hd.2
    have hbg : Hid (Calls _ _ _ _ _) := beg_any (i := 0) (d := d) (n := N) ((firm_blk _ _ _).star firm_nought) H0.out HT.out HR.out (by decide) hN hd f
    have HBX : Hid (Blk (W.alloc (.cells (nr .u8 32 f).toArray 23)) W.heap.size 23 (nr .u8 32 f)) := Hold.blk H0.out
    have hms : ∀ w : World, _ := mk_strs N (by omega)
    clear hN hd H0
    generalize tx 32 f = key at *
    go_wp2_with (first
      | (refine wpList_load_blk rfl 23 _ rfl W.heap.size rfl 23 (nr .u8 32 f) _ HBX.out Tryz.underlying23 rfl HS32.out ?_)
      | (go_at_call 8; refine hbg.out.mono ?_; rintro e w1 ⟨gx, g, gr, b, b', l, top, rfl, h1, h2, h3, h4⟩; have H1 : Hid (Bth W.heap.size W w1 gx g gr 2 b b' 0 (N : Int) key top nought) := h1.dropR; have HL : Hid (Liv 2 0 b l) := h2; have HI : Hid (InT l d (sl0 top) (fun _ => noB)) := h3; have HF : Hid (Few17 2 b 100) := h4; clear h1 h2 h3 h4 hbg HBX HS32)
      | (go_at_call 10; refine (HW.out _ H1.out.low).mono ?_; rintro e w2 ⟨rfl, hb2⟩; have H2 : Hid (Bth W.heap.size W w2 gx g gr 2 b b' 0 (N : Int) key top nought) := H1.out.below firm_nought hb2; clear hb2 H1))
    have H3 : Hid (Tn W gx g gr w2.heap.size N key b b' top (.slice none 0 0) 0 0 (w2.alloc (.cells (strs N fun _ => noB).toArray 9))) := Tn.new H2.out
    clear H2 hms
    generalize hw3 : w2.alloc (.cells (strs N fun _ => noB).toArray 9) = w3 at *
    generalize hgw : w2.heap.size = gw at *
    clear hw3 hgw
    go_loopw [11, 55] (fun ch i wr => ∃ (a : Option Addr) (c k : Nat), k ≤ N ∧ ch = .slice a k c ∧ i = .int .i64 (k : Int) ∧ Hid (Tn W gx g gr gw N key b b' top (.slice a k c) k k wr)) (fun _ i _ => N - (intOf i).toNat)
    case atStart => exact ⟨none, 0, 0, Nat.zero_le _, rfl, rfl, H3.out⟩
    case round =>
      clear H3
      obtain ⟨a, c, k, hk, rfl, rfl, hh⟩ := hrel
      by_cases hlt : k < N
      · have hk' : (k : Int) < (N : Int) := by omega
        have hu8 : IntKind.u8.wrap (k : Int) = (k : Int) := IntWalk.u8_in _ ⟨by omega, by omega⟩
        have hsz3 : (tx 1 fun _ => k).size = 1 := tx_size 1 _
        have hcv : (convert 35 9 (.slice (some ⟨wr.heap.size, 0, none⟩) 1 1)).run Tryz.prog (wr.alloc (.cells #[.int .u8 (k : Int)] 5)) = .ok (.string (tx 1 fun _ => k)) (wr.alloc (.cells #[.int .u8 (k : Int)] 5)) := by
          have hb : Blk (wr.alloc (.cells #[.int .u8 (k : Int)] 5)) wr.heap.size 5 (nr .u8 1 fun _ => k) := Blk.new wr 5 _
          exact conv_blk hb 1 1 (Nat.le_refl _)
        have H4 : Hid (Tn W gx g gr gw N key b b' top (.slice a k c) k k (wr.alloc (.cells #[.int .u8 (k : Int)] 5))) := hh.out.below ((Below.refl _ _).alloc (Nat.le_refl _) _)
        have e1 := H4.out.blk.cell (strs_at N (fT k) k hlt)
        have e2 := H4.out.blk.frozen k
        have H5 : Hid (Tn W gx g gr gw N key b b' top (.slice a k c) k (k + 1) ((wr.alloc (.cells #[.int .u8 (k : Int)] 5)).setCell ⟨gw, k, none⟩ (.string ((tx 1 fun _ => k) ++ ⟨#[49, 50, 51, 52, 53, 54, 55, 56, 57, 97, 98, 99, 100, 101, 102, 48, 49, 50, 51, 52, 53, 54, 55, 56, 57, 97, 98, 99, 100, 101, 102]⟩)))) := H4.out.store
        clear hh H4
        go_wp2_with fail
        clear e1 e2 hcv
        generalize (wr.alloc (.cells #[.int .u8 (k : Int)] 5)).setCell ⟨gw, k, none⟩ (.string ((tx 1 fun _ => k) ++ ⟨#[49, 50, 51, 52, 53, 54, 55, 56, 57, 97, 98, 99, 100, 101, 102, 48, 49, 50, 51, 52, 53, 54, 55, 56, 57, 97, 98, 99, 100, 101, 102]⟩)) = z3 at *
        have HM1 : Hid (Tn W gx g gr gw N key b b' top (.slice a k c) k (k + 1) z3.drew) := H5.out.below (Below.refl _ _).drew
        clear H5
        have HS2 : Hid (k < N) := hlt
        have hsw := HM1.out.tw hlt
        clear hlt
        refine wp_region_noPanic ?_
        refine wp_region_held_drew (S := fun z : World => z.cell? ⟨gx, 0, none⟩ = some (.pointer (some ⟨g, 0, none⟩)) ∧ z.cell? ⟨gx, 1, none⟩ = some (.int .i64 0) ∧ z.cell? ⟨gx, 2, none⟩ = some (.int .i64 (N : Int)) ∧ z.cell? ⟨gx, 3, none⟩ = some (.string key) ∧ z.cell? ⟨gw, k, none⟩ = some (.string (wtT k))) (by kernel_rfl) hsw (fun hHeld => ?_)
        generalize z3.drew = z4 at *
        refine wpAnyH_take (i := 0) (v := ?_) rfl (by kernel_rfl) (by kernel_rfl) (by kernel_rfl) (fun _ _ _ h => h) (Or.inl ⟨by rfl, ?_⟩) (by assumption) ?_
        rotate_left
        · intro w hSw; go_simp; try with_reducible rfl
        go_simp
        refine wpAnyH_take (i := 1) (v := ?_) rfl (by kernel_rfl) (by kernel_rfl) (by kernel_rfl) (fun _ _ _ h => h) (Or.inl ⟨by rfl, ?_⟩) (by assumption) ?_
        rotate_left
        · intro w hSw; go_simp; try with_reducible rfl
        go_simp
        refine wpAnyH_take (i := 2) (v := ?_) rfl (by kernel_rfl) (by kernel_rfl) (by kernel_rfl) (fun _ _ _ h => h) (Or.inl ⟨by rfl, ?_⟩) (by assumption) ?_
        rotate_left
        · intro w hSw; go_simp; try with_reducible rfl
        go_simp
        refine wpAnyH_take (i := 3) (v := ?_) rfl (by kernel_rfl) (by kernel_rfl) (by kernel_rfl) (fun _ _ _ h => h) (Or.inl ⟨by rfl, ?_⟩) (by assumption) ?_
        rotate_left
        · intro w hSw; go_simp; try with_reducible rfl
        go_simp
        refine wpAnyH_take (i := 4) (v := ?_) rfl (by kernel_rfl) (by kernel_rfl) (by kernel_rfl) (fun _ _ _ h => h) (Or.inl ⟨by rfl, ?_⟩) (by assumption) ?_
        rotate_left
        · intro w hSw; go_simp; try with_reducible rfl
        go_simp
        refine wpAnyH_take (i := 5) (v := ?_) rfl (by kernel_rfl) (by kernel_rfl) (by kernel_rfl) (fun _ _ _ h => h) (Or.inl ⟨by rfl, ?_⟩) (by assumption) ?_
        rotate_left
        · intro w hSw; go_simp; try with_reducible rfl
        go_simp
        refine wpAnyH_take (i := 6) (v := ?_) rfl (by kernel_rfl) (by kernel_rfl) (by kernel_rfl) (fun _ _ _ h => h) (Or.inl ⟨by rfl, ?_⟩) (by assumption) ?_
        rotate_left
        · intro w hSw; go_simp; try with_reducible rfl
        go_simp
        refine wpAnyH_take (i := 10) (v := ?_) rfl (by kernel_rfl) (by kernel_rfl) (by kernel_rfl) (fun _ _ _ h => h) (Or.inl ⟨by rfl, ?_⟩) (by assumption) ?_
        rotate_left
        · intro w hSw; go_simp; try with_reducible rfl
        go_simp
        refine wpAnyH_take (i := 11) (v := ?_) rfl (by kernel_rfl) (by kernel_rfl) (by kernel_rfl) (fun _ _ _ h => h) (Or.inl ⟨by rfl, ?_⟩) (by assumption) ?_
        rotate_left
        · intro w hSw; go_simp; try with_reducible rfl
        go_simp
        refine wpAnyH_take (i := 12) (v := ?_) rfl (by kernel_rfl) (by kernel_rfl) (by kernel_rfl) (fun _ _ _ h => h) (Or.inl ⟨by rfl, ?_⟩) (by assumption) ?_
        rotate_left
        · intro w hSw; go_simp; try with_reducible rfl
        go_simp
        refine wpAnyH_take (i := 13) (v := ?_) rfl (by kernel_rfl) (by kernel_rfl) (by kernel_rfl) (fun _ _ _ h => h) (Or.inl ⟨by rfl, ?_⟩) (by assumption) ?_
        rotate_left
        · intro w hSw; go_simp; try with_reducible rfl
        go_simp
        refine wpAnyH_ready (rs := [7]) (by kernel_rfl) (by simp) (AllReadyH.cons rfl (fun K hK => ?_) AllReadyH.nil)
        go_simp
        have hL4 : Below z4.heap.size z4 (z4.alloc (.cells #[.int .u8 (k : Int)] 5)) := (Below.refl _ _).alloc (Nat.le_refl _) _
        have HM2 : Hid (Tn W gx g gr gw N key b b' top (.slice a k c) k (k + 1) (z4.alloc (.cells #[.int .u8 (k : Int)] 5))) := HM1.out.below hL4
        have hB4 : Blk (z4.alloc (.cells #[.int .u8 (k : Int)] 5)) z4.heap.size 5 (nr .u8 1 fun _ => k) := Blk.new z4 5 _
        have hsw2 := HM2.out.tw HS2.out
        refine hK.out _ _ hsw2 (fun hHeld => ?_)
        clear hK K hL4 HM1 hsw
        generalize hz5 : z4.alloc (.cells #[.int .u8 (k : Int)] 5) = z5 at *
        generalize hg4 : z4.heap.size = g4 at *
        clear hz5 hg4
        refine wpAnyH_weaken (S' := fun z : World => (z.cell? ⟨gx, 0, none⟩ = some (.pointer (some ⟨g, 0, none⟩)) ∧ z.cell? ⟨gx, 1, none⟩ = some (.int .i64 0) ∧ z.cell? ⟨gx, 2, none⟩ = some (.int .i64 (N : Int)) ∧ z.cell? ⟨gx, 3, none⟩ = some (.string key) ∧ z.cell? ⟨gw, k, none⟩ = some (.string (wtT k))) ∧ Blk z g4 5 (nr .u8 1 fun _ => k)) (fun z hz => hz.1) _ _ _ _ ?_
        refine wpAnyH_take (i := 8) (v := .string (tx 1 fun _ => k)) rfl (by kernel_rfl) (by kernel_rfl) (by kernel_rfl) (fun _ _ _ h => h) (Or.inl ⟨by rfl, ?_⟩) ⟨hsw2, hB4⟩ ?_
        · intro w hSw; have hcr := conv_blk hSw.2 1 1 (Nat.le_refl _); clear hSw; go_simp; try with_reducible rfl
        go_simp
        refine wpAnyH_take (i := 9) (v := ?_) rfl (by kernel_rfl) (by kernel_rfl) (by kernel_rfl) (fun _ _ _ h => h) (Or.inl ⟨by rfl, ?_⟩) ⟨hsw2, hB4⟩ ?_
        rotate_left
        · intro w hSw; go_simp; try with_reducible rfl
        go_simp
        clear hsw2
        refine wpAnyH_ready (rs := [14]) (by kernel_rfl) (by simp) (AllReadyH.cons rfl (fun K hK => ?_) AllReadyH.nil)
        go_simp
        go_at_call 12
        refine (Tn.seal (s := k) HM2.out HN.out.1 HN.out.2 HK.out HS2.out).mono ?_
        rintro x z6 ⟨rfl, hb6⟩
        have HM3 : Hid (Tn W gx g gr gw N key b b' top (.slice a k c) k (k + 1) z6) := HM2.out.below hb6
        have hB6 := hB4.below hb6 hB4.lt
        refine hK.out _ _ ⟨HM3.out.tw HS2.out, hB6⟩ (fun hHeld => ?_)
        have hsw6 := HM3.out.tw HS2.out
        clear hK K hb6 hB4 HM2
        refine wpAnyH_take (i := 15) (v := ?_) rfl (by kernel_rfl) (by kernel_rfl) (by kernel_rfl) (fun _ _ _ h => h) (Or.inl ⟨by rfl, ?_⟩) ⟨hsw6, hB6⟩ ?_
        rotate_left
        · intro w hSw; go_simp; try with_reducible rfl
        go_simp
        refine wpAnyH_take (i := 16) (v := ?_) rfl (by kernel_rfl) (by kernel_rfl) (by kernel_rfl) (fun _ _ _ h => h) (Or.inl ⟨by rfl, ?_⟩) ⟨hsw6, hB6⟩ ?_
        rotate_left
        · intro w hSw; go_simp; try with_reducible rfl
        go_simp
        refine wpAnyH_take (i := 17) (v := ?_) rfl (by kernel_rfl) (by kernel_rfl) (by kernel_rfl) (fun _ _ _ h => h) (Or.inl ⟨by rfl, ?_⟩) ⟨hsw6, hB6⟩ ?_
        rotate_left
        · intro w hSw; go_simp; try with_reducible rfl
        go_simp
        refine wpAnyH_take (i := 18) (v := ?_) rfl (by kernel_rfl) (by kernel_rfl) (by kernel_rfl) (fun _ _ _ h => h) (Or.inl ⟨by rfl, ?_⟩) ⟨hsw6, hB6⟩ ?_
        rotate_left
        · intro w hSw; go_simp; try with_reducible rfl
        go_simp
        refine wpAnyH_take (i := 19) (v := ?_) rfl (by kernel_rfl) (by kernel_rfl) (by kernel_rfl) (fun _ _ _ h => h) (Or.inl ⟨by rfl, ?_⟩) ⟨hsw6, hB6⟩ ?_
        rotate_left
        · intro w hSw; go_simp; try with_reducible rfl
        go_simp
        refine wpAnyH_done (by kernel_rfl) ?_ _
        refine NoPanic.normal ?_
        clear hsw6 hB6 hsz3 hu8
        have hlt := HS2.out
        obtain ⟨a2, c2, z7, hrun, h7⟩ := Tn.push HM3.out (by omega)
        have H7 : Hid (Tn W gx g gr gw N key b b' top (.slice a2 (k + 1) c2) (k + 1) (k + 1) z7) := h7
        generalize ceT key k = cel at *
        clear h7 HM3
        go_wp2_with (at_builtin; refine Lib.wpList_append_run _ rfl _ _ 36 36 rfl _ _ rfl rfl _ _ hrun ?_)
        go_roundw
        case rel => exact ⟨a2, c2, k + 1, by omega, rfl, by go_num, H7.out⟩
        case measure => simp [intOf]; omega
      · obtain rfl : k = N := by omega
        have hk' : ¬ (k : Int) < (k : Int) := by omega
        have HD : Hid (Tn W gx g gr gw k key b b' top (.slice a k c) k k wr.drew) := hh.out.below (Below.refl _ _).drew
        clear hh hlt hk
        go_wp2_with fail
        refine wp_region_noPanic ?_
        refine wp_region_held_drew (S := fun z : World => z.cell? ⟨gx, 0, none⟩ = some (.pointer (some ⟨g, 0, none⟩)) ∧ z.cell? ⟨gx, 1, none⟩ = some (.int .i64 0) ∧ z.cell? ⟨gx, 2, none⟩ = some (.int .i64 (k : Int)) ∧ z.cell? ⟨gx, 3, none⟩ = some (.string key) ∧ z.cell? ⟨gx, 8, none⟩ = some (.string top)) (by kernel_rfl) HD.out.tc (fun hHeld => ?_)
        refine wpAnyH_take (i := 0) (v := ?_) rfl (by kernel_rfl) (by kernel_rfl) (by kernel_rfl) (fun _ _ _ h => h) (Or.inl ⟨by rfl, ?_⟩) (by assumption) ?_
        rotate_left
        · intro w hSw; go_simp; try with_reducible rfl
        go_simp
        refine wpAnyH_take (i := 1) (v := ?_) rfl (by kernel_rfl) (by kernel_rfl) (by kernel_rfl) (fun _ _ _ h => h) (Or.inl ⟨by rfl, ?_⟩) (by assumption) ?_
        rotate_left
        · intro w hSw; go_simp; try with_reducible rfl
        go_simp
        refine wpAnyH_take (i := 2) (v := ?_) rfl (by kernel_rfl) (by kernel_rfl) (by kernel_rfl) (fun _ _ _ h => h) (Or.inl ⟨by rfl, ?_⟩) (by assumption) ?_
        rotate_left
        · intro w hSw; go_simp; try with_reducible rfl
        go_simp
        refine wpAnyH_take (i := 3) (v := ?_) rfl (by kernel_rfl) (by kernel_rfl) (by kernel_rfl) (fun _ _ _ h => h) (Or.inl ⟨by rfl, ?_⟩) (by assumption) ?_
        rotate_left
        · intro w hSw; go_simp; try with_reducible rfl
        go_simp
        refine wpAnyH_take (i := 4) (v := ?_) rfl (by kernel_rfl) (by kernel_rfl) (by kernel_rfl) (fun _ _ _ h => h) (Or.inl ⟨by rfl, ?_⟩) (by assumption) ?_
        rotate_left
        · intro w hSw; go_simp; try with_reducible rfl
        go_simp
        refine wpAnyH_take (i := 5) (v := ?_) rfl (by kernel_rfl) (by kernel_rfl) (by kernel_rfl) (fun _ _ _ h => h) (Or.inl ⟨by rfl, ?_⟩) (by assumption) ?_
        rotate_left
        · intro w hSw; go_simp; try with_reducible rfl
        go_simp
        refine wpAnyH_take (i := 6) (v := ?_) rfl (by kernel_rfl) (by kernel_rfl) (by kernel_rfl) (fun _ _ _ h => h) (Or.inl ⟨by rfl, ?_⟩) (by assumption) ?_
        rotate_left
        · intro w hSw; go_simp; try with_reducible rfl
        go_simp
        refine wpAnyH_take (i := 7) (v := ?_) rfl (by kernel_rfl) (by kernel_rfl) (by kernel_rfl) (fun _ _ _ h => h) (Or.inl ⟨by rfl, ?_⟩) (by assumption) ?_
        rotate_left
        · intro w hSw; go_simp; try with_reducible rfl
        go_simp
        refine wpAnyH_take (i := 8) (v := ?_) rfl (by kernel_rfl) (by kernel_rfl) (by kernel_rfl) (fun _ _ _ h => h) (Or.inl ⟨by rfl, ?_⟩) (by assumption) ?_
        rotate_left
        · intro w hSw; go_simp; try with_reducible rfl
        go_simp
        refine wpAnyH_ready (rs := [9]) (by kernel_rfl) (by simp) (AllReadyH.cons rfl (fun K hK => ?_) AllReadyH.nil)
        go_simp
        go_at_call 13
        refine (Tn.prep HD.out (HTA.out _ HD.out.low) HL.out HI.out HN.out.1 HN.out.2 HK.out).mono ?_
        rintro x w5 ⟨v5, t5, rfl, h5⟩
        have HR5 : Hid (Tr W gx g gr gw d k key b b' top v5 t5 w5) := h5
        clear h5 HD
        refine hK.out _ _ HR5.out.tc (fun hHeld => ?_)
        clear hK K
        refine wpAnyH_take (i := 10) (v := ?_) rfl (by kernel_rfl) (by kernel_rfl) (by kernel_rfl) (fun _ _ _ h => h) (Or.inl ⟨by rfl, ?_⟩) (by assumption) ?_
        rotate_left
        · intro w hSw; go_simp; try with_reducible rfl
        go_simp
        refine wpAnyH_take (i := 11) (v := ?_) rfl (by kernel_rfl) (by kernel_rfl) (by kernel_rfl) (fun _ _ _ h => h) (Or.inl ⟨by rfl, ?_⟩) (by assumption) ?_
        rotate_left
        · intro w hSw; go_simp; try with_reducible rfl
        go_simp
        refine wpAnyH_take (i := 12) (v := ?_) rfl (by kernel_rfl) (by kernel_rfl) (by kernel_rfl) (fun _ _ _ h => h) (Or.inl ⟨by rfl, ?_⟩) (by assumption) ?_
        rotate_left
        · intro w hSw; go_simp; try with_reducible rfl
        go_simp
        refine wpAnyH_take (i := 13) (v := ?_) rfl (by kernel_rfl) (by kernel_rfl) (by kernel_rfl) (fun _ _ _ h => h) (Or.inl ⟨by rfl, ?_⟩) (by assumption) ?_
        rotate_left
        · intro w hSw; go_simp; try with_reducible rfl
        go_simp
        refine wpAnyH_take (i := 14) (v := ?_) rfl (by kernel_rfl) (by kernel_rfl) (by kernel_rfl) (fun _ _ _ h => h) (Or.inl ⟨by rfl, ?_⟩) (by assumption) ?_
        rotate_left
        · intro w hSw; go_simp; try with_reducible rfl
        go_simp
        refine wpAnyH_take (i := 15) (v := ?_) rfl (by kernel_rfl) (by kernel_rfl) (by kernel_rfl) (fun _ _ _ h => h) (Or.inl ⟨by rfl, ?_⟩) (by assumption) ?_
        rotate_left
        · intro w hSw; go_simp; try with_reducible rfl
        go_simp
        refine wpAnyH_take (i := 16) (v := ?_) rfl (by kernel_rfl) (by kernel_rfl) (by kernel_rfl) (fun _ _ _ h => h) (Or.inl ⟨by rfl, ?_⟩) (by assumption) ?_
        rotate_left
        · intro w hSw; go_simp; try with_reducible rfl
        go_simp
        refine wpAnyH_done (by kernel_rfl) ?_ _
        refine NoPanic.normal ?_
        obtain ⟨d0, d1, d2, d3, d4⟩ := HR5.out.tc
        obtain ⟨hC1, hC2, hC3, hC5, hC4⟩ := HCC.out
        go_wp2_with (first
          | (go_at_call 14; refine (Tr.apply HR5.out HN.out.1 HN.out.2 HK.out HF.out).mono ?_; rintro x w6 ⟨rfl, b3, b3', C3, l3, hB3, hL3, hI3, hC3'⟩; have HB : Hid (Bth W.heap.size W w6 gx g gr 2 b3 b3' 0 (k : Int) key top (star (blkA gw 9 (strs k wtT)) nought)) := hB3; have HL3 : Hid (Liv 2 0 b3 l3) := hL3; have HI3 : Hid (InT l3 d (sl0 t5) C3) := hI3; have HC3 : Hid (∀ j, j < k → C3 j = ceT key j) := hC3'; have q0 := hB3.cells.1; clear hB3 hL3 hI3 hC3' HR5 d0 d1 d2 d3 d4)
          | (go_at_call 17; refine (bdisk_in (Hold.right HB.out) 0 (by decide)).mono ?_; rintro x w7 ⟨rfl, hw⟩; rw [hw]; clear hw w7)
          | (go_at_call 18; refine (ty_first ((firm_blk _ _ _).star firm_nought) HB.out HL3.out).mono ?_; rintro x w8 ⟨rfl, h8⟩; have H8 : Hid (Ty W gx g gr (b3.D 0).g k key top l3 (.slice (some ⟨w6.heap.size, 0, none⟩) 140 140) 140 (star (blkA gw 9 (strs k wtT)) nought) w8) := h8; clear h8 HB q0))
        clear hC1 hC5 HL HI HF HL3
        generalize (b3.D 0).g = gd at *
        generalize w6.heap.size = gt at *
        go_loopw [19, 132] (fun tv i wr => ∃ (a : Option Addr) (c j m : Nat), j ≤ C ∧ Hid (m = 140 + j) ∧ tv = .slice a m c ∧ i = .int .i64 (j : Int) ∧ Hid (Ty W gx g gr gd k key top l3 (.slice a m c) m (star (blkA gw 9 (strs k wtT)) nought) wr)) (fun _ i _ => C - (intOf i).toNat)
        case atStart => exact ⟨some ⟨gt, 0, none⟩, 140, 0, 140, Nat.zero_le _, rfl, rfl, rfl, H8.out⟩
        case round =>
          clear H8
          obtain ⟨a1, c1, j, m, hj, HM, rfl, rfl, hrr⟩ := hrel
          have hm140 : 140 ≤ m := by have := HM.out; omega
          have hm200 : m ≤ 200 := by have := HM.out; omega
          by_cases hlt : j < C
          · have hj' : (j : Int) < (C : Int) := by omega
            obtain ⟨sb, so, A, hsa, hA, hrow⟩ := acs_at HA.out hrr.out.low j (by omega)
            subst hsa
            have hbx := hrr.out.boxed ((firm_blk _ _ _).star firm_nought) A.row
            obtain ⟨M, hM1, hM2, hM3⟩ : ∃ q : Nat, (if (200 : Int) < (A.p.size : Int) then (200 : Int) else (A.p.size : Int)) = (q : Int) ∧ q ≤ A.p.size ∧ q ≤ 200 := ⟨min A.p.size 200, by split <;> omega, by omega, by omega⟩
            have hM1' : min (A.p.size : Int) 200 = (M : Int) := by rw [← hM1]; split <;> omega
            have hMi : (M : Int) ≤ (A.p.size : Int) := by omega
            have hps := hA.2.2.2.2
            obtain ⟨ad, kk, aa, at_, ca, cl, cc, ap⟩ := A
            have HC : Hid (Ty W gx g gr gd k key top l3 (.slice a1 m c1) m (star (blkA wr.heap.size 32 [.int .i64 ad, .int .i64 kk, .int .i64 aa, .int .u8 at_, .slice ca cl cc, .string ap]) (star (blkA gw 9 (strs k wtT)) nought)) (wr.alloc (.cells #[.int .i64 ad, .int .i64 kk, .int .i64 aa, .int .u8 at_, .slice ca cl cc, .string ap] 32))) := hbx
            have HROW : Hid (wr.rangeAt sb (so + j * 6) [.int .i64 ad, .int .i64 kk, .int .i64 aa, .int .u8 at_, .slice ca cl cc, .string ap]) := hrow
            have hz := hzA.out
            simp only at hM1 hM1' hM2 hMi hps
            clear hbx hA hrow hrr
            go_upto_region 24 with (first
              | (refine wpList_load_mid rfl 32 _ rfl sb (so + j * 6) rfl [.int .i64 ad, .int .i64 kk, .int .i64 aa, .int .u8 at_, .slice ca cl cc, .string ap] _ HROW.out Tryz.underlying32 rfl HS6.out ?_))
            generalize hwb : wr.alloc (.cells #[.int .i64 ad, .int .i64 kk, .int .i64 aa, .int .u8 at_, .slice ca cl cc, .string ap] 32) = wb at *
            generalize hga : wr.heap.size = ga at *
            clear hwb hga hz HROW
            have b0 := HC.out.box.cell (i := 0) rfl
            have b1 := HC.out.box.cell (i := 1) rfl
            have b2 := HC.out.box.cell (i := 2) rfl
            have b5 := HC.out.box.cell (i := 5) rfl
            obtain ⟨BB, hBB⟩ : ∃ B, bits BinOp.and IntKind.i64 ad 1 = B := ⟨_, rfl⟩
            by_cases hB1 : BB = 1
            · subst hB1
              by_cases hB2 : 0 ≤ aa
              · by_cases hB3 : aa < (m : Int)
                ·
                  obtain ⟨q, rfl⟩ : ∃ q : Nat, aa = (q : Int) := ⟨aa.toNat, by omega⟩
                  have hq : q < m := by omega
                  obtain ⟨t, g0, ha1, hg0, hts⟩ := HC.out.at hq
                  subst ha1
                  obtain ⟨a2, c2, z2, hrun, h2⟩ := HC.out.push ((firm_blk _ _ _).star ((firm_blk _ _ _).star firm_nought)) (by omega) (by omega) hts
                  have H2 : Hid (Ty W gx g gr gd k key top l3 (.slice a2 (m + 1) c2) (m + 1) (star (blkA ga 32 [.int .i64 ad, .int .i64 kk, .int .i64 (q : Int), .int .u8 at_, .slice ca cl cc, .string ap]) (star (blkA gw 9 (strs k wtT)) nought)) z2) := h2
                  have b1' := h2.box.cell (i := 1) rfl
                  have HTS : Hid (t.size ≤ 2048) := hts
                  clear h2 HC hts
                  go_wp2_with (first
                    | (at_builtin; refine Lib.wpList_append_run _ rfl _ _ 30 30 rfl _ _ rfl rfl _ _ hrun ?_)
                    | (go_at_call 19; refine (Ty.tamper ((firm_blk _ _ _).star ((firm_blk _ _ _).star firm_nought)) H2.out kk HTS.out).mono ?_; rintro x z3 ⟨xb, rfl, h3⟩; have H3 : Hid (Ty W gx g gr gd k key top l3 (.slice a2 (m + 1) c2) (m + 1) (star (blkA gw 9 (strs k wtT)) nought) z3) := h3.unbox; clear h3 H2 b1'))
                  go_roundw
                  case rel => exact ⟨a2, c2, j + 1, m + 1, by omega, by have := HM.out; show m + 1 = 140 + (j + 1); omega, rfl, by go_num, H3.out⟩
                  case measure => simp [intOf]; omega
                · have hB3' : decide (aa < (m : Int)) = false := decide_eq_false hB3
                  have hts : (ap.extract 0 M).size ≤ 2048 := by rw [ByteArray.size_extract]; omega
                  obtain ⟨a2, c2, z2, hrun, h2⟩ := HC.out.push ((firm_blk _ _ _).star ((firm_blk _ _ _).star firm_nought)) (by omega) (by omega) hts
                  have H2 : Hid (Ty W gx g gr gd k key top l3 (.slice a2 (m + 1) c2) (m + 1) (star (blkA ga 32 [.int .i64 ad, .int .i64 kk, .int .i64 aa, .int .u8 at_, .slice ca cl cc, .string ap]) (star (blkA gw 9 (strs k wtT)) nought)) z2) := h2
                  have b1' := h2.box.cell (i := 1) rfl
                  have HTS : Hid ((ap.extract 0 M).size ≤ 2048) := hts
                  clear h2 HC hts
                  go_wp2_with (first
                    | (at_builtin; refine Lib.wpList_append_run _ rfl _ _ 30 30 rfl _ _ rfl rfl _ _ hrun ?_)
                    | (go_at_call 19; refine (Ty.tamper ((firm_blk _ _ _).star ((firm_blk _ _ _).star firm_nought)) H2.out kk HTS.out).mono ?_; rintro x z3 ⟨xb, rfl, h3⟩; have H3 : Hid (Ty W gx g gr gd k key top l3 (.slice a2 (m + 1) c2) (m + 1) (star (blkA gw 9 (strs k wtT)) nought) z3) := h3.unbox; clear h3 H2 b1'))
                  go_roundw
                  case rel => exact ⟨a2, c2, j + 1, m + 1, by omega, by have := HM.out; show m + 1 = 140 + (j + 1); omega, rfl, by go_num, H3.out⟩
                  case measure => simp [intOf]; omega
              · have hB2' : decide (0 ≤ aa) = false := decide_eq_false hB2
                have hts : (ap.extract 0 M).size ≤ 2048 := by rw [ByteArray.size_extract]; omega
                obtain ⟨a2, c2, z2, hrun, h2⟩ := HC.out.push ((firm_blk _ _ _).star ((firm_blk _ _ _).star firm_nought)) (by omega) (by omega) hts
                have H2 : Hid (Ty W gx g gr gd k key top l3 (.slice a2 (m + 1) c2) (m + 1) (star (blkA ga 32 [.int .i64 ad, .int .i64 kk, .int .i64 aa, .int .u8 at_, .slice ca cl cc, .string ap]) (star (blkA gw 9 (strs k wtT)) nought)) z2) := h2
                have b1' := h2.box.cell (i := 1) rfl
                have HTS : Hid ((ap.extract 0 M).size ≤ 2048) := hts
                clear h2 HC hts
                go_wp2_with (first
                  | (at_builtin; refine Lib.wpList_append_run _ rfl _ _ 30 30 rfl _ _ rfl rfl _ _ hrun ?_)
                  | (go_at_call 19; refine (Ty.tamper ((firm_blk _ _ _).star ((firm_blk _ _ _).star firm_nought)) H2.out kk HTS.out).mono ?_; rintro x z3 ⟨xb, rfl, h3⟩; have H3 : Hid (Ty W gx g gr gd k key top l3 (.slice a2 (m + 1) c2) (m + 1) (star (blkA gw 9 (strs k wtT)) nought) z3) := h3.unbox; clear h3 H2 b1'))
                go_roundw
                case rel => exact ⟨a2, c2, j + 1, m + 1, by omega, by have := HM.out; show m + 1 = 140 + (j + 1); omega, rfl, by go_num, H3.out⟩
                case measure => simp [intOf]; omega
            · have hB1' : decide (BB = 1) = false := decide_eq_false hB1
              have hB1'' : (BB == 1) = false := by simpa using hB1
              have hts : (ap.extract 0 M).size ≤ 2048 := by rw [ByteArray.size_extract]; omega
              obtain ⟨a2, c2, z2, hrun, h2⟩ := HC.out.push ((firm_blk _ _ _).star ((firm_blk _ _ _).star firm_nought)) (by omega) (by omega) hts
              have H2 : Hid (Ty W gx g gr gd k key top l3 (.slice a2 (m + 1) c2) (m + 1) (star (blkA ga 32 [.int .i64 ad, .int .i64 kk, .int .i64 aa, .int .u8 at_, .slice ca cl cc, .string ap]) (star (blkA gw 9 (strs k wtT)) nought)) z2) := h2
              have b1' := h2.box.cell (i := 1) rfl
              have HTS : Hid ((ap.extract 0 M).size ≤ 2048) := hts
              clear h2 HC hts
              go_wp2_with (first
                | (at_builtin; refine Lib.wpList_append_run _ rfl _ _ 30 30 rfl _ _ rfl rfl _ _ hrun ?_)
                | (go_at_call 19; refine (Ty.tamper ((firm_blk _ _ _).star ((firm_blk _ _ _).star firm_nought)) H2.out kk HTS.out).mono ?_; rintro x z3 ⟨xb, rfl, h3⟩; have H3 : Hid (Ty W gx g gr gd k key top l3 (.slice a2 (m + 1) c2) (m + 1) (star (blkA gw 9 (strs k wtT)) nought) z3) := h3.unbox; clear h3 H2 b1'))
              go_roundw
              case rel => exact ⟨a2, c2, j + 1, m + 1, by omega, by have := HM.out; show m + 1 = 140 + (j + 1); omega, rfl, by go_num, H3.out⟩
              case measure => simp [intOf]; omega
          · obtain rfl : j = C := by omega
            have hj' : ¬ (j : Int) < (j : Int) := by omega
            have hmm := @run_makeMap Tryz.prog
            go_wp2_with (first
              | (go_at_call 18; refine (Ty.image ((firm_blk _ _ _).star firm_nought) hrr.out (by omega) (by omega)).mono ?_; rintro x w9 ⟨rfl, a9, c9, z9, mm, hmq, hrun9, h9⟩; have H9 : Hid (Tx W gx g gr k key top l3 (.slice a9 mm c9) mm (star (blkA gw 9 (strs k wtT)) nought) z9) := h9; have HMQ : Hid (mm = m + 140) := hmq; clear h9 hrr hmq)
              | (at_builtin; refine Lib.wpList_append_run _ rfl _ _ 30 30 rfl _ _ rfl rfl _ _ hrun9 ?_))
            clear hmm hrun9
            obtain ⟨b4, b4', T, l4, p, hB4, hL4, hT1, hT2, hT3, hp1, hp2⟩ := H9.out
            have H10 : Hid (Mt W gx g gr k key top b4 b4' T (.slice a9 mm c9) mm z9.heap.size 0 (star (blkA gw 9 (strs k wtT)) nought) (z9.alloc (.map #[] 0))) := Mt.new ((firm_blk _ _ _).star firm_nought) hB4
            have HL4 : Hid (Liv 2 0 b4 l4) := hL4
            have HTT : Hid ((∀ i, i < 140 → T i = l3 i) ∧ (∀ i, i < 140 → T (p + i) = l4 i) ∧ (∀ i, (T i).size ≤ 2048) ∧ 140 ≤ p ∧ p + 140 = mm) := ⟨hT1, hT2, hT3, hp1, hp2⟩
            have hmm3 : mm ≤ 340 := by have := HMQ.out; omega
            clear hB4 hL4 hT1 hT2 hT3 hp1 hp2 H9 hm140 hm200 HM HMQ
            generalize z9.alloc (.map #[] 0) = z10 at *
            generalize z9.heap.size = gm at *
            go_loopw [181] (fun i wr => ∃ j : Nat, j ≤ mm ∧ i = .int .i64 (j : Int) ∧ Hid (Mt W gx g gr k key top b4 b4' T (.slice a9 mm c9) mm gm (2 * j) (star (blkA gw 9 (strs k wtT)) nought) wr)) (fun i _ => mm - (intOf i).toNat)
            case atStart => exact ⟨0, Nat.zero_le _, rfl, H10.out⟩
            case round =>
              clear H10
              obtain ⟨j, hj, rfl, hh⟩ := hrel
              by_cases hlt : j < mm
              · have hj' : (j : Int) < (mm : Int) := by omega
                obtain ⟨g0, hg0, e1⟩ := hh.out.at hlt
                subst hg0
                have H11 : Hid (Mt W gx g gr k key top b4 b4' T (.slice (some ⟨g0, 0, none⟩) mm c9) mm gm (2 * j) (star (blkA wr.heap.size 9 [.string ⟨#[0]⟩, .string ⟨#[1]⟩]) (star (blkA gw 9 (strs k wtT)) nought)) (wr.alloc (.cells #[.string ⟨#[0]⟩, .string ⟨#[1]⟩] 9))) := hh.out.lit ((firm_blk _ _ _).star firm_nought) [.string ⟨#[0]⟩, .string ⟨#[1]⟩]
                clear hh
                go_wp2_with fail
                clear e1
                generalize wr.alloc (.cells #[.string ⟨#[0]⟩, .string ⟨#[1]⟩] 9) = w11 at *
                generalize wr.heap.size = gl at *
                have HLT : Hid (j < mm) := hlt
                clear hlt hj'
                go_loopw [187] (fun i wz => ∃ kk : Nat, kk ≤ 2 ∧ i = .int .i64 (kk : Int) ∧ Hid (Mt W gx g gr k key top b4 b4' T (.slice (some ⟨g0, 0, none⟩) mm c9) mm gm (2 * j + kk) (star (blkA gl 9 [.string ⟨#[0]⟩, .string ⟨#[1]⟩]) (star (blkA gw 9 (strs k wtT)) nought)) wz)) (fun i _ => 2 - (intOf i).toNat)
                case atStart => exact ⟨0, Nat.zero_le _, rfl, H11.out⟩
                case round =>
                  clear H11
                  obtain ⟨kk, hkk, rfl, hq⟩ := hrel
                  by_cases hlt2 : kk < 2
                  · have hk2 : (kk : Int) < 2 := by omega
                    have e2 : wr.cell? ⟨gl, kk, none⟩ = some (.string (kB kk)) := hq.out.two.cell (by rcases (by omega : kk = 0 ∨ kk = 1) with rfl | rfl <;> rfl)
                    have hkb : (kB kk).size = 1 := by unfold kB; split <;> rfl
                    have hts : (T j).size ≤ 2048 := HTT.out.2.2.1 j
                    obtain ⟨X, hX⟩ : ∃ X : ByteArray, kB kk ++ T j = X := ⟨_, rfl⟩
                    have HXx : Hid (kx T j kk = X) := hX
                    have hsum : Calls Tryz.prog 20 #[.string X] wr fun e w' => e = .returned (.string (digest X)) ∧ Below wr.heap.size wr w' := shaSum_any X (by rw [← hX, ByteArray.size_append]; omega) wr (HTA.out _ hq.out.low)
                    go_upto_region 39 with (go_at_call 20; refine hsum.mono ?_; rintro x w12 ⟨rfl, hb12⟩; have H12 : Hid (Mt W gx g gr k key top b4 b4' T (.slice (some ⟨g0, 0, none⟩) mm c9) mm gm (2 * j + kk) (star (blkA gl 9 [.string ⟨#[0]⟩, .string ⟨#[1]⟩]) (star (blkA gw 9 (strs k wtT)) nought)) w12) := hq.out.below ((firm_blk _ _ _).star ((firm_blk _ _ _).star firm_nought)) hb12; clear hb12 hq hsum e2)
                    have HLO : Hid (Below W.heap.size W w12) := H12.out.low
                    have hlook := Mt.look ((firm_blk _ _ _).star ((firm_blk _ _ _).star firm_nought)) H12.out (by have := HLT.out; omega) HTT.out.2.2.1 hlt2 rfl
                    rw [HXx.out] at hlook
                    rcases hlook with ⟨t, hlk, hne⟩ | ⟨hlk, z14, hup, h14⟩ | ⟨hlk, z14, hup, h14⟩
                    · have hnb : (t.toList == X.toList) = false := by rw [teq]; exact decide_eq_false hne
                      clear H12
                      go_wp2
                      go_ret
                      exact ⟨rfl, HLO.out⟩
                    · have H14 : Hid (Mt W gx g gr k key top b4 b4' T (.slice (some ⟨g0, 0, none⟩) mm c9) mm gm (2 * j + kk + 1) (star (blkA gl 9 [.string ⟨#[0]⟩, .string ⟨#[1]⟩]) (star (blkA gw 9 (strs k wtT)) nought)) z14) := h14
                      clear h14 H12
                      generalize digest X = dg at *
                      go_wp2
                      go_roundw
                      case rel => exact ⟨kk + 1, by omega, by go_num, H14.out⟩
                      case measure => simp [intOf]; omega
                    · have H14 : Hid (Mt W gx g gr k key top b4 b4' T (.slice (some ⟨g0, 0, none⟩) mm c9) mm gm (2 * j + kk + 1) (star (blkA gl 9 [.string ⟨#[0]⟩, .string ⟨#[1]⟩]) (star (blkA gw 9 (strs k wtT)) nought)) z14) := h14
                      clear h14 H12
                      generalize digest X = dg at *
                      go_wp2
                      go_roundw
                      case rel => exact ⟨kk + 1, by omega, by go_num, H14.out⟩
                      case measure => simp [intOf]; omega
                  · obtain rfl : kk = 2 := by omega
                    have hlt := HLT.out
                    go_wp2
                    go_roundw
                    case rel => exact ⟨j + 1, by omega, by go_num, hq.out.unlit⟩
                    case measure => simp [intOf]; omega
              · obtain rfl : j = mm := by omega
                have hj' : ¬ (j : Int) < (j : Int) := by omega
                obtain ⟨⟨M9, hM9⟩, hB9⟩ := hh.out.done
                have HM9 : Hid (Met T M9 (2 * j)) := hM9
                have HB9 : Hid (Bth W.heap.size W wr gx g gr 2 b4 b4' 0 (k : Int) key top (star (blkA gw 9 (strs k wtT)) nought)) := hB9
                clear hM9 hB9 hh
                go_wp2_with fail
                go_loopw [218] (fun i wr => ∃ s : Nat, s ≤ k ∧ i = .int .i64 (s : Int) ∧ Hid (Bth W.heap.size W wr gx g gr 2 b4 b4' 0 (k : Int) key top (star (blkA gw 9 (strs k wtT)) nought))) (fun i _ => k - (intOf i).toNat)
                case atStart => exact ⟨0, Nat.zero_le _, rfl, HB9.out⟩
                case round =>
                  clear HB9
                  obtain ⟨s9, hs, rfl, hq⟩ := hrel
                  by_cases hlt3 : s9 < k
                  · have hs' : (s9 : Int) < (k : Int) := by omega
                    have e1 := (Hold.blk (Hold.right (Hold.right (Hold.right hq.out)))).cell (strs_at k wtT s9 hlt3)
                    obtain ⟨d0, d1, d2, d3, d4⟩ := hq.out.tc
                    go_upto_region 49 with (go_at_call 15; refine (tl_wget hq.out (HTA.out _ hq.out.low) HL4.out HI3.out HN.out.1 HN.out.2 HC3.out HK.out HM9.out HTT.out.2.2.2 HTT.out.1 HTT.out.2.1 hlt3).mono ?_; rintro x w15 ⟨X, E, rfl, hXE, hb15⟩; have H15 : Hid (Bth W.heap.size W w15 gx g gr 2 b4 b4' 0 (k : Int) key top (star (blkA gw 9 (strs k wtT)) nought)) := hq.out.below ((firm_blk _ _ _).star firm_nought) hb15; clear hb15 hq e1 d0 d1 d2 d3 d4)
                    rcases hXE with ⟨rfl, rfl⟩ | ⟨hE, rfl⟩
                    · go_wp2
                      go_roundw
                      case rel => exact ⟨s9 + 1, by omega, by go_num, H15.out⟩
                      case measure => simp [intOf]; omega
                    · have hE1 : (E == 0) = false := by simpa using hE
                      have hE2 : decide (E = 0) = false := decide_eq_false hE
                      go_wp2
                      go_roundw
                      case rel => exact ⟨s9 + 1, by omega, by go_num, H15.out⟩
                      case measure => simp [intOf]; omega
                  · obtain rfl : s9 = k := by omega
                    have hs' : ¬ (s9 : Int) < (s9 : Int) := by omega
                    go_wp2
                    go_ret
                    exact ⟨rfl, hq.out.low⟩
end Go.Proofs.YtnhkkhiajiiahaaGreatDoor
