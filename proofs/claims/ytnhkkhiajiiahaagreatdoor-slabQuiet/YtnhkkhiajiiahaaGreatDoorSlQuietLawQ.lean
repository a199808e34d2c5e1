/- Seal, Get, Prepare, Blank and Bad write nothing. -/
import Derived.Test.YtnhkkhiajiiahaaGreatDoorSlQuiet0Q
import Derived.Deep.DeepCutAuto
import Derived.BigQuiet
namespace Go.Proofs.YtnhkkhiajiiahaaGreatDoor
open Go.RowKit Go.PlainAid
set_option linter.unusedVariables false
set_option maxRecDepth 20000

set_option maxHeartbeats 4000000 in
theorem slabQuiet_law (n : Int) (f : Nat → Nat) (s : Option Addr) (len cap : Nat) (W : World) (hs : Acs W s len cap) (ht : Tabs W) (hr : RTabs W) : Calls Tryz.prog 6 #[.int .i64 n, .agg (nr .u8 32 f).toArray, .slice s len cap] W fun e w' => e = .returned (.bool true) ∧ Below W.heap.size W w' := by
  have hl1 := hs.1
  have hl2 := hs.2.1
  have HA : Hid (Acs W s len cap) := hs
  have HT : Hid (Tabs W) := ht
  have HR : Hid (RTabs W) := hr
  have HTA : Hid (∀ z, Below W.heap.size W z → Tabs z) := fun z hz => ht.below hz ht.lt
  have HW : Hid (∀ z, Below W.heap.size W z → Calls Tryz.prog 10 #[] z fun e w' => e = .returned (.bool true) ∧ Below z.heap.size z w') := fun z hz => wakes17_any (ht.below hz ht.lt) (hr.below hz hr.lt)
  have hzA : Hid (∀ w : World, _) := zeroAct
  have HS32 : Hid ((Tryz.prog.info? 23).map (·.size) = some (nr .u8 32 f).length) := by rw [show (nr .u8 32 f).length = 32 by simp [nr]]; exact (by kernel_rfl : (Tryz.prog.info? 23).map (·.size) = some 32)
  have HS6 : Hid ((Tryz.prog.info? 32).map (·.size) = some 6) := (by kernel_rfl : (Tryz.prog.info? 32).map (·.size) = some 6)
  have h0 := (hold_nought W.heap.size W W (Nat.le_refl _) (Below.refl _ _)).newBlk firm_nought 23 (nr .u8 32 f).toArray
  rw [List.toList_toArray] at h0
  have H0 : Hid (Hold W.heap.size W (W.alloc (.cells (nr .u8 32 f).toArray 23)).drew (star (blkA W.heap.size 23 (nr .u8 32 f)) nought)) := h0.below ((firm_blk _ _ _).star firm_nought) (Below.refl _ _).drew
  have HBX : Hid (Blk (W.alloc (.cells (nr .u8 32 f).toArray 23)).drew W.heap.size 23 (nr .u8 32 f)) := Hold.blk H0.out
  obtain ⟨Z, hz1, hz2⟩ := zeros_at 32 (by omega)
  rw [show strOfNums (List.replicate 32 0) = zB 32 from rfl] at hz2
  have HZ : Hid ((∀ x : World, (Instr.makeSlice 35 (.int .i64 32) (.int .i64 32)).run Tryz.prog x = .ok (.slice (some ⟨x.heap.size, 0, none⟩) 32 32) (x.alloc (.cells Z 5 (0, 0)))) ∧ ∀ x : World, (convert 35 9 (.slice (some ⟨x.heap.size, 0, none⟩) 32 32)).run Tryz.prog (x.alloc (.cells Z 5 (0, 0))) = .ok (.string (zB 32)) (x.alloc (.cells Z 5 (0, 0)))) := ⟨hz1, hz2⟩
  obtain ⟨C, hC1, hC2, hC3⟩ : ∃ C : Nat, (if (30 : Int) < (len : Int) then (30 : Int) else (len : Int)) = (C : Int) ∧ C ≤ 30 ∧ C ≤ len := ⟨min len 30, by split <;> omega, by omega, by omega⟩
  have hC4 : C ≤ cap := by omega
  have hC5 : min (len : Int) 30 = (C : Int) := by omega
  obtain ⟨M, hM1, hM3⟩ : ∃ M : Nat, (max 0 n).tmod 4 = (M : Int) ∧ M < 4 := by
    obtain ⟨X, M, hX, hM1, hM2, hM3⟩ := rem_of n 4 (by decide)
    exact ⟨M, by rw [← hM1, ← hX]; congr 1; split <;> omega, by omega⟩
  have HMX : Hid ((max 0 n).tmod 4 = (M : Int)) := hM1
  clear hM1
  clear ht hr hz1 hz2 hs h0
  go_enter Tryz.func6, Tryz.ntmps6
  go_upto_region 1 with fail
  go_cut [7, 8] (fun x y wx => ∃ gx g gr b b' l top, ∃ d n : Nat, x = .pointer (some ⟨gx, 0, none⟩) ∧ y = .bool true ∧ 2 ^ d = n ∧ (1 ≤ d ∧ d ≤ 4) ∧ Bth W.heap.size W wx gx g gr 2 b b' 0 (n : Int) (tx 32 f) top nought ∧ Liv 2 0 b l)
  case first =>
    as_aux_lemma =>
      clear hzA HS6 HZ HA hC1 hC2 hC3 hC4 hC5 hl1 hl2 HW HTA
      rcases (by omega : M = 0 ∨ M = 1 ∨ M = 2 ∨ M = 3) with rfl | rfl | rfl | rfl
      · have hmx : (max 0 n).tmod 4 = 0 := HMX.out
        refine wp_region_noPanic ?_
        refine wp_region_held_drew (S := fun z : World => Blk z W.heap.size 23 (nr .u8 32 f)) (by kernel_rfl) HBX.out (fun hHeld => ?_)
        refine wpAnyH_take (i := 4) (v := .agg (nr .u8 32 f).toArray) rfl (by kernel_rfl) (by kernel_rfl) (by kernel_rfl) (fun _ _ _ h => h) (yields_row rfl 23 _ rfl W.heap.size rfl 23 (nr .u8 32 f) _ (fun _ h => h) Tryz.underlying23 rfl HS32.out) (by assumption) ?_
        go_simp
        refine wpAnyH_take (i := 0) (v := ?_) rfl (by kernel_rfl) (by kernel_rfl) (by kernel_rfl) (fun _ _ _ h => h) (Or.inl ⟨by rfl, ?_⟩) (by assumption) ?_
        rotate_left
        · intro w hSw; go_simp; try with_reducible rfl
        go_simp
        refine wpAnyH_take (i := 1) (v := ?_) rfl (by kernel_rfl) (by kernel_rfl) (by kernel_rfl) (fun _ _ _ h => h) (Or.inl ⟨by rfl, ?_⟩) (by assumption) ?_
        rotate_left
        · intro w hSw; go_simp; try with_reducible rfl
        go_simp
        refine wpAnyH_take (i := 2) (v := ?_) rfl (by kernel_rfl) (by kernel_rfl) (by kernel_rfl) (fun _ _ _ h => h) (Or.inl ⟨by rfl, ?_⟩) (by assumption) ?_
        rotate_left
        · intro w hSw; go_simp; try with_reducible rfl
        go_simp
        refine wpAnyH_take (i := 3) (v := ?_) rfl (by kernel_rfl) (by kernel_rfl) (by kernel_rfl) (fun _ _ _ h => h) (Or.inl ⟨by rfl, ?_⟩) (by assumption) ?_
        rotate_left
        · intro w hSw; go_simp; try with_reducible rfl
        go_simp
        refine wpAnyH_ready (rs := [5]) (by kernel_rfl) (by simp) (AllReadyH.cons rfl (fun K hK => ?_) AllReadyH.nil)
        go_simp
        go_at_call 8
        refine (beg_any (i := 0) (d := 1) (n := 2) ((firm_blk _ _ _).star firm_nought) H0.out HT.out HR.out (by decide) (by decide) ⟨by decide, by decide⟩ f).mono ?_
        rintro x w1 ⟨gx, g, gr, b, b', l, top, rfl, h1, h2, h3, h4⟩
        refine hK.out _ _ (Hold.blk (Hold.right (Hold.right (Hold.right h1)))) (fun hHeld => ?_)
        clear hK K
        refine wpAnyH_take (i := 6) (v := ?_) rfl (by kernel_rfl) (by kernel_rfl) (by kernel_rfl) (fun _ _ _ h => h) (Or.inl ⟨by rfl, ?_⟩) (by assumption) ?_
        rotate_left
        · intro w hSw; go_simp; try with_reducible rfl
        go_simp
        refine wpAnyH_take (i := 7) (v := ?_) rfl (by kernel_rfl) (by kernel_rfl) (by kernel_rfl) (fun _ _ _ h => h) (Or.inl ⟨by rfl, ?_⟩) (by assumption) ?_
        rotate_left
        · intro w hSw; go_simp; try with_reducible rfl
        go_simp
        refine wpAnyH_take (i := 8) (v := ?_) rfl (by kernel_rfl) (by kernel_rfl) (by kernel_rfl) (fun _ _ _ h => h) (Or.inl ⟨by rfl, ?_⟩) (by assumption) ?_
        rotate_left
        · intro w hSw; go_simp; try with_reducible rfl
        go_simp
        refine wpAnyH_take (i := 9) (v := ?_) rfl (by kernel_rfl) (by kernel_rfl) (by kernel_rfl) (fun _ _ _ h => h) (Or.inl ⟨by rfl, ?_⟩) (by assumption) ?_
        rotate_left
        · intro w hSw; go_simp; try with_reducible rfl
        go_simp
        refine wpAnyH_take (i := 10) (v := ?_) rfl (by kernel_rfl) (by kernel_rfl) (by kernel_rfl) (fun _ _ _ h => h) (Or.inl ⟨by rfl, ?_⟩) (by assumption) ?_
        rotate_left
        · intro w hSw; go_simp; try with_reducible rfl
        go_simp
        refine wpAnyH_done (by kernel_rfl) ?_ _
        refine NoPanic.normal ?_
        go_wp2
        go_meet
        case rel => exact ⟨gx, g, gr, b, b', l, top, 1, 2, rfl, rfl, by decide, ⟨by decide, by decide⟩, h1.dropR, h2⟩
      · have hmx : (max 0 n).tmod 4 = 1 := HMX.out
        refine wp_region_noPanic ?_
        refine wp_region_held_drew (S := fun z : World => Blk z W.heap.size 23 (nr .u8 32 f)) (by kernel_rfl) HBX.out (fun hHeld => ?_)
        refine wpAnyH_take (i := 4) (v := .agg (nr .u8 32 f).toArray) rfl (by kernel_rfl) (by kernel_rfl) (by kernel_rfl) (fun _ _ _ h => h) (yields_row rfl 23 _ rfl W.heap.size rfl 23 (nr .u8 32 f) _ (fun _ h => h) Tryz.underlying23 rfl HS32.out) (by assumption) ?_
        go_simp
        refine wpAnyH_take (i := 0) (v := ?_) rfl (by kernel_rfl) (by kernel_rfl) (by kernel_rfl) (fun _ _ _ h => h) (Or.inl ⟨by rfl, ?_⟩) (by assumption) ?_
        rotate_left
        · intro w hSw; go_simp; try with_reducible rfl
        go_simp
        refine wpAnyH_take (i := 1) (v := ?_) rfl (by kernel_rfl) (by kernel_rfl) (by kernel_rfl) (fun _ _ _ h => h) (Or.inl ⟨by rfl, ?_⟩) (by assumption) ?_
        rotate_left
        · intro w hSw; go_simp; try with_reducible rfl
        go_simp
        refine wpAnyH_take (i := 2) (v := ?_) rfl (by kernel_rfl) (by kernel_rfl) (by kernel_rfl) (fun _ _ _ h => h) (Or.inl ⟨by rfl, ?_⟩) (by assumption) ?_
        rotate_left
        · intro w hSw; go_simp; try with_reducible rfl
        go_simp
        refine wpAnyH_take (i := 3) (v := ?_) rfl (by kernel_rfl) (by kernel_rfl) (by kernel_rfl) (fun _ _ _ h => h) (Or.inl ⟨by rfl, ?_⟩) (by assumption) ?_
        rotate_left
        · intro w hSw; go_simp; try with_reducible rfl
        go_simp
        refine wpAnyH_ready (rs := [5]) (by kernel_rfl) (by simp) (AllReadyH.cons rfl (fun K hK => ?_) AllReadyH.nil)
        go_simp
        go_at_call 8
        refine (beg_any (i := 0) (d := 2) (n := 4) ((firm_blk _ _ _).star firm_nought) H0.out HT.out HR.out (by decide) (by decide) ⟨by decide, by decide⟩ f).mono ?_
        rintro x w1 ⟨gx, g, gr, b, b', l, top, rfl, h1, h2, h3, h4⟩
        refine hK.out _ _ (Hold.blk (Hold.right (Hold.right (Hold.right h1)))) (fun hHeld => ?_)
        clear hK K
        refine wpAnyH_take (i := 6) (v := ?_) rfl (by kernel_rfl) (by kernel_rfl) (by kernel_rfl) (fun _ _ _ h => h) (Or.inl ⟨by rfl, ?_⟩) (by assumption) ?_
        rotate_left
        · intro w hSw; go_simp; try with_reducible rfl
        go_simp
        refine wpAnyH_take (i := 7) (v := ?_) rfl (by kernel_rfl) (by kernel_rfl) (by kernel_rfl) (fun _ _ _ h => h) (Or.inl ⟨by rfl, ?_⟩) (by assumption) ?_
        rotate_left
        · intro w hSw; go_simp; try with_reducible rfl
        go_simp
        refine wpAnyH_take (i := 8) (v := ?_) rfl (by kernel_rfl) (by kernel_rfl) (by kernel_rfl) (fun _ _ _ h => h) (Or.inl ⟨by rfl, ?_⟩) (by assumption) ?_
        rotate_left
        · intro w hSw; go_simp; try with_reducible rfl
        go_simp
        refine wpAnyH_take (i := 9) (v := ?_) rfl (by kernel_rfl) (by kernel_rfl) (by kernel_rfl) (fun _ _ _ h => h) (Or.inl ⟨by rfl, ?_⟩) (by assumption) ?_
        rotate_left
        · intro w hSw; go_simp; try with_reducible rfl
        go_simp
        refine wpAnyH_take (i := 10) (v := ?_) rfl (by kernel_rfl) (by kernel_rfl) (by kernel_rfl) (fun _ _ _ h => h) (Or.inl ⟨by rfl, ?_⟩) (by assumption) ?_
        rotate_left
        · intro w hSw; go_simp; try with_reducible rfl
        go_simp
        refine wpAnyH_done (by kernel_rfl) ?_ _
        refine NoPanic.normal ?_
        go_wp2
        go_meet
        case rel => exact ⟨gx, g, gr, b, b', l, top, 2, 4, rfl, rfl, by decide, ⟨by decide, by decide⟩, h1.dropR, h2⟩
      · have hmx : (max 0 n).tmod 4 = 2 := HMX.out
        refine wp_region_noPanic ?_
        refine wp_region_held_drew (S := fun z : World => Blk z W.heap.size 23 (nr .u8 32 f)) (by kernel_rfl) HBX.out (fun hHeld => ?_)
        refine wpAnyH_take (i := 4) (v := .agg (nr .u8 32 f).toArray) rfl (by kernel_rfl) (by kernel_rfl) (by kernel_rfl) (fun _ _ _ h => h) (yields_row rfl 23 _ rfl W.heap.size rfl 23 (nr .u8 32 f) _ (fun _ h => h) Tryz.underlying23 rfl HS32.out) (by assumption) ?_
        go_simp
        refine wpAnyH_take (i := 0) (v := ?_) rfl (by kernel_rfl) (by kernel_rfl) (by kernel_rfl) (fun _ _ _ h => h) (Or.inl ⟨by rfl, ?_⟩) (by assumption) ?_
        rotate_left
        · intro w hSw; go_simp; try with_reducible rfl
        go_simp
        refine wpAnyH_take (i := 1) (v := ?_) rfl (by kernel_rfl) (by kernel_rfl) (by kernel_rfl) (fun _ _ _ h => h) (Or.inl ⟨by rfl, ?_⟩) (by assumption) ?_
        rotate_left
        · intro w hSw; go_simp; try with_reducible rfl
        go_simp
        refine wpAnyH_take (i := 2) (v := ?_) rfl (by kernel_rfl) (by kernel_rfl) (by kernel_rfl) (fun _ _ _ h => h) (Or.inl ⟨by rfl, ?_⟩) (by assumption) ?_
        rotate_left
        · intro w hSw; go_simp; try with_reducible rfl
        go_simp
        refine wpAnyH_take (i := 3) (v := ?_) rfl (by kernel_rfl) (by kernel_rfl) (by kernel_rfl) (fun _ _ _ h => h) (Or.inl ⟨by rfl, ?_⟩) (by assumption) ?_
        rotate_left
        · intro w hSw; go_simp; try with_reducible rfl
        go_simp
        refine wpAnyH_ready (rs := [5]) (by kernel_rfl) (by simp) (AllReadyH.cons rfl (fun K hK => ?_) AllReadyH.nil)
        go_simp
        go_at_call 8
        refine (beg_any (i := 0) (d := 3) (n := 8) ((firm_blk _ _ _).star firm_nought) H0.out HT.out HR.out (by decide) (by decide) ⟨by decide, by decide⟩ f).mono ?_
        rintro x w1 ⟨gx, g, gr, b, b', l, top, rfl, h1, h2, h3, h4⟩
        refine hK.out _ _ (Hold.blk (Hold.right (Hold.right (Hold.right h1)))) (fun hHeld => ?_)
        clear hK K
        refine wpAnyH_take (i := 6) (v := ?_) rfl (by kernel_rfl) (by kernel_rfl) (by kernel_rfl) (fun _ _ _ h => h) (Or.inl ⟨by rfl, ?_⟩) (by assumption) ?_
        rotate_left
        · intro w hSw; go_simp; try with_reducible rfl
        go_simp
        refine wpAnyH_take (i := 7) (v := ?_) rfl (by kernel_rfl) (by kernel_rfl) (by kernel_rfl) (fun _ _ _ h => h) (Or.inl ⟨by rfl, ?_⟩) (by assumption) ?_
        rotate_left
        · intro w hSw; go_simp; try with_reducible rfl
        go_simp
        refine wpAnyH_take (i := 8) (v := ?_) rfl (by kernel_rfl) (by kernel_rfl) (by kernel_rfl) (fun _ _ _ h => h) (Or.inl ⟨by rfl, ?_⟩) (by assumption) ?_
        rotate_left
        · intro w hSw; go_simp; try with_reducible rfl
        go_simp
        refine wpAnyH_take (i := 9) (v := ?_) rfl (by kernel_rfl) (by kernel_rfl) (by kernel_rfl) (fun _ _ _ h => h) (Or.inl ⟨by rfl, ?_⟩) (by assumption) ?_
        rotate_left
        · intro w hSw; go_simp; try with_reducible rfl
        go_simp
        refine wpAnyH_take (i := 10) (v := ?_) rfl (by kernel_rfl) (by kernel_rfl) (by kernel_rfl) (fun _ _ _ h => h) (Or.inl ⟨by rfl, ?_⟩) (by assumption) ?_
        rotate_left
        · intro w hSw; go_simp; try with_reducible rfl
        go_simp
        refine wpAnyH_done (by kernel_rfl) ?_ _
        refine NoPanic.normal ?_
        go_wp2
        go_meet
        case rel => exact ⟨gx, g, gr, b, b', l, top, 3, 8, rfl, rfl, by decide, ⟨by decide, by decide⟩, h1.dropR, h2⟩
      · have hmx : (max 0 n).tmod 4 = 3 := HMX.out
        refine wp_region_noPanic ?_
        refine wp_region_held_drew (S := fun z : World => Blk z W.heap.size 23 (nr .u8 32 f)) (by kernel_rfl) HBX.out (fun hHeld => ?_)
        refine wpAnyH_take (i := 4) (v := .agg (nr .u8 32 f).toArray) rfl (by kernel_rfl) (by kernel_rfl) (by kernel_rfl) (fun _ _ _ h => h) (yields_row rfl 23 _ rfl W.heap.size rfl 23 (nr .u8 32 f) _ (fun _ h => h) Tryz.underlying23 rfl HS32.out) (by assumption) ?_
        go_simp
        refine wpAnyH_take (i := 0) (v := ?_) rfl (by kernel_rfl) (by kernel_rfl) (by kernel_rfl) (fun _ _ _ h => h) (Or.inl ⟨by rfl, ?_⟩) (by assumption) ?_
        rotate_left
        · intro w hSw; go_simp; try with_reducible rfl
        go_simp
        refine wpAnyH_take (i := 1) (v := ?_) rfl (by kernel_rfl) (by kernel_rfl) (by kernel_rfl) (fun _ _ _ h => h) (Or.inl ⟨by rfl, ?_⟩) (by assumption) ?_
        rotate_left
        · intro w hSw; go_simp; try with_reducible rfl
        go_simp
        refine wpAnyH_take (i := 2) (v := ?_) rfl (by kernel_rfl) (by kernel_rfl) (by kernel_rfl) (fun _ _ _ h => h) (Or.inl ⟨by rfl, ?_⟩) (by assumption) ?_
        rotate_left
        · intro w hSw; go_simp; try with_reducible rfl
        go_simp
        refine wpAnyH_take (i := 3) (v := ?_) rfl (by kernel_rfl) (by kernel_rfl) (by kernel_rfl) (fun _ _ _ h => h) (Or.inl ⟨by rfl, ?_⟩) (by assumption) ?_
        rotate_left
        · intro w hSw; go_simp; try with_reducible rfl
        go_simp
        refine wpAnyH_ready (rs := [5]) (by kernel_rfl) (by simp) (AllReadyH.cons rfl (fun K hK => ?_) AllReadyH.nil)
        go_simp
        go_at_call 8
        refine (beg_any (i := 0) (d := 4) (n := 16) ((firm_blk _ _ _).star firm_nought) H0.out HT.out HR.out (by decide) (by decide) ⟨by decide, by decide⟩ f).mono ?_
        rintro x w1 ⟨gx, g, gr, b, b', l, top, rfl, h1, h2, h3, h4⟩
        refine hK.out _ _ (Hold.blk (Hold.right (Hold.right (Hold.right h1)))) (fun hHeld => ?_)
        clear hK K
        refine wpAnyH_take (i := 6) (v := ?_) rfl (by kernel_rfl) (by kernel_rfl) (by kernel_rfl) (fun _ _ _ h => h) (Or.inl ⟨by rfl, ?_⟩) (by assumption) ?_
        rotate_left
        · intro w hSw; go_simp; try with_reducible rfl
        go_simp
        refine wpAnyH_take (i := 7) (v := ?_) rfl (by kernel_rfl) (by kernel_rfl) (by kernel_rfl) (fun _ _ _ h => h) (Or.inl ⟨by rfl, ?_⟩) (by assumption) ?_
        rotate_left
        · intro w hSw; go_simp; try with_reducible rfl
        go_simp
        refine wpAnyH_take (i := 8) (v := ?_) rfl (by kernel_rfl) (by kernel_rfl) (by kernel_rfl) (fun _ _ _ h => h) (Or.inl ⟨by rfl, ?_⟩) (by assumption) ?_
        rotate_left
        · intro w hSw; go_simp; try with_reducible rfl
        go_simp
        refine wpAnyH_take (i := 9) (v := ?_) rfl (by kernel_rfl) (by kernel_rfl) (by kernel_rfl) (fun _ _ _ h => h) (Or.inl ⟨by rfl, ?_⟩) (by assumption) ?_
        rotate_left
        · intro w hSw; go_simp; try with_reducible rfl
        go_simp
        refine wpAnyH_take (i := 10) (v := ?_) rfl (by kernel_rfl) (by kernel_rfl) (by kernel_rfl) (fun _ _ _ h => h) (Or.inl ⟨by rfl, ?_⟩) (by assumption) ?_
        rotate_left
        · intro w hSw; go_simp; try with_reducible rfl
        go_simp
        refine wpAnyH_done (by kernel_rfl) ?_ _
        refine NoPanic.normal ?_
        go_wp2
        go_meet
        case rel => exact ⟨gx, g, gr, b, b', l, top, 4, 16, rfl, rfl, by decide, ⟨by decide, by decide⟩, h1.dropR, h2⟩
  case rest =>
    obtain ⟨gx, g, gr, b, b', l, top, d, N, rfl, rfl, hN, hd, hB, hL⟩ := hcut
    have H1 : Hid (Bth W.heap.size W wc gx g gr 2 b b' 0 (N : Int) (tx 32 f) top nought) := hB
    have HL : Hid (Liv 2 0 b l) := hL
    have HN : Hid (2 ^ d = N ∧ 1 ≤ d ∧ d ≤ 4) := ⟨hN, hd⟩
    have HK : Hid ((tx 32 f).size = 32) := tx_size 32 f
    clear hB hL hN hd HMX hM3 H0 HBX HS32
    generalize tx 32 f = key at *
    go_wp2_with (first
      | (go_at_call 10; refine (HW.out _ H1.out.low).mono ?_; rintro e w2 ⟨rfl, hb2⟩; have H2 : Hid (Bth W.heap.size W w2 gx g gr 2 b b' 0 (N : Int) key top nought) := H1.out.below firm_nought hb2; have c0 := H2.out.cells.1; clear hb2 H1)
      | (go_at_call 21; refine (bsteps_any (Hold.right H2.out)).mono ?_; rintro e w3 ⟨rfl, hw⟩; rw [hw]; clear hw w3))
    clear c0 hC1 hC5
    go_loopw [39] (fun i wr => ∃ j : Nat, j ≤ C ∧ i = .int .i64 (j : Int) ∧ Hid (Bth W.heap.size W wr gx g gr 2 b b' 0 (N : Int) key top nought)) (fun i _ => C - (intOf i).toNat)
    case atStart => exact ⟨0, Nat.zero_le _, rfl, H2.out⟩
    case round =>
      clear H2
      obtain ⟨j, hj, rfl, hrr⟩ := hrel
      by_cases hlt : j < C
      · have hj' : (j : Int) < (C : Int) := by omega
        obtain ⟨sb, so, A, hsa, hA, hrow⟩ := acs_at HA.out hrr.out.low j (by omega)
        subst hsa
        have hnb := Hold.newBlk (bth_firm firm_nought) hrr.out 32 A.row.toArray
        rw [List.toList_toArray] at hnb
        obtain ⟨BT, hBT, SX⟩ : ∃ BT : World → Prop, Hid (BT (wr.alloc (.cells A.row.toArray 32))) ∧ Hid (Qt W gx g gr wr.heap.size (N : Int) key top A.s A.p b b' BT) := ⟨_, by exact hnb.back4, qt_any HTA.out HL.out HN.out.1 HN.out.2 HK.out⟩
        obtain ⟨M, hM1, hM2, hM3⟩ : ∃ q : Nat, (if (100 : Int) < (A.p.size : Int) then (100 : Int) else (A.p.size : Int)) = (q : Int) ∧ q ≤ A.p.size ∧ q ≤ 100 := ⟨min A.p.size 100, by split <;> omega, by omega, by omega⟩
        have hM1' : min (A.p.size : Int) 100 = (M : Int) := by rw [← hM1]; split <;> omega
        have hMi : (M : Int) ≤ (A.p.size : Int) := by omega
        have hps := hA.2.2.2.2
        obtain ⟨ad, kk, aa, at_, ca, cl, cc, ap⟩ := A
        have HC : Hid (BT (wr.alloc (.cells #[.int .i64 ad, .int .i64 kk, .int .i64 aa, .int .u8 at_, .slice ca cl cc, .string ap] 32))) := hBT
        have HROW : Hid (wr.rangeAt sb (so + j * 6) [.int .i64 ad, .int .i64 kk, .int .i64 aa, .int .u8 at_, .slice ca cl cc, .string ap]) := hrow
        have hz := hzA.out
        simp only at hM1 hM1' hM2 hMi hps
        clear hnb hA hBT hrow hrr
        go_wp2_with (first
          | (refine wpList_load_mid rfl 32 _ rfl sb (so + j * 6) rfl [.int .i64 ad, .int .i64 kk, .int .i64 aa, .int .u8 at_, .slice ca cl cc, .string ap] _ HROW.out Tryz.underlying32 rfl HS6.out ?_))
        generalize hwb : wr.alloc (.cells #[.int .i64 ad, .int .i64 kk, .int .i64 aa, .int .u8 at_, .slice ca cl cc, .string ap] 32) = wb at *
        generalize hga : wr.heap.size = ga at *
        generalize hNn : (N : Int) = n at *
        have HNn : Hid ((N : Int) = n) := hNn
        clear hNn
        clear hwb hga hz HROW
        have hm := HZ.out.1 wb.drew
        have hc : (convert 35 9 (.slice (some ⟨wb.heap.size, 0, none⟩) 32 32)).run Tryz.prog (wb.alloc (.cells Z 5 (0, 0))).drew = .ok (.string (zB 32)) (wb.alloc (.cells Z 5 (0, 0))).drew := HZ.out.2 wb.drew
        have HD : Hid (BT wb.drew) := SX.out.below _ _ HC.out (Below.refl _ _).drew
        have HE : Hid (BT (wb.drew.alloc (.cells Z 5 (0, 0)))) := SX.out.below _ _ HD.out ((Below.refl _ _).alloc (Nat.le_refl _) _)
        clear HC
        refine wp_region_noPanic ?_
        refine wp_region_held_drew (S := fun z : World => z.cell? ⟨gx, 0, none⟩ = some (.pointer (some ⟨g, 0, none⟩)) ∧ z.cell? ⟨gx, 1, none⟩ = some (.int .i64 0) ∧ z.cell? ⟨gx, 2, none⟩ = some (.int .i64 n) ∧ z.cell? ⟨gx, 3, none⟩ = some (.string key) ∧ z.cell? ⟨gx, 8, none⟩ = some (.string top) ∧ z.cell? ⟨ga, 1, none⟩ = some (.int .i64 kk) ∧ z.cell? ⟨ga, 5, none⟩ = some (.string ap)) (by kernel_rfl) (SX.out.c _ HD.out) (fun hHeld => ?_)
        refine wpAnyH_take (i := 0) (v := ?_) rfl (by kernel_rfl) (by kernel_rfl) (by kernel_rfl) (fun _ _ _ h => h) (Or.inl ⟨by rfl, ?_⟩) (by assumption) ?_
        rotate_left
        · intro w hSw; go_simp; try with_reducible rfl
        go_simp
        refine wpAnyH_take (i := 1) (v := ?_) rfl (by kernel_rfl) (by kernel_rfl) (by kernel_rfl) (fun _ _ _ h => h) (Or.inl ⟨by rfl, ?_⟩) (by assumption) ?_
        rotate_left
        · intro w hSw; go_simp; try with_reducible rfl
        go_simp
        refine wpAnyH_take (i := 2) (v := ?_) rfl (by kernel_rfl) (by kernel_rfl) (by kernel_rfl) (fun _ _ _ h => h) (Or.inl ⟨by rfl, ?_⟩) (by assumption) ?_
        rotate_left
        · intro w hSw; go_simp; try with_reducible rfl
        go_simp
        refine wpAnyH_take (i := 3) (v := ?_) rfl (by kernel_rfl) (by kernel_rfl) (by kernel_rfl) (fun _ _ _ h => h) (Or.inl ⟨by rfl, ?_⟩) (by assumption) ?_
        rotate_left
        · intro w hSw; go_simp; try with_reducible rfl
        go_simp
        refine wpAnyH_take (i := 4) (v := ?_) rfl (by kernel_rfl) (by kernel_rfl) (by kernel_rfl) (fun _ _ _ h => h) (Or.inl ⟨by rfl, ?_⟩) (by assumption) ?_
        rotate_left
        · intro w hSw; go_simp; try with_reducible rfl
        go_simp
        refine wpAnyH_take (i := 5) (v := ?_) rfl (by kernel_rfl) (by kernel_rfl) (by kernel_rfl) (fun _ _ _ h => h) (Or.inl ⟨by rfl, ?_⟩) (by assumption) ?_
        rotate_left
        · intro w hSw; go_simp; try with_reducible rfl
        go_simp
        refine wpAnyH_ready (rs := [6]) (by kernel_rfl) (by simp) (AllReadyH.cons rfl (fun K hK => ?_) AllReadyH.nil)
        go_simp
        refine hK.out _ _ (SX.out.c _ HE.out) (fun hHeld => ?_)
        clear hK K
        refine wpAnyH_ready (rs := [7]) (by kernel_rfl) (by simp) (AllReadyH.cons rfl (fun K hK => ?_) AllReadyH.nil)
        go_simp
        refine hK.out _ _ (SX.out.c _ HE.out) (fun hHeld => ?_)
        clear hK K
        refine wpAnyH_ready (rs := [8]) (by kernel_rfl) (by simp) (AllReadyH.cons rfl (fun K hK => ?_) AllReadyH.nil)
        go_simp
        go_at_call 12
        refine (SX.out.sea _ HE.out).mono ?_
        rintro x wq ⟨vq, rfl, hbq⟩
        have HN : Hid (BT wq) := hbq
        clear hbq HD HE
        refine hK.out _ _ (SX.out.c _ HN.out) (fun hHeld => ?_)
        clear hK K
        refine wpAnyH_done (by kernel_rfl) ?_ _
        refine NoPanic.normal ?_
        generalize wq = w4 at *
        have HC : Hid (BT w4) := HN.out
        clear HN
        clear hm hc
        go_wp2_with fail
        have HD : Hid (BT w4.drew) := SX.out.below _ _ HC.out (Below.refl _ _).drew
        clear HC
        refine wp_region_noPanic ?_
        refine wp_region_held_drew (S := fun z : World => z.cell? ⟨gx, 0, none⟩ = some (.pointer (some ⟨g, 0, none⟩)) ∧ z.cell? ⟨gx, 1, none⟩ = some (.int .i64 0) ∧ z.cell? ⟨gx, 2, none⟩ = some (.int .i64 n) ∧ z.cell? ⟨gx, 3, none⟩ = some (.string key) ∧ z.cell? ⟨gx, 8, none⟩ = some (.string top) ∧ z.cell? ⟨ga, 1, none⟩ = some (.int .i64 kk) ∧ z.cell? ⟨ga, 5, none⟩ = some (.string ap)) (by kernel_rfl) (SX.out.c _ HD.out) (fun hHeld => ?_)
        refine wpAnyH_take (i := 0) (v := ?_) rfl (by kernel_rfl) (by kernel_rfl) (by kernel_rfl) (fun _ _ _ h => h) (Or.inl ⟨by rfl, ?_⟩) (by assumption) ?_
        rotate_left
        · intro w hSw; go_simp; try with_reducible rfl
        go_simp
        refine wpAnyH_take (i := 1) (v := ?_) rfl (by kernel_rfl) (by kernel_rfl) (by kernel_rfl) (fun _ _ _ h => h) (Or.inl ⟨by rfl, ?_⟩) (by assumption) ?_
        rotate_left
        · intro w hSw; go_simp; try with_reducible rfl
        go_simp
        refine wpAnyH_take (i := 2) (v := ?_) rfl (by kernel_rfl) (by kernel_rfl) (by kernel_rfl) (fun _ _ _ h => h) (Or.inl ⟨by rfl, ?_⟩) (by assumption) ?_
        rotate_left
        · intro w hSw; go_simp; try with_reducible rfl
        go_simp
        refine wpAnyH_take (i := 3) (v := ?_) rfl (by kernel_rfl) (by kernel_rfl) (by kernel_rfl) (fun _ _ _ h => h) (Or.inl ⟨by rfl, ?_⟩) (by assumption) ?_
        rotate_left
        · intro w hSw; go_simp; try with_reducible rfl
        go_simp
        refine wpAnyH_take (i := 4) (v := ?_) rfl (by kernel_rfl) (by kernel_rfl) (by kernel_rfl) (fun _ _ _ h => h) (Or.inl ⟨by rfl, ?_⟩) (by assumption) ?_
        rotate_left
        · intro w hSw; go_simp; try with_reducible rfl
        go_simp
        refine wpAnyH_take (i := 5) (v := ?_) rfl (by kernel_rfl) (by kernel_rfl) (by kernel_rfl) (fun _ _ _ h => h) (Or.inl ⟨by rfl, ?_⟩) (by assumption) ?_
        rotate_left
        · intro w hSw; go_simp; try with_reducible rfl
        go_simp
        refine wpAnyH_take (i := 6) (v := ?_) rfl (by kernel_rfl) (by kernel_rfl) (by kernel_rfl) (fun _ _ _ h => h) (Or.inl ⟨by rfl, ?_⟩) (by assumption) ?_
        rotate_left
        · intro w hSw; go_simp; try with_reducible rfl
        go_simp
        refine wpAnyH_take (i := 7) (v := ?_) rfl (by kernel_rfl) (by kernel_rfl) (by kernel_rfl) (fun _ _ _ h => h) (Or.inl ⟨by rfl, ?_⟩) (by assumption) ?_
        rotate_left
        · intro w hSw; go_simp; try with_reducible rfl
        go_simp
        refine wpAnyH_ready (rs := [8]) (by kernel_rfl) (by simp) (AllReadyH.cons rfl (fun K hK => ?_) AllReadyH.nil)
        go_simp
        go_at_call 15
        refine (SX.out.get _ HD.out).mono ?_
        rintro x wq ⟨vq, rfl, hbq⟩
        have HN : Hid (BT wq) := hbq
        clear hbq HD
        refine hK.out _ _ (SX.out.c _ HN.out) (fun hHeld => ?_)
        clear hK K
        refine wpAnyH_done (by kernel_rfl) ?_ _
        refine NoPanic.normal ?_
        generalize wq = w5 at *
        have HC : Hid (BT w5) := HN.out
        clear HN
        go_wp2_with fail
        have HD : Hid (BT w5.drew) := SX.out.below _ _ HC.out (Below.refl _ _).drew
        have HE : Hid (BT (w5.drew.alloc (.cells #[.int .i64 kk, .string (ap.extract 0 M)] 49))) := SX.out.below _ _ HD.out ((Below.refl _ _).alloc (Nat.le_refl _) _)
        clear HC
        refine wp_region_noPanic ?_
        refine wp_region_held_drew (S := fun z : World => z.cell? ⟨gx, 0, none⟩ = some (.pointer (some ⟨g, 0, none⟩)) ∧ z.cell? ⟨gx, 1, none⟩ = some (.int .i64 0) ∧ z.cell? ⟨gx, 2, none⟩ = some (.int .i64 n) ∧ z.cell? ⟨gx, 3, none⟩ = some (.string key) ∧ z.cell? ⟨gx, 8, none⟩ = some (.string top) ∧ z.cell? ⟨ga, 1, none⟩ = some (.int .i64 kk) ∧ z.cell? ⟨ga, 5, none⟩ = some (.string ap)) (by kernel_rfl) (SX.out.c _ HD.out) (fun hHeld => ?_)
        refine wpAnyH_take (i := 0) (v := ?_) rfl (by kernel_rfl) (by kernel_rfl) (by kernel_rfl) (fun _ _ _ h => h) (Or.inl ⟨by rfl, ?_⟩) (by assumption) ?_
        rotate_left
        · intro w hSw; go_simp; try with_reducible rfl
        go_simp
        refine wpAnyH_take (i := 1) (v := ?_) rfl (by kernel_rfl) (by kernel_rfl) (by kernel_rfl) (fun _ _ _ h => h) (Or.inl ⟨by rfl, ?_⟩) (by assumption) ?_
        rotate_left
        · intro w hSw; go_simp; try with_reducible rfl
        go_simp
        refine wpAnyH_take (i := 2) (v := ?_) rfl (by kernel_rfl) (by kernel_rfl) (by kernel_rfl) (fun _ _ _ h => h) (Or.inl ⟨by rfl, ?_⟩) (by assumption) ?_
        rotate_left
        · intro w hSw; go_simp; try with_reducible rfl
        go_simp
        refine wpAnyH_take (i := 3) (v := ?_) rfl (by kernel_rfl) (by kernel_rfl) (by kernel_rfl) (fun _ _ _ h => h) (Or.inl ⟨by rfl, ?_⟩) (by assumption) ?_
        rotate_left
        · intro w hSw; go_simp; try with_reducible rfl
        go_simp
        refine wpAnyH_take (i := 4) (v := ?_) rfl (by kernel_rfl) (by kernel_rfl) (by kernel_rfl) (fun _ _ _ h => h) (Or.inl ⟨by rfl, ?_⟩) (by assumption) ?_
        rotate_left
        · intro w hSw; go_simp; try with_reducible rfl
        go_simp
        refine wpAnyH_take (i := 5) (v := ?_) rfl (by kernel_rfl) (by kernel_rfl) (by kernel_rfl) (fun _ _ _ h => h) (Or.inl ⟨by rfl, ?_⟩) (by assumption) ?_
        rotate_left
        · intro w hSw; go_simp; try with_reducible rfl
        go_simp
        refine wpAnyH_take (i := 6) (v := ?_) rfl (by kernel_rfl) (by kernel_rfl) (by kernel_rfl) (fun _ _ _ h => h) (Or.inl ⟨by rfl, ?_⟩) (by assumption) ?_
        rotate_left
        · intro w hSw; go_simp; try with_reducible rfl
        go_simp
        refine wpAnyH_take (i := 7) (v := ?_) rfl (by kernel_rfl) (by kernel_rfl) (by kernel_rfl) (fun _ _ _ h => h) (Or.inl ⟨by rfl, ?_⟩) (by assumption) ?_
        rotate_left
        · intro w hSw; go_simp; try with_reducible rfl
        go_simp
        refine wpAnyH_take (i := 8) (v := ?_) rfl (by kernel_rfl) (by kernel_rfl) (by kernel_rfl) (fun _ _ _ h => h) (Or.inl ⟨by rfl, ?_⟩) (by assumption) ?_
        rotate_left
        · intro w hSw; go_simp; try with_reducible rfl
        go_simp
        refine wpAnyH_take (i := 9) (v := ?_) rfl (by kernel_rfl) (by kernel_rfl) (by kernel_rfl) (fun _ _ _ h => h) (Or.inl ⟨by rfl, ?_⟩) (by assumption) ?_
        rotate_left
        · intro w hSw; go_simp; try with_reducible rfl
        go_simp
        refine wpAnyH_take (i := 10) (v := ?_) rfl (by kernel_rfl) (by kernel_rfl) (by kernel_rfl) (fun _ _ _ h => h) (Or.inl ⟨by rfl, ?_⟩) (by assumption) ?_
        rotate_left
        · intro w hSw; go_simp; try with_reducible rfl
        go_simp
        refine wpAnyH_take (i := 11) (v := ?_) rfl (by kernel_rfl) (by kernel_rfl) (by kernel_rfl) (fun _ _ _ h => h) (Or.inl ⟨by rfl, ?_⟩) (by assumption) ?_
        rotate_left
        · intro w hSw; go_simp; try with_reducible rfl
        go_simp
        refine wpAnyH_take (i := 12) (v := ?_) rfl (by kernel_rfl) (by kernel_rfl) (by kernel_rfl) (fun _ _ _ h => h) (Or.inl ⟨by rfl, ?_⟩) (by assumption) ?_
        rotate_left
        · intro w hSw; go_simp; try with_reducible rfl
        go_simp
        refine wpAnyH_take (i := 13) (v := ?_) rfl (by kernel_rfl) (by kernel_rfl) (by kernel_rfl) (fun _ _ _ h => h) (Or.inl ⟨by rfl, ?_⟩) (by assumption) ?_
        rotate_left
        · intro w hSw; go_simp; try with_reducible rfl
        go_simp
        refine wpAnyH_take (i := 14) (v := ?_) rfl (by kernel_rfl) (by kernel_rfl) (by kernel_rfl) (fun _ _ _ h => h) (Or.inl ⟨by rfl, ?_⟩) (by assumption) ?_
        rotate_left
        · intro w hSw; go_simp; try with_reducible rfl
        go_simp
        refine wpAnyH_take (i := 15) (v := ?_) rfl (by kernel_rfl) (by kernel_rfl) (by kernel_rfl) (fun _ _ _ h => h) (Or.inl ⟨by rfl, ?_⟩) (by assumption) ?_
        rotate_left
        · intro w hSw; go_simp; try with_reducible rfl
        go_simp
        refine wpAnyH_take (i := 16) (v := ?_) rfl (by kernel_rfl) (by kernel_rfl) (by kernel_rfl) (fun _ _ _ h => h) (Or.inl ⟨by rfl, ?_⟩) (by assumption) ?_
        rotate_left
        · intro w hSw; go_simp; try with_reducible rfl
        go_simp
        refine wpAnyH_take (i := 17) (v := ?_) rfl (by kernel_rfl) (by kernel_rfl) (by kernel_rfl) (fun _ _ _ h => h) (Or.inl ⟨by rfl, ?_⟩) (by assumption) ?_
        rotate_left
        · intro w hSw; go_simp; try with_reducible rfl
        go_simp
        refine wpAnyH_ready (rs := [18]) (by kernel_rfl) (by simp) (AllReadyH.cons rfl (fun K hK => ?_) AllReadyH.nil)
        go_simp
        refine hK.out _ _ (SX.out.c _ HE.out) (fun hHeld => ?_)
        clear hK K
        refine wpAnyH_ready (rs := [19]) (by kernel_rfl) (by simp) (AllReadyH.cons rfl (fun K hK => ?_) AllReadyH.nil)
        go_simp
        go_at_call 13
        refine (SX.out.prep w5.drew _ HD.out).mono ?_
        rintro x wq ⟨vq, rfl, hbq⟩
        have HN : Hid (BT wq) := hbq
        clear hbq HD HE
        refine hK.out _ _ (SX.out.c _ HN.out) (fun hHeld => ?_)
        clear hK K
        refine wpAnyH_done (by kernel_rfl) ?_ _
        refine NoPanic.normal ?_
        generalize wq = w6 at *
        have HC : Hid (BT w6) := HN.out
        clear HN
        have q0 := (SX.out.c _ HC.out).1
        have q1 := (SX.out.c _ HC.out).2.1
        have q2 := (SX.out.c _ HC.out).2.2.1
        have q3 := (SX.out.c _ HC.out).2.2.2.1
        go_wp2_with (go_at_call 22; refine (SX.out.blank _ HC.out).mono ?_; rintro x w7 ⟨v7, rfl, hb7⟩; clear HC q0 q1 q2 q3; have HC : Hid (BT w7) := hb7; clear hb7)
        have HD : Hid (BT w7.drew) := SX.out.below _ _ HC.out (Below.refl _ _).drew
        clear HC
        refine wp_region_noPanic ?_
        refine wp_region_held_drew (S := fun z : World => z.cell? ⟨gx, 0, none⟩ = some (.pointer (some ⟨g, 0, none⟩)) ∧ z.cell? ⟨gx, 1, none⟩ = some (.int .i64 0) ∧ z.cell? ⟨gx, 2, none⟩ = some (.int .i64 n) ∧ z.cell? ⟨gx, 3, none⟩ = some (.string key) ∧ z.cell? ⟨gx, 8, none⟩ = some (.string top) ∧ z.cell? ⟨ga, 1, none⟩ = some (.int .i64 kk) ∧ z.cell? ⟨ga, 5, none⟩ = some (.string ap)) (by kernel_rfl) (SX.out.c _ HD.out) (fun hHeld => ?_)
        refine wpAnyH_take (i := 0) (v := ?_) rfl (by kernel_rfl) (by kernel_rfl) (by kernel_rfl) (fun _ _ _ h => h) (Or.inl ⟨by rfl, ?_⟩) (by assumption) ?_
        rotate_left
        · intro w hSw; go_simp; try with_reducible rfl
        go_simp
        refine wpAnyH_take (i := 1) (v := ?_) rfl (by kernel_rfl) (by kernel_rfl) (by kernel_rfl) (fun _ _ _ h => h) (Or.inl ⟨by rfl, ?_⟩) (by assumption) ?_
        rotate_left
        · intro w hSw; go_simp; try with_reducible rfl
        go_simp
        refine wpAnyH_take (i := 2) (v := ?_) rfl (by kernel_rfl) (by kernel_rfl) (by kernel_rfl) (fun _ _ _ h => h) (Or.inl ⟨by rfl, ?_⟩) (by assumption) ?_
        rotate_left
        · intro w hSw; go_simp; try with_reducible rfl
        go_simp
        refine wpAnyH_take (i := 3) (v := ?_) rfl (by kernel_rfl) (by kernel_rfl) (by kernel_rfl) (fun _ _ _ h => h) (Or.inl ⟨by rfl, ?_⟩) (by assumption) ?_
        rotate_left
        · intro w hSw; go_simp; try with_reducible rfl
        go_simp
        refine wpAnyH_take (i := 4) (v := ?_) rfl (by kernel_rfl) (by kernel_rfl) (by kernel_rfl) (fun _ _ _ h => h) (Or.inl ⟨by rfl, ?_⟩) (by assumption) ?_
        rotate_left
        · intro w hSw; go_simp; try with_reducible rfl
        go_simp
        refine wpAnyH_take (i := 5) (v := ?_) rfl (by kernel_rfl) (by kernel_rfl) (by kernel_rfl) (fun _ _ _ h => h) (Or.inl ⟨by rfl, ?_⟩) (by assumption) ?_
        rotate_left
        · intro w hSw; go_simp; try with_reducible rfl
        go_simp
        refine wpAnyH_take (i := 6) (v := ?_) rfl (by kernel_rfl) (by kernel_rfl) (by kernel_rfl) (fun _ _ _ h => h) (Or.inl ⟨by rfl, ?_⟩) (by assumption) ?_
        rotate_left
        · intro w hSw; go_simp; try with_reducible rfl
        go_simp
        refine wpAnyH_take (i := 7) (v := ?_) rfl (by kernel_rfl) (by kernel_rfl) (by kernel_rfl) (fun _ _ _ h => h) (Or.inl ⟨by rfl, ?_⟩) (by assumption) ?_
        rotate_left
        · intro w hSw; go_simp; try with_reducible rfl
        go_simp
        refine wpAnyH_ready (rs := [8]) (by kernel_rfl) (by simp) (AllReadyH.cons rfl (fun K hK => ?_) AllReadyH.nil)
        go_simp
        go_at_call 16
        refine (SX.out.bad _ HD.out).mono ?_
        rintro x wq ⟨vq, rfl, hbq⟩
        have HN : Hid (BT wq) := hbq
        clear hbq HD
        refine hK.out _ _ (SX.out.c _ HN.out) (fun hHeld => ?_)
        clear hK K
        refine wpAnyH_done (by kernel_rfl) ?_ _
        refine NoPanic.normal ?_
        generalize wq = w8 at *
        have HC : Hid (BT w8) := HN.out
        clear HN
        go_wp2_with fail
        go_roundw
        case rel => exact ⟨j + 1, by omega, by go_num, by have := SX.out.out _ HC.out; rw [← HNn.out] at this; exact this⟩
        case measure => simp [intOf]; omega
      · obtain rfl : j = C := by omega
        have hj' : ¬ (j : Int) < (j : Int) := by omega
        have c0 := hrr.out.cells.1
        obtain ⟨F, hF⟩ := (Hold.openD (Hold.right hrr.out) 0 (by decide)).dsk
        have hwt := waiting_any hF
        rw [HL.out.q] at hwt
        go_wp2_with (first
          | (go_at_call 21; refine (bsteps_any (Hold.right hrr.out)).mono ?_; rintro e w3 ⟨rfl, hw⟩; rw [hw]; clear hw w3)
          | (go_at_call 17; refine (bdisk_in (Hold.right hrr.out) 0 (by decide)).mono ?_; rintro e w3 ⟨rfl, hw⟩; rw [hw]; clear hw w3)
          | (go_at_call 23; refine hwt.mono ?_; rintro e w3 ⟨rfl, hw⟩; rw [hw]; clear hw w3))
        go_ret
        exact ⟨rfl, hrr.out.low⟩
end Go.Proofs.YtnhkkhiajiiahaaGreatDoor
