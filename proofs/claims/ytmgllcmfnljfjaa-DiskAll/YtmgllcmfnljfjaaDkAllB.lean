/- The law DiskAll, walked (the first one cut). -/
import Derived.Test.YtmgllcmfnljfjaaDkAllL
namespace Go.Proofs.Ytmgllcmfnljfjaa
open Go.RowKit Go.PlainAid
set_option linter.unusedVariables false

set_option maxRecDepth 20000 in
set_option maxHeartbeats 8000000 in
theorem diskAll_b (s1 : Option Addr) (len1 cap1 : Nat) (s2 : Option Addr) (len2 cap2 : Nat) (W : World) (hs1 : ActsArg W s1 len1 cap1) (hs2 : ActsArg W s2 len2 cap2) (hc1 : 30 < len1) (hc2 : len2 ≤ 30) : Calls Try.prog 7 #[.slice s1 len1 cap1, .slice s2 len2 cap2] W fun e w' => e = .returned (.bool true) ∧ Below W.heap.size W w' := by
  have hl11 := hs1.1
  have hl12 := hs1.2.1
  have hl21 := hs2.1
  have hl22 := hs2.2.1
  have HS1 : Hid (ActsArg W s1 len1 cap1) := hs1
  have HS2 : Hid (ActsArg W s2 len2 cap2) := hs2
  have hna := h_new firm_nought (hold_nought W.heap.size W W (Nat.le_refl _) (Below.refl _ _)) 30
  clear hs1 hs2
  have hc1I : (30 : Int) ≤ (len1 : Int) := by omega
  have hc2I : (len2 : Int) ≤ 30 := by omega
  go_enter Try.func7, Try.ntmps7
  go_wp2_with (first
    | (go_at_call 8; refine hna.mono ?_; rintro e w1 ⟨ga, rfl, h1⟩; clear hna; have hnb := h_new ((firm_dsk _ _ _ _ _).star firm_nought) h1 30; clear h1)
    | (go_at_call 8; refine hnb.mono ?_; rintro e w2 ⟨gb, rfl, h2⟩; clear hnb; have hnc := h_new ((firm_dsk _ _ _ _ _).star ((firm_dsk _ _ _ _ _).star firm_nought)) h2 30; clear h2)
    | (go_at_call 8; refine hnc.mono ?_; rintro e w3 ⟨gc, rfl, h3⟩; clear hnc; rw [show newN 30 = 30 from rfl] at h3; have ht : Hid _ := tri_start h3; clear h3))
  go_loopw [28] (fun i wr => ∃ j : Nat, j ≤ 30 ∧ i = .int .i64 (j : Int) ∧ Hid (∃ q, q.length ≤ j ∧ Tri W.heap.size W wr 30 ga (fun _ => noB) q gb (fun _ => noB) q gc (fun _ => noB) q nought nought)) (fun i _ => 30 - (intOf i).toNat)
  case atStart => exact ⟨0, Nat.zero_le _, rfl, [], Nat.le_refl _, ht.out⟩
  case round =>
    clear ht
    obtain ⟨j, hj, rfl, hrr⟩ := hrel
    by_cases hlt : j < 30
    · have hj' : (j : Int) < (30 : Int) := by omega
      obtain ⟨q, hq, ht0⟩ := hrr.out
      have hbw := Tri.low ht0
      obtain ⟨sb, so, A, hsa, hA, hoA, c0, c1, c2, c3, c4, c5⟩ := acts_at HS1.out hbw j (by omega)
      subst hsa
      obtain ⟨d, a, s, nn, x, kb, km, kc, kk⟩ := A
      simp only [ActD.row] at c4
      obtain ⟨bx, hbx⟩ : ∃ bx, wr.heap.size = bx := ⟨_, rfl⟩
      have ht1 : Tri W.heap.size W (wr.alloc (.cells #[.int .i64 d, .int .i64 a, .string s, .int .i64 nn, .slice kb km kc, .bool x] 35)) 30 ga (fun _ => noB) q gb (fun _ => noB) q gc (fun _ => noB) q (blk wr.heap.size 35 [.int .i64 d, .int .i64 a, .string s, .int .i64 nn, .slice kb km kc, .bool x]) nought := Tri.new4 firm_nought firm_nought ht0 ((Below.refl _ _).alloc (Nat.le_refl _) _) (G := fun k => k = wr.heap.size) ⟨Blk.new wr 35 #[.int .i64 d, .int .i64 a, .string s, .int .i64 nn, .slice kb km kc, .bool x], fun k => Iff.rfl⟩ (fun k hk => by rw [hk]; exact Nat.le_refl _)
      have ht2 : Tri W.heap.size W ((wr.alloc (.cells #[.int .i64 d, .int .i64 a, .string s, .int .i64 nn, .slice kb km kc, .bool x] 35)).alloc (.cells #[.pointer (some ⟨ga, 0, none⟩), .pointer (some ⟨gb, 0, none⟩), .pointer (some ⟨gc, 0, none⟩)] 23)) 30 ga (fun _ => noB) q gb (fun _ => noB) q gc (fun _ => noB) q (blk (wr.heap.size + 1) 23 [.pointer (some ⟨ga, 0, none⟩), .pointer (some ⟨gb, 0, none⟩), .pointer (some ⟨gc, 0, none⟩)]) (blk wr.heap.size 35 [.int .i64 d, .int .i64 a, .string s, .int .i64 nn, .slice kb km kc, .bool x]) := Tri.new4 firm_nought (firm_blk _ _ _) ht1.flip ((Below.refl _ _).alloc (Nat.le_refl _) _) (G := fun k => k = wr.heap.size + 1) ⟨by have := Blk.new (wr.alloc (.cells #[.int .i64 d, .int .i64 a, .string s, .int .i64 nn, .slice kb km kc, .bool x] 35)) 23 #[.pointer (some ⟨ga, 0, none⟩), .pointer (some ⟨gb, 0, none⟩), .pointer (some ⟨gc, 0, none⟩)]; rw [World.size_alloc] at this; exact this, fun k => Iff.rfl⟩ (fun k hk => by rw [hk, World.size_alloc]; exact Nat.le_refl _)
      have ht : Hid (Tri W.heap.size W ((wr.alloc (.cells #[.int .i64 d, .int .i64 a, .string s, .int .i64 nn, .slice kb km kc, .bool x] 35)).alloc (.cells #[.pointer (some ⟨ga, 0, none⟩), .pointer (some ⟨gb, 0, none⟩), .pointer (some ⟨gc, 0, none⟩)] 23)) 30 ga (fun _ => noB) q gb (fun _ => noB) q gc (fun _ => noB) q (blk bx 35 [.int .i64 d, .int .i64 a, .string s, .int .i64 nn, .slice kb km kc, .bool x]) (blk (bx + 1) 23 [.pointer (some ⟨ga, 0, none⟩), .pointer (some ⟨gb, 0, none⟩), .pointer (some ⟨gc, 0, none⟩)])) := by rw [← hbx]; exact ht2.flip
      have hS : Hid (∀ z, Blk z bx 35 [.int .i64 d, .int .i64 a, .string s, .int .i64 nn, .slice kb km kc, .bool x] → (fun z => z.cell? ⟨bx, 0, none⟩ = some (.int .i64 d) ∧ z.cell? ⟨bx, 1, none⟩ = some (.int .i64 a) ∧ z.cell? ⟨bx, 2, none⟩ = some (.string s) ∧ z.cell? ⟨bx, 3, none⟩ = some (.int .i64 nn) ∧ z.cell? ⟨bx, 4, none⟩ = some (.slice kb km kc) ∧ z.cell? ⟨bx, 5, none⟩ = some (.bool x)) z) := fun z hz => ⟨hz.cell rfl, hz.cell rfl, hz.cell rfl, hz.cell rfl, hz.cell rfl, hz.cell rfl⟩
      obtain ⟨q', hq'⟩ : ∃ q', putQ q false 30 a (bytesB s nn) = q' := ⟨_, rfl⟩
      have HQ : Hid (putQ q false 30 a (bytesB s nn) = q') := hq'
      have hql : q.length ≤ 1000000 := by omega
      have hq'l : q'.length ≤ j + 1 := by rw [← hq']; exact Nat.le_trans (putQ_length _ _ _ _ _) (by omega)
      clear hrr ht0 ht1 ht2 hbw hq'
      go_wp2_with fail
      clear c0 c1 c2 c3 c4 c5
      generalize (wr.alloc (.cells #[.int .i64 d, .int .i64 a, .string s, .int .i64 nn, .slice kb km kc, .bool x] 35)).alloc (.cells #[.pointer (some ⟨ga, 0, none⟩), .pointer (some ⟨gb, 0, none⟩), .pointer (some ⟨gc, 0, none⟩)] 23) = wi at ht ⊢
      go_loopw [37] (fun i wr => ∃ k : Nat, k ≤ 3 ∧ i = .int .i64 (k : Int) ∧ Hid (Tri W.heap.size W wr 30 ga (fun _ => noB) (qn q q' k 0) gb (fun _ => noB) (qn q q' k 1) gc (fun _ => noB) (qn q q' k 2) (blk bx 35 [.int .i64 d, .int .i64 a, .string s, .int .i64 nn, .slice kb km kc, .bool x]) (blk (bx + 1) 23 [.pointer (some ⟨ga, 0, none⟩), .pointer (some ⟨gb, 0, none⟩), .pointer (some ⟨gc, 0, none⟩)]))) (fun i _ => 3 - (intOf i).toNat)
      case atStart => exact ⟨0, Nat.zero_le _, rfl, ht.out⟩
      case round =>
        clear ht
        obtain ⟨k, hk, rfl, ht⟩ := hrel
        have h4 : k = 0 ∨ k = 1 ∨ k = 2 ∨ k = 3 := by omega
        rcases h4 with rfl | rfl | rfl | rfl
        · rw [show qn q q' 0 0 = q from rfl, show qn q q' 0 1 = q from rfl, show qn q q' 0 2 = q from rfl] at ht
          rw [show ((0 : Nat) : Int) = 0 from rfl]
          have cp := (Tri.blk4 (Tri.flip ht.out)).cell (i := 0) rfl
          go_wp2_with fail
          clear cp
          have h' := Tri.below (firm_blk _ _ _) (firm_blk _ _ _) ht.out (Below.refl _ _).drew
          clear ht
          have ht : Hid _ := h'
          clear h'
          refine wp_region_noPanic ?_
          refine wp_region_held_drew (S := fun z => z.cell? ⟨bx, 0, none⟩ = some (.int .i64 d) ∧ z.cell? ⟨bx, 1, none⟩ = some (.int .i64 a) ∧ z.cell? ⟨bx, 2, none⟩ = some (.string s) ∧ z.cell? ⟨bx, 3, none⟩ = some (.int .i64 nn) ∧ z.cell? ⟨bx, 4, none⟩ = some (.slice kb km kc) ∧ z.cell? ⟨bx, 5, none⟩ = some (.bool x)) (by kernel_rfl) (hS.out _ (Tri.blk4 ht.out)) (fun hHeld => ?_)
          refine wpAnyH_take (i := 0) (v := ?_) rfl (by kernel_rfl) (by kernel_rfl) (by kernel_rfl) (fun _ _ _ h => h) (Or.inl ⟨by rfl, ?_⟩) (by assumption) ?_
          rotate_left
          · intro w hSw; go_simp; try with_reducible rfl
          go_simp
          refine wpAnyH_take (i := 1) (v := ?_) rfl (by kernel_rfl) (by kernel_rfl) (by kernel_rfl) (fun _ _ _ h => h) (Or.inl ⟨by rfl, ?_⟩) (by assumption) ?_
          rotate_left
          · intro w hSw; go_simp; try with_reducible rfl
          go_simp
          refine wpAnyH_take (i := 2) (v := ?_) rfl (by kernel_rfl) (by kernel_rfl) (by kernel_rfl) (fun _ _ _ h => h) (Or.inl ⟨by rfl, ?_⟩) (by assumption) ?_
          rotate_left
          · intro w hSw; go_simp; try with_reducible rfl
          go_simp
          refine wpAnyH_take (i := 3) (v := ?_) rfl (by kernel_rfl) (by kernel_rfl) (by kernel_rfl) (fun _ _ _ h => h) (Or.inl ⟨by rfl, ?_⟩) (by assumption) ?_
          rotate_left
          · intro w hSw; go_simp; try with_reducible rfl
          go_simp
          refine wpAnyH_ready (rs := [4]) (by kernel_rfl) (by simp) (AllReadyH.cons rfl (fun K hK => ?_) AllReadyH.nil)
          go_simp
          go_at_call 23
          refine (bytes_any d a s nn kb km kc x _).mono ?_
          rintro e wz ⟨rfl, hbz⟩
          have h' := Tri.below (firm_blk _ _ _) (firm_blk _ _ _) ht.out hbz
          clear hbz
          clear ht
          have ht : Hid _ := h'
          clear h'
          refine hK.out _ _ (hS.out _ (Tri.blk4 ht.out)) (fun hHeld => ?_)
          clear hK K
          refine wpAnyH_ready (rs := [5]) (by kernel_rfl) (by simp) (AllReadyH.cons rfl (fun K hK => ?_) AllReadyH.nil)
          go_simp
          go_at_call 21
          refine (t_writeA (firm_blk _ _ _) (firm_blk _ _ _) ht.out _ _ hql).mono ?_
          rintro e wz2 ⟨rfl, h'⟩
          clear ht
          have ht : Hid _ := h'
          clear h'
          refine hK.out _ _ (hS.out _ (Tri.blk4 ht.out)) (fun hHeld => ?_)
          clear hK K
          refine wpAnyH_done (by kernel_rfl) ?_ _
          refine NoPanic.normal ?_
          rw [HQ.out] at ht
          go_wp2_with fail
          go_roundw
          case rel => exact ⟨1, by omega, by go_num, ht.out⟩
          case measure => simp [intOf]
        · rw [show qn q q' 1 0 = q' from rfl, show qn q q' 1 1 = q from rfl, show qn q q' 1 2 = q from rfl] at ht
          rw [show ((1 : Nat) : Int) = 1 from rfl]
          have cp := (Tri.blk4 (Tri.flip ht.out)).cell (i := 1) rfl
          go_wp2_with fail
          clear cp
          have h' := Tri.below (firm_blk _ _ _) (firm_blk _ _ _) ht.out (Below.refl _ _).drew
          clear ht
          have ht : Hid _ := h'
          clear h'
          refine wp_region_noPanic ?_
          refine wp_region_held_drew (S := fun z => z.cell? ⟨bx, 0, none⟩ = some (.int .i64 d) ∧ z.cell? ⟨bx, 1, none⟩ = some (.int .i64 a) ∧ z.cell? ⟨bx, 2, none⟩ = some (.string s) ∧ z.cell? ⟨bx, 3, none⟩ = some (.int .i64 nn) ∧ z.cell? ⟨bx, 4, none⟩ = some (.slice kb km kc) ∧ z.cell? ⟨bx, 5, none⟩ = some (.bool x)) (by kernel_rfl) (hS.out _ (Tri.blk4 ht.out)) (fun hHeld => ?_)
          refine wpAnyH_take (i := 0) (v := ?_) rfl (by kernel_rfl) (by kernel_rfl) (by kernel_rfl) (fun _ _ _ h => h) (Or.inl ⟨by rfl, ?_⟩) (by assumption) ?_
          rotate_left
          · intro w hSw; go_simp; try with_reducible rfl
          go_simp
          refine wpAnyH_take (i := 1) (v := ?_) rfl (by kernel_rfl) (by kernel_rfl) (by kernel_rfl) (fun _ _ _ h => h) (Or.inl ⟨by rfl, ?_⟩) (by assumption) ?_
          rotate_left
          · intro w hSw; go_simp; try with_reducible rfl
          go_simp
          refine wpAnyH_take (i := 2) (v := ?_) rfl (by kernel_rfl) (by kernel_rfl) (by kernel_rfl) (fun _ _ _ h => h) (Or.inl ⟨by rfl, ?_⟩) (by assumption) ?_
          rotate_left
          · intro w hSw; go_simp; try with_reducible rfl
          go_simp
          refine wpAnyH_take (i := 3) (v := ?_) rfl (by kernel_rfl) (by kernel_rfl) (by kernel_rfl) (fun _ _ _ h => h) (Or.inl ⟨by rfl, ?_⟩) (by assumption) ?_
          rotate_left
          · intro w hSw; go_simp; try with_reducible rfl
          go_simp
          refine wpAnyH_ready (rs := [4]) (by kernel_rfl) (by simp) (AllReadyH.cons rfl (fun K hK => ?_) AllReadyH.nil)
          go_simp
          go_at_call 23
          refine (bytes_any d a s nn kb km kc x _).mono ?_
          rintro e wz ⟨rfl, hbz⟩
          have h' := Tri.below (firm_blk _ _ _) (firm_blk _ _ _) ht.out hbz
          clear hbz
          clear ht
          have ht : Hid _ := h'
          clear h'
          refine hK.out _ _ (hS.out _ (Tri.blk4 ht.out)) (fun hHeld => ?_)
          clear hK K
          refine wpAnyH_ready (rs := [5]) (by kernel_rfl) (by simp) (AllReadyH.cons rfl (fun K hK => ?_) AllReadyH.nil)
          go_simp
          go_at_call 21
          refine (t_writeB (firm_blk _ _ _) (firm_blk _ _ _) ht.out _ _ hql).mono ?_
          rintro e wz2 ⟨rfl, h'⟩
          clear ht
          have ht : Hid _ := h'
          clear h'
          refine hK.out _ _ (hS.out _ (Tri.blk4 ht.out)) (fun hHeld => ?_)
          clear hK K
          refine wpAnyH_done (by kernel_rfl) ?_ _
          refine NoPanic.normal ?_
          rw [HQ.out] at ht
          go_wp2_with fail
          go_roundw
          case rel => exact ⟨2, by omega, by go_num, ht.out⟩
          case measure => simp [intOf]
        · rw [show qn q q' 2 0 = q' from rfl, show qn q q' 2 1 = q' from rfl, show qn q q' 2 2 = q from rfl] at ht
          rw [show ((2 : Nat) : Int) = 2 from rfl]
          have cp := (Tri.blk4 (Tri.flip ht.out)).cell (i := 2) rfl
          go_wp2_with fail
          clear cp
          have h' := Tri.below (firm_blk _ _ _) (firm_blk _ _ _) ht.out (Below.refl _ _).drew
          clear ht
          have ht : Hid _ := h'
          clear h'
          refine wp_region_noPanic ?_
          refine wp_region_held_drew (S := fun z => z.cell? ⟨bx, 0, none⟩ = some (.int .i64 d) ∧ z.cell? ⟨bx, 1, none⟩ = some (.int .i64 a) ∧ z.cell? ⟨bx, 2, none⟩ = some (.string s) ∧ z.cell? ⟨bx, 3, none⟩ = some (.int .i64 nn) ∧ z.cell? ⟨bx, 4, none⟩ = some (.slice kb km kc) ∧ z.cell? ⟨bx, 5, none⟩ = some (.bool x)) (by kernel_rfl) (hS.out _ (Tri.blk4 ht.out)) (fun hHeld => ?_)
          refine wpAnyH_take (i := 0) (v := ?_) rfl (by kernel_rfl) (by kernel_rfl) (by kernel_rfl) (fun _ _ _ h => h) (Or.inl ⟨by rfl, ?_⟩) (by assumption) ?_
          rotate_left
          · intro w hSw; go_simp; try with_reducible rfl
          go_simp
          refine wpAnyH_take (i := 1) (v := ?_) rfl (by kernel_rfl) (by kernel_rfl) (by kernel_rfl) (fun _ _ _ h => h) (Or.inl ⟨by rfl, ?_⟩) (by assumption) ?_
          rotate_left
          · intro w hSw; go_simp; try with_reducible rfl
          go_simp
          refine wpAnyH_take (i := 2) (v := ?_) rfl (by kernel_rfl) (by kernel_rfl) (by kernel_rfl) (fun _ _ _ h => h) (Or.inl ⟨by rfl, ?_⟩) (by assumption) ?_
          rotate_left
          · intro w hSw; go_simp; try with_reducible rfl
          go_simp
          refine wpAnyH_take (i := 3) (v := ?_) rfl (by kernel_rfl) (by kernel_rfl) (by kernel_rfl) (fun _ _ _ h => h) (Or.inl ⟨by rfl, ?_⟩) (by assumption) ?_
          rotate_left
          · intro w hSw; go_simp; try with_reducible rfl
          go_simp
          refine wpAnyH_ready (rs := [4]) (by kernel_rfl) (by simp) (AllReadyH.cons rfl (fun K hK => ?_) AllReadyH.nil)
          go_simp
          go_at_call 23
          refine (bytes_any d a s nn kb km kc x _).mono ?_
          rintro e wz ⟨rfl, hbz⟩
          have h' := Tri.below (firm_blk _ _ _) (firm_blk _ _ _) ht.out hbz
          clear hbz
          clear ht
          have ht : Hid _ := h'
          clear h'
          refine hK.out _ _ (hS.out _ (Tri.blk4 ht.out)) (fun hHeld => ?_)
          clear hK K
          refine wpAnyH_ready (rs := [5]) (by kernel_rfl) (by simp) (AllReadyH.cons rfl (fun K hK => ?_) AllReadyH.nil)
          go_simp
          go_at_call 21
          refine (t_writeC (firm_blk _ _ _) (firm_blk _ _ _) ht.out _ _ hql).mono ?_
          rintro e wz2 ⟨rfl, h'⟩
          clear ht
          have ht : Hid _ := h'
          clear h'
          refine hK.out _ _ (hS.out _ (Tri.blk4 ht.out)) (fun hHeld => ?_)
          clear hK K
          refine wpAnyH_done (by kernel_rfl) ?_ _
          refine NoPanic.normal ?_
          rw [HQ.out] at ht
          go_wp2_with fail
          go_roundw
          case rel => exact ⟨3, by omega, by go_num, ht.out⟩
          case measure => simp [intOf]
        · rw [show qn q q' 3 0 = q' from rfl, show qn q q' 3 1 = q' from rfl, show qn q q' 3 2 = q' from rfl] at ht
          rw [show ((3 : Nat) : Int) = 3 from rfl]
          have hfin : Hid (Tri W.heap.size W wr 30 ga (fun _ => noB) q' gb (fun _ => noB) q' gc (fun _ => noB) q' nought nought) := Tri.new4 (firm_blk _ _ _) firm_nought (Tri.flip (Tri.new4 (firm_blk _ _ _) (firm_blk _ _ _) ht.out (Below.refl _ _) (P' := nought) (G := fun _ => False) (fun _ h => h) (fun _ h => h.elim))) (Below.refl _ _) (P' := nought) (G := fun _ => False) (fun _ h => h) (fun _ h => h.elim)
          clear ht
          go_wp2_with fail
          go_roundw
          case rel => exact ⟨j + 1, by omega, by go_num, q', hq'l, hfin.out⟩
          case measure => simp [intOf]; omega
    · obtain rfl : j = 30 := by omega
      obtain ⟨q, hq, ht0⟩ := hrr.out
      obtain ⟨l1, hl1⟩ : ∃ l1, app (fun _ => noB) q = l1 := ⟨_, rfl⟩
      have ht2 : Tri W.heap.size W (wr.alloc (.cells #[.pointer (some ⟨ga, 0, none⟩), .pointer (some ⟨gb, 0, none⟩), .pointer (some ⟨gc, 0, none⟩)] 23)) 30 ga (fun _ => noB) q gb (fun _ => noB) q gc (fun _ => noB) q (blk wr.heap.size 23 [.pointer (some ⟨ga, 0, none⟩), .pointer (some ⟨gb, 0, none⟩), .pointer (some ⟨gc, 0, none⟩)]) nought := Tri.new4 firm_nought firm_nought ht0 ((Below.refl _ _).alloc (Nat.le_refl _) _) (G := fun k => k = wr.heap.size) ⟨Blk.new wr 23 #[.pointer (some ⟨ga, 0, none⟩), .pointer (some ⟨gb, 0, none⟩), .pointer (some ⟨gc, 0, none⟩)], fun k => Iff.rfl⟩ (fun k hk => by rw [hk]; exact Nat.le_refl _)
      have ht : Hid _ := ht2
      obtain ⟨ps, hps⟩ : ∃ ps, wr.heap.size = ps := ⟨_, rfl⟩
      rw [hps] at ht
      have HL : Hid (app (fun _ => noB) q = l1) := hl1
      clear hrr ht0 ht2 hl1
      go_wp2_with fail
      generalize wr.alloc (.cells #[.pointer (some ⟨ga, 0, none⟩), .pointer (some ⟨gb, 0, none⟩), .pointer (some ⟨gc, 0, none⟩)] 23) = wi at ht ⊢
      go_loopw [54] (fun i wr => ∃ k : Nat, k ≤ 3 ∧ i = .int .i64 (k : Int) ∧ Hid (Tri W.heap.size W wr 30 ga (ln (fun _ => noB) l1 k 0) (qn q [] k 0) gb (ln (fun _ => noB) l1 k 1) (qn q [] k 1) gc (ln (fun _ => noB) l1 k 2) (qn q [] k 2) (blk ps 23 [.pointer (some ⟨ga, 0, none⟩), .pointer (some ⟨gb, 0, none⟩), .pointer (some ⟨gc, 0, none⟩)]) nought)) (fun i _ => 3 - (intOf i).toNat)
      case atStart => exact ⟨0, Nat.zero_le _, rfl, ht.out⟩
      case round =>
        clear ht
        obtain ⟨k, hk, rfl, ht⟩ := hrel
        have h4 : k = 0 ∨ k = 1 ∨ k = 2 ∨ k = 3 := by omega
        rcases h4 with rfl | rfl | rfl | rfl
        · rw [show qn q [] 0 0 = q from rfl, show ln (fun _ => noB) l1 0 0 = (fun _ => noB) from rfl, show qn q [] 0 1 = q from rfl, show ln (fun _ => noB) l1 0 1 = (fun _ => noB) from rfl, show qn q [] 0 2 = q from rfl, show ln (fun _ => noB) l1 0 2 = (fun _ => noB) from rfl] at ht
          rw [show ((0 : Nat) : Int) = 0 from rfl]
          have cp := (Tri.blk4 ht.out).cell (i := 0) rfl
          go_wp2_with (go_at_call 22; refine (t_flushA (firm_blk _ _ _) firm_nought ht.out).mono ?_; rintro e wz ⟨rfl, h'⟩; clear ht cp; have ht : Hid _ := h'; clear h')
          rw [HL.out] at ht
          go_roundw
          case rel => exact ⟨1, by omega, by go_num, ht.out⟩
          case measure => simp [intOf]
        · rw [show qn q [] 1 0 = [] from rfl, show ln (fun _ => noB) l1 1 0 = l1 from rfl, show qn q [] 1 1 = q from rfl, show ln (fun _ => noB) l1 1 1 = (fun _ => noB) from rfl, show qn q [] 1 2 = q from rfl, show ln (fun _ => noB) l1 1 2 = (fun _ => noB) from rfl] at ht
          rw [show ((1 : Nat) : Int) = 1 from rfl]
          have cp := (Tri.blk4 ht.out).cell (i := 1) rfl
          go_wp2_with (go_at_call 22; refine (t_flushB (firm_blk _ _ _) firm_nought ht.out).mono ?_; rintro e wz ⟨rfl, h'⟩; clear ht cp; have ht : Hid _ := h'; clear h')
          rw [HL.out] at ht
          go_roundw
          case rel => exact ⟨2, by omega, by go_num, ht.out⟩
          case measure => simp [intOf]
        · rw [show qn q [] 2 0 = [] from rfl, show ln (fun _ => noB) l1 2 0 = l1 from rfl, show qn q [] 2 1 = [] from rfl, show ln (fun _ => noB) l1 2 1 = l1 from rfl, show qn q [] 2 2 = q from rfl, show ln (fun _ => noB) l1 2 2 = (fun _ => noB) from rfl] at ht
          rw [show ((2 : Nat) : Int) = 2 from rfl]
          have cp := (Tri.blk4 ht.out).cell (i := 2) rfl
          go_wp2_with (go_at_call 22; refine (t_flushC (firm_blk _ _ _) firm_nought ht.out).mono ?_; rintro e wz ⟨rfl, h'⟩; clear ht cp; have ht : Hid _ := h'; clear h')
          rw [HL.out] at ht
          go_roundw
          case rel => exact ⟨3, by omega, by go_num, ht.out⟩
          case measure => simp [intOf]
        · rw [show qn q [] 3 0 = [] from rfl, show qn q [] 3 1 = [] from rfl, show qn q [] 3 2 = [] from rfl, show ln (fun _ => noB) l1 3 0 = l1 from rfl, show ln (fun _ => noB) l1 3 1 = l1 from rfl, show ln (fun _ => noB) l1 3 2 = l1 from rfl] at ht
          rw [show ((3 : Nat) : Int) = 3 from rfl]
          obtain ⟨gal, hgal⟩ : ∃ gal, wr.heap.size = gal := ⟨_, rfl⟩
          have ht3 : Tri W.heap.size W (wr.alloc (.cells (bs 0).toArray 4)) 30 ga l1 [] gb l1 [] gc l1 [] (blk wr.heap.size 4 (bs 0)) nought := Tri.new4 (firm_blk _ _ _) firm_nought ht.out ((Below.refl _ _).alloc (Nat.le_refl _) _) (G := fun k => k = wr.heap.size) ⟨Blk.new wr 4 (bs 0).toArray, fun k => Iff.rfl⟩ (fun k hk => by rw [hk]; exact Nat.le_refl _)
          have ht4 : Hid (Tri W.heap.size W (wr.alloc (.cells (bs 0).toArray 4)) 30 ga l1 [] gb l1 [] gc l1 [] nought (blk gal 4 (bs 0))) := by rw [← hgal]; exact ht3.flip
          have hmk := make_bools
          obtain ⟨Z0, hZ0⟩ : ∃ Z0, (bs 0).toArray = Z0 := ⟨_, rfl⟩
          rw [hZ0] at hmk ht4
          clear ht ht3 hZ0
          have ht := ht4
          clear ht4
          go_wp2_with fail
          generalize wr.alloc (.cells Z0 4) = wi at ht ⊢
          go_loopw [68] (fun i wr => ∃ j : Nat, j ≤ len2 ∧ i = .int .i64 (j : Int) ∧ Hid (∃ q, q.length ≤ j ∧ Tri W.heap.size W wr 30 ga l1 q gb l1 q gc l1 [] nought (blk gal 4 (bs j)))) (fun i _ => len2 - (intOf i).toNat)
          case atStart => exact ⟨0, Nat.zero_le _, rfl, [], Nat.le_refl _, ht.out⟩
          case round =>
            clear ht HL
            obtain ⟨j, hj, rfl, hrr⟩ := hrel
            by_cases hlt : j < len2
            · have hj' : (j : Int) < (len2 : Int) := by omega
              have hj3 : (j : Int) < 30 := by omega
              obtain ⟨q, hq, ht0⟩ := hrr.out
              have hbw := Tri.low ht0
              obtain ⟨sb, so, A, hsa, hA, hoA, c0, c1, c2, c3, c4, c5⟩ := acts_at HS2.out hbw j (by omega)
              subst hsa
              obtain ⟨d, a, s, nn, x, kb, km, kc, kk⟩ := A
              simp only [ActD.row] at c4
              obtain ⟨bx, hbx⟩ : ∃ bx, wr.heap.size = bx := ⟨_, rfl⟩
              have ht1 : Tri W.heap.size W (wr.alloc (.cells #[.int .i64 d, .int .i64 a, .string s, .int .i64 nn, .slice kb km kc, .bool x] 35)) 30 ga l1 q gb l1 q gc l1 [] (blk wr.heap.size 35 [.int .i64 d, .int .i64 a, .string s, .int .i64 nn, .slice kb km kc, .bool x]) (blk gal 4 (bs j)) := Tri.new4 firm_nought (firm_blk _ _ _) ht0 ((Below.refl _ _).alloc (Nat.le_refl _) _) (G := fun k => k = wr.heap.size) ⟨Blk.new wr 35 #[.int .i64 d, .int .i64 a, .string s, .int .i64 nn, .slice kb km kc, .bool x], fun k => Iff.rfl⟩ (fun k hk => by rw [hk]; exact Nat.le_refl _)
              have ht2 := Tri.set4 (firm_blk _ _ _) (Tri.flip ht1) j (.bool true)
              rw [bs_set j (by omega)] at ht2
              have cg := (Tri.blk4 (Tri.flip ht1)).cell (bs_at j j (by omega))
              have fg := (Tri.blk4 (Tri.flip ht1)).frozen j
              have ht : Hid (Tri W.heap.size W ((wr.alloc (.cells #[.int .i64 d, .int .i64 a, .string s, .int .i64 nn, .slice kb km kc, .bool x] 35)).setCell ⟨gal, j, none⟩ (.bool true)) 30 ga l1 q gb l1 q gc l1 [] (blk bx 35 [.int .i64 d, .int .i64 a, .string s, .int .i64 nn, .slice kb km kc, .bool x]) (blk gal 4 (bs (j + 1)))) := by rw [← hbx]; exact ht2.flip
              have hS : Hid (∀ z, Blk z bx 35 [.int .i64 d, .int .i64 a, .string s, .int .i64 nn, .slice kb km kc, .bool x] → (fun z => z.cell? ⟨bx, 0, none⟩ = some (.int .i64 d) ∧ z.cell? ⟨bx, 1, none⟩ = some (.int .i64 a) ∧ z.cell? ⟨bx, 2, none⟩ = some (.string s) ∧ z.cell? ⟨bx, 3, none⟩ = some (.int .i64 nn) ∧ z.cell? ⟨bx, 4, none⟩ = some (.slice kb km kc) ∧ z.cell? ⟨bx, 5, none⟩ = some (.bool x)) z) := fun z hz => ⟨hz.cell rfl, hz.cell rfl, hz.cell rfl, hz.cell rfl, hz.cell rfl, hz.cell rfl⟩
              obtain ⟨q', hq'⟩ : ∃ q', putQ q false 30 a (bytesB s nn) = q' := ⟨_, rfl⟩
              have HQ : Hid (putQ q false 30 a (bytesB s nn) = q') := hq'
              have hql : q.length ≤ 1000000 := by omega
              have hq'l : q'.length ≤ j + 1 := by rw [← hq']; exact Nat.le_trans (putQ_length _ _ _ _ _) (by omega)
              clear hrr ht0 ht1 ht2 hbw hq'
              go_wp2_with fail
              clear c0 c1 c2 c3 c4 c5 cg fg
              generalize (wr.alloc (.cells #[.int .i64 d, .int .i64 a, .string s, .int .i64 nn, .slice kb km kc, .bool x] 35)).setCell ⟨gal, j, none⟩ (.bool true) = wi at ht ⊢
              have h' := Tri.below (firm_blk _ _ _) (firm_blk _ _ _) ht.out (Below.refl _ _).drew
              clear ht
              have ht : Hid _ := h'
              clear h'
              refine wp_region_noPanic ?_
              refine wp_region_held_drew (S := fun z => z.cell? ⟨bx, 0, none⟩ = some (.int .i64 d) ∧ z.cell? ⟨bx, 1, none⟩ = some (.int .i64 a) ∧ z.cell? ⟨bx, 2, none⟩ = some (.string s) ∧ z.cell? ⟨bx, 3, none⟩ = some (.int .i64 nn) ∧ z.cell? ⟨bx, 4, none⟩ = some (.slice kb km kc) ∧ z.cell? ⟨bx, 5, none⟩ = some (.bool x)) (by kernel_rfl) (hS.out _ (Tri.blk4 ht.out)) (fun hHeld => ?_)
              refine wpAnyH_take (i := 0) (v := ?_) rfl (by kernel_rfl) (by kernel_rfl) (by kernel_rfl) (fun _ _ _ h => h) (Or.inl ⟨by rfl, ?_⟩) (by assumption) ?_
              rotate_left
              · intro w hSw; go_simp; try with_reducible rfl
              go_simp
              refine wpAnyH_take (i := 1) (v := ?_) rfl (by kernel_rfl) (by kernel_rfl) (by kernel_rfl) (fun _ _ _ h => h) (Or.inl ⟨by rfl, ?_⟩) (by assumption) ?_
              rotate_left
              · intro w hSw; go_simp; try with_reducible rfl
              go_simp
              refine wpAnyH_take (i := 2) (v := ?_) rfl (by kernel_rfl) (by kernel_rfl) (by kernel_rfl) (fun _ _ _ h => h) (Or.inl ⟨by rfl, ?_⟩) (by assumption) ?_
              rotate_left
              · intro w hSw; go_simp; try with_reducible rfl
              go_simp
              refine wpAnyH_take (i := 3) (v := ?_) rfl (by kernel_rfl) (by kernel_rfl) (by kernel_rfl) (fun _ _ _ h => h) (Or.inl ⟨by rfl, ?_⟩) (by assumption) ?_
              rotate_left
              · intro w hSw; go_simp; try with_reducible rfl
              go_simp
              refine wpAnyH_ready (rs := [4]) (by kernel_rfl) (by simp) (AllReadyH.cons rfl (fun K hK => ?_) AllReadyH.nil)
              go_simp
              go_at_call 23
              refine (bytes_any d a s nn kb km kc x _).mono ?_
              rintro e wz ⟨rfl, hbz⟩
              have h' := Tri.below (firm_blk _ _ _) (firm_blk _ _ _) ht.out hbz
              clear hbz
              clear ht
              have ht : Hid _ := h'
              clear h'
              refine hK.out _ _ (hS.out _ (Tri.blk4 ht.out)) (fun hHeld => ?_)
              clear hK K
              refine wpAnyH_ready (rs := [5]) (by kernel_rfl) (by simp) (AllReadyH.cons rfl (fun K hK => ?_) AllReadyH.nil)
              go_simp
              go_at_call 21
              refine (t_writeA (firm_blk _ _ _) (firm_blk _ _ _) ht.out _ _ hql).mono ?_
              rintro e wz2 ⟨rfl, h'⟩
              clear ht
              have ht : Hid _ := h'
              clear h'
              refine hK.out _ _ (hS.out _ (Tri.blk4 ht.out)) (fun hHeld => ?_)
              clear hK K
              refine wpAnyH_done (by kernel_rfl) ?_ _
              refine NoPanic.normal ?_
              rw [HQ.out] at ht
              go_wp2_with fail
              have h' := Tri.below (firm_blk _ _ _) (firm_blk _ _ _) ht.out (Below.refl _ _).drew
              clear ht
              have ht : Hid _ := h'
              clear h'
              refine wp_region_noPanic ?_
              refine wp_region_held_drew (S := fun z => z.cell? ⟨bx, 0, none⟩ = some (.int .i64 d) ∧ z.cell? ⟨bx, 1, none⟩ = some (.int .i64 a) ∧ z.cell? ⟨bx, 2, none⟩ = some (.string s) ∧ z.cell? ⟨bx, 3, none⟩ = some (.int .i64 nn) ∧ z.cell? ⟨bx, 4, none⟩ = some (.slice kb km kc) ∧ z.cell? ⟨bx, 5, none⟩ = some (.bool x)) (by kernel_rfl) (hS.out _ (Tri.blk4 ht.out)) (fun hHeld => ?_)
              refine wpAnyH_take (i := 0) (v := ?_) rfl (by kernel_rfl) (by kernel_rfl) (by kernel_rfl) (fun _ _ _ h => h) (Or.inl ⟨by rfl, ?_⟩) (by assumption) ?_
              rotate_left
              · intro w hSw; go_simp; try with_reducible rfl
              go_simp
              refine wpAnyH_take (i := 1) (v := ?_) rfl (by kernel_rfl) (by kernel_rfl) (by kernel_rfl) (fun _ _ _ h => h) (Or.inl ⟨by rfl, ?_⟩) (by assumption) ?_
              rotate_left
              · intro w hSw; go_simp; try with_reducible rfl
              go_simp
              refine wpAnyH_take (i := 2) (v := ?_) rfl (by kernel_rfl) (by kernel_rfl) (by kernel_rfl) (fun _ _ _ h => h) (Or.inl ⟨by rfl, ?_⟩) (by assumption) ?_
              rotate_left
              · intro w hSw; go_simp; try with_reducible rfl
              go_simp
              refine wpAnyH_take (i := 3) (v := ?_) rfl (by kernel_rfl) (by kernel_rfl) (by kernel_rfl) (fun _ _ _ h => h) (Or.inl ⟨by rfl, ?_⟩) (by assumption) ?_
              rotate_left
              · intro w hSw; go_simp; try with_reducible rfl
              go_simp
              refine wpAnyH_ready (rs := [4]) (by kernel_rfl) (by simp) (AllReadyH.cons rfl (fun K hK => ?_) AllReadyH.nil)
              go_simp
              go_at_call 23
              refine (bytes_any d a s nn kb km kc x _).mono ?_
              rintro e wz ⟨rfl, hbz⟩
              have h' := Tri.below (firm_blk _ _ _) (firm_blk _ _ _) ht.out hbz
              clear hbz
              clear ht
              have ht : Hid _ := h'
              clear h'
              refine hK.out _ _ (hS.out _ (Tri.blk4 ht.out)) (fun hHeld => ?_)
              clear hK K
              refine wpAnyH_ready (rs := [5]) (by kernel_rfl) (by simp) (AllReadyH.cons rfl (fun K hK => ?_) AllReadyH.nil)
              go_simp
              go_at_call 21
              refine (t_writeB (firm_blk _ _ _) (firm_blk _ _ _) ht.out _ _ hql).mono ?_
              rintro e wz2 ⟨rfl, h'⟩
              clear ht
              have ht : Hid _ := h'
              clear h'
              refine hK.out _ _ (hS.out _ (Tri.blk4 ht.out)) (fun hHeld => ?_)
              clear hK K
              refine wpAnyH_done (by kernel_rfl) ?_ _
              refine NoPanic.normal ?_
              rw [HQ.out] at ht
              have hfin : Hid (Tri W.heap.size W _ 30 ga l1 q' gb l1 q' gc l1 [] nought (blk gal 4 (bs (j + 1)))) := Tri.new4 (firm_blk _ _ _) (firm_blk _ _ _) ht.out (Below.refl _ _) (P' := nought) (G := fun _ => False) (fun _ h => h) (fun _ h => h.elim)
              clear ht
              go_wp2_with fail
              go_roundw
              case rel => exact ⟨j + 1, by omega, by go_num, q', hq'l, hfin.out⟩
              case measure => simp [intOf]; omega
            · obtain rfl : j = len2 := by omega
              obtain ⟨q, hq, ht0⟩ := hrr.out
              have ht : Hid _ := ht0
              obtain ⟨FB1, hB1⟩ := Tri.diskB ht0
              have hwa := waiting_any hB1
              have him := image_any hB1
              have hql : q.length ≤ 1000000 := by omega
              have hqI : (q.length : Int) ≤ 30 := by omega
              clear ht0 hrr hB1
              go_wp2_with (first
                | (go_at_call 13; refine hwa.mono ?_; rintro e w1 ⟨rfl, hw'⟩; rw [hw']; clear hw' w1 hwa)
                | (go_at_call 16; refine him.mono ?_; rintro e w1 ⟨rfl, hbk, hb1⟩; clear him; have h' : Tri W.heap.size W w1 30 ga l1 q gb l1 q gc l1 [] (txt (.slice (some ⟨wr.heap.size, 0, none⟩) 30 30) 30 (app l1 q)) (blk gal 4 (bs j)) := Tri.new4 firm_nought (firm_blk _ _ _) ht.out hb1 (G := fun k => k = wr.heap.size) ⟨texts_blk hbk, (fun a n c e e0 => by cases e; rfl), (fun k hk => by rw [hk]; exact hbk.lt)⟩ (fun k hk => by rw [hk]; exact Nat.le_refl _); clear ht hbk hb1; have ht : Hid _ := h'; clear h')
                | (go_at_call 19; refine (t_crashA (firm_txt _ _ _) (firm_blk _ _ _) ht.out hql).mono ?_; rintro e w2 ⟨rfl, h'⟩; clear ht; have ht : Hid _ := h'; clear h'; have hbb : Hid _ := bs_bools (Tri.blk4 (Tri.flip ht.out)) (by omega))
                | (go_at_call 19; refine (t_crashB (firm_txt _ _ _) ht.out j hbb.out (by omega) hql).mono ?_; rintro e w3 ⟨rfl, h'⟩; clear ht hbb; have ht : Hid _ := h'; clear h')
                | (go_at_call 10; refine (wakes_any _).mono ?_; rintro e w4 ⟨rfl, hbz⟩; have h' := Tri.below (firm_txt _ _ _) (firm_blk _ _ _) ht.out hbz; clear ht hbz; have ht : Hid _ := h'; clear h'; obtain ⟨FA1, hA1⟩ := Tri.diskA ht.out; have hia := image_any hA1; clear hA1)
                | (go_at_call 16; refine hia.mono ?_; rintro e w5 ⟨rfl, hbk, hb5⟩; clear hia; have tA : Hid _ := texts_blk hbk; have h' := Tri.below (firm_txt _ _ _) (firm_blk _ _ _) ht.out hb5; clear ht hb5 hbk; have ht : Hid _ := h'; clear h'; obtain ⟨FC1, hC1⟩ := Tri.diskC ht.out; have hic := image_any hC1; clear hC1)
                | (go_at_call 16; refine hic.mono ?_; rintro e w6 ⟨rfl, hbk, hb6⟩; clear hic; have tC : Hid _ := texts_blk hbk; have h1 : Hid _ := TextsAt.below tA.out hb6; have h' := Tri.below (firm_txt _ _ _) (firm_blk _ _ _) ht.out hb6; clear ht hb6 hbk tA; have ht : Hid _ := h'; clear h'; have heq := equal_true _ _ 30 (app l1 []) w6 h1.out tC.out (by omega))
                | (go_at_call 15; refine heq.mono ?_; rintro e w7 ⟨rfl, hb7⟩; clear heq h1 tC; have h' := Tri.below (firm_txt _ _ _) (firm_blk _ _ _) ht.out hb7; clear ht hb7; have ht : Hid _ := h'; clear h'; obtain ⟨FB2, hB2⟩ := Tri.diskB ht.out; have hib := image_any hB2; clear hB2)
                | (go_at_call 16; refine hib.mono ?_; rintro e w8 ⟨rfl, hbk, hb8⟩; clear hib; have tB : Hid _ := texts_blk hbk; have h' := Tri.below (firm_txt _ _ _) (firm_blk _ _ _) ht.out hb8; clear ht hb8 hbk; have ht : Hid _ := h'; clear h'; have heq2 := equal_true _ _ 30 (app l1 q) w8 tB.out (Tri.txt4 ht.out) (by omega))
                | (go_at_call 15; refine heq2.mono ?_; rintro e w9 ⟨rfl, hb9⟩; clear heq2 tB; have h' := Tri.below (firm_txt _ _ _) (firm_blk _ _ _) ht.out hb9; clear ht hb9; have ht : Hid _ := h'; clear h'))
              go_ret
              exact ⟨rfl, Tri.low ht.out⟩
end Go.Proofs.Ytmgllcmfnljfjaa
