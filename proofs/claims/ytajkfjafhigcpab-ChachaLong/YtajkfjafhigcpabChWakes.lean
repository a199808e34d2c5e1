/- What the document fixes: one quarter, the first bytes of the block of noughts, two bytes combined. -/
import Derived.Test.YtajkfjafhigcpabChCrypt
import Derived.Test.YtajkfjafhigcpabChZero
namespace Go.Proofs.Ytajkfjafhigcpab
open Go.RowKit Go.PlainAid
set_option linter.unusedVariables false

/-- n bytes of nought in the block G. -/
def HZ (G n : Nat) (z : World) : Prop := ∀ i, i < n → z.cell? ⟨G, i, none⟩ = some (.int .u8 0)
theorem conv_zero (z : World) (G n : Nat) (h : HZ G n z) : (convert 28 9 (.slice (some ⟨G, 0, none⟩) n n)).run Try.prog z = .ok (.string (strOfNums (List.replicate n 0))) z :=
  run_convert_bytes_arg (P := Try.prog) z 28 5 Try.underlying28 Try.underlying5 G 0 n n (List.replicate n 0) (List.length_replicate ..) (fun i hi => by
    rw [Nat.zero_add, h i hi, List.getD_eq_getElem?_getD, List.getElem?_replicate, if_pos hi]; rfl) 9 Try.underlying9
theorem made_zero (n : Nat) (hn : n ≤ 100000) : ∃ Z : Array Value, (∀ x : World, (Instr.makeSlice 28 (.int .i64 (n : Int)) (.int .i64 (n : Int))).run Try.prog x = .ok (.slice (some ⟨x.heap.size, 0, none⟩) n n) (x.alloc (.cells Z 5 (0, 0)))) ∧ ∀ x : World, HZ x.heap.size n (x.alloc (.cells Z 5 (0, 0))) := by
  obtain ⟨i0, hi, hz0, hz1, hz2⟩ := info_parts Try.info5
  refine ⟨madeCells (Value.int .u8 0).cells (n * i0.size), fun x => ?_, fun x => ?_⟩
  · have := run_make (P := Try.prog) x 28 5 i0 (.int .u8 0) Try.underlying28 hi hz0 .i64 .i64 (n : Int) (n : Int) (by omega) (Int.le_refl _) (by rw [hz2]; omega) (by omega)
    rw [Int.toNat_natCast] at this
    exact this
  · intro i hi
    rw [hz1]
    have : (madeCells (Value.int .u8 0).cells (n * 1)).toList = List.replicate n (.int .u8 0) := by rw [Nat.mul_one]; exact toList_madeCells_one _ _
    have hl : (madeCells (Value.int .u8 0).cells (n * 1))[i]? = some (.int .u8 0) := by
      rw [← Array.getElem?_toList, this, List.getElem?_replicate, if_pos hi]
    rw [cell_of_row (x.alloc (.cells (madeCells (Value.int .u8 0).cells (n * 1)) 5 (0, 0))) x.heap.size i _ 5 (0, 0) (heap_alloc_new x _), hl]
theorem HZ.below {G n B : Nat} {z z' : World} (h : HZ G n z) (hb : Below B z z') (hG : G < B) : HZ G n z' := fun i hi => (hb.cell (p := ⟨G, i, none⟩) hG).trans (h i hi)
theorem HZ.alloc {G n : Nat} {z : World} (h : HZ G n z) (hG : G < z.heap.size) (o : Obj) : HZ G n (z.alloc o) := h.below ((Below.refl _ _).alloc (Nat.le_refl _) o) hG

set_option maxHeartbeats 4000000 in
set_option maxRecDepth 20000 in
theorem chWakes_any (w : World) : Calls Try.prog 6 #[] w fun e w' => e = .returned (.bool true) ∧ Below w.heap.size w w' := by
  obtain ⟨Za, hma, hza⟩ := made_zero 32 (by decide)
  obtain ⟨Zb, hmb, hzb⟩ := made_zero 12 (by decide)
  rw [show ((32 : Nat) : Int) = 32 from rfl] at hma
  rw [show ((12 : Nat) : Int) = 12 from rfl] at hmb
  have hblk := fun w => block_ok z32 z12 0 z32_size z12_size ⟨by decide, by decide⟩ w
  have hcry := fun w => crypt_ok z32 z12 ⟨#[0, 0]⟩ 0 z32_size z12_size ⟨by decide, by decide⟩ (by decide) w
  rw [zero_crypt] at hcry
  have hX2 := zero_two
  have hXs := blkB_size (stI z32 z12 0)
  generalize blkB (stI z32 z12 0) = X at hblk hX2 hXs
  have hq := fun w => quarter_any 286331153 16909060 2609737539 19088743 w
  obtain ⟨qA, qB, qC, qD⟩ := quarter_wakes
  rw [qA, qB, qC, qD] at hq
  have HZa : Hid (∀ x : World, HZ x.heap.size 32 (x.alloc (.cells Za 5 (0, 0)))) := hza
  have HZb : Hid (∀ x : World, HZ x.heap.size 12 (x.alloc (.cells Zb 5 (0, 0)))) := hzb
  have HCa : Hid (∀ (z : World) (G : Nat), HZ G 32 z → (convert 28 9 (.slice (some ⟨G, 0, none⟩) 32 32)).run Try.prog z = .ok (.string z32) z) := fun z G h => conv_zero z G 32 h
  have HCb : Hid (∀ (z : World) (G : Nat), HZ G 12 z → (convert 28 9 (.slice (some ⟨G, 0, none⟩) 12 12)).run Try.prog z = .ok (.string z12) z) := fun z G h => conv_zero z G 12 h
  clear hza hzb qA qB qC qD
  generalize z32 = k0 at *
  generalize z12 = n0 at *
  go_enter Try.func6, Try.ntmps6
  go_wp2_with fail
  refine (hq w).mono ?_
  rintro e w0 ⟨rfl, hw0⟩
  rw [hw0]
  clear hw0 hq
  go_wp2_with fail
  refine wp_region_noPanic ?_
  refine wp_region_held_drew (S := fun _ => True) (by kernel_rfl) trivial (fun hHeld => ?_)
  refine wpAnyH_ready (rs := [0, 2]) (by kernel_rfl) (by simp) (AllReadyH.cons rfl (fun K hK => ?_) (AllReadyH.cons rfl (fun K hK => ?_) AllReadyH.nil))
  · go_simp
    have hz1 : HZ w.heap.size 32 (w.alloc (.cells Za 5 (0, 0))).drew := HZa.out w
    have hb1 : Below w.heap.size w (w.alloc (.cells Za 5 (0, 0))).drew := ((Below.refl _ _).alloc (Nat.le_refl _) _).drew
    have HS1 : Hid ((w.alloc (.cells Za 5 (0, 0))).drew.heap.size = w.heap.size + 1) := by unfold Hid; simp
    refine hK.out _ _ trivial (fun hHeld => ?_)
    clear hK K
    generalize (w.alloc (.cells Za 5 (0, 0))).drew = u1 at hz1 hb1 HS1 ⊢
    refine wpAnyH_weaken (S' := HZ w.heap.size 32) (fun _ _ => trivial) _ _ _ _ ?_
    refine wpAnyH_take (i := 1) (v := ?_) rfl (by kernel_rfl) (by kernel_rfl) (by kernel_rfl) (fun _ _ _ h => h) (Or.inl ⟨by rfl, ?_⟩) (by assumption) ?_
    rotate_left
    · intro z hSw; have hcz := HCa.out z w.heap.size hSw; go_simp; try with_reducible rfl
    go_simp
    have hz2 : HZ u1.heap.size 12 (u1.alloc (.cells Zb 5 (0, 0))) := HZb.out u1
    have hltw : w.heap.size < (u1.alloc (.cells Zb 5 (0, 0))).heap.size := by have := HS1.out; simp; omega
    have hz3 : HZ w.heap.size 32 (u1.alloc (.cells Zb 5 (0, 0))) := hz1.alloc (by have := HS1.out; omega) _
    have hb2 : Below w.heap.size w (u1.alloc (.cells Zb 5 (0, 0))) := hb1.alloc (by have := HS1.out; omega) _
    refine wpAnyH_ready (rs := [2]) (by kernel_rfl) (by simp) (AllReadyH.cons rfl (fun K hK => ?_) AllReadyH.nil)
    go_simp
    refine hK.out _ _ hz3 (fun hHeld => ?_)
    clear hK K
    generalize u1.alloc (.cells Zb 5 (0, 0)) = u2 at hz2 hz3 hb2 hHeld hltw ⊢
    have hcz := HCb.out u2 u1.heap.size hz2
    refine wpAnyH_ready (rs := [3]) (by kernel_rfl) (by simp) (AllReadyH.cons rfl (fun K hK => ?_) AllReadyH.nil)
    go_simp
    refine hK.out _ _ hz3 (fun hHeld => ?_)
    clear hK K
    clear hcz hz2 hz1 hb1
    refine wpAnyH_ready (rs := [4]) (by kernel_rfl) (by simp) (AllReadyH.cons rfl (fun K hK => ?_) AllReadyH.nil)
    go_simp
    go_at_call 13
    refine (hblk _).mono ?_
    rintro e u3 ⟨rfl, hb3⟩
    have hz4 : HZ w.heap.size 32 u3 := hz3.below hb3 hltw
    have hb4 : Below w.heap.size w u3 := hb2.trans (hb3.mono hb2.size)
    refine hK.out _ _ hz4 (fun hHeld => ?_)
    clear hK K
    refine wpAnyH_take (i := 5) (v := ?_) rfl (by kernel_rfl) (by kernel_rfl) (by kernel_rfl) (fun _ _ _ h => h) (Or.inl ⟨by rfl, ?_⟩) (by assumption) ?_
    rotate_left
    · intro w hSw; go_simp; try with_reducible rfl
    go_simp
    refine wpAnyH_take (i := 6) (v := ?_) rfl (by kernel_rfl) (by kernel_rfl) (by kernel_rfl) (fun _ _ _ h => h) (Or.inl ⟨by rfl, ?_⟩) (by assumption) ?_
    rotate_left
    · intro w hSw; go_simp; try with_reducible rfl
    go_simp
    refine wpAnyH_take (i := 7) (v := ?_) rfl (by kernel_rfl) (by kernel_rfl) (by kernel_rfl) (fun _ _ _ h => h) (Or.inl ⟨by rfl, ?_⟩) (by assumption) ?_
    rotate_left
    · intro w hSw; go_simp; try with_reducible rfl
    go_simp
    refine wpAnyH_take (i := 8) (v := ?_) rfl (by kernel_rfl) (by kernel_rfl) (by kernel_rfl) (fun _ _ _ h => h) (Or.inl ⟨by rfl, ?_⟩) (by assumption) ?_
    rotate_left
    · intro w hSw; go_simp; try with_reducible rfl
    go_simp
    refine wpAnyH_take (i := 9) (v := ?_) rfl (by kernel_rfl) (by kernel_rfl) (by kernel_rfl) (fun _ _ _ h => h) (Or.inl ⟨by rfl, ?_⟩) (by assumption) ?_
    rotate_left
    · intro w hSw; go_simp; try with_reducible rfl
    go_simp
    refine wpAnyH_done (by kernel_rfl) ?_ _
    refine NoPanic.normal ?_
    clear hz3 hz4 hb2 hb3
    go_wp2_with fail
    have hb5 : Below w.heap.size w u3 := hb4
    clear hb4 HS1
    generalize u3 = v0 at hb5 ⊢
    refine wp_region_noPanic ?_
    refine wp_region_held_drew (S := fun _ => True) (by kernel_rfl) trivial (fun hHeld => ?_)
    refine wpAnyH_ready (rs := [0, 2]) (by kernel_rfl) (by simp) (AllReadyH.cons rfl (fun K hK => ?_) (AllReadyH.cons rfl (fun K hK => ?_) AllReadyH.nil))
    · go_simp
      have hz1 : HZ v0.heap.size 32 (v0.alloc (.cells Za 5 (0, 0))).drew := HZa.out v0
      have hb1 : Below v0.heap.size v0 (v0.alloc (.cells Za 5 (0, 0))).drew := ((Below.refl _ _).alloc (Nat.le_refl _) _).drew
      have HS1 : Hid ((v0.alloc (.cells Za 5 (0, 0))).drew.heap.size = v0.heap.size + 1) := by unfold Hid; simp
      refine hK.out _ _ trivial (fun hHeld => ?_)
      clear hK K
      generalize (v0.alloc (.cells Za 5 (0, 0))).drew = u1 at hz1 hb1 HS1 ⊢
      refine wpAnyH_weaken (S' := HZ v0.heap.size 32) (fun _ _ => trivial) _ _ _ _ ?_
      refine wpAnyH_take (i := 1) (v := ?_) rfl (by kernel_rfl) (by kernel_rfl) (by kernel_rfl) (fun _ _ _ h => h) (Or.inl ⟨by rfl, ?_⟩) (by assumption) ?_
      rotate_left
      · intro z hSw; have hcz := HCa.out z v0.heap.size hSw; go_simp; try with_reducible rfl
      go_simp
      have hz2 : HZ u1.heap.size 12 (u1.alloc (.cells Zb 5 (0, 0))) := HZb.out u1
      have hltw : v0.heap.size < (u1.alloc (.cells Zb 5 (0, 0))).heap.size := by have := HS1.out; simp; omega
      have hz3 : HZ v0.heap.size 32 (u1.alloc (.cells Zb 5 (0, 0))) := hz1.alloc (by have := HS1.out; omega) _
      have hb2 : Below v0.heap.size v0 (u1.alloc (.cells Zb 5 (0, 0))) := hb1.alloc (by have := HS1.out; omega) _
      refine wpAnyH_ready (rs := [2]) (by kernel_rfl) (by simp) (AllReadyH.cons rfl (fun K hK => ?_) AllReadyH.nil)
      go_simp
      refine hK.out _ _ hz3 (fun hHeld => ?_)
      clear hK K
      generalize u1.alloc (.cells Zb 5 (0, 0)) = u2 at hz2 hz3 hb2 hHeld hltw ⊢
      have hcz := HCb.out u2 u1.heap.size hz2
      refine wpAnyH_ready (rs := [3]) (by kernel_rfl) (by simp) (AllReadyH.cons rfl (fun K hK => ?_) AllReadyH.nil)
      go_simp
      refine hK.out _ _ hz3 (fun hHeld => ?_)
      clear hK K
      clear hcz hz2 hz1 hb1
      refine wpAnyH_ready (rs := [4]) (by kernel_rfl) (by simp) (AllReadyH.cons rfl (fun K hK => ?_) AllReadyH.nil)
      go_simp
      go_at_call 5
      refine (hcry _).mono ?_
      rintro e u3 ⟨rfl, hb3⟩
      have hz4 : HZ v0.heap.size 32 u3 := hz3.below hb3 hltw
      have hb4 : Below v0.heap.size v0 u3 := hb2.trans (hb3.mono hb2.size)
      refine hK.out _ _ hz4 (fun hHeld => ?_)
      clear hK K
      refine wpAnyH_take (i := 5) (v := ?_) rfl (by kernel_rfl) (by kernel_rfl) (by kernel_rfl) (fun _ _ _ h => h) (Or.inl ⟨by rfl, ?_⟩) (by assumption) ?_
      rotate_left
      · intro w hSw; go_simp; try with_reducible rfl
      go_simp
      refine wpAnyH_take (i := 6) (v := ?_) rfl (by kernel_rfl) (by kernel_rfl) (by kernel_rfl) (fun _ _ _ h => h) (Or.inl ⟨by rfl, ?_⟩) (by assumption) ?_
      rotate_left
      · intro w hSw; go_simp; try with_reducible rfl
      go_simp
      refine wpAnyH_take (i := 7) (v := ?_) rfl (by kernel_rfl) (by kernel_rfl) (by kernel_rfl) (fun _ _ _ h => h) (Or.inl ⟨by rfl, ?_⟩) (by assumption) ?_
      rotate_left
      · intro w hSw; go_simp; try with_reducible rfl
      go_simp
      refine wpAnyH_take (i := 8) (v := ?_) rfl (by kernel_rfl) (by kernel_rfl) (by kernel_rfl) (fun _ _ _ h => h) (Or.inl ⟨by rfl, ?_⟩) (by assumption) ?_
      rotate_left
      · intro w hSw; go_simp; try with_reducible rfl
      go_simp
      refine wpAnyH_take (i := 9) (v := ?_) rfl (by kernel_rfl) (by kernel_rfl) (by kernel_rfl) (fun _ _ _ h => h) (Or.inl ⟨by rfl, ?_⟩) (by assumption) ?_
      rotate_left
      · intro w hSw; go_simp; try with_reducible rfl
      go_simp
      refine wpAnyH_done (by kernel_rfl) ?_ _
      refine NoPanic.normal ?_
      clear hz3 hz4 hb2 hb3
      go_wp2_with fail
      go_ret
      exact ⟨rfl, hb5.trans (hb4.mono hb5.size)⟩
    · go_simp
      have hz1 : HZ v0.heap.size 12 (v0.alloc (.cells Zb 5 (0, 0))).drew := HZb.out v0
      have hb1 : Below v0.heap.size v0 (v0.alloc (.cells Zb 5 (0, 0))).drew := ((Below.refl _ _).alloc (Nat.le_refl _) _).drew
      have HS1 : Hid ((v0.alloc (.cells Zb 5 (0, 0))).drew.heap.size = v0.heap.size + 1) := by unfold Hid; simp
      refine hK.out _ _ trivial (fun hHeld => ?_)
      clear hK K
      generalize (v0.alloc (.cells Zb 5 (0, 0))).drew = u1 at hz1 hb1 HS1 ⊢
      refine wpAnyH_weaken (S' := HZ v0.heap.size 12) (fun _ _ => trivial) _ _ _ _ ?_
      refine wpAnyH_take (i := 3) (v := ?_) rfl (by kernel_rfl) (by kernel_rfl) (by kernel_rfl) (fun _ _ _ h => h) (Or.inl ⟨by rfl, ?_⟩) (by assumption) ?_
      rotate_left
      · intro z hSw; have hcz := HCb.out z v0.heap.size hSw; go_simp; try with_reducible rfl
      go_simp
      have hz2 : HZ u1.heap.size 32 (u1.alloc (.cells Za 5 (0, 0))) := HZa.out u1
      have hltw : v0.heap.size < (u1.alloc (.cells Za 5 (0, 0))).heap.size := by have := HS1.out; simp; omega
      have hz3 : HZ v0.heap.size 12 (u1.alloc (.cells Za 5 (0, 0))) := hz1.alloc (by have := HS1.out; omega) _
      have hb2 : Below v0.heap.size v0 (u1.alloc (.cells Za 5 (0, 0))) := hb1.alloc (by have := HS1.out; omega) _
      refine wpAnyH_ready (rs := [0]) (by kernel_rfl) (by simp) (AllReadyH.cons rfl (fun K hK => ?_) AllReadyH.nil)
      go_simp
      refine hK.out _ _ hz3 (fun hHeld => ?_)
      clear hK K
      generalize u1.alloc (.cells Za 5 (0, 0)) = u2 at hz2 hz3 hb2 hHeld hltw ⊢
      have hcz := HCa.out u2 u1.heap.size hz2
      refine wpAnyH_ready (rs := [1]) (by kernel_rfl) (by simp) (AllReadyH.cons rfl (fun K hK => ?_) AllReadyH.nil)
      go_simp
      refine hK.out _ _ hz3 (fun hHeld => ?_)
      clear hK K
      clear hcz hz2 hz1 hb1
      refine wpAnyH_ready (rs := [4]) (by kernel_rfl) (by simp) (AllReadyH.cons rfl (fun K hK => ?_) AllReadyH.nil)
      go_simp
      go_at_call 5
      refine (hcry _).mono ?_
      rintro e u3 ⟨rfl, hb3⟩
      have hz4 : HZ v0.heap.size 12 u3 := hz3.below hb3 hltw
      have hb4 : Below v0.heap.size v0 u3 := hb2.trans (hb3.mono hb2.size)
      refine hK.out _ _ hz4 (fun hHeld => ?_)
      clear hK K
      refine wpAnyH_take (i := 5) (v := ?_) rfl (by kernel_rfl) (by kernel_rfl) (by kernel_rfl) (fun _ _ _ h => h) (Or.inl ⟨by rfl, ?_⟩) (by assumption) ?_
      rotate_left
      · intro w hSw; go_simp; try with_reducible rfl
      go_simp
      refine wpAnyH_take (i := 6) (v := ?_) rfl (by kernel_rfl) (by kernel_rfl) (by kernel_rfl) (fun _ _ _ h => h) (Or.inl ⟨by rfl, ?_⟩) (by assumption) ?_
      rotate_left
      · intro w hSw; go_simp; try with_reducible rfl
      go_simp
      refine wpAnyH_take (i := 7) (v := ?_) rfl (by kernel_rfl) (by kernel_rfl) (by kernel_rfl) (fun _ _ _ h => h) (Or.inl ⟨by rfl, ?_⟩) (by assumption) ?_
      rotate_left
      · intro w hSw; go_simp; try with_reducible rfl
      go_simp
      refine wpAnyH_take (i := 8) (v := ?_) rfl (by kernel_rfl) (by kernel_rfl) (by kernel_rfl) (fun _ _ _ h => h) (Or.inl ⟨by rfl, ?_⟩) (by assumption) ?_
      rotate_left
      · intro w hSw; go_simp; try with_reducible rfl
      go_simp
      refine wpAnyH_take (i := 9) (v := ?_) rfl (by kernel_rfl) (by kernel_rfl) (by kernel_rfl) (fun _ _ _ h => h) (Or.inl ⟨by rfl, ?_⟩) (by assumption) ?_
      rotate_left
      · intro w hSw; go_simp; try with_reducible rfl
      go_simp
      refine wpAnyH_done (by kernel_rfl) ?_ _
      refine NoPanic.normal ?_
      clear hz3 hz4 hb2 hb3
      go_wp2_with fail
      go_ret
      exact ⟨rfl, hb5.trans (hb4.mono hb5.size)⟩
  · go_simp
    have hz1 : HZ w.heap.size 12 (w.alloc (.cells Zb 5 (0, 0))).drew := HZb.out w
    have hb1 : Below w.heap.size w (w.alloc (.cells Zb 5 (0, 0))).drew := ((Below.refl _ _).alloc (Nat.le_refl _) _).drew
    have HS1 : Hid ((w.alloc (.cells Zb 5 (0, 0))).drew.heap.size = w.heap.size + 1) := by unfold Hid; simp
    refine hK.out _ _ trivial (fun hHeld => ?_)
    clear hK K
    generalize (w.alloc (.cells Zb 5 (0, 0))).drew = u1 at hz1 hb1 HS1 ⊢
    refine wpAnyH_weaken (S' := HZ w.heap.size 12) (fun _ _ => trivial) _ _ _ _ ?_
    refine wpAnyH_take (i := 3) (v := ?_) rfl (by kernel_rfl) (by kernel_rfl) (by kernel_rfl) (fun _ _ _ h => h) (Or.inl ⟨by rfl, ?_⟩) (by assumption) ?_
    rotate_left
    · intro z hSw; have hcz := HCb.out z w.heap.size hSw; go_simp; try with_reducible rfl
    go_simp
    have hz2 : HZ u1.heap.size 32 (u1.alloc (.cells Za 5 (0, 0))) := HZa.out u1
    have hltw : w.heap.size < (u1.alloc (.cells Za 5 (0, 0))).heap.size := by have := HS1.out; simp; omega
    have hz3 : HZ w.heap.size 12 (u1.alloc (.cells Za 5 (0, 0))) := hz1.alloc (by have := HS1.out; omega) _
    have hb2 : Below w.heap.size w (u1.alloc (.cells Za 5 (0, 0))) := hb1.alloc (by have := HS1.out; omega) _
    refine wpAnyH_ready (rs := [0]) (by kernel_rfl) (by simp) (AllReadyH.cons rfl (fun K hK => ?_) AllReadyH.nil)
    go_simp
    refine hK.out _ _ hz3 (fun hHeld => ?_)
    clear hK K
    generalize u1.alloc (.cells Za 5 (0, 0)) = u2 at hz2 hz3 hb2 hHeld hltw ⊢
    have hcz := HCa.out u2 u1.heap.size hz2
    refine wpAnyH_ready (rs := [1]) (by kernel_rfl) (by simp) (AllReadyH.cons rfl (fun K hK => ?_) AllReadyH.nil)
    go_simp
    refine hK.out _ _ hz3 (fun hHeld => ?_)
    clear hK K
    clear hcz hz2 hz1 hb1
    refine wpAnyH_ready (rs := [4]) (by kernel_rfl) (by simp) (AllReadyH.cons rfl (fun K hK => ?_) AllReadyH.nil)
    go_simp
    go_at_call 13
    refine (hblk _).mono ?_
    rintro e u3 ⟨rfl, hb3⟩
    have hz4 : HZ w.heap.size 12 u3 := hz3.below hb3 hltw
    have hb4 : Below w.heap.size w u3 := hb2.trans (hb3.mono hb2.size)
    refine hK.out _ _ hz4 (fun hHeld => ?_)
    clear hK K
    refine wpAnyH_take (i := 5) (v := ?_) rfl (by kernel_rfl) (by kernel_rfl) (by kernel_rfl) (fun _ _ _ h => h) (Or.inl ⟨by rfl, ?_⟩) (by assumption) ?_
    rotate_left
    · intro w hSw; go_simp; try with_reducible rfl
    go_simp
    refine wpAnyH_take (i := 6) (v := ?_) rfl (by kernel_rfl) (by kernel_rfl) (by kernel_rfl) (fun _ _ _ h => h) (Or.inl ⟨by rfl, ?_⟩) (by assumption) ?_
    rotate_left
    · intro w hSw; go_simp; try with_reducible rfl
    go_simp
    refine wpAnyH_take (i := 7) (v := ?_) rfl (by kernel_rfl) (by kernel_rfl) (by kernel_rfl) (fun _ _ _ h => h) (Or.inl ⟨by rfl, ?_⟩) (by assumption) ?_
    rotate_left
    · intro w hSw; go_simp; try with_reducible rfl
    go_simp
    refine wpAnyH_take (i := 8) (v := ?_) rfl (by kernel_rfl) (by kernel_rfl) (by kernel_rfl) (fun _ _ _ h => h) (Or.inl ⟨by rfl, ?_⟩) (by assumption) ?_
    rotate_left
    · intro w hSw; go_simp; try with_reducible rfl
    go_simp
    refine wpAnyH_take (i := 9) (v := ?_) rfl (by kernel_rfl) (by kernel_rfl) (by kernel_rfl) (fun _ _ _ h => h) (Or.inl ⟨by rfl, ?_⟩) (by assumption) ?_
    rotate_left
    · intro w hSw; go_simp; try with_reducible rfl
    go_simp
    refine wpAnyH_done (by kernel_rfl) ?_ _
    refine NoPanic.normal ?_
    clear hz3 hz4 hb2 hb3
    go_wp2_with fail
    have hb5 : Below w.heap.size w u3 := hb4
    clear hb4 HS1
    generalize u3 = v0 at hb5 ⊢
    refine wp_region_noPanic ?_
    refine wp_region_held_drew (S := fun _ => True) (by kernel_rfl) trivial (fun hHeld => ?_)
    refine wpAnyH_ready (rs := [0, 2]) (by kernel_rfl) (by simp) (AllReadyH.cons rfl (fun K hK => ?_) (AllReadyH.cons rfl (fun K hK => ?_) AllReadyH.nil))
    · go_simp
      have hz1 : HZ v0.heap.size 32 (v0.alloc (.cells Za 5 (0, 0))).drew := HZa.out v0
      have hb1 : Below v0.heap.size v0 (v0.alloc (.cells Za 5 (0, 0))).drew := ((Below.refl _ _).alloc (Nat.le_refl _) _).drew
      have HS1 : Hid ((v0.alloc (.cells Za 5 (0, 0))).drew.heap.size = v0.heap.size + 1) := by unfold Hid; simp
      refine hK.out _ _ trivial (fun hHeld => ?_)
      clear hK K
      generalize (v0.alloc (.cells Za 5 (0, 0))).drew = u1 at hz1 hb1 HS1 ⊢
      refine wpAnyH_weaken (S' := HZ v0.heap.size 32) (fun _ _ => trivial) _ _ _ _ ?_
      refine wpAnyH_take (i := 1) (v := ?_) rfl (by kernel_rfl) (by kernel_rfl) (by kernel_rfl) (fun _ _ _ h => h) (Or.inl ⟨by rfl, ?_⟩) (by assumption) ?_
      rotate_left
      · intro z hSw; have hcz := HCa.out z v0.heap.size hSw; go_simp; try with_reducible rfl
      go_simp
      have hz2 : HZ u1.heap.size 12 (u1.alloc (.cells Zb 5 (0, 0))) := HZb.out u1
      have hltw : v0.heap.size < (u1.alloc (.cells Zb 5 (0, 0))).heap.size := by have := HS1.out; simp; omega
      have hz3 : HZ v0.heap.size 32 (u1.alloc (.cells Zb 5 (0, 0))) := hz1.alloc (by have := HS1.out; omega) _
      have hb2 : Below v0.heap.size v0 (u1.alloc (.cells Zb 5 (0, 0))) := hb1.alloc (by have := HS1.out; omega) _
      refine wpAnyH_ready (rs := [2]) (by kernel_rfl) (by simp) (AllReadyH.cons rfl (fun K hK => ?_) AllReadyH.nil)
      go_simp
      refine hK.out _ _ hz3 (fun hHeld => ?_)
      clear hK K
      generalize u1.alloc (.cells Zb 5 (0, 0)) = u2 at hz2 hz3 hb2 hHeld hltw ⊢
      have hcz := HCb.out u2 u1.heap.size hz2
      refine wpAnyH_ready (rs := [3]) (by kernel_rfl) (by simp) (AllReadyH.cons rfl (fun K hK => ?_) AllReadyH.nil)
      go_simp
      refine hK.out _ _ hz3 (fun hHeld => ?_)
      clear hK K
      clear hcz hz2 hz1 hb1
      refine wpAnyH_ready (rs := [4]) (by kernel_rfl) (by simp) (AllReadyH.cons rfl (fun K hK => ?_) AllReadyH.nil)
      go_simp
      go_at_call 5
      refine (hcry _).mono ?_
      rintro e u3 ⟨rfl, hb3⟩
      have hz4 : HZ v0.heap.size 32 u3 := hz3.below hb3 hltw
      have hb4 : Below v0.heap.size v0 u3 := hb2.trans (hb3.mono hb2.size)
      refine hK.out _ _ hz4 (fun hHeld => ?_)
      clear hK K
      refine wpAnyH_take (i := 5) (v := ?_) rfl (by kernel_rfl) (by kernel_rfl) (by kernel_rfl) (fun _ _ _ h => h) (Or.inl ⟨by rfl, ?_⟩) (by assumption) ?_
      rotate_left
      · intro w hSw; go_simp; try with_reducible rfl
      go_simp
      refine wpAnyH_take (i := 6) (v := ?_) rfl (by kernel_rfl) (by kernel_rfl) (by kernel_rfl) (fun _ _ _ h => h) (Or.inl ⟨by rfl, ?_⟩) (by assumption) ?_
      rotate_left
      · intro w hSw; go_simp; try with_reducible rfl
      go_simp
      refine wpAnyH_take (i := 7) (v := ?_) rfl (by kernel_rfl) (by kernel_rfl) (by kernel_rfl) (fun _ _ _ h => h) (Or.inl ⟨by rfl, ?_⟩) (by assumption) ?_
      rotate_left
      · intro w hSw; go_simp; try with_reducible rfl
      go_simp
      refine wpAnyH_take (i := 8) (v := ?_) rfl (by kernel_rfl) (by kernel_rfl) (by kernel_rfl) (fun _ _ _ h => h) (Or.inl ⟨by rfl, ?_⟩) (by assumption) ?_
      rotate_left
      · intro w hSw; go_simp; try with_reducible rfl
      go_simp
      refine wpAnyH_take (i := 9) (v := ?_) rfl (by kernel_rfl) (by kernel_rfl) (by kernel_rfl) (fun _ _ _ h => h) (Or.inl ⟨by rfl, ?_⟩) (by assumption) ?_
      rotate_left
      · intro w hSw; go_simp; try with_reducible rfl
      go_simp
      refine wpAnyH_done (by kernel_rfl) ?_ _
      refine NoPanic.normal ?_
      clear hz3 hz4 hb2 hb3
      go_wp2_with fail
      go_ret
      exact ⟨rfl, hb5.trans (hb4.mono hb5.size)⟩
    · go_simp
      have hz1 : HZ v0.heap.size 12 (v0.alloc (.cells Zb 5 (0, 0))).drew := HZb.out v0
      have hb1 : Below v0.heap.size v0 (v0.alloc (.cells Zb 5 (0, 0))).drew := ((Below.refl _ _).alloc (Nat.le_refl _) _).drew
      have HS1 : Hid ((v0.alloc (.cells Zb 5 (0, 0))).drew.heap.size = v0.heap.size + 1) := by unfold Hid; simp
      refine hK.out _ _ trivial (fun hHeld => ?_)
      clear hK K
      generalize (v0.alloc (.cells Zb 5 (0, 0))).drew = u1 at hz1 hb1 HS1 ⊢
      refine wpAnyH_weaken (S' := HZ v0.heap.size 12) (fun _ _ => trivial) _ _ _ _ ?_
      refine wpAnyH_take (i := 3) (v := ?_) rfl (by kernel_rfl) (by kernel_rfl) (by kernel_rfl) (fun _ _ _ h => h) (Or.inl ⟨by rfl, ?_⟩) (by assumption) ?_
      rotate_left
      · intro z hSw; have hcz := HCb.out z v0.heap.size hSw; go_simp; try with_reducible rfl
      go_simp
      have hz2 : HZ u1.heap.size 32 (u1.alloc (.cells Za 5 (0, 0))) := HZa.out u1
      have hltw : v0.heap.size < (u1.alloc (.cells Za 5 (0, 0))).heap.size := by have := HS1.out; simp; omega
      have hz3 : HZ v0.heap.size 12 (u1.alloc (.cells Za 5 (0, 0))) := hz1.alloc (by have := HS1.out; omega) _
      have hb2 : Below v0.heap.size v0 (u1.alloc (.cells Za 5 (0, 0))) := hb1.alloc (by have := HS1.out; omega) _
      refine wpAnyH_ready (rs := [0]) (by kernel_rfl) (by simp) (AllReadyH.cons rfl (fun K hK => ?_) AllReadyH.nil)
      go_simp
      refine hK.out _ _ hz3 (fun hHeld => ?_)
      clear hK K
      generalize u1.alloc (.cells Za 5 (0, 0)) = u2 at hz2 hz3 hb2 hHeld hltw ⊢
      have hcz := HCa.out u2 u1.heap.size hz2
      refine wpAnyH_ready (rs := [1]) (by kernel_rfl) (by simp) (AllReadyH.cons rfl (fun K hK => ?_) AllReadyH.nil)
      go_simp
      refine hK.out _ _ hz3 (fun hHeld => ?_)
      clear hK K
      clear hcz hz2 hz1 hb1
      refine wpAnyH_ready (rs := [4]) (by kernel_rfl) (by simp) (AllReadyH.cons rfl (fun K hK => ?_) AllReadyH.nil)
      go_simp
      go_at_call 5
      refine (hcry _).mono ?_
      rintro e u3 ⟨rfl, hb3⟩
      have hz4 : HZ v0.heap.size 12 u3 := hz3.below hb3 hltw
      have hb4 : Below v0.heap.size v0 u3 := hb2.trans (hb3.mono hb2.size)
      refine hK.out _ _ hz4 (fun hHeld => ?_)
      clear hK K
      refine wpAnyH_take (i := 5) (v := ?_) rfl (by kernel_rfl) (by kernel_rfl) (by kernel_rfl) (fun _ _ _ h => h) (Or.inl ⟨by rfl, ?_⟩) (by assumption) ?_
      rotate_left
      · intro w hSw; go_simp; try with_reducible rfl
      go_simp
      refine wpAnyH_take (i := 6) (v := ?_) rfl (by kernel_rfl) (by kernel_rfl) (by kernel_rfl) (fun _ _ _ h => h) (Or.inl ⟨by rfl, ?_⟩) (by assumption) ?_
      rotate_left
      · intro w hSw; go_simp; try with_reducible rfl
      go_simp
      refine wpAnyH_take (i := 7) (v := ?_) rfl (by kernel_rfl) (by kernel_rfl) (by kernel_rfl) (fun _ _ _ h => h) (Or.inl ⟨by rfl, ?_⟩) (by assumption) ?_
      rotate_left
      · intro w hSw; go_simp; try with_reducible rfl
      go_simp
      refine wpAnyH_take (i := 8) (v := ?_) rfl (by kernel_rfl) (by kernel_rfl) (by kernel_rfl) (fun _ _ _ h => h) (Or.inl ⟨by rfl, ?_⟩) (by assumption) ?_
      rotate_left
      · intro w hSw; go_simp; try with_reducible rfl
      go_simp
      refine wpAnyH_take (i := 9) (v := ?_) rfl (by kernel_rfl) (by kernel_rfl) (by kernel_rfl) (fun _ _ _ h => h) (Or.inl ⟨by rfl, ?_⟩) (by assumption) ?_
      rotate_left
      · intro w hSw; go_simp; try with_reducible rfl
      go_simp
      refine wpAnyH_done (by kernel_rfl) ?_ _
      refine NoPanic.normal ?_
      clear hz3 hz4 hb2 hb3
      go_wp2_with fail
      go_ret
      exact ⟨rfl, hb5.trans (hb4.mono hb5.size)⟩
end Go.Proofs.Ytajkfjafhigcpab
