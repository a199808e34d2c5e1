/- What one round of the program's own digest does. -/
import Derived.Test.YtegebaomhbogmaaDoorSha
import Derived.Test.YtegebaomhbogmaaDoorBrow
import Derived.Test.YtegebaomhbogmaaDoorTurn
namespace Go.Proofs.YtegebaomhbogmaaDoor
open Go.RowKit Go.PlainAid
set_option linter.unusedVariables false

theorem right_to (x : Int) (n : Nat) (hn : n < 32) (h : 0 ≤ x ∧ x < 4294967296) (w : World) :
    Calls Tryd.prog 71 #[.int .u32 x, .int .i64 (n : Int)] w fun e w' => e = .returned (.int .u32 (rr n x)) ∧ w' = w := by
  refine (right_any x n h.1 h.2 w).mono ?_
  rintro e w' ⟨rfl, rfl⟩
  refine ⟨?_, rfl⟩
  rw [show ((n : Int) % 32).toNat = n by omega]; rfl

theorem not_u32 (x : Int) (h : 0 ≤ x ∧ x < 4294967296) : bits .xor .u32 IntKind.u32.max x = 4294967295 - x := by
  obtain ⟨X, rfl⟩ := Int.eq_ofNat_of_zero_le h.1
  have hX : X < 4294967296 := by omega
  rw [show IntKind.u32.max = ((4294967295 : Nat) : Int) from rfl, u32_xor_nat _ _ (by omega) hX]
  have e : 4294967295 ^^^ X = 4294967295 - X := by
    have h1 : (BitVec.allOnes 32 ^^^ BitVec.ofNat 32 X) = ~~~ BitVec.ofNat 32 X := BitVec.allOnes_xor
    have h2 := congrArg BitVec.toNat h1
    rw [BitVec.toNat_xor, BitVec.toNat_not, BitVec.toNat_ofNat, Nat.mod_eq_of_lt hX] at h2
    exact h2
  rw [e]; omega
theorem tin_walk (S : Nat → Int) (x : Int) (h : 0 ≤ S 4 ∧ S 4 < 4294967296) :
    (x + (S 7 + bits .xor .u32 (bits .xor .u32 (turn 26 (S 4)) (turn 21 (S 4))) (turn 7 (S 4)) + bits .xor .u32 (bits .and .u32 (S 4) (S 5)) (bits .and .u32 (bits .xor .u32 IntKind.u32.max (S 4)) (S 6)))) % 4294967296 = tin S x := by
  rw [not_u32 (S 4) h]
  unfold tin bS1 chF rr
  simp only [show 32 - 6 = 26 from rfl, show 32 - 11 = 21 from rfl, show 32 - 25 = 7 from rfl]
  omega
set_option maxRecDepth 20000 in
set_option maxHeartbeats 1000000 in
theorem round_any (g : Nat) (S : Nat → Int) (x : Int) (hS : Ok S) (hx : 0 ≤ x ∧ x < 4294967296) (w : World) (hg : Blk w g 95 (ws 8 S)) :
    Calls Tryd.prog 69 #[.pointer (some ⟨g, 0, none⟩), .int .u32 x] w fun e w' => e = .returned (.tuple #[]) ∧ Blk w' g 95 (ws 8 (nx S x)) ∧ Only g w w' := by
  have c0 := hg.cell (ws_at 8 S 0 (by decide))
  have c1 := hg.cell (ws_at 8 S 1 (by decide))
  have c2 := hg.cell (ws_at 8 S 2 (by decide))
  have c4 := hg.cell (ws_at 8 S 4 (by decide))
  have c5 := hg.cell (ws_at 8 S 5 (by decide))
  have c6 := hg.cell (ws_at 8 S 6 (by decide))
  have c7 := hg.cell (ws_at 8 S 7 (by decide))
  obtain ⟨h40, h41⟩ := hS 4 (by decide)
  obtain ⟨h00, h01⟩ := hS 0 (by decide)
  go_enter Tryd.func69, Tryd.ntmps69
  go_wp2
  go_quiet (fail)
  have hg1 : Blk (w.drewN nq) g 95 (ws 8 S) := hg
  have ho1 : Only g w (w.drewN nq) := (Only.refl g w).drewN _
  clear c0 c1 c2 c4 c5 c6 c7 hg
  generalize w.drewN nq = w1 at hg1 ho1 ⊢
  have c4 := hg1.cell (ws_at 8 S 4 (by decide))
  have c5 := hg1.cell (ws_at 8 S 5 (by decide))
  have c6 := hg1.cell (ws_at 8 S 6 (by decide))
  go_wp2
  go_quiet (fail)
  have hg2 : Blk (w1.drewN nq) g 95 (ws 8 S) := hg1
  have ho2 : Only g w (w1.drewN nq) := ho1.drewN _
  clear c4 c5 c6 hg1 ho1
  generalize w1.drewN nq = w2 at hg2 ho2 ⊢
  have c7 := hg2.cell (ws_at 8 S 7 (by decide))
  go_wp2
  go_quiet ((go_at_call 71; exact Calls.quiet_of_same (right_any _ _ h40 h41 _)))
  have hg3 : Blk (w2.drewN nq) g 95 (ws 8 S) := hg2
  have ho3 : Only g w (w2.drewN nq) := ho2.drewN _
  clear c7 hg2 ho2
  generalize w2.drewN nq = w3 at hg3 ho3 ⊢
  go_wp2
  rw [tin_walk S x ⟨h40, h41⟩]
  obtain ⟨y, hy⟩ : ∃ y, tin S x = y := ⟨_, rfl⟩
  rw [hy]
  have HY : Hid (tin S x = y) := hy
  clear hy
  obtain ⟨Z, hZ⟩ : ∃ Z, ws 7 S = Z := ⟨_, rfl⟩
  have hsrc : ∀ (j : Nat) v, Z[j]? = some v → w3.cell? ((⟨g, 0, none⟩ : Addr).add j) = some v := by
    intro j v hj
    rw [← hZ] at hj
    have hj7 : j < 7 := by
      rcases Nat.lt_or_ge j 7 with h | h
      · exact h
      · rw [List.getElem?_eq_none (by rw [ws_length]; exact h)] at hj; cases hj
    rw [ws_at 7 S j hj7] at hj
    cases hj
    have := hg3.cell (ws_at 8 S j (by omega))
    unfold Addr.add
    split
    · simp_all
    · simpa using this
  have hZl : Z.length = 7 := by rw [← hZ, ws_length]
  have hZo : ∀ v ∈ Z, v.oneCell' = true := by rw [← hZ]; exact ws_one 7 S
  have hrun := run_copy_row Tryd.prog w3.drew 75 75 3 73 g 1 7 7 ⟨g, 0, none⟩ 7 8 (ws 8 S).toArray 95 Z Tryd.underlying75 Tryd.size73 hg3 (by rw [hZl]; rfl) hsrc (by rw [hZl]; simp [ws_length]) hZo
  have hrow : (List.take 1 (ws 8 S).toArray.toList ++ Z ++ List.drop (1 + Z.length) (ws 8 S).toArray.toList) = ws 8 (fun i => if i = 0 then S 0 else S (i - 1)) := by
    rw [← hZ]; rfl
  rw [hrow] at hrun
  have hg4 : Blk (w3.drew.setRow g (ws 8 (fun i => if i = 0 then S 0 else S (i - 1))).toArray) g 95 (ws 8 (fun i => if i = 0 then S 0 else S (i - 1))) := setRow_heap _ g _ _ 95 _ hg3
  have ho4 : Only g w (w3.drew.setRow g (ws 8 (fun i => if i = 0 then S 0 else S (i - 1))).toArray) := ho3.drew.setRow _
  clear hrow hZ
  refine wp_region_noPanic ?_
  refine wp_region_held_drew (S := fun _ => True) (by kernel_rfl) trivial (fun hHeld => ?_)
  refine wpAnyH_take (i := 0) (v := ?_) rfl (by kernel_rfl) (by kernel_rfl) (by kernel_rfl) (fun _ _ _ h => h) (Or.inl ⟨by rfl, ?_⟩) (by assumption) ?_
  rotate_left
  · intro w hSw; go_simp; try with_reducible rfl
  go_simp
  refine wpAnyH_take (i := 1) (v := ?_) rfl (by kernel_rfl) (by kernel_rfl) (by kernel_rfl) (fun _ _ _ h => h) (Or.inl ⟨by rfl, ?_⟩) (by assumption) ?_
  rotate_left
  · intro w hSw; go_simp; try with_reducible rfl
  go_simp
  refine wpAnyH_take (i := 2) (v := ?_) rfl (by kernel_rfl) (by kernel_rfl) (by kernel_rfl) (fun _ _ _ h => h) (Or.inl ⟨by rfl, ?_⟩) (by assumption) ?_
  rotate_left
  · intro w hSw; go_simp; try with_reducible rfl
  go_simp
  refine wpAnyH_take (i := 3) (v := ?_) rfl (by kernel_rfl) (by kernel_rfl) (by kernel_rfl) (fun _ _ _ h => h) (Or.inl ⟨by rfl, ?_⟩) (by assumption) ?_
  rotate_left
  · intro w hSw; go_simp; try with_reducible rfl
  go_simp
  refine wpAnyH_take (i := 4) (v := ?_) rfl (by kernel_rfl) (by kernel_rfl) (by kernel_rfl) (fun _ _ _ h => h) (Or.inl ⟨by rfl, ?_⟩) (by assumption) ?_
  rotate_left
  · intro w hSw; go_simp; try with_reducible rfl
  go_simp
  refine wpAnyH_take (i := 5) (v := ?_) rfl (by kernel_rfl) (by kernel_rfl) (by kernel_rfl) (fun _ _ _ h => h) (Or.inl ⟨by rfl, ?_⟩) (by assumption) ?_
  rotate_left
  · intro w hSw; go_simp; try with_reducible rfl
  go_simp
  refine wpAnyH_ready (rs := [6]) (by kernel_rfl) (by simp) (AllReadyH.cons rfl (fun K hK => ?_) AllReadyH.nil)
  refine step_copy_run rfl _ _ 75 75 rfl _ _ rfl rfl _ _ hrun ?_
  refine hK.out _ _ trivial (fun hHeld => ?_)
  clear hK K
  go_simp
  refine wpAnyH_done (by kernel_rfl) ?_ _
  refine NoPanic.normal ?_
  clear hrun hsrc hZl hZo hg3 ho3
  generalize w3.drew.setRow g (ws 8 (fun i => if i = 0 then S 0 else S (i - 1))).toArray = w4 at hg4 ho4 ⊢
  have c4 : w4.cell? ⟨g, 4, none⟩ = some (.int .u32 (S 3)) := hg4.cell (ws_at 8 _ 4 (by decide))
  have f4 := hg4.frozen 4
  obtain ⟨Y4, hY4⟩ : ∃ Y4, IntKind.u32.wrap (S 3 + y) = Y4 := ⟨_, rfl⟩
  have HY4 : Hid ((S 3 + y) % 4294967296 = Y4) := by rw [← hY4, IntKind.wrap_u32']; exact rfl
  have hg5 := hg4.drew.setCell 4 (.int .u32 Y4)
  have ho5 := ho4.drew.setCell 4 (.int .u32 Y4)
  rw [ws_set] at hg5
  go_wp2
  refine wp_region_noPanic ?_
  refine wp_region_held_drew (S := fun _ => True) (by kernel_rfl) trivial (fun hHeld => ?_)
  refine wpAnyH_take (i := 0) (v := ?_) rfl (by kernel_rfl) (by kernel_rfl) (by kernel_rfl) (fun _ _ _ h => h) (Or.inl ⟨by rfl, ?_⟩) (by assumption) ?_
  rotate_left
  · intro w hSw; go_simp; try with_reducible rfl
  go_simp
  refine wpAnyH_take (i := 1) (v := ?_) rfl (by kernel_rfl) (by kernel_rfl) (by kernel_rfl) (fun _ _ _ h => h) (Or.inl ⟨by rfl, ?_⟩) (by assumption) ?_
  rotate_left
  · intro w hSw; go_simp; try with_reducible rfl
  go_simp
  refine wpAnyH_take (i := 2) (v := ?_) rfl (by kernel_rfl) (by kernel_rfl) (by kernel_rfl) (fun _ _ _ h => h) (Or.inl ⟨by rfl, ?_⟩) (by assumption) ?_
  rotate_left
  · intro w hSw; go_simp; try with_reducible rfl
  go_simp
  refine wpAnyH_take (i := 4) (v := ?_) rfl (by kernel_rfl) (by kernel_rfl) (by kernel_rfl) (fun _ _ _ h => h) (Or.inl ⟨by rfl, ?_⟩) (by assumption) ?_
  rotate_left
  · intro w hSw; go_simp; try with_reducible rfl
  go_simp
  refine wpAnyH_take (i := 6) (v := ?_) rfl (by kernel_rfl) (by kernel_rfl) (by kernel_rfl) (fun _ _ _ h => h) (Or.inl ⟨by rfl, ?_⟩) (by assumption) ?_
  rotate_left
  · intro w hSw; go_simp; try with_reducible rfl
  go_simp
  refine wpAnyH_ready (rs := [3]) (by kernel_rfl) (by simp) (AllReadyH.cons rfl (fun K hK => ?_) AllReadyH.nil)
  go_simp
  refine hK.out _ _ trivial (fun hHeld => ?_)
  clear hK K
  refine wpAnyH_take (i := 5) (v := ?_) rfl (by kernel_rfl) (by kernel_rfl) (by kernel_rfl) (fun _ _ _ h => h) (Or.inl ⟨by rfl, ?_⟩) (by assumption) ?_
  rotate_left
  · intro w hSw; go_simp; try with_reducible rfl
  go_simp
  refine wpAnyH_take (i := 7) (v := ?_) rfl (by kernel_rfl) (by kernel_rfl) (by kernel_rfl) (fun _ _ _ h => h) (Or.inl ⟨by rfl, ?_⟩) (by assumption) ?_
  rotate_left
  · intro w hSw; go_simp; try with_reducible rfl
  go_simp
  refine wpAnyH_ready (rs := [8]) (by kernel_rfl) (by simp) (AllReadyH.cons rfl (fun K hK => ?_) AllReadyH.nil)
  go_simp
  refine hK.out _ _ trivial (fun hHeld => ?_)
  clear hK K
  refine wpAnyH_done (by kernel_rfl) ?_ _
  refine NoPanic.normal ?_
  have hg5' : Blk ((w4.setCell ⟨g, 4, none⟩ (.int .u32 Y4)).drew) g 95 _ := hg5
  have ho5' : Only g w ((w4.setCell ⟨g, 4, none⟩ (.int .u32 Y4)).drew) := ho5
  clear hg4 ho4 hg5 ho5 c4 f4 hY4
  generalize (w4.setCell ⟨g, 4, none⟩ (.int .u32 Y4)).drew = w5 at hg5' ho5' ⊢
  have f0 := hg5'.frozen 0
  have c0 : w5.cell? ⟨g, 0, none⟩ = some (.int .u32 (S 0)) := hg5'.cell (ws_at 8 _ 0 (by decide))
  go_wp2
  refine wp_region_noPanic ?_
  refine wp_region_held_drew (S := fun _ => True) (by kernel_rfl) trivial (fun hHeld => ?_)
  refine wpAnyH_take (i := 0) (v := ?_) rfl (by kernel_rfl) (by kernel_rfl) (by kernel_rfl) (fun _ _ _ h => h) (Or.inl ⟨by rfl, ?_⟩) (by assumption) ?_
  rotate_left
  · intro w hSw; go_simp; try with_reducible rfl
  go_simp
  refine wpAnyH_take (i := 1) (v := ?_) rfl (by kernel_rfl) (by kernel_rfl) (by kernel_rfl) (fun _ _ _ h => h) (Or.inl ⟨by rfl, ?_⟩) (by assumption) ?_
  rotate_left
  · intro w hSw; go_simp; try with_reducible rfl
  go_simp
  refine wpAnyH_take (i := 2) (v := ?_) rfl (by kernel_rfl) (by kernel_rfl) (by kernel_rfl) (fun _ _ _ h => h) (Or.inl ⟨by rfl, ?_⟩) (by assumption) ?_
  rotate_left
  · intro w hSw; go_simp; try with_reducible rfl
  go_simp
  refine wpAnyH_take (i := 4) (v := ?_) rfl (by kernel_rfl) (by kernel_rfl) (by kernel_rfl) (fun _ _ _ h => h) (Or.inl ⟨by rfl, ?_⟩) (by assumption) ?_
  rotate_left
  · intro w hSw; go_simp; try with_reducible rfl
  go_simp
  refine wpAnyH_take (i := 7) (v := ?_) rfl (by kernel_rfl) (by kernel_rfl) (by kernel_rfl) (fun _ _ _ h => h) (Or.inl ⟨by rfl, ?_⟩) (by assumption) ?_
  rotate_left
  · intro w hSw; go_simp; try with_reducible rfl
  go_simp
  refine wpAnyH_take (i := 11) (v := ?_) rfl (by kernel_rfl) (by kernel_rfl) (by kernel_rfl) (fun _ _ _ h => h) (Or.inl ⟨by rfl, ?_⟩) (by assumption) ?_
  rotate_left
  · intro w hSw; go_simp; try with_reducible rfl
  go_simp
  refine wpAnyH_take (i := 12) (v := ?_) rfl (by kernel_rfl) (by kernel_rfl) (by kernel_rfl) (fun _ _ _ h => h) (Or.inl ⟨by rfl, ?_⟩) (by assumption) ?_
  rotate_left
  · intro w hSw; go_simp; try with_reducible rfl
  go_simp
  refine wpAnyH_take (i := 13) (v := ?_) rfl (by kernel_rfl) (by kernel_rfl) (by kernel_rfl) (fun _ _ _ h => h) (Or.inl ⟨by rfl, ?_⟩) (by assumption) ?_
  rotate_left
  · intro w hSw; go_simp; try with_reducible rfl
  go_simp
  refine wpAnyH_take (i := 14) (v := ?_) rfl (by kernel_rfl) (by kernel_rfl) (by kernel_rfl) (fun _ _ _ h => h) (Or.inl ⟨by rfl, ?_⟩) (by assumption) ?_
  rotate_left
  · intro w hSw; go_simp; try with_reducible rfl
  go_simp
  refine wpAnyH_take (i := 15) (v := ?_) rfl (by kernel_rfl) (by kernel_rfl) (by kernel_rfl) (fun _ _ _ h => h) (Or.inl ⟨by rfl, ?_⟩) (by assumption) ?_
  rotate_left
  · intro w hSw; go_simp; try with_reducible rfl
  go_simp
  refine wpAnyH_take (i := 16) (v := ?_) rfl (by kernel_rfl) (by kernel_rfl) (by kernel_rfl) (fun _ _ _ h => h) (Or.inl ⟨by rfl, ?_⟩) (by assumption) ?_
  rotate_left
  · intro w hSw; go_simp; try with_reducible rfl
  go_simp
  refine wpAnyH_take (i := 17) (v := ?_) rfl (by kernel_rfl) (by kernel_rfl) (by kernel_rfl) (fun _ _ _ h => h) (Or.inl ⟨by rfl, ?_⟩) (by assumption) ?_
  rotate_left
  · intro w hSw; go_simp; try with_reducible rfl
  go_simp
  refine wpAnyH_take (i := 18) (v := ?_) rfl (by kernel_rfl) (by kernel_rfl) (by kernel_rfl) (fun _ _ _ h => h) (Or.inl ⟨by rfl, ?_⟩) (by assumption) ?_
  rotate_left
  · intro w hSw; go_simp; try with_reducible rfl
  go_simp
  refine wpAnyH_take (i := 19) (v := ?_) rfl (by kernel_rfl) (by kernel_rfl) (by kernel_rfl) (fun _ _ _ h => h) (Or.inl ⟨by rfl, ?_⟩) (by assumption) ?_
  rotate_left
  · intro w hSw; go_simp; try with_reducible rfl
  go_simp
  refine wpAnyH_take (i := 20) (v := ?_) rfl (by kernel_rfl) (by kernel_rfl) (by kernel_rfl) (fun _ _ _ h => h) (Or.inl ⟨by rfl, ?_⟩) (by assumption) ?_
  rotate_left
  · intro w hSw; go_simp; try with_reducible rfl
  go_simp
  refine wpAnyH_take (i := 21) (v := ?_) rfl (by kernel_rfl) (by kernel_rfl) (by kernel_rfl) (fun _ _ _ h => h) (Or.inl ⟨by rfl, ?_⟩) (by assumption) ?_
  rotate_left
  · intro w hSw; go_simp; try with_reducible rfl
  go_simp
  refine wpAnyH_take (i := 23) (v := ?_) rfl (by kernel_rfl) (by kernel_rfl) (by kernel_rfl) (fun _ _ _ h => h) (Or.inl ⟨by rfl, ?_⟩) (by assumption) ?_
  rotate_left
  · intro w hSw; go_simp; try with_reducible rfl
  go_simp
  refine wpAnyH_ready (rs := [3]) (by kernel_rfl) (by simp) (AllReadyH.cons rfl (fun K hK => ?_) AllReadyH.nil)
  go_simp
  go_at_call 71
  refine (right_any _ _ h00 h01 _).mono ?_
  rintro e wx ⟨rfl, rfl⟩
  go_simp
  refine hK.out _ _ trivial (fun hHeld => ?_)
  clear hK K
  refine wpAnyH_ready (rs := [5]) (by kernel_rfl) (by simp) (AllReadyH.cons rfl (fun K hK => ?_) AllReadyH.nil)
  go_simp
  go_at_call 71
  refine (right_any _ _ h00 h01 _).mono ?_
  rintro e wx ⟨rfl, rfl⟩
  go_simp
  refine hK.out _ _ trivial (fun hHeld => ?_)
  clear hK K
  refine wpAnyH_take (i := 6) (v := ?_) rfl (by kernel_rfl) (by kernel_rfl) (by kernel_rfl) (fun _ _ _ h => h) (Or.inl ⟨by rfl, ?_⟩) (by assumption) ?_
  rotate_left
  · intro w hSw; go_simp; try with_reducible rfl
  go_simp
  refine wpAnyH_ready (rs := [8]) (by kernel_rfl) (by simp) (AllReadyH.cons rfl (fun K hK => ?_) AllReadyH.nil)
  go_simp
  go_at_call 71
  refine (right_any _ _ h00 h01 _).mono ?_
  rintro e wx ⟨rfl, rfl⟩
  go_simp
  refine hK.out _ _ trivial (fun hHeld => ?_)
  clear hK K
  refine wpAnyH_take (i := 9) (v := ?_) rfl (by kernel_rfl) (by kernel_rfl) (by kernel_rfl) (fun _ _ _ h => h) (Or.inl ⟨by rfl, ?_⟩) (by assumption) ?_
  rotate_left
  · intro w hSw; go_simp; try with_reducible rfl
  go_simp
  refine wpAnyH_take (i := 10) (v := ?_) rfl (by kernel_rfl) (by kernel_rfl) (by kernel_rfl) (fun _ _ _ h => h) (Or.inl ⟨by rfl, ?_⟩) (by assumption) ?_
  rotate_left
  · intro w hSw; go_simp; try with_reducible rfl
  go_simp
  refine wpAnyH_take (i := 22) (v := ?_) rfl (by kernel_rfl) (by kernel_rfl) (by kernel_rfl) (fun _ _ _ h => h) (Or.inl ⟨by rfl, ?_⟩) (by assumption) ?_
  rotate_left
  · intro w hSw; go_simp; try with_reducible rfl
  go_simp
  refine wpAnyH_take (i := 24) (v := ?_) rfl (by kernel_rfl) (by kernel_rfl) (by kernel_rfl) (fun _ _ _ h => h) (Or.inl ⟨by rfl, ?_⟩) (by assumption) ?_
  rotate_left
  · intro w hSw; go_simp; try with_reducible rfl
  go_simp
  refine wpAnyH_ready (rs := [25]) (by kernel_rfl) (by simp) (AllReadyH.cons rfl (fun K hK => ?_) AllReadyH.nil)
  go_simp
  refine hK.out _ _ trivial (fun hHeld => ?_)
  clear hK K
  refine wpAnyH_done (by kernel_rfl) ?_ _
  refine NoPanic.normal ?_
  go_wp2
  go_end0
  have key : ∀ V, V = nx S x 0 → Blk ((w5.setCell ⟨g, 0, none⟩ (.int .u32 V)).drew) g 95 (ws 8 (nx S x)) := by
    intro V hV
    have hb := hg5'.setCell 0 (.int .u32 V)
    rw [ws_set] at hb
    rw [ws_congr 8 (nx S x) (fun i => if i = 0 then V else if i = 4 then Y4 else if i = 0 then S 0 else S (i - 1)) ?_]
    · exact hb
    · intro i hi
      show nx S x i = if i = 0 then V else if i = 4 then Y4 else if i = 0 then S 0 else S (i - 1)
      by_cases h0 : i = 0
      · subst h0; rw [if_pos rfl, hV]
      · rw [if_neg h0]
        unfold nx
        rw [if_neg h0, if_neg h0, HY.out, HY4.out]
  refine ⟨rfl, key _ ?_, (ho5'.setCell 0 _).drew⟩
  unfold nx
  rw [if_pos rfl, HY.out, IntKind.wrap_u32', IntKind.wrap_u32']
  rfl
end Go.Proofs.YtegebaomhbogmaaDoor
