/- 10 texts in one. -/
import Derived.Test.YtfepmafjkgjmmaaBkTwo
/- Both banks, behind some acts. -/
namespace Go.Proofs.Ytfepmafjkgjmmaa
open Go.RowKit Go.PlainAid
set_option linter.unusedVariables false

/-- Both banks answer the same; not more than z steps were made, not more than z writes wait. -/
def Pl (W w : World) (g g' N z : Nat) : Prop := ∃ (D D' : Nat → Dk) (s : Nat) (p : Option Nat), Two nought W w g g' N D D' s s p p ∧ Same N D D' ∧ Few N D z ∧ s ≤ z
theorem below_drewN' (w : World) (n : Nat) : Below w.heap.size w (w.drewN n) := ⟨rfl, rfl, rfl, Nat.le_refl _, fun _ _ => rfl⟩
end Go.Proofs.Ytfepmafjkgjmmaa
/- One act on both banks: Write. -/
namespace Go.Proofs.Ytfepmafjkgjmmaa
open Go.RowKit Go.PlainAid
set_option linter.unusedVariables false

set_option maxRecDepth 20000 in
set_option maxHeartbeats 4000000 in
theorem bact_write0 {W w : World} {g g' N z : Nat} {D D' : Nat → Dk} {s : Nat} {p : Option Nat} (h : Two nought W w g g' N D D' s s p p) (hsm : Same N D D') (hf : Few N D z) (hs : s ≤ z) (hz : z ≤ 500) (d i a : Int) (tt : ByteArray) (htt : tt.size ≤ maxLen) (kb : Option Addr) (km kc : Nat) (x : Bool) (hd : d.tmod 8 = 0) :
    Calls Try.prog 12 #[.pointer (some ⟨g, 0, none⟩), .pointer (some ⟨g', 0, none⟩), bactV d i a tt (.slice kb km kc) x] w fun e w' => e = .returned (.bool true) ∧ Pl W w' g g' N (z + 1) := by
  have hs1 : s ≤ 1000 := by omega
  have HQ : Hid _ := hf.big (by omega)
  have HQ' : Hid _ := (hf.same hsm).big (by omega)
  have HSM : Hid (Same N D D') := hsm
  have HF : Hid (Few N D z) := hf
  have HS0 : Hid (s ≤ z) := hs
  clear hsm hf hs
  obtain ⟨M, hM1, hM2, hM3⟩ : ∃ M : Nat, (if (200 : Int) < (tt.size : Int) then (200 : Int) else (tt.size : Int)) = (M : Int) ∧ M ≤ tt.size ∧ min (tt.size : Int) 200 = (M : Int) := ⟨min tt.size 200, by split <;> omega, by omega, by omega⟩
  obtain ⟨t, ht⟩ : ∃ t, tt.extract 0 M = t := ⟨_, rfl⟩
  have hx0 : Hid (Two _ _ _ _ _ _ _ _ _ _ _ _) := Two.box h 34 #[.int .i64 d, .int .i64 i, .int .i64 a, .string t, .slice kb km kc, .bool x]
  have hx : Hid (Two _ _ _ _ _ _ _ _ _ _ _ _) := Two.below ((firm_blk _ _ _).star firm_nought) hx0.out (Below.refl _ _).drew
  clear hx0
  obtain ⟨bx, hbxe⟩ : ∃ bx, w.heap.size = bx := ⟨_, rfl⟩
  rw [hbxe] at hx
  have hS : Hid (∀ y, Blk y bx 34 [.int .i64 d, .int .i64 i, .int .i64 a, .string t, .slice kb km kc, .bool x] → (fun z : World => z.cell? ⟨bx, 1, none⟩ = some (.int .i64 i) ∧ z.cell? ⟨bx, 2, none⟩ = some (.int .i64 a) ∧ z.cell? ⟨bx, 3, none⟩ = some (.string t)) y) := fun y hy => ⟨hy.cell rfl, hy.cell rfl, hy.cell rfl⟩
  clear h
  obtain ⟨E, hE⟩ : ∃ E, stE N p i (errW (D i.toNat).dead (D i.toNat).n a t) = E := ⟨_, rfl⟩
  have hc := t_write ((firm_blk _ _ _).star firm_nought) hx.out hs1 HQ.out i a t
  rw [hE] at hc
  have HE : Hid _ := hE
  clear hE
  go_enter Try.func12, Try.ntmps12
  go_wp2_with fail
  refine wp_region_noPanic ?_
  refine wp_region_held_drew (S := fun z : World => z.cell? ⟨bx, 1, none⟩ = some (.int .i64 i) ∧ z.cell? ⟨bx, 2, none⟩ = some (.int .i64 a) ∧ z.cell? ⟨bx, 3, none⟩ = some (.string t)) (by kernel_rfl) (hS.out _ hx.out.blk) (fun hHeld => ?_)
  refine wpAnyH_take (i := 0) (v := ?_) rfl (by kernel_rfl) (by kernel_rfl) (by kernel_rfl) (fun _ _ _ h => h) (Or.inl ⟨by rfl, ?_⟩) (by assumption) ?_
  rotate_left
  · intro w hSw; go_simp; try with_reducible rfl
  go_simp
  refine wpAnyH_take (i := 1) (v := ?_) rfl (by kernel_rfl) (by kernel_rfl) (by kernel_rfl) (fun _ _ _ h => h) (Or.inl ⟨by rfl, ?_⟩) (by assumption) ?_
  rotate_left
  · intro w hSw; go_simp; try with_reducible rfl
  go_simp
  refine wpAnyH_take (i := 2) (v := ?_) rfl (by kernel_rfl) (by kernel_rfl) (by kernel_rfl) (fun _ _ _ h => h) (Or.inl ⟨by rfl, ?_⟩) (by assumption) ?_
  rotate_left
  · intro w hSw; go_simp; try with_reducible rfl
  go_simp
  refine wpAnyH_take (i := 3) (v := ?_) rfl (by kernel_rfl) (by kernel_rfl) (by kernel_rfl) (fun _ _ _ h => h) (Or.inl ⟨by rfl, ?_⟩) (by assumption) ?_
  rotate_left
  · intro w hSw; go_simp; try with_reducible rfl
  go_simp
  refine wpAnyH_take (i := 4) (v := ?_) rfl (by kernel_rfl) (by kernel_rfl) (by kernel_rfl) (fun _ _ _ h => h) (Or.inl ⟨by rfl, ?_⟩) (by assumption) ?_
  rotate_left
  · intro w hSw; go_simp; try with_reducible rfl
  go_simp
  refine wpAnyH_take (i := 5) (v := ?_) rfl (by kernel_rfl) (by kernel_rfl) (by kernel_rfl) (fun _ _ _ h => h) (Or.inl ⟨by rfl, ?_⟩) (by assumption) ?_
  rotate_left
  · intro w hSw; go_simp; try with_reducible rfl
  go_simp
  refine wpAnyH_take (i := 6) (v := ?_) rfl (by kernel_rfl) (by kernel_rfl) (by kernel_rfl) (fun _ _ _ h => h) (Or.inl ⟨by rfl, ?_⟩) (by assumption) ?_
  rotate_left
  · intro w hSw; go_simp; try with_reducible rfl
  go_simp
  refine wpAnyH_take (i := 8) (v := ?_) rfl (by kernel_rfl) (by kernel_rfl) (by kernel_rfl) (fun _ _ _ h => h) (Or.inl ⟨by rfl, ?_⟩) (by assumption) ?_
  rotate_left
  · intro w hSw; go_simp; try with_reducible rfl
  go_simp
  refine wpAnyH_take (i := 9) (v := ?_) rfl (by kernel_rfl) (by kernel_rfl) (by kernel_rfl) (fun _ _ _ h => h) (Or.inl ⟨by rfl, ?_⟩) (by assumption) ?_
  rotate_left
  · intro w hSw; go_simp; try with_reducible rfl
  go_simp
  refine wpAnyH_take (i := 10) (v := ?_) rfl (by kernel_rfl) (by kernel_rfl) (by kernel_rfl) (fun _ _ _ h => h) (Or.inl ⟨by rfl, ?_⟩) (by assumption) ?_
  rotate_left
  · intro w hSw; go_simp; try with_reducible rfl
  go_simp
  refine wpAnyH_take (i := 11) (v := ?_) rfl (by kernel_rfl) (by kernel_rfl) (by kernel_rfl) (fun _ _ _ h => h) (Or.inl ⟨by rfl, ?_⟩) (by assumption) ?_
  rotate_left
  · intro w hSw; go_simp; try with_reducible rfl
  go_simp
  refine wpAnyH_take (i := 12) (v := ?_) rfl (by kernel_rfl) (by kernel_rfl) (by kernel_rfl) (fun _ _ _ h => h) (Or.inl ⟨by rfl, ?_⟩) (by assumption) ?_
  rotate_left
  · intro w hSw; go_simp; try with_reducible rfl
  go_simp
  refine wpAnyH_take (i := 13) (v := ?_) rfl (by kernel_rfl) (by kernel_rfl) (by kernel_rfl) (fun _ _ _ h => h) (Or.inl ⟨by rfl, ?_⟩) (by assumption) ?_
  rotate_left
  · intro w hSw; go_simp; try with_reducible rfl
  go_simp
  refine wpAnyH_take (i := 14) (v := ?_) rfl (by kernel_rfl) (by kernel_rfl) (by kernel_rfl) (fun _ _ _ h => h) (Or.inl ⟨by rfl, ?_⟩) (by assumption) ?_
  rotate_left
  · intro w hSw; go_simp; try with_reducible rfl
  go_simp
  refine wpAnyH_ready (rs := [7]) (by kernel_rfl) (by simp) (AllReadyH.cons rfl (fun K hK => ?_) AllReadyH.nil)
  go_simp
  go_at_call 21
  refine hc.mono ?_
  rintro e w1 ⟨rfl, h1⟩
  clear hx hc
  have hx : Hid (Two _ _ _ _ _ _ _ _ _ _ _ _) := h1
  clear h1
  have hc := t_put ((firm_blk _ _ _).star firm_nought) hx.out hs1 HQ'.out i a t
  rw [HSM.out.errW, HE.out] at hc
  refine hK.out _ _ (hS.out _ hx.out.blk) (fun hHeld => ?_)
  clear hK K
  refine wpAnyH_ready (rs := [15]) (by kernel_rfl) (by simp) (AllReadyH.cons rfl (fun K hK => ?_) AllReadyH.nil)
  go_simp
  go_at_call 36
  refine hc.mono ?_
  rintro e w2 ⟨rfl, h1⟩
  clear hx hc
  have hx : Hid (Two _ _ _ _ _ _ _ _ _ _ _ _) := h1
  clear h1
  refine hK.out _ _ (hS.out _ hx.out.blk) (fun hHeld => ?_)
  clear hK K
  refine wpAnyH_take (i := 16) (v := ?_) rfl (by kernel_rfl) (by kernel_rfl) (by kernel_rfl) (fun _ _ _ h => h) (Or.inl ⟨by rfl, ?_⟩) (by assumption) ?_
  rotate_left
  · intro w hSw; go_simp; try with_reducible rfl
  go_simp
  refine wpAnyH_take (i := 17) (v := ?_) rfl (by kernel_rfl) (by kernel_rfl) (by kernel_rfl) (fun _ _ _ h => h) (Or.inl ⟨by rfl, ?_⟩) (by assumption) ?_
  rotate_left
  · intro w hSw; go_simp; try with_reducible rfl
  go_simp
  refine wpAnyH_done (by kernel_rfl) ?_ _
  refine NoPanic.normal ?_
  go_wp2_with fail
  go_ret
  exact ⟨rfl, _, _, _, _, hx.out.unbox, HSM.out.st p i (fun k e hk => by subst e; rw [Int.toNat_natCast]; exact (HSM.out k hk).put a t), HF.out.put p i a t, Nat.le_trans (stS_le _ _ _ _) (by have := HS0.out; omega)⟩
set_option maxRecDepth 20000 in
set_option maxHeartbeats 4000000 in
theorem bact_write1 {W w : World} {g g' N z : Nat} {D D' : Nat → Dk} {s : Nat} {p : Option Nat} (h : Two nought W w g g' N D D' s s p p) (hsm : Same N D D') (hf : Few N D z) (hs : s ≤ z) (hz : z ≤ 500) (d i a : Int) (tt : ByteArray) (htt : tt.size ≤ maxLen) (kb : Option Addr) (km kc : Nat) (x : Bool) (hd : d.tmod 8 = 1) :
    Calls Try.prog 12 #[.pointer (some ⟨g, 0, none⟩), .pointer (some ⟨g', 0, none⟩), bactV d i a tt (.slice kb km kc) x] w fun e w' => e = .returned (.bool true) ∧ Pl W w' g g' N (z + 1) := by
  have hs1 : s ≤ 1000 := by omega
  have HQ : Hid _ := hf.big (by omega)
  have HQ' : Hid _ := (hf.same hsm).big (by omega)
  have HSM : Hid (Same N D D') := hsm
  have HF : Hid (Few N D z) := hf
  have HS0 : Hid (s ≤ z) := hs
  clear hsm hf hs
  obtain ⟨M, hM1, hM2, hM3⟩ : ∃ M : Nat, (if (200 : Int) < (tt.size : Int) then (200 : Int) else (tt.size : Int)) = (M : Int) ∧ M ≤ tt.size ∧ min (tt.size : Int) 200 = (M : Int) := ⟨min tt.size 200, by split <;> omega, by omega, by omega⟩
  obtain ⟨t, ht⟩ : ∃ t, tt.extract 0 M = t := ⟨_, rfl⟩
  have hx0 : Hid (Two _ _ _ _ _ _ _ _ _ _ _ _) := Two.box h 34 #[.int .i64 d, .int .i64 i, .int .i64 a, .string t, .slice kb km kc, .bool x]
  have hx : Hid (Two _ _ _ _ _ _ _ _ _ _ _ _) := Two.below ((firm_blk _ _ _).star firm_nought) hx0.out (Below.refl _ _).drew
  clear hx0
  obtain ⟨bx, hbxe⟩ : ∃ bx, w.heap.size = bx := ⟨_, rfl⟩
  rw [hbxe] at hx
  have hS : Hid (∀ y, Blk y bx 34 [.int .i64 d, .int .i64 i, .int .i64 a, .string t, .slice kb km kc, .bool x] → (fun z : World => z.cell? ⟨bx, 1, none⟩ = some (.int .i64 i) ∧ z.cell? ⟨bx, 2, none⟩ = some (.int .i64 a) ∧ z.cell? ⟨bx, 3, none⟩ = some (.string t)) y) := fun y hy => ⟨hy.cell rfl, hy.cell rfl, hy.cell rfl⟩
  clear h
  obtain ⟨E, hE⟩ : ∃ E, stE N p i (errW (D i.toNat).dead (D i.toNat).n a t) = E := ⟨_, rfl⟩
  have hc := t_write ((firm_blk _ _ _).star firm_nought) hx.out hs1 HQ.out i a t
  rw [hE] at hc
  have HE : Hid _ := hE
  clear hE
  go_enter Try.func12, Try.ntmps12
  go_wp2_with fail
  refine wp_region_noPanic ?_
  refine wp_region_held_drew (S := fun z : World => z.cell? ⟨bx, 1, none⟩ = some (.int .i64 i) ∧ z.cell? ⟨bx, 2, none⟩ = some (.int .i64 a) ∧ z.cell? ⟨bx, 3, none⟩ = some (.string t)) (by kernel_rfl) (hS.out _ hx.out.blk) (fun hHeld => ?_)
  refine wpAnyH_take (i := 0) (v := ?_) rfl (by kernel_rfl) (by kernel_rfl) (by kernel_rfl) (fun _ _ _ h => h) (Or.inl ⟨by rfl, ?_⟩) (by assumption) ?_
  rotate_left
  · intro w hSw; go_simp; try with_reducible rfl
  go_simp
  refine wpAnyH_take (i := 1) (v := ?_) rfl (by kernel_rfl) (by kernel_rfl) (by kernel_rfl) (fun _ _ _ h => h) (Or.inl ⟨by rfl, ?_⟩) (by assumption) ?_
  rotate_left
  · intro w hSw; go_simp; try with_reducible rfl
  go_simp
  refine wpAnyH_take (i := 2) (v := ?_) rfl (by kernel_rfl) (by kernel_rfl) (by kernel_rfl) (fun _ _ _ h => h) (Or.inl ⟨by rfl, ?_⟩) (by assumption) ?_
  rotate_left
  · intro w hSw; go_simp; try with_reducible rfl
  go_simp
  refine wpAnyH_take (i := 3) (v := ?_) rfl (by kernel_rfl) (by kernel_rfl) (by kernel_rfl) (fun _ _ _ h => h) (Or.inl ⟨by rfl, ?_⟩) (by assumption) ?_
  rotate_left
  · intro w hSw; go_simp; try with_reducible rfl
  go_simp
  refine wpAnyH_take (i := 4) (v := ?_) rfl (by kernel_rfl) (by kernel_rfl) (by kernel_rfl) (fun _ _ _ h => h) (Or.inl ⟨by rfl, ?_⟩) (by assumption) ?_
  rotate_left
  · intro w hSw; go_simp; try with_reducible rfl
  go_simp
  refine wpAnyH_take (i := 5) (v := ?_) rfl (by kernel_rfl) (by kernel_rfl) (by kernel_rfl) (fun _ _ _ h => h) (Or.inl ⟨by rfl, ?_⟩) (by assumption) ?_
  rotate_left
  · intro w hSw; go_simp; try with_reducible rfl
  go_simp
  refine wpAnyH_take (i := 6) (v := ?_) rfl (by kernel_rfl) (by kernel_rfl) (by kernel_rfl) (fun _ _ _ h => h) (Or.inl ⟨by rfl, ?_⟩) (by assumption) ?_
  rotate_left
  · intro w hSw; go_simp; try with_reducible rfl
  go_simp
  refine wpAnyH_take (i := 8) (v := ?_) rfl (by kernel_rfl) (by kernel_rfl) (by kernel_rfl) (fun _ _ _ h => h) (Or.inl ⟨by rfl, ?_⟩) (by assumption) ?_
  rotate_left
  · intro w hSw; go_simp; try with_reducible rfl
  go_simp
  refine wpAnyH_take (i := 9) (v := ?_) rfl (by kernel_rfl) (by kernel_rfl) (by kernel_rfl) (fun _ _ _ h => h) (Or.inl ⟨by rfl, ?_⟩) (by assumption) ?_
  rotate_left
  · intro w hSw; go_simp; try with_reducible rfl
  go_simp
  refine wpAnyH_take (i := 10) (v := ?_) rfl (by kernel_rfl) (by kernel_rfl) (by kernel_rfl) (fun _ _ _ h => h) (Or.inl ⟨by rfl, ?_⟩) (by assumption) ?_
  rotate_left
  · intro w hSw; go_simp; try with_reducible rfl
  go_simp
  refine wpAnyH_take (i := 11) (v := ?_) rfl (by kernel_rfl) (by kernel_rfl) (by kernel_rfl) (fun _ _ _ h => h) (Or.inl ⟨by rfl, ?_⟩) (by assumption) ?_
  rotate_left
  · intro w hSw; go_simp; try with_reducible rfl
  go_simp
  refine wpAnyH_take (i := 12) (v := ?_) rfl (by kernel_rfl) (by kernel_rfl) (by kernel_rfl) (fun _ _ _ h => h) (Or.inl ⟨by rfl, ?_⟩) (by assumption) ?_
  rotate_left
  · intro w hSw; go_simp; try with_reducible rfl
  go_simp
  refine wpAnyH_take (i := 13) (v := ?_) rfl (by kernel_rfl) (by kernel_rfl) (by kernel_rfl) (fun _ _ _ h => h) (Or.inl ⟨by rfl, ?_⟩) (by assumption) ?_
  rotate_left
  · intro w hSw; go_simp; try with_reducible rfl
  go_simp
  refine wpAnyH_take (i := 14) (v := ?_) rfl (by kernel_rfl) (by kernel_rfl) (by kernel_rfl) (fun _ _ _ h => h) (Or.inl ⟨by rfl, ?_⟩) (by assumption) ?_
  rotate_left
  · intro w hSw; go_simp; try with_reducible rfl
  go_simp
  refine wpAnyH_ready (rs := [7]) (by kernel_rfl) (by simp) (AllReadyH.cons rfl (fun K hK => ?_) AllReadyH.nil)
  go_simp
  go_at_call 21
  refine hc.mono ?_
  rintro e w1 ⟨rfl, h1⟩
  clear hx hc
  have hx : Hid (Two _ _ _ _ _ _ _ _ _ _ _ _) := h1
  clear h1
  have hc := t_put ((firm_blk _ _ _).star firm_nought) hx.out hs1 HQ'.out i a t
  rw [HSM.out.errW, HE.out] at hc
  refine hK.out _ _ (hS.out _ hx.out.blk) (fun hHeld => ?_)
  clear hK K
  refine wpAnyH_ready (rs := [15]) (by kernel_rfl) (by simp) (AllReadyH.cons rfl (fun K hK => ?_) AllReadyH.nil)
  go_simp
  go_at_call 36
  refine hc.mono ?_
  rintro e w2 ⟨rfl, h1⟩
  clear hx hc
  have hx : Hid (Two _ _ _ _ _ _ _ _ _ _ _ _) := h1
  clear h1
  refine hK.out _ _ (hS.out _ hx.out.blk) (fun hHeld => ?_)
  clear hK K
  refine wpAnyH_take (i := 16) (v := ?_) rfl (by kernel_rfl) (by kernel_rfl) (by kernel_rfl) (fun _ _ _ h => h) (Or.inl ⟨by rfl, ?_⟩) (by assumption) ?_
  rotate_left
  · intro w hSw; go_simp; try with_reducible rfl
  go_simp
  refine wpAnyH_take (i := 17) (v := ?_) rfl (by kernel_rfl) (by kernel_rfl) (by kernel_rfl) (fun _ _ _ h => h) (Or.inl ⟨by rfl, ?_⟩) (by assumption) ?_
  rotate_left
  · intro w hSw; go_simp; try with_reducible rfl
  go_simp
  refine wpAnyH_done (by kernel_rfl) ?_ _
  refine NoPanic.normal ?_
  go_wp2_with fail
  go_ret
  exact ⟨rfl, _, _, _, _, hx.out.unbox, HSM.out.st p i (fun k e hk => by subst e; rw [Int.toNat_natCast]; exact (HSM.out k hk).put a t), HF.out.put p i a t, Nat.le_trans (stS_le _ _ _ _) (by have := HS0.out; omega)⟩
set_option maxRecDepth 20000 in
set_option maxHeartbeats 4000000 in
theorem bact_writem1 {W w : World} {g g' N z : Nat} {D D' : Nat → Dk} {s : Nat} {p : Option Nat} (h : Two nought W w g g' N D D' s s p p) (hsm : Same N D D') (hf : Few N D z) (hs : s ≤ z) (hz : z ≤ 500) (d i a : Int) (tt : ByteArray) (htt : tt.size ≤ maxLen) (kb : Option Addr) (km kc : Nat) (x : Bool) (hd : d.tmod 8 = -1) :
    Calls Try.prog 12 #[.pointer (some ⟨g, 0, none⟩), .pointer (some ⟨g', 0, none⟩), bactV d i a tt (.slice kb km kc) x] w fun e w' => e = .returned (.bool true) ∧ Pl W w' g g' N (z + 1) := by
  have hs1 : s ≤ 1000 := by omega
  have HQ : Hid _ := hf.big (by omega)
  have HQ' : Hid _ := (hf.same hsm).big (by omega)
  have HSM : Hid (Same N D D') := hsm
  have HF : Hid (Few N D z) := hf
  have HS0 : Hid (s ≤ z) := hs
  clear hsm hf hs
  obtain ⟨M, hM1, hM2, hM3⟩ : ∃ M : Nat, (if (200 : Int) < (tt.size : Int) then (200 : Int) else (tt.size : Int)) = (M : Int) ∧ M ≤ tt.size ∧ min (tt.size : Int) 200 = (M : Int) := ⟨min tt.size 200, by split <;> omega, by omega, by omega⟩
  obtain ⟨t, ht⟩ : ∃ t, tt.extract 0 M = t := ⟨_, rfl⟩
  have hx0 : Hid (Two _ _ _ _ _ _ _ _ _ _ _ _) := Two.box h 34 #[.int .i64 d, .int .i64 i, .int .i64 a, .string t, .slice kb km kc, .bool x]
  have hx : Hid (Two _ _ _ _ _ _ _ _ _ _ _ _) := Two.below ((firm_blk _ _ _).star firm_nought) hx0.out (Below.refl _ _).drew
  clear hx0
  obtain ⟨bx, hbxe⟩ : ∃ bx, w.heap.size = bx := ⟨_, rfl⟩
  rw [hbxe] at hx
  have hS : Hid (∀ y, Blk y bx 34 [.int .i64 d, .int .i64 i, .int .i64 a, .string t, .slice kb km kc, .bool x] → (fun z : World => z.cell? ⟨bx, 1, none⟩ = some (.int .i64 i) ∧ z.cell? ⟨bx, 2, none⟩ = some (.int .i64 a) ∧ z.cell? ⟨bx, 3, none⟩ = some (.string t)) y) := fun y hy => ⟨hy.cell rfl, hy.cell rfl, hy.cell rfl⟩
  clear h
  obtain ⟨E, hE⟩ : ∃ E, stE N p i (errW (D i.toNat).dead (D i.toNat).n a t) = E := ⟨_, rfl⟩
  have hc := t_write ((firm_blk _ _ _).star firm_nought) hx.out hs1 HQ.out i a t
  rw [hE] at hc
  have HE : Hid _ := hE
  clear hE
  go_enter Try.func12, Try.ntmps12
  go_wp2_with fail
  refine wp_region_noPanic ?_
  refine wp_region_held_drew (S := fun z : World => z.cell? ⟨bx, 1, none⟩ = some (.int .i64 i) ∧ z.cell? ⟨bx, 2, none⟩ = some (.int .i64 a) ∧ z.cell? ⟨bx, 3, none⟩ = some (.string t)) (by kernel_rfl) (hS.out _ hx.out.blk) (fun hHeld => ?_)
  refine wpAnyH_take (i := 0) (v := ?_) rfl (by kernel_rfl) (by kernel_rfl) (by kernel_rfl) (fun _ _ _ h => h) (Or.inl ⟨by rfl, ?_⟩) (by assumption) ?_
  rotate_left
  · intro w hSw; go_simp; try with_reducible rfl
  go_simp
  refine wpAnyH_take (i := 1) (v := ?_) rfl (by kernel_rfl) (by kernel_rfl) (by kernel_rfl) (fun _ _ _ h => h) (Or.inl ⟨by rfl, ?_⟩) (by assumption) ?_
  rotate_left
  · intro w hSw; go_simp; try with_reducible rfl
  go_simp
  refine wpAnyH_take (i := 2) (v := ?_) rfl (by kernel_rfl) (by kernel_rfl) (by kernel_rfl) (fun _ _ _ h => h) (Or.inl ⟨by rfl, ?_⟩) (by assumption) ?_
  rotate_left
  · intro w hSw; go_simp; try with_reducible rfl
  go_simp
  refine wpAnyH_take (i := 3) (v := ?_) rfl (by kernel_rfl) (by kernel_rfl) (by kernel_rfl) (fun _ _ _ h => h) (Or.inl ⟨by rfl, ?_⟩) (by assumption) ?_
  rotate_left
  · intro w hSw; go_simp; try with_reducible rfl
  go_simp
  refine wpAnyH_take (i := 4) (v := ?_) rfl (by kernel_rfl) (by kernel_rfl) (by kernel_rfl) (fun _ _ _ h => h) (Or.inl ⟨by rfl, ?_⟩) (by assumption) ?_
  rotate_left
  · intro w hSw; go_simp; try with_reducible rfl
  go_simp
  refine wpAnyH_take (i := 5) (v := ?_) rfl (by kernel_rfl) (by kernel_rfl) (by kernel_rfl) (fun _ _ _ h => h) (Or.inl ⟨by rfl, ?_⟩) (by assumption) ?_
  rotate_left
  · intro w hSw; go_simp; try with_reducible rfl
  go_simp
  refine wpAnyH_take (i := 6) (v := ?_) rfl (by kernel_rfl) (by kernel_rfl) (by kernel_rfl) (fun _ _ _ h => h) (Or.inl ⟨by rfl, ?_⟩) (by assumption) ?_
  rotate_left
  · intro w hSw; go_simp; try with_reducible rfl
  go_simp
  refine wpAnyH_take (i := 8) (v := ?_) rfl (by kernel_rfl) (by kernel_rfl) (by kernel_rfl) (fun _ _ _ h => h) (Or.inl ⟨by rfl, ?_⟩) (by assumption) ?_
  rotate_left
  · intro w hSw; go_simp; try with_reducible rfl
  go_simp
  refine wpAnyH_take (i := 9) (v := ?_) rfl (by kernel_rfl) (by kernel_rfl) (by kernel_rfl) (fun _ _ _ h => h) (Or.inl ⟨by rfl, ?_⟩) (by assumption) ?_
  rotate_left
  · intro w hSw; go_simp; try with_reducible rfl
  go_simp
  refine wpAnyH_take (i := 10) (v := ?_) rfl (by kernel_rfl) (by kernel_rfl) (by kernel_rfl) (fun _ _ _ h => h) (Or.inl ⟨by rfl, ?_⟩) (by assumption) ?_
  rotate_left
  · intro w hSw; go_simp; try with_reducible rfl
  go_simp
  refine wpAnyH_take (i := 11) (v := ?_) rfl (by kernel_rfl) (by kernel_rfl) (by kernel_rfl) (fun _ _ _ h => h) (Or.inl ⟨by rfl, ?_⟩) (by assumption) ?_
  rotate_left
  · intro w hSw; go_simp; try with_reducible rfl
  go_simp
  refine wpAnyH_take (i := 12) (v := ?_) rfl (by kernel_rfl) (by kernel_rfl) (by kernel_rfl) (fun _ _ _ h => h) (Or.inl ⟨by rfl, ?_⟩) (by assumption) ?_
  rotate_left
  · intro w hSw; go_simp; try with_reducible rfl
  go_simp
  refine wpAnyH_take (i := 13) (v := ?_) rfl (by kernel_rfl) (by kernel_rfl) (by kernel_rfl) (fun _ _ _ h => h) (Or.inl ⟨by rfl, ?_⟩) (by assumption) ?_
  rotate_left
  · intro w hSw; go_simp; try with_reducible rfl
  go_simp
  refine wpAnyH_take (i := 14) (v := ?_) rfl (by kernel_rfl) (by kernel_rfl) (by kernel_rfl) (fun _ _ _ h => h) (Or.inl ⟨by rfl, ?_⟩) (by assumption) ?_
  rotate_left
  · intro w hSw; go_simp; try with_reducible rfl
  go_simp
  refine wpAnyH_ready (rs := [7]) (by kernel_rfl) (by simp) (AllReadyH.cons rfl (fun K hK => ?_) AllReadyH.nil)
  go_simp
  go_at_call 21
  refine hc.mono ?_
  rintro e w1 ⟨rfl, h1⟩
  clear hx hc
  have hx : Hid (Two _ _ _ _ _ _ _ _ _ _ _ _) := h1
  clear h1
  have hc := t_put ((firm_blk _ _ _).star firm_nought) hx.out hs1 HQ'.out i a t
  rw [HSM.out.errW, HE.out] at hc
  refine hK.out _ _ (hS.out _ hx.out.blk) (fun hHeld => ?_)
  clear hK K
  refine wpAnyH_ready (rs := [15]) (by kernel_rfl) (by simp) (AllReadyH.cons rfl (fun K hK => ?_) AllReadyH.nil)
  go_simp
  go_at_call 36
  refine hc.mono ?_
  rintro e w2 ⟨rfl, h1⟩
  clear hx hc
  have hx : Hid (Two _ _ _ _ _ _ _ _ _ _ _ _) := h1
  clear h1
  refine hK.out _ _ (hS.out _ hx.out.blk) (fun hHeld => ?_)
  clear hK K
  refine wpAnyH_take (i := 16) (v := ?_) rfl (by kernel_rfl) (by kernel_rfl) (by kernel_rfl) (fun _ _ _ h => h) (Or.inl ⟨by rfl, ?_⟩) (by assumption) ?_
  rotate_left
  · intro w hSw; go_simp; try with_reducible rfl
  go_simp
  refine wpAnyH_take (i := 17) (v := ?_) rfl (by kernel_rfl) (by kernel_rfl) (by kernel_rfl) (fun _ _ _ h => h) (Or.inl ⟨by rfl, ?_⟩) (by assumption) ?_
  rotate_left
  · intro w hSw; go_simp; try with_reducible rfl
  go_simp
  refine wpAnyH_done (by kernel_rfl) ?_ _
  refine NoPanic.normal ?_
  go_wp2_with fail
  go_ret
  exact ⟨rfl, _, _, _, _, hx.out.unbox, HSM.out.st p i (fun k e hk => by subst e; rw [Int.toNat_natCast]; exact (HSM.out k hk).put a t), HF.out.put p i a t, Nat.le_trans (stS_le _ _ _ _) (by have := HS0.out; omega)⟩
end Go.Proofs.Ytfepmafjkgjmmaa
/- One act on both banks: Read. -/
namespace Go.Proofs.Ytfepmafjkgjmmaa
open Go.RowKit Go.PlainAid
set_option linter.unusedVariables false

set_option maxRecDepth 20000 in
set_option maxHeartbeats 4000000 in
theorem bact_read2 {W w : World} {g g' N z : Nat} {D D' : Nat → Dk} {s : Nat} {p : Option Nat} (h : Two nought W w g g' N D D' s s p p) (hsm : Same N D D') (hf : Few N D z) (hs : s ≤ z) (hz : z ≤ 500) (d i a : Int) (tt : ByteArray) (htt : tt.size ≤ maxLen) (kb : Option Addr) (km kc : Nat) (x : Bool) (hd : d.tmod 8 = 2) :
    Calls Try.prog 12 #[.pointer (some ⟨g, 0, none⟩), .pointer (some ⟨g', 0, none⟩), bactV d i a tt (.slice kb km kc) x] w fun e w' => e = .returned (.bool true) ∧ Pl W w' g g' N (z + 1) := by
  have hs1 : s ≤ 1000 := by omega
  have HQ : Hid _ := hf.big (by omega)
  have HQ' : Hid _ := (hf.same hsm).big (by omega)
  have HSM : Hid (Same N D D') := hsm
  have HF : Hid (Few N D z) := hf
  have HS0 : Hid (s ≤ z) := hs
  clear hsm hf hs
  obtain ⟨M, hM1, hM2, hM3⟩ : ∃ M : Nat, (if (200 : Int) < (tt.size : Int) then (200 : Int) else (tt.size : Int)) = (M : Int) ∧ M ≤ tt.size ∧ min (tt.size : Int) 200 = (M : Int) := ⟨min tt.size 200, by split <;> omega, by omega, by omega⟩
  obtain ⟨t, ht⟩ : ∃ t, tt.extract 0 M = t := ⟨_, rfl⟩
  have hx0 : Hid (Two _ _ _ _ _ _ _ _ _ _ _ _) := Two.box h 34 #[.int .i64 d, .int .i64 i, .int .i64 a, .string t, .slice kb km kc, .bool x]
  have hx := hx0
  clear hx0
  obtain ⟨bx, hbxe⟩ : ∃ bx, w.heap.size = bx := ⟨_, rfl⟩
  rw [hbxe] at hx
  have hS : Hid (∀ y, Blk y bx 34 [.int .i64 d, .int .i64 i, .int .i64 a, .string t, .slice kb km kc, .bool x] → (fun z : World => z.cell? ⟨bx, 1, none⟩ = some (.int .i64 i) ∧ z.cell? ⟨bx, 2, none⟩ = some (.int .i64 a) ∧ z.cell? ⟨bx, 3, none⟩ = some (.string t)) y) := fun y hy => ⟨hy.cell rfl, hy.cell rfl, hy.cell rfl⟩
  clear h
  obtain ⟨b1, b2, b3⟩ := hS.out _ hx.out.blk
  obtain ⟨E, hE⟩ : ∃ E, stE N p i (errA (D i.toNat).dead (D i.toNat).n a) = E := ⟨_, rfl⟩
  obtain ⟨T, hT⟩ : ∃ T, rdB N p i (readB (D i.toNat).l (D i.toNat).q (D i.toNat).dead (D i.toNat).n a) = T := ⟨_, rfl⟩
  have hc := t_read hx.out i a
  have hc2 := t_rread hx.out HQ'.out i a
  rw [HSM.out.errA, HSM.out.read, hE, hT] at hc2
  rw [hE, hT] at hc
  clear hE hT
  go_enter Try.func12, Try.ntmps12
  go_wp2_with (first
    | (go_at_call 22; refine hc.mono ?_; rintro e w1 ⟨rfl, hw'⟩; rw [hw']; clear hw' w1 hc)
    | (go_at_call 29; refine hc2.mono ?_; rintro e w1 ⟨rfl, hw'⟩; rw [hw']; clear hw' w1 hc2))
  go_ret
  exact ⟨rfl, _, _, _, _, hx.out.unbox, HSM.out, HF.out.more, by have := HS0.out; omega⟩
set_option maxRecDepth 20000 in
set_option maxHeartbeats 4000000 in
theorem bact_readm2 {W w : World} {g g' N z : Nat} {D D' : Nat → Dk} {s : Nat} {p : Option Nat} (h : Two nought W w g g' N D D' s s p p) (hsm : Same N D D') (hf : Few N D z) (hs : s ≤ z) (hz : z ≤ 500) (d i a : Int) (tt : ByteArray) (htt : tt.size ≤ maxLen) (kb : Option Addr) (km kc : Nat) (x : Bool) (hd : d.tmod 8 = -2) :
    Calls Try.prog 12 #[.pointer (some ⟨g, 0, none⟩), .pointer (some ⟨g', 0, none⟩), bactV d i a tt (.slice kb km kc) x] w fun e w' => e = .returned (.bool true) ∧ Pl W w' g g' N (z + 1) := by
  have hs1 : s ≤ 1000 := by omega
  have HQ : Hid _ := hf.big (by omega)
  have HQ' : Hid _ := (hf.same hsm).big (by omega)
  have HSM : Hid (Same N D D') := hsm
  have HF : Hid (Few N D z) := hf
  have HS0 : Hid (s ≤ z) := hs
  clear hsm hf hs
  obtain ⟨M, hM1, hM2, hM3⟩ : ∃ M : Nat, (if (200 : Int) < (tt.size : Int) then (200 : Int) else (tt.size : Int)) = (M : Int) ∧ M ≤ tt.size ∧ min (tt.size : Int) 200 = (M : Int) := ⟨min tt.size 200, by split <;> omega, by omega, by omega⟩
  obtain ⟨t, ht⟩ : ∃ t, tt.extract 0 M = t := ⟨_, rfl⟩
  have hx0 : Hid (Two _ _ _ _ _ _ _ _ _ _ _ _) := Two.box h 34 #[.int .i64 d, .int .i64 i, .int .i64 a, .string t, .slice kb km kc, .bool x]
  have hx := hx0
  clear hx0
  obtain ⟨bx, hbxe⟩ : ∃ bx, w.heap.size = bx := ⟨_, rfl⟩
  rw [hbxe] at hx
  have hS : Hid (∀ y, Blk y bx 34 [.int .i64 d, .int .i64 i, .int .i64 a, .string t, .slice kb km kc, .bool x] → (fun z : World => z.cell? ⟨bx, 1, none⟩ = some (.int .i64 i) ∧ z.cell? ⟨bx, 2, none⟩ = some (.int .i64 a) ∧ z.cell? ⟨bx, 3, none⟩ = some (.string t)) y) := fun y hy => ⟨hy.cell rfl, hy.cell rfl, hy.cell rfl⟩
  clear h
  obtain ⟨b1, b2, b3⟩ := hS.out _ hx.out.blk
  obtain ⟨E, hE⟩ : ∃ E, stE N p i (errA (D i.toNat).dead (D i.toNat).n a) = E := ⟨_, rfl⟩
  obtain ⟨T, hT⟩ : ∃ T, rdB N p i (readB (D i.toNat).l (D i.toNat).q (D i.toNat).dead (D i.toNat).n a) = T := ⟨_, rfl⟩
  have hc := t_read hx.out i a
  have hc2 := t_rread hx.out HQ'.out i a
  rw [HSM.out.errA, HSM.out.read, hE, hT] at hc2
  rw [hE, hT] at hc
  clear hE hT
  go_enter Try.func12, Try.ntmps12
  go_wp2_with (first
    | (go_at_call 22; refine hc.mono ?_; rintro e w1 ⟨rfl, hw'⟩; rw [hw']; clear hw' w1 hc)
    | (go_at_call 29; refine hc2.mono ?_; rintro e w1 ⟨rfl, hw'⟩; rw [hw']; clear hw' w1 hc2))
  go_ret
  exact ⟨rfl, _, _, _, _, hx.out.unbox, HSM.out, HF.out.more, by have := HS0.out; omega⟩
end Go.Proofs.Ytfepmafjkgjmmaa
/- One act on both banks: Flush. -/
namespace Go.Proofs.Ytfepmafjkgjmmaa
open Go.RowKit Go.PlainAid
set_option linter.unusedVariables false

set_option maxRecDepth 20000 in
set_option maxHeartbeats 4000000 in
theorem bact_flush3 {W w : World} {g g' N z : Nat} {D D' : Nat → Dk} {s : Nat} {p : Option Nat} (h : Two nought W w g g' N D D' s s p p) (hsm : Same N D D') (hf : Few N D z) (hs : s ≤ z) (hz : z ≤ 500) (d i a : Int) (tt : ByteArray) (htt : tt.size ≤ maxLen) (kb : Option Addr) (km kc : Nat) (x : Bool) (hd : d.tmod 8 = 3) :
    Calls Try.prog 12 #[.pointer (some ⟨g, 0, none⟩), .pointer (some ⟨g', 0, none⟩), bactV d i a tt (.slice kb km kc) x] w fun e w' => e = .returned (.bool true) ∧ Pl W w' g g' N (z + 1) := by
  have hs1 : s ≤ 1000 := by omega
  have HQ : Hid _ := hf.big (by omega)
  have HQ' : Hid _ := (hf.same hsm).big (by omega)
  have HSM : Hid (Same N D D') := hsm
  have HF : Hid (Few N D z) := hf
  have HS0 : Hid (s ≤ z) := hs
  clear hsm hf hs
  obtain ⟨M, hM1, hM2, hM3⟩ : ∃ M : Nat, (if (200 : Int) < (tt.size : Int) then (200 : Int) else (tt.size : Int)) = (M : Int) ∧ M ≤ tt.size ∧ min (tt.size : Int) 200 = (M : Int) := ⟨min tt.size 200, by split <;> omega, by omega, by omega⟩
  obtain ⟨t, ht⟩ : ∃ t, tt.extract 0 M = t := ⟨_, rfl⟩
  have hx0 : Hid (Two _ _ _ _ _ _ _ _ _ _ _ _) := Two.box h 34 #[.int .i64 d, .int .i64 i, .int .i64 a, .string t, .slice kb km kc, .bool x]
  have hx : Hid (Two _ _ _ _ _ _ _ _ _ _ _ _) := Two.below ((firm_blk _ _ _).star firm_nought) hx0.out (Below.refl _ _).drew
  clear hx0
  obtain ⟨bx, hbxe⟩ : ∃ bx, w.heap.size = bx := ⟨_, rfl⟩
  rw [hbxe] at hx
  have hS : Hid (∀ y, Blk y bx 34 [.int .i64 d, .int .i64 i, .int .i64 a, .string t, .slice kb km kc, .bool x] → (fun z : World => z.cell? ⟨bx, 1, none⟩ = some (.int .i64 i) ∧ z.cell? ⟨bx, 2, none⟩ = some (.int .i64 a) ∧ z.cell? ⟨bx, 3, none⟩ = some (.string t)) y) := fun y hy => ⟨hy.cell rfl, hy.cell rfl, hy.cell rfl⟩
  clear h
  obtain ⟨E, hE⟩ : ∃ E, stE N p i (errD (D i.toNat).dead) = E := ⟨_, rfl⟩
  have hc := t_flush ((firm_blk _ _ _).star firm_nought) hx.out hs1 i
  rw [hE] at hc
  have HE : Hid _ := hE
  clear hE
  go_enter Try.func12, Try.ntmps12
  go_wp2_with fail
  refine wp_region_noPanic ?_
  refine wp_region_held_drew (S := fun z : World => z.cell? ⟨bx, 1, none⟩ = some (.int .i64 i) ∧ z.cell? ⟨bx, 2, none⟩ = some (.int .i64 a) ∧ z.cell? ⟨bx, 3, none⟩ = some (.string t)) (by kernel_rfl) (hS.out _ hx.out.blk) (fun hHeld => ?_)
  refine wpAnyH_take (i := 0) (v := ?_) rfl (by kernel_rfl) (by kernel_rfl) (by kernel_rfl) (fun _ _ _ h => h) (Or.inl ⟨by rfl, ?_⟩) (by assumption) ?_
  rotate_left
  · intro w hSw; go_simp; try with_reducible rfl
  go_simp
  refine wpAnyH_take (i := 1) (v := ?_) rfl (by kernel_rfl) (by kernel_rfl) (by kernel_rfl) (fun _ _ _ h => h) (Or.inl ⟨by rfl, ?_⟩) (by assumption) ?_
  rotate_left
  · intro w hSw; go_simp; try with_reducible rfl
  go_simp
  refine wpAnyH_take (i := 2) (v := ?_) rfl (by kernel_rfl) (by kernel_rfl) (by kernel_rfl) (fun _ _ _ h => h) (Or.inl ⟨by rfl, ?_⟩) (by assumption) ?_
  rotate_left
  · intro w hSw; go_simp; try with_reducible rfl
  go_simp
  refine wpAnyH_take (i := 4) (v := ?_) rfl (by kernel_rfl) (by kernel_rfl) (by kernel_rfl) (fun _ _ _ h => h) (Or.inl ⟨by rfl, ?_⟩) (by assumption) ?_
  rotate_left
  · intro w hSw; go_simp; try with_reducible rfl
  go_simp
  refine wpAnyH_take (i := 5) (v := ?_) rfl (by kernel_rfl) (by kernel_rfl) (by kernel_rfl) (fun _ _ _ h => h) (Or.inl ⟨by rfl, ?_⟩) (by assumption) ?_
  rotate_left
  · intro w hSw; go_simp; try with_reducible rfl
  go_simp
  refine wpAnyH_take (i := 6) (v := ?_) rfl (by kernel_rfl) (by kernel_rfl) (by kernel_rfl) (fun _ _ _ h => h) (Or.inl ⟨by rfl, ?_⟩) (by assumption) ?_
  rotate_left
  · intro w hSw; go_simp; try with_reducible rfl
  go_simp
  refine wpAnyH_ready (rs := [3]) (by kernel_rfl) (by simp) (AllReadyH.cons rfl (fun K hK => ?_) AllReadyH.nil)
  go_simp
  go_at_call 20
  refine hc.mono ?_
  rintro e w1 ⟨rfl, h1⟩
  clear hx hc
  have hx : Hid (Two _ _ _ _ _ _ _ _ _ _ _ _) := h1
  clear h1
  have hc := t_rflush ((firm_blk _ _ _).star firm_nought) hx.out hs1 HQ'.out i
  rw [HSM.out.errD, HE.out] at hc
  refine hK.out _ _ (hS.out _ hx.out.blk) (fun hHeld => ?_)
  clear hK K
  refine wpAnyH_ready (rs := [7]) (by kernel_rfl) (by simp) (AllReadyH.cons rfl (fun K hK => ?_) AllReadyH.nil)
  go_simp
  go_at_call 30
  refine hc.mono ?_
  rintro e w2 ⟨rfl, h1⟩
  clear hx hc
  have hx : Hid (Two _ _ _ _ _ _ _ _ _ _ _ _) := h1
  clear h1
  refine hK.out _ _ (hS.out _ hx.out.blk) (fun hHeld => ?_)
  clear hK K
  refine wpAnyH_take (i := 8) (v := ?_) rfl (by kernel_rfl) (by kernel_rfl) (by kernel_rfl) (fun _ _ _ h => h) (Or.inl ⟨by rfl, ?_⟩) (by assumption) ?_
  rotate_left
  · intro w hSw; go_simp; try with_reducible rfl
  go_simp
  refine wpAnyH_take (i := 9) (v := ?_) rfl (by kernel_rfl) (by kernel_rfl) (by kernel_rfl) (fun _ _ _ h => h) (Or.inl ⟨by rfl, ?_⟩) (by assumption) ?_
  rotate_left
  · intro w hSw; go_simp; try with_reducible rfl
  go_simp
  refine wpAnyH_done (by kernel_rfl) ?_ _
  refine NoPanic.normal ?_
  go_wp2_with fail
  go_ret
  exact ⟨rfl, _, _, _, _, hx.out.unbox, HSM.out.st p i (fun k e hk => by subst e; rw [Int.toNat_natCast]; exact (HSM.out k hk).flush), HF.out.flush p i, Nat.le_trans (stS_le _ _ _ _) (by have := HS0.out; omega)⟩
set_option maxRecDepth 20000 in
set_option maxHeartbeats 4000000 in
theorem bact_flushm3 {W w : World} {g g' N z : Nat} {D D' : Nat → Dk} {s : Nat} {p : Option Nat} (h : Two nought W w g g' N D D' s s p p) (hsm : Same N D D') (hf : Few N D z) (hs : s ≤ z) (hz : z ≤ 500) (d i a : Int) (tt : ByteArray) (htt : tt.size ≤ maxLen) (kb : Option Addr) (km kc : Nat) (x : Bool) (hd : d.tmod 8 = -3) :
    Calls Try.prog 12 #[.pointer (some ⟨g, 0, none⟩), .pointer (some ⟨g', 0, none⟩), bactV d i a tt (.slice kb km kc) x] w fun e w' => e = .returned (.bool true) ∧ Pl W w' g g' N (z + 1) := by
  have hs1 : s ≤ 1000 := by omega
  have HQ : Hid _ := hf.big (by omega)
  have HQ' : Hid _ := (hf.same hsm).big (by omega)
  have HSM : Hid (Same N D D') := hsm
  have HF : Hid (Few N D z) := hf
  have HS0 : Hid (s ≤ z) := hs
  clear hsm hf hs
  obtain ⟨M, hM1, hM2, hM3⟩ : ∃ M : Nat, (if (200 : Int) < (tt.size : Int) then (200 : Int) else (tt.size : Int)) = (M : Int) ∧ M ≤ tt.size ∧ min (tt.size : Int) 200 = (M : Int) := ⟨min tt.size 200, by split <;> omega, by omega, by omega⟩
  obtain ⟨t, ht⟩ : ∃ t, tt.extract 0 M = t := ⟨_, rfl⟩
  have hx0 : Hid (Two _ _ _ _ _ _ _ _ _ _ _ _) := Two.box h 34 #[.int .i64 d, .int .i64 i, .int .i64 a, .string t, .slice kb km kc, .bool x]
  have hx : Hid (Two _ _ _ _ _ _ _ _ _ _ _ _) := Two.below ((firm_blk _ _ _).star firm_nought) hx0.out (Below.refl _ _).drew
  clear hx0
  obtain ⟨bx, hbxe⟩ : ∃ bx, w.heap.size = bx := ⟨_, rfl⟩
  rw [hbxe] at hx
  have hS : Hid (∀ y, Blk y bx 34 [.int .i64 d, .int .i64 i, .int .i64 a, .string t, .slice kb km kc, .bool x] → (fun z : World => z.cell? ⟨bx, 1, none⟩ = some (.int .i64 i) ∧ z.cell? ⟨bx, 2, none⟩ = some (.int .i64 a) ∧ z.cell? ⟨bx, 3, none⟩ = some (.string t)) y) := fun y hy => ⟨hy.cell rfl, hy.cell rfl, hy.cell rfl⟩
  clear h
  obtain ⟨E, hE⟩ : ∃ E, stE N p i (errD (D i.toNat).dead) = E := ⟨_, rfl⟩
  have hc := t_flush ((firm_blk _ _ _).star firm_nought) hx.out hs1 i
  rw [hE] at hc
  have HE : Hid _ := hE
  clear hE
  go_enter Try.func12, Try.ntmps12
  go_wp2_with fail
  refine wp_region_noPanic ?_
  refine wp_region_held_drew (S := fun z : World => z.cell? ⟨bx, 1, none⟩ = some (.int .i64 i) ∧ z.cell? ⟨bx, 2, none⟩ = some (.int .i64 a) ∧ z.cell? ⟨bx, 3, none⟩ = some (.string t)) (by kernel_rfl) (hS.out _ hx.out.blk) (fun hHeld => ?_)
  refine wpAnyH_take (i := 0) (v := ?_) rfl (by kernel_rfl) (by kernel_rfl) (by kernel_rfl) (fun _ _ _ h => h) (Or.inl ⟨by rfl, ?_⟩) (by assumption) ?_
  rotate_left
  · intro w hSw; go_simp; try with_reducible rfl
  go_simp
  refine wpAnyH_take (i := 1) (v := ?_) rfl (by kernel_rfl) (by kernel_rfl) (by kernel_rfl) (fun _ _ _ h => h) (Or.inl ⟨by rfl, ?_⟩) (by assumption) ?_
  rotate_left
  · intro w hSw; go_simp; try with_reducible rfl
  go_simp
  refine wpAnyH_take (i := 2) (v := ?_) rfl (by kernel_rfl) (by kernel_rfl) (by kernel_rfl) (fun _ _ _ h => h) (Or.inl ⟨by rfl, ?_⟩) (by assumption) ?_
  rotate_left
  · intro w hSw; go_simp; try with_reducible rfl
  go_simp
  refine wpAnyH_take (i := 4) (v := ?_) rfl (by kernel_rfl) (by kernel_rfl) (by kernel_rfl) (fun _ _ _ h => h) (Or.inl ⟨by rfl, ?_⟩) (by assumption) ?_
  rotate_left
  · intro w hSw; go_simp; try with_reducible rfl
  go_simp
  refine wpAnyH_take (i := 5) (v := ?_) rfl (by kernel_rfl) (by kernel_rfl) (by kernel_rfl) (fun _ _ _ h => h) (Or.inl ⟨by rfl, ?_⟩) (by assumption) ?_
  rotate_left
  · intro w hSw; go_simp; try with_reducible rfl
  go_simp
  refine wpAnyH_take (i := 6) (v := ?_) rfl (by kernel_rfl) (by kernel_rfl) (by kernel_rfl) (fun _ _ _ h => h) (Or.inl ⟨by rfl, ?_⟩) (by assumption) ?_
  rotate_left
  · intro w hSw; go_simp; try with_reducible rfl
  go_simp
  refine wpAnyH_ready (rs := [3]) (by kernel_rfl) (by simp) (AllReadyH.cons rfl (fun K hK => ?_) AllReadyH.nil)
  go_simp
  go_at_call 20
  refine hc.mono ?_
  rintro e w1 ⟨rfl, h1⟩
  clear hx hc
  have hx : Hid (Two _ _ _ _ _ _ _ _ _ _ _ _) := h1
  clear h1
  have hc := t_rflush ((firm_blk _ _ _).star firm_nought) hx.out hs1 HQ'.out i
  rw [HSM.out.errD, HE.out] at hc
  refine hK.out _ _ (hS.out _ hx.out.blk) (fun hHeld => ?_)
  clear hK K
  refine wpAnyH_ready (rs := [7]) (by kernel_rfl) (by simp) (AllReadyH.cons rfl (fun K hK => ?_) AllReadyH.nil)
  go_simp
  go_at_call 30
  refine hc.mono ?_
  rintro e w2 ⟨rfl, h1⟩
  clear hx hc
  have hx : Hid (Two _ _ _ _ _ _ _ _ _ _ _ _) := h1
  clear h1
  refine hK.out _ _ (hS.out _ hx.out.blk) (fun hHeld => ?_)
  clear hK K
  refine wpAnyH_take (i := 8) (v := ?_) rfl (by kernel_rfl) (by kernel_rfl) (by kernel_rfl) (fun _ _ _ h => h) (Or.inl ⟨by rfl, ?_⟩) (by assumption) ?_
  rotate_left
  · intro w hSw; go_simp; try with_reducible rfl
  go_simp
  refine wpAnyH_take (i := 9) (v := ?_) rfl (by kernel_rfl) (by kernel_rfl) (by kernel_rfl) (fun _ _ _ h => h) (Or.inl ⟨by rfl, ?_⟩) (by assumption) ?_
  rotate_left
  · intro w hSw; go_simp; try with_reducible rfl
  go_simp
  refine wpAnyH_done (by kernel_rfl) ?_ _
  refine NoPanic.normal ?_
  go_wp2_with fail
  go_ret
  exact ⟨rfl, _, _, _, _, hx.out.unbox, HSM.out.st p i (fun k e hk => by subst e; rw [Int.toNat_natCast]; exact (HSM.out k hk).flush), HF.out.flush p i, Nat.le_trans (stS_le _ _ _ _) (by have := HS0.out; omega)⟩
end Go.Proofs.Ytfepmafjkgjmmaa
/- One act on both banks: Spend. -/
namespace Go.Proofs.Ytfepmafjkgjmmaa
open Go.RowKit Go.PlainAid
set_option linter.unusedVariables false

set_option maxRecDepth 20000 in
set_option maxHeartbeats 4000000 in
theorem bact_spend4 {W w : World} {g g' N z : Nat} {D D' : Nat → Dk} {s : Nat} {p : Option Nat} (h : Two nought W w g g' N D D' s s p p) (hsm : Same N D D') (hf : Few N D z) (hs : s ≤ z) (hz : z ≤ 500) (d i a : Int) (tt : ByteArray) (htt : tt.size ≤ maxLen) (kb : Option Addr) (km kc : Nat) (x : Bool) (hd : d.tmod 8 = 4) :
    Calls Try.prog 12 #[.pointer (some ⟨g, 0, none⟩), .pointer (some ⟨g', 0, none⟩), bactV d i a tt (.slice kb km kc) x] w fun e w' => e = .returned (.bool true) ∧ Pl W w' g g' N (z + 1) := by
  have hs1 : s ≤ 1000 := by omega
  have HQ : Hid _ := hf.big (by omega)
  have HQ' : Hid _ := (hf.same hsm).big (by omega)
  have HSM : Hid (Same N D D') := hsm
  have HF : Hid (Few N D z) := hf
  have HS0 : Hid (s ≤ z) := hs
  clear hsm hf hs
  obtain ⟨M, hM1, hM2, hM3⟩ : ∃ M : Nat, (if (200 : Int) < (tt.size : Int) then (200 : Int) else (tt.size : Int)) = (M : Int) ∧ M ≤ tt.size ∧ min (tt.size : Int) 200 = (M : Int) := ⟨min tt.size 200, by split <;> omega, by omega, by omega⟩
  obtain ⟨t, ht⟩ : ∃ t, tt.extract 0 M = t := ⟨_, rfl⟩
  have hx0 : Hid (Two _ _ _ _ _ _ _ _ _ _ _ _) := Two.box h 34 #[.int .i64 d, .int .i64 i, .int .i64 a, .string t, .slice kb km kc, .bool x]
  have hx := hx0
  clear hx0
  obtain ⟨bx, hbxe⟩ : ∃ bx, w.heap.size = bx := ⟨_, rfl⟩
  rw [hbxe] at hx
  have hS : Hid (∀ y, Blk y bx 34 [.int .i64 d, .int .i64 i, .int .i64 a, .string t, .slice kb km kc, .bool x] → (fun z : World => z.cell? ⟨bx, 1, none⟩ = some (.int .i64 i) ∧ z.cell? ⟨bx, 2, none⟩ = some (.int .i64 a) ∧ z.cell? ⟨bx, 3, none⟩ = some (.string t)) y) := fun y hy => ⟨hy.cell rfl, hy.cell rfl, hy.cell rfl⟩
  clear h
  obtain ⟨E, hE⟩ : ∃ E, spendE p = E := ⟨_, rfl⟩
  have hc := t_spend ((firm_blk _ _ _).star firm_nought) hx.out hs1
  rw [hE] at hc
  have HE : Hid _ := hE
  clear hE
  go_enter Try.func12, Try.ntmps12
  go_wp2_with (first
    | (go_at_call 19; refine hc.mono ?_; rintro e w1 ⟨rfl, h1⟩; clear hx hc; have hx : Hid (Two _ _ _ _ _ _ _ _ _ _ _ _) := h1; clear h1; have hc2 := t_rspend ((firm_blk _ _ _).star firm_nought) hx.out hs1; rw [HE.out] at hc2)
    | (go_at_call 31; refine hc2.mono ?_; rintro e w2 ⟨rfl, h1⟩; clear hx hc2; have hx : Hid (Two _ _ _ _ _ _ _ _ _ _ _ _) := h1; clear h1))
  go_ret
  exact ⟨rfl, _, _, _, _, hx.out.unbox, HSM.out, HF.out.more, by have := HS0.out; unfold spendS; split <;> omega⟩
set_option maxRecDepth 20000 in
set_option maxHeartbeats 4000000 in
theorem bact_spendm4 {W w : World} {g g' N z : Nat} {D D' : Nat → Dk} {s : Nat} {p : Option Nat} (h : Two nought W w g g' N D D' s s p p) (hsm : Same N D D') (hf : Few N D z) (hs : s ≤ z) (hz : z ≤ 500) (d i a : Int) (tt : ByteArray) (htt : tt.size ≤ maxLen) (kb : Option Addr) (km kc : Nat) (x : Bool) (hd : d.tmod 8 = -4) :
    Calls Try.prog 12 #[.pointer (some ⟨g, 0, none⟩), .pointer (some ⟨g', 0, none⟩), bactV d i a tt (.slice kb km kc) x] w fun e w' => e = .returned (.bool true) ∧ Pl W w' g g' N (z + 1) := by
  have hs1 : s ≤ 1000 := by omega
  have HQ : Hid _ := hf.big (by omega)
  have HQ' : Hid _ := (hf.same hsm).big (by omega)
  have HSM : Hid (Same N D D') := hsm
  have HF : Hid (Few N D z) := hf
  have HS0 : Hid (s ≤ z) := hs
  clear hsm hf hs
  obtain ⟨M, hM1, hM2, hM3⟩ : ∃ M : Nat, (if (200 : Int) < (tt.size : Int) then (200 : Int) else (tt.size : Int)) = (M : Int) ∧ M ≤ tt.size ∧ min (tt.size : Int) 200 = (M : Int) := ⟨min tt.size 200, by split <;> omega, by omega, by omega⟩
  obtain ⟨t, ht⟩ : ∃ t, tt.extract 0 M = t := ⟨_, rfl⟩
  have hx0 : Hid (Two _ _ _ _ _ _ _ _ _ _ _ _) := Two.box h 34 #[.int .i64 d, .int .i64 i, .int .i64 a, .string t, .slice kb km kc, .bool x]
  have hx := hx0
  clear hx0
  obtain ⟨bx, hbxe⟩ : ∃ bx, w.heap.size = bx := ⟨_, rfl⟩
  rw [hbxe] at hx
  have hS : Hid (∀ y, Blk y bx 34 [.int .i64 d, .int .i64 i, .int .i64 a, .string t, .slice kb km kc, .bool x] → (fun z : World => z.cell? ⟨bx, 1, none⟩ = some (.int .i64 i) ∧ z.cell? ⟨bx, 2, none⟩ = some (.int .i64 a) ∧ z.cell? ⟨bx, 3, none⟩ = some (.string t)) y) := fun y hy => ⟨hy.cell rfl, hy.cell rfl, hy.cell rfl⟩
  clear h
  obtain ⟨E, hE⟩ : ∃ E, spendE p = E := ⟨_, rfl⟩
  have hc := t_spend ((firm_blk _ _ _).star firm_nought) hx.out hs1
  rw [hE] at hc
  have HE : Hid _ := hE
  clear hE
  go_enter Try.func12, Try.ntmps12
  go_wp2_with (first
    | (go_at_call 19; refine hc.mono ?_; rintro e w1 ⟨rfl, h1⟩; clear hx hc; have hx : Hid (Two _ _ _ _ _ _ _ _ _ _ _ _) := h1; clear h1; have hc2 := t_rspend ((firm_blk _ _ _).star firm_nought) hx.out hs1; rw [HE.out] at hc2)
    | (go_at_call 31; refine hc2.mono ?_; rintro e w2 ⟨rfl, h1⟩; clear hx hc2; have hx : Hid (Two _ _ _ _ _ _ _ _ _ _ _ _) := h1; clear h1))
  go_ret
  exact ⟨rfl, _, _, _, _, hx.out.unbox, HSM.out, HF.out.more, by have := HS0.out; unfold spendS; split <;> omega⟩
end Go.Proofs.Ytfepmafjkgjmmaa
/- One act on both banks: Cut. -/
namespace Go.Proofs.Ytfepmafjkgjmmaa
open Go.RowKit Go.PlainAid
set_option linter.unusedVariables false

set_option maxRecDepth 20000 in
set_option maxHeartbeats 4000000 in
theorem bact_cut5 {W w : World} {g g' N z : Nat} {D D' : Nat → Dk} {s : Nat} {p : Option Nat} (h : Two nought W w g g' N D D' s s p p) (hsm : Same N D D') (hf : Few N D z) (hs : s ≤ z) (hz : z ≤ 500) (d i a : Int) (tt : ByteArray) (htt : tt.size ≤ maxLen) (kb : Option Addr) (km kc : Nat) (x : Bool) (ha : a ≤ 9223372036854775807) (hd : d.tmod 8 = 5) :
    Calls Try.prog 12 #[.pointer (some ⟨g, 0, none⟩), .pointer (some ⟨g', 0, none⟩), bactV d i a tt (.slice kb km kc) x] w fun e w' => e = .returned (.bool true) ∧ Pl W w' g g' N (z + 1) := by
  have HA : Hid (a ≤ 9223372036854775807) := ha
  clear ha
  have hs1 : s ≤ 1000 := by omega
  have HQ : Hid _ := hf.big (by omega)
  have HQ' : Hid _ := (hf.same hsm).big (by omega)
  have HSM : Hid (Same N D D') := hsm
  have HF : Hid (Few N D z) := hf
  have HS0 : Hid (s ≤ z) := hs
  clear hsm hf hs
  obtain ⟨M, hM1, hM2, hM3⟩ : ∃ M : Nat, (if (200 : Int) < (tt.size : Int) then (200 : Int) else (tt.size : Int)) = (M : Int) ∧ M ≤ tt.size ∧ min (tt.size : Int) 200 = (M : Int) := ⟨min tt.size 200, by split <;> omega, by omega, by omega⟩
  obtain ⟨t, ht⟩ : ∃ t, tt.extract 0 M = t := ⟨_, rfl⟩
  have hx0 : Hid (Two _ _ _ _ _ _ _ _ _ _ _ _) := Two.box h 34 #[.int .i64 d, .int .i64 i, .int .i64 a, .string t, .slice kb km kc, .bool x]
  have hx := hx0
  clear hx0
  obtain ⟨bx, hbxe⟩ : ∃ bx, w.heap.size = bx := ⟨_, rfl⟩
  rw [hbxe] at hx
  have hS : Hid (∀ y, Blk y bx 34 [.int .i64 d, .int .i64 i, .int .i64 a, .string t, .slice kb km kc, .bool x] → (fun z : World => z.cell? ⟨bx, 1, none⟩ = some (.int .i64 i) ∧ z.cell? ⟨bx, 2, none⟩ = some (.int .i64 a) ∧ z.cell? ⟨bx, 3, none⟩ = some (.string t)) y) := fun y hy => ⟨hy.cell rfl, hy.cell rfl, hy.cell rfl⟩
  clear h
  obtain ⟨b1, b2, b3⟩ := hS.out _ hx.out.blk
  have hc := t_cut ((firm_blk _ _ _).star firm_nought) hx.out a HA.out
  go_enter Try.func12, Try.ntmps12
  go_wp2_with (first
    | (go_at_call 18; refine hc.mono ?_; rintro e w1 ⟨rfl, h1⟩; clear hx hc b1 b2 b3; have hx : Hid (Two _ _ _ _ _ _ _ _ _ _ _ _) := h1; clear h1; obtain ⟨b1, b2, b3⟩ := hS.out _ hx.out.blk; have hc2 := t_rcut ((firm_blk _ _ _).star firm_nought) hx.out a HA.out)
    | (go_at_call 32; refine hc2.mono ?_; rintro e w2 ⟨rfl, h1⟩; clear hx hc2 b1 b2 b3; have hx : Hid (Two _ _ _ _ _ _ _ _ _ _ _ _) := h1; clear h1))
  go_ret
  exact ⟨rfl, _, _, _, _, hx.out.unbox, HSM.out, HF.out.more, by have := HS0.out; omega⟩
set_option maxRecDepth 20000 in
set_option maxHeartbeats 4000000 in
theorem bact_cutm5 {W w : World} {g g' N z : Nat} {D D' : Nat → Dk} {s : Nat} {p : Option Nat} (h : Two nought W w g g' N D D' s s p p) (hsm : Same N D D') (hf : Few N D z) (hs : s ≤ z) (hz : z ≤ 500) (d i a : Int) (tt : ByteArray) (htt : tt.size ≤ maxLen) (kb : Option Addr) (km kc : Nat) (x : Bool) (ha : a ≤ 9223372036854775807) (hd : d.tmod 8 = -5) :
    Calls Try.prog 12 #[.pointer (some ⟨g, 0, none⟩), .pointer (some ⟨g', 0, none⟩), bactV d i a tt (.slice kb km kc) x] w fun e w' => e = .returned (.bool true) ∧ Pl W w' g g' N (z + 1) := by
  have HA : Hid (a ≤ 9223372036854775807) := ha
  clear ha
  have hs1 : s ≤ 1000 := by omega
  have HQ : Hid _ := hf.big (by omega)
  have HQ' : Hid _ := (hf.same hsm).big (by omega)
  have HSM : Hid (Same N D D') := hsm
  have HF : Hid (Few N D z) := hf
  have HS0 : Hid (s ≤ z) := hs
  clear hsm hf hs
  obtain ⟨M, hM1, hM2, hM3⟩ : ∃ M : Nat, (if (200 : Int) < (tt.size : Int) then (200 : Int) else (tt.size : Int)) = (M : Int) ∧ M ≤ tt.size ∧ min (tt.size : Int) 200 = (M : Int) := ⟨min tt.size 200, by split <;> omega, by omega, by omega⟩
  obtain ⟨t, ht⟩ : ∃ t, tt.extract 0 M = t := ⟨_, rfl⟩
  have hx0 : Hid (Two _ _ _ _ _ _ _ _ _ _ _ _) := Two.box h 34 #[.int .i64 d, .int .i64 i, .int .i64 a, .string t, .slice kb km kc, .bool x]
  have hx := hx0
  clear hx0
  obtain ⟨bx, hbxe⟩ : ∃ bx, w.heap.size = bx := ⟨_, rfl⟩
  rw [hbxe] at hx
  have hS : Hid (∀ y, Blk y bx 34 [.int .i64 d, .int .i64 i, .int .i64 a, .string t, .slice kb km kc, .bool x] → (fun z : World => z.cell? ⟨bx, 1, none⟩ = some (.int .i64 i) ∧ z.cell? ⟨bx, 2, none⟩ = some (.int .i64 a) ∧ z.cell? ⟨bx, 3, none⟩ = some (.string t)) y) := fun y hy => ⟨hy.cell rfl, hy.cell rfl, hy.cell rfl⟩
  clear h
  obtain ⟨b1, b2, b3⟩ := hS.out _ hx.out.blk
  have hc := t_cut ((firm_blk _ _ _).star firm_nought) hx.out a HA.out
  go_enter Try.func12, Try.ntmps12
  go_wp2_with (first
    | (go_at_call 18; refine hc.mono ?_; rintro e w1 ⟨rfl, h1⟩; clear hx hc b1 b2 b3; have hx : Hid (Two _ _ _ _ _ _ _ _ _ _ _ _) := h1; clear h1; obtain ⟨b1, b2, b3⟩ := hS.out _ hx.out.blk; have hc2 := t_rcut ((firm_blk _ _ _).star firm_nought) hx.out a HA.out)
    | (go_at_call 32; refine hc2.mono ?_; rintro e w2 ⟨rfl, h1⟩; clear hx hc2 b1 b2 b3; have hx : Hid (Two _ _ _ _ _ _ _ _ _ _ _ _) := h1; clear h1))
  go_ret
  exact ⟨rfl, _, _, _, _, hx.out.unbox, HSM.out, HF.out.more, by have := HS0.out; omega⟩
end Go.Proofs.Ytfepmafjkgjmmaa
/- One act on both banks: Crash. -/
namespace Go.Proofs.Ytfepmafjkgjmmaa
open Go.RowKit Go.PlainAid
set_option linter.unusedVariables false

set_option maxRecDepth 20000 in
set_option maxHeartbeats 4000000 in
theorem bact_crash6 {W w : World} {g g' N z : Nat} {D D' : Nat → Dk} {s : Nat} {p : Option Nat} (h : Two nought W w g g' N D D' s s p p) (hsm : Same N D D') (hf : Few N D z) (hs : s ≤ z) (hz : z ≤ 500) (d i a : Int) (tt : ByteArray) (htt : tt.size ≤ maxLen) (kb : Option Addr) (km kc : Nat) (x : Bool) (L : Nat → Bl) (hL : ListsIn W.heap.size W kb km kc L) (hd : d.tmod 8 = 6) :
    Calls Try.prog 12 #[.pointer (some ⟨g, 0, none⟩), .pointer (some ⟨g', 0, none⟩), bactV d i a tt (.slice kb km kc) x] w fun e w' => e = .returned (.bool true) ∧ Pl W w' g g' N (z + 1) := by
  have HL : Hid _ := hL
  clear hL
  have hs1 : s ≤ 1000 := by omega
  have HQ : Hid _ := hf.big (by omega)
  have HQ' : Hid _ := (hf.same hsm).big (by omega)
  have HSM : Hid (Same N D D') := hsm
  have HF : Hid (Few N D z) := hf
  have HS0 : Hid (s ≤ z) := hs
  clear hsm hf hs
  obtain ⟨M, hM1, hM2, hM3⟩ : ∃ M : Nat, (if (200 : Int) < (tt.size : Int) then (200 : Int) else (tt.size : Int)) = (M : Int) ∧ M ≤ tt.size ∧ min (tt.size : Int) 200 = (M : Int) := ⟨min tt.size 200, by split <;> omega, by omega, by omega⟩
  obtain ⟨t, ht⟩ : ∃ t, tt.extract 0 M = t := ⟨_, rfl⟩
  have hx0 : Hid (Two _ _ _ _ _ _ _ _ _ _ _ _) := Two.box h 34 #[.int .i64 d, .int .i64 i, .int .i64 a, .string t, .slice kb km kc, .bool x]
  have hx := hx0
  clear hx0
  obtain ⟨bx, hbxe⟩ : ∃ bx, w.heap.size = bx := ⟨_, rfl⟩
  rw [hbxe] at hx
  have hS : Hid (∀ y, Blk y bx 34 [.int .i64 d, .int .i64 i, .int .i64 a, .string t, .slice kb km kc, .bool x] → (fun z : World => z.cell? ⟨bx, 1, none⟩ = some (.int .i64 i) ∧ z.cell? ⟨bx, 2, none⟩ = some (.int .i64 a) ∧ z.cell? ⟨bx, 3, none⟩ = some (.string t)) y) := fun y hy => ⟨hy.cell rfl, hy.cell rfl, hy.cell rfl⟩
  clear h
  have q0 := hx.out.blk.cell (i := 0) rfl
  have q1 := hx.out.blk.cell (i := 1) rfl
  have q2 := hx.out.blk.cell (i := 2) rfl
  have q3 := hx.out.blk.cell (i := 3) rfl
  have q4 := hx.out.blk.cell (i := 4) rfl
  have q5 := hx.out.blk.cell (i := 5) rfl
  have hc := t_lists ((firm_blk _ _ _).star firm_nought) hx.out d i a t kb km kc x L HL.out
  go_enter Try.func12, Try.ntmps12
  go_wp2_with (first
    | (go_at_call 24; refine hc.mono ?_; rintro e w1 ⟨v1, rfl, h1⟩; clear hx hc q0 q1 q2 q3 q4 q5; have h1 : Hid (Two _ _ _ _ _ _ _ _ _ _ _ _) := h1; have hc1 := t_crash ((firm_blk _ _ _).star firm_nought) h1.out (lists_fine HL.out) (by omega) HQ.out)
    | (go_at_call 23; refine hc1.mono ?_; rintro e w2 ⟨rfl, h2⟩; clear h1 hc1; have h2 : Hid (Two _ _ _ _ _ _ _ _ _ _ _ _) := h2; have q0 := h2.out.blk.cell (i := 0) rfl; have q1 := h2.out.blk.cell (i := 1) rfl; have q2 := h2.out.blk.cell (i := 2) rfl; have q3 := h2.out.blk.cell (i := 3) rfl; have q4 := h2.out.blk.cell (i := 4) rfl; have q5 := h2.out.blk.cell (i := 5) rfl; have hc2 := t_lists ((firm_blk _ _ _).star firm_nought) h2.out d i a t kb km kc x L HL.out)
    | (go_at_call 24; refine hc2.mono ?_; rintro e w3 ⟨v3, rfl, h3⟩; clear h2 hc2 q0 q1 q2 q3 q4 q5; have h3 : Hid (Two _ _ _ _ _ _ _ _ _ _ _ _) := h3; have hc3 := t_rcrash ((firm_blk _ _ _).star firm_nought) h3.out (lists_fine HL.out) (by omega) HQ'.out)
    | (go_at_call 33; refine hc3.mono ?_; rintro e w4 ⟨rfl, h4⟩; clear h3 hc3; have h4 : Hid (Two _ _ _ _ _ _ _ _ _ _ _ _) := h4))
  go_ret
  exact ⟨rfl, _, _, _, _, h4.out.unbox, fun i hi => (HSM.out i hi).crash _, HF.out.crash _, by have := HS0.out; omega⟩
set_option maxRecDepth 20000 in
set_option maxHeartbeats 4000000 in
theorem bact_crashm6 {W w : World} {g g' N z : Nat} {D D' : Nat → Dk} {s : Nat} {p : Option Nat} (h : Two nought W w g g' N D D' s s p p) (hsm : Same N D D') (hf : Few N D z) (hs : s ≤ z) (hz : z ≤ 500) (d i a : Int) (tt : ByteArray) (htt : tt.size ≤ maxLen) (kb : Option Addr) (km kc : Nat) (x : Bool) (L : Nat → Bl) (hL : ListsIn W.heap.size W kb km kc L) (hd : d.tmod 8 = -6) :
    Calls Try.prog 12 #[.pointer (some ⟨g, 0, none⟩), .pointer (some ⟨g', 0, none⟩), bactV d i a tt (.slice kb km kc) x] w fun e w' => e = .returned (.bool true) ∧ Pl W w' g g' N (z + 1) := by
  have HL : Hid _ := hL
  clear hL
  have hs1 : s ≤ 1000 := by omega
  have HQ : Hid _ := hf.big (by omega)
  have HQ' : Hid _ := (hf.same hsm).big (by omega)
  have HSM : Hid (Same N D D') := hsm
  have HF : Hid (Few N D z) := hf
  have HS0 : Hid (s ≤ z) := hs
  clear hsm hf hs
  obtain ⟨M, hM1, hM2, hM3⟩ : ∃ M : Nat, (if (200 : Int) < (tt.size : Int) then (200 : Int) else (tt.size : Int)) = (M : Int) ∧ M ≤ tt.size ∧ min (tt.size : Int) 200 = (M : Int) := ⟨min tt.size 200, by split <;> omega, by omega, by omega⟩
  obtain ⟨t, ht⟩ : ∃ t, tt.extract 0 M = t := ⟨_, rfl⟩
  have hx0 : Hid (Two _ _ _ _ _ _ _ _ _ _ _ _) := Two.box h 34 #[.int .i64 d, .int .i64 i, .int .i64 a, .string t, .slice kb km kc, .bool x]
  have hx := hx0
  clear hx0
  obtain ⟨bx, hbxe⟩ : ∃ bx, w.heap.size = bx := ⟨_, rfl⟩
  rw [hbxe] at hx
  have hS : Hid (∀ y, Blk y bx 34 [.int .i64 d, .int .i64 i, .int .i64 a, .string t, .slice kb km kc, .bool x] → (fun z : World => z.cell? ⟨bx, 1, none⟩ = some (.int .i64 i) ∧ z.cell? ⟨bx, 2, none⟩ = some (.int .i64 a) ∧ z.cell? ⟨bx, 3, none⟩ = some (.string t)) y) := fun y hy => ⟨hy.cell rfl, hy.cell rfl, hy.cell rfl⟩
  clear h
  have q0 := hx.out.blk.cell (i := 0) rfl
  have q1 := hx.out.blk.cell (i := 1) rfl
  have q2 := hx.out.blk.cell (i := 2) rfl
  have q3 := hx.out.blk.cell (i := 3) rfl
  have q4 := hx.out.blk.cell (i := 4) rfl
  have q5 := hx.out.blk.cell (i := 5) rfl
  have hc := t_lists ((firm_blk _ _ _).star firm_nought) hx.out d i a t kb km kc x L HL.out
  go_enter Try.func12, Try.ntmps12
  go_wp2_with (first
    | (go_at_call 24; refine hc.mono ?_; rintro e w1 ⟨v1, rfl, h1⟩; clear hx hc q0 q1 q2 q3 q4 q5; have h1 : Hid (Two _ _ _ _ _ _ _ _ _ _ _ _) := h1; have hc1 := t_crash ((firm_blk _ _ _).star firm_nought) h1.out (lists_fine HL.out) (by omega) HQ.out)
    | (go_at_call 23; refine hc1.mono ?_; rintro e w2 ⟨rfl, h2⟩; clear h1 hc1; have h2 : Hid (Two _ _ _ _ _ _ _ _ _ _ _ _) := h2; have q0 := h2.out.blk.cell (i := 0) rfl; have q1 := h2.out.blk.cell (i := 1) rfl; have q2 := h2.out.blk.cell (i := 2) rfl; have q3 := h2.out.blk.cell (i := 3) rfl; have q4 := h2.out.blk.cell (i := 4) rfl; have q5 := h2.out.blk.cell (i := 5) rfl; have hc2 := t_lists ((firm_blk _ _ _).star firm_nought) h2.out d i a t kb km kc x L HL.out)
    | (go_at_call 24; refine hc2.mono ?_; rintro e w3 ⟨v3, rfl, h3⟩; clear h2 hc2 q0 q1 q2 q3 q4 q5; have h3 : Hid (Two _ _ _ _ _ _ _ _ _ _ _ _) := h3; have hc3 := t_rcrash ((firm_blk _ _ _).star firm_nought) h3.out (lists_fine HL.out) (by omega) HQ'.out)
    | (go_at_call 33; refine hc3.mono ?_; rintro e w4 ⟨rfl, h4⟩; clear h3 hc3; have h4 : Hid (Two _ _ _ _ _ _ _ _ _ _ _ _) := h4))
  go_ret
  exact ⟨rfl, _, _, _, _, h4.out.unbox, fun i hi => (HSM.out i hi).crash _, HF.out.crash _, by have := HS0.out; omega⟩
end Go.Proofs.Ytfepmafjkgjmmaa
/- One act on both banks: Fail. -/
namespace Go.Proofs.Ytfepmafjkgjmmaa
open Go.RowKit Go.PlainAid
set_option linter.unusedVariables false

set_option maxRecDepth 20000 in
set_option maxHeartbeats 4000000 in
theorem bact_stay7 {W w : World} {g g' N z : Nat} {D D' : Nat → Dk} {s : Nat} {p : Option Nat} (h : Two nought W w g g' N D D' s s p p) (hsm : Same N D D') (hf : Few N D z) (hs : s ≤ z) (hz : z ≤ 500) (d i a : Int) (tt : ByteArray) (htt : tt.size ≤ maxLen) (kb : Option Addr) (km kc : Nat) (hd : d.tmod 8 = 7) :
    Calls Try.prog 12 #[.pointer (some ⟨g, 0, none⟩), .pointer (some ⟨g', 0, none⟩), bactV d i a tt (.slice kb km kc) false] w fun e w' => e = .returned (.bool true) ∧ Pl W w' g g' N (z + 1) := by
  have hs1 : s ≤ 1000 := by omega
  have HQ : Hid _ := hf.big (by omega)
  have HQ' : Hid _ := (hf.same hsm).big (by omega)
  have HSM : Hid (Same N D D') := hsm
  have HF : Hid (Few N D z) := hf
  have HS0 : Hid (s ≤ z) := hs
  clear hsm hf hs
  obtain ⟨M, hM1, hM2, hM3⟩ : ∃ M : Nat, (if (200 : Int) < (tt.size : Int) then (200 : Int) else (tt.size : Int)) = (M : Int) ∧ M ≤ tt.size ∧ min (tt.size : Int) 200 = (M : Int) := ⟨min tt.size 200, by split <;> omega, by omega, by omega⟩
  obtain ⟨t, ht⟩ : ∃ t, tt.extract 0 M = t := ⟨_, rfl⟩
  have hx0 : Hid (Two _ _ _ _ _ _ _ _ _ _ _ _) := Two.box h 34 #[.int .i64 d, .int .i64 i, .int .i64 a, .string t, .slice kb km kc, .bool false]
  have hx := hx0
  clear hx0
  obtain ⟨bx, hbxe⟩ : ∃ bx, w.heap.size = bx := ⟨_, rfl⟩
  rw [hbxe] at hx
  clear h
  go_enter Try.func12, Try.ntmps12
  go_wp2_with fail
  generalize w.alloc (.cells #[.int .i64 d, .int .i64 i, .int .i64 a, .string t, .slice kb km kc, .bool false] 34) = wb at hx ⊢
  have q1 := hx.out.blk.cell (i := 1) rfl
  have q5 := hx.out.blk.cell (i := 5) rfl
  go_quiet (fail)
  have hx2 : Hid (Two _ _ _ _ _ _ _ _ _ _ _ _) := Two.below ((firm_blk _ _ _).star firm_nought) hx.out (below_drewN' _ nq)
  clear hx
  go_wp2_with fail
  go_ret
  exact ⟨rfl, _, _, _, _, hx2.out.unbox, HSM.out, HF.out.more, by have := HS0.out; omega⟩
set_option maxRecDepth 20000 in
set_option maxHeartbeats 4000000 in
theorem bact_low7 {W w : World} {g g' N z : Nat} {D D' : Nat → Dk} {s : Nat} {p : Option Nat} (h : Two nought W w g g' N D D' s s p p) (hsm : Same N D D') (hf : Few N D z) (hs : s ≤ z) (hz : z ≤ 500) (d i a : Int) (tt : ByteArray) (htt : tt.size ≤ maxLen) (kb : Option Addr) (km kc : Nat) (hi : i < 0) (hd : d.tmod 8 = 7) :
    Calls Try.prog 12 #[.pointer (some ⟨g, 0, none⟩), .pointer (some ⟨g', 0, none⟩), bactV d i a tt (.slice kb km kc) true] w fun e w' => e = .returned (.bool true) ∧ Pl W w' g g' N (z + 1) := by
  have hi0' : decide (0 ≤ i) = false := decide_eq_false (by omega)
  clear hi
  have hs1 : s ≤ 1000 := by omega
  have HQ : Hid _ := hf.big (by omega)
  have HQ' : Hid _ := (hf.same hsm).big (by omega)
  have HSM : Hid (Same N D D') := hsm
  have HF : Hid (Few N D z) := hf
  have HS0 : Hid (s ≤ z) := hs
  clear hsm hf hs
  obtain ⟨M, hM1, hM2, hM3⟩ : ∃ M : Nat, (if (200 : Int) < (tt.size : Int) then (200 : Int) else (tt.size : Int)) = (M : Int) ∧ M ≤ tt.size ∧ min (tt.size : Int) 200 = (M : Int) := ⟨min tt.size 200, by split <;> omega, by omega, by omega⟩
  obtain ⟨t, ht⟩ : ∃ t, tt.extract 0 M = t := ⟨_, rfl⟩
  have hx0 : Hid (Two _ _ _ _ _ _ _ _ _ _ _ _) := Two.box h 34 #[.int .i64 d, .int .i64 i, .int .i64 a, .string t, .slice kb km kc, .bool true]
  have hx := hx0
  clear hx0
  obtain ⟨bx, hbxe⟩ : ∃ bx, w.heap.size = bx := ⟨_, rfl⟩
  rw [hbxe] at hx
  clear h
  go_enter Try.func12, Try.ntmps12
  go_wp2_with fail
  generalize w.alloc (.cells #[.int .i64 d, .int .i64 i, .int .i64 a, .string t, .slice kb km kc, .bool true] 34) = wb at hx ⊢
  have q1 := hx.out.blk.cell (i := 1) rfl
  have q5 := hx.out.blk.cell (i := 5) rfl
  go_quiet (fail)
  have hx2 : Hid (Two _ _ _ _ _ _ _ _ _ _ _ _) := Two.below ((firm_blk _ _ _).star firm_nought) hx.out (below_drewN' _ nq)
  clear hx
  go_wp2_with fail
  go_ret
  exact ⟨rfl, _, _, _, _, hx2.out.unbox, HSM.out, HF.out.more, by have := HS0.out; omega⟩
set_option maxRecDepth 20000 in
set_option maxHeartbeats 4000000 in
theorem bact_high7 {W w : World} {g g' N z : Nat} {D D' : Nat → Dk} {s : Nat} {p : Option Nat} (h : Two nought W w g g' N D D' s s p p) (hsm : Same N D D') (hf : Few N D z) (hs : s ≤ z) (hz : z ≤ 500) (d i a : Int) (tt : ByteArray) (htt : tt.size ≤ maxLen) (kb : Option Addr) (km kc : Nat) (hi : ¬ i < 0) (hi2 : ¬ i < (N : Int)) (hd : d.tmod 8 = 7) :
    Calls Try.prog 12 #[.pointer (some ⟨g, 0, none⟩), .pointer (some ⟨g', 0, none⟩), bactV d i a tt (.slice kb km kc) true] w fun e w' => e = .returned (.bool true) ∧ Pl W w' g g' N (z + 1) := by
  have hi0' : decide (0 ≤ i) = true := decide_eq_true (by omega)
  have hi1' : decide (i < (N : Int)) = false := decide_eq_false hi2
  clear hi hi2
  have hs1 : s ≤ 1000 := by omega
  have HQ : Hid _ := hf.big (by omega)
  have HQ' : Hid _ := (hf.same hsm).big (by omega)
  have HSM : Hid (Same N D D') := hsm
  have HF : Hid (Few N D z) := hf
  have HS0 : Hid (s ≤ z) := hs
  clear hsm hf hs
  obtain ⟨M, hM1, hM2, hM3⟩ : ∃ M : Nat, (if (200 : Int) < (tt.size : Int) then (200 : Int) else (tt.size : Int)) = (M : Int) ∧ M ≤ tt.size ∧ min (tt.size : Int) 200 = (M : Int) := ⟨min tt.size 200, by split <;> omega, by omega, by omega⟩
  obtain ⟨t, ht⟩ : ∃ t, tt.extract 0 M = t := ⟨_, rfl⟩
  have hx0 : Hid (Two _ _ _ _ _ _ _ _ _ _ _ _) := Two.box h 34 #[.int .i64 d, .int .i64 i, .int .i64 a, .string t, .slice kb km kc, .bool true]
  have hx := hx0
  clear hx0
  obtain ⟨bx, hbxe⟩ : ∃ bx, w.heap.size = bx := ⟨_, rfl⟩
  rw [hbxe] at hx
  clear h
  go_enter Try.func12, Try.ntmps12
  go_wp2_with fail
  generalize w.alloc (.cells #[.int .i64 d, .int .i64 i, .int .i64 a, .string t, .slice kb km kc, .bool true] 34) = wb at hx ⊢
  have q1 := hx.out.blk.cell (i := 1) rfl
  have q5 := hx.out.blk.cell (i := 5) rfl
  obtain ⟨gd, cap, r0, -, -⟩ := hx.out.rtop
  go_quiet (fail)
  have hx2 : Hid (Two _ _ _ _ _ _ _ _ _ _ _ _) := Two.below ((firm_blk _ _ _).star firm_nought) hx.out (below_drewN' _ nq)
  clear hx
  go_wp2_with fail
  go_ret
  exact ⟨rfl, _, _, _, _, hx2.out.unbox, HSM.out, HF.out.more, by have := HS0.out; omega⟩
set_option maxRecDepth 20000 in
set_option maxHeartbeats 4000000 in
theorem bact_fail7 {W w : World} {g g' N z : Nat} {D D' : Nat → Dk} {s : Nat} {p : Option Nat} (h : Two nought W w g g' N D D' s s p p) (hsm : Same N D D') (hf : Few N D z) (hs : s ≤ z) (hz : z ≤ 500) (d a : Int) (tt : ByteArray) (htt : tt.size ≤ maxLen) (kb : Option Addr) (km kc : Nat) (k : Nat) (hk : k < N) (hd : d.tmod 8 = 7) :
    Calls Try.prog 12 #[.pointer (some ⟨g, 0, none⟩), .pointer (some ⟨g', 0, none⟩), bactV d (k : Int) a tt (.slice kb km kc) true] w fun e w' => e = .returned (.bool true) ∧ Pl W w' g g' N (z + 1) := by
  have hi0' : decide (0 ≤ (k : Int)) = true := decide_eq_true (by omega)
  have hi1' : decide ((k : Int) < (N : Int)) = true := decide_eq_true (by omega)
  have hkI : (k : Int) < (N : Int) := by omega
  have HK : Hid _ := hk
  have hs1 : s ≤ 1000 := by omega
  have HQ : Hid _ := hf.big (by omega)
  have HQ' : Hid _ := (hf.same hsm).big (by omega)
  have HSM : Hid (Same N D D') := hsm
  have HF : Hid (Few N D z) := hf
  have HS0 : Hid (s ≤ z) := hs
  clear hsm hf hs
  obtain ⟨M, hM1, hM2, hM3⟩ : ∃ M : Nat, (if (200 : Int) < (tt.size : Int) then (200 : Int) else (tt.size : Int)) = (M : Int) ∧ M ≤ tt.size ∧ min (tt.size : Int) 200 = (M : Int) := ⟨min tt.size 200, by split <;> omega, by omega, by omega⟩
  obtain ⟨t, ht⟩ : ∃ t, tt.extract 0 M = t := ⟨_, rfl⟩
  have hx0 : Hid (Two _ _ _ _ _ _ _ _ _ _ _ _) := Two.box h 34 #[.int .i64 d, .int .i64 (k : Int), .int .i64 a, .string t, .slice kb km kc, .bool true]
  have hx := hx0
  clear hx0
  obtain ⟨bx, hbxe⟩ : ∃ bx, w.heap.size = bx := ⟨_, rfl⟩
  rw [hbxe] at hx
  clear h
  go_enter Try.func12, Try.ntmps12
  go_wp2_with fail
  generalize w.alloc (.cells #[.int .i64 d, .int .i64 (k : Int), .int .i64 a, .string t, .slice kb km kc, .bool true] 34) = wb at hx ⊢
  have q1 := hx.out.blk.cell (i := 1) rfl
  have q5 := hx.out.blk.cell (i := 5) rfl
  obtain ⟨gd, cap, r0, -, -⟩ := hx.out.rtop
  go_quiet (fail)
  have hx2 : Hid (Two _ _ _ _ _ _ _ _ _ _ _ _) := Two.below ((firm_blk _ _ _).star firm_nought) hx.out (below_drewN' _ nq)
  clear hx q1 q5 r0
  generalize wb.drewN nq = wc at hx2 ⊢
  have q1 := hx2.out.blk.cell (i := 1) rfl
  have hd1 := t_disk hx2.out k HK.out
  have hf1 := t_fail ((firm_blk _ _ _).star firm_nought) hx2.out k HK.out
  go_wp2_with (first
    | (go_at_call 14; refine hd1.mono ?_; rintro e w1 ⟨rfl, hw'⟩; rw [hw']; clear hw' w1 hd1)
    | (go_at_call 34; refine hf1.mono ?_; rintro e w2 ⟨rfl, h2⟩; clear hx2 hf1 q1; have h2 : Hid (Two _ _ _ _ _ _ _ _ _ _ _ _) := h2))
  have h3 : Hid (Two _ _ _ _ _ _ _ _ _ _ _ _) := Two.below ((firm_blk _ _ _).star firm_nought) h2.out (Below.refl _ _).drew
  clear h2
  have q1 := h3.out.blk.cell (i := 1) rfl
  obtain ⟨gd2, cap2, r0, -, rp⟩ := h3.out.rtop
  have r1 := rp k HK.out
  clear rp
  have hf2 := t_rfail ((firm_blk _ _ _).star firm_nought) h3.out k HK.out
  go_region_with (go_at_call 35; refine hf2.mono ?_; rintro e w4 ⟨rfl, h4⟩; clear h3 hf2; have h4 : Hid (Two _ _ _ _ _ _ _ _ _ _ _ _) := h4)
  all_goals
    go_wp2_with fail
    go_ret
    exact ⟨rfl, _, _, _, _, h4.out.unbox, HSM.out.upd k (HSM.out k HK.out).fail, HF.out.upd k _ (Nat.zero_le _), by have := HS0.out; omega⟩
set_option maxRecDepth 20000 in
set_option maxHeartbeats 4000000 in
theorem bact_staym7 {W w : World} {g g' N z : Nat} {D D' : Nat → Dk} {s : Nat} {p : Option Nat} (h : Two nought W w g g' N D D' s s p p) (hsm : Same N D D') (hf : Few N D z) (hs : s ≤ z) (hz : z ≤ 500) (d i a : Int) (tt : ByteArray) (htt : tt.size ≤ maxLen) (kb : Option Addr) (km kc : Nat) (hd : d.tmod 8 = -7) :
    Calls Try.prog 12 #[.pointer (some ⟨g, 0, none⟩), .pointer (some ⟨g', 0, none⟩), bactV d i a tt (.slice kb km kc) false] w fun e w' => e = .returned (.bool true) ∧ Pl W w' g g' N (z + 1) := by
  have hs1 : s ≤ 1000 := by omega
  have HQ : Hid _ := hf.big (by omega)
  have HQ' : Hid _ := (hf.same hsm).big (by omega)
  have HSM : Hid (Same N D D') := hsm
  have HF : Hid (Few N D z) := hf
  have HS0 : Hid (s ≤ z) := hs
  clear hsm hf hs
  obtain ⟨M, hM1, hM2, hM3⟩ : ∃ M : Nat, (if (200 : Int) < (tt.size : Int) then (200 : Int) else (tt.size : Int)) = (M : Int) ∧ M ≤ tt.size ∧ min (tt.size : Int) 200 = (M : Int) := ⟨min tt.size 200, by split <;> omega, by omega, by omega⟩
  obtain ⟨t, ht⟩ : ∃ t, tt.extract 0 M = t := ⟨_, rfl⟩
  have hx0 : Hid (Two _ _ _ _ _ _ _ _ _ _ _ _) := Two.box h 34 #[.int .i64 d, .int .i64 i, .int .i64 a, .string t, .slice kb km kc, .bool false]
  have hx := hx0
  clear hx0
  obtain ⟨bx, hbxe⟩ : ∃ bx, w.heap.size = bx := ⟨_, rfl⟩
  rw [hbxe] at hx
  clear h
  go_enter Try.func12, Try.ntmps12
  go_wp2_with fail
  generalize w.alloc (.cells #[.int .i64 d, .int .i64 i, .int .i64 a, .string t, .slice kb km kc, .bool false] 34) = wb at hx ⊢
  have q1 := hx.out.blk.cell (i := 1) rfl
  have q5 := hx.out.blk.cell (i := 5) rfl
  go_quiet (fail)
  have hx2 : Hid (Two _ _ _ _ _ _ _ _ _ _ _ _) := Two.below ((firm_blk _ _ _).star firm_nought) hx.out (below_drewN' _ nq)
  clear hx
  go_wp2_with fail
  go_ret
  exact ⟨rfl, _, _, _, _, hx2.out.unbox, HSM.out, HF.out.more, by have := HS0.out; omega⟩
set_option maxRecDepth 20000 in
set_option maxHeartbeats 4000000 in
theorem bact_lowm7 {W w : World} {g g' N z : Nat} {D D' : Nat → Dk} {s : Nat} {p : Option Nat} (h : Two nought W w g g' N D D' s s p p) (hsm : Same N D D') (hf : Few N D z) (hs : s ≤ z) (hz : z ≤ 500) (d i a : Int) (tt : ByteArray) (htt : tt.size ≤ maxLen) (kb : Option Addr) (km kc : Nat) (hi : i < 0) (hd : d.tmod 8 = -7) :
    Calls Try.prog 12 #[.pointer (some ⟨g, 0, none⟩), .pointer (some ⟨g', 0, none⟩), bactV d i a tt (.slice kb km kc) true] w fun e w' => e = .returned (.bool true) ∧ Pl W w' g g' N (z + 1) := by
  have hi0' : decide (0 ≤ i) = false := decide_eq_false (by omega)
  clear hi
  have hs1 : s ≤ 1000 := by omega
  have HQ : Hid _ := hf.big (by omega)
  have HQ' : Hid _ := (hf.same hsm).big (by omega)
  have HSM : Hid (Same N D D') := hsm
  have HF : Hid (Few N D z) := hf
  have HS0 : Hid (s ≤ z) := hs
  clear hsm hf hs
  obtain ⟨M, hM1, hM2, hM3⟩ : ∃ M : Nat, (if (200 : Int) < (tt.size : Int) then (200 : Int) else (tt.size : Int)) = (M : Int) ∧ M ≤ tt.size ∧ min (tt.size : Int) 200 = (M : Int) := ⟨min tt.size 200, by split <;> omega, by omega, by omega⟩
  obtain ⟨t, ht⟩ : ∃ t, tt.extract 0 M = t := ⟨_, rfl⟩
  have hx0 : Hid (Two _ _ _ _ _ _ _ _ _ _ _ _) := Two.box h 34 #[.int .i64 d, .int .i64 i, .int .i64 a, .string t, .slice kb km kc, .bool true]
  have hx := hx0
  clear hx0
  obtain ⟨bx, hbxe⟩ : ∃ bx, w.heap.size = bx := ⟨_, rfl⟩
  rw [hbxe] at hx
  clear h
  go_enter Try.func12, Try.ntmps12
  go_wp2_with fail
  generalize w.alloc (.cells #[.int .i64 d, .int .i64 i, .int .i64 a, .string t, .slice kb km kc, .bool true] 34) = wb at hx ⊢
  have q1 := hx.out.blk.cell (i := 1) rfl
  have q5 := hx.out.blk.cell (i := 5) rfl
  go_quiet (fail)
  have hx2 : Hid (Two _ _ _ _ _ _ _ _ _ _ _ _) := Two.below ((firm_blk _ _ _).star firm_nought) hx.out (below_drewN' _ nq)
  clear hx
  go_wp2_with fail
  go_ret
  exact ⟨rfl, _, _, _, _, hx2.out.unbox, HSM.out, HF.out.more, by have := HS0.out; omega⟩
set_option maxRecDepth 20000 in
set_option maxHeartbeats 4000000 in
theorem bact_highm7 {W w : World} {g g' N z : Nat} {D D' : Nat → Dk} {s : Nat} {p : Option Nat} (h : Two nought W w g g' N D D' s s p p) (hsm : Same N D D') (hf : Few N D z) (hs : s ≤ z) (hz : z ≤ 500) (d i a : Int) (tt : ByteArray) (htt : tt.size ≤ maxLen) (kb : Option Addr) (km kc : Nat) (hi : ¬ i < 0) (hi2 : ¬ i < (N : Int)) (hd : d.tmod 8 = -7) :
    Calls Try.prog 12 #[.pointer (some ⟨g, 0, none⟩), .pointer (some ⟨g', 0, none⟩), bactV d i a tt (.slice kb km kc) true] w fun e w' => e = .returned (.bool true) ∧ Pl W w' g g' N (z + 1) := by
  have hi0' : decide (0 ≤ i) = true := decide_eq_true (by omega)
  have hi1' : decide (i < (N : Int)) = false := decide_eq_false hi2
  clear hi hi2
  have hs1 : s ≤ 1000 := by omega
  have HQ : Hid _ := hf.big (by omega)
  have HQ' : Hid _ := (hf.same hsm).big (by omega)
  have HSM : Hid (Same N D D') := hsm
  have HF : Hid (Few N D z) := hf
  have HS0 : Hid (s ≤ z) := hs
  clear hsm hf hs
  obtain ⟨M, hM1, hM2, hM3⟩ : ∃ M : Nat, (if (200 : Int) < (tt.size : Int) then (200 : Int) else (tt.size : Int)) = (M : Int) ∧ M ≤ tt.size ∧ min (tt.size : Int) 200 = (M : Int) := ⟨min tt.size 200, by split <;> omega, by omega, by omega⟩
  obtain ⟨t, ht⟩ : ∃ t, tt.extract 0 M = t := ⟨_, rfl⟩
  have hx0 : Hid (Two _ _ _ _ _ _ _ _ _ _ _ _) := Two.box h 34 #[.int .i64 d, .int .i64 i, .int .i64 a, .string t, .slice kb km kc, .bool true]
  have hx := hx0
  clear hx0
  obtain ⟨bx, hbxe⟩ : ∃ bx, w.heap.size = bx := ⟨_, rfl⟩
  rw [hbxe] at hx
  clear h
  go_enter Try.func12, Try.ntmps12
  go_wp2_with fail
  generalize w.alloc (.cells #[.int .i64 d, .int .i64 i, .int .i64 a, .string t, .slice kb km kc, .bool true] 34) = wb at hx ⊢
  have q1 := hx.out.blk.cell (i := 1) rfl
  have q5 := hx.out.blk.cell (i := 5) rfl
  obtain ⟨gd, cap, r0, -, -⟩ := hx.out.rtop
  go_quiet (fail)
  have hx2 : Hid (Two _ _ _ _ _ _ _ _ _ _ _ _) := Two.below ((firm_blk _ _ _).star firm_nought) hx.out (below_drewN' _ nq)
  clear hx
  go_wp2_with fail
  go_ret
  exact ⟨rfl, _, _, _, _, hx2.out.unbox, HSM.out, HF.out.more, by have := HS0.out; omega⟩
set_option maxRecDepth 20000 in
set_option maxHeartbeats 4000000 in
theorem bact_failm7 {W w : World} {g g' N z : Nat} {D D' : Nat → Dk} {s : Nat} {p : Option Nat} (h : Two nought W w g g' N D D' s s p p) (hsm : Same N D D') (hf : Few N D z) (hs : s ≤ z) (hz : z ≤ 500) (d a : Int) (tt : ByteArray) (htt : tt.size ≤ maxLen) (kb : Option Addr) (km kc : Nat) (k : Nat) (hk : k < N) (hd : d.tmod 8 = -7) :
    Calls Try.prog 12 #[.pointer (some ⟨g, 0, none⟩), .pointer (some ⟨g', 0, none⟩), bactV d (k : Int) a tt (.slice kb km kc) true] w fun e w' => e = .returned (.bool true) ∧ Pl W w' g g' N (z + 1) := by
  have hi0' : decide (0 ≤ (k : Int)) = true := decide_eq_true (by omega)
  have hi1' : decide ((k : Int) < (N : Int)) = true := decide_eq_true (by omega)
  have hkI : (k : Int) < (N : Int) := by omega
  have HK : Hid _ := hk
  have hs1 : s ≤ 1000 := by omega
  have HQ : Hid _ := hf.big (by omega)
  have HQ' : Hid _ := (hf.same hsm).big (by omega)
  have HSM : Hid (Same N D D') := hsm
  have HF : Hid (Few N D z) := hf
  have HS0 : Hid (s ≤ z) := hs
  clear hsm hf hs
  obtain ⟨M, hM1, hM2, hM3⟩ : ∃ M : Nat, (if (200 : Int) < (tt.size : Int) then (200 : Int) else (tt.size : Int)) = (M : Int) ∧ M ≤ tt.size ∧ min (tt.size : Int) 200 = (M : Int) := ⟨min tt.size 200, by split <;> omega, by omega, by omega⟩
  obtain ⟨t, ht⟩ : ∃ t, tt.extract 0 M = t := ⟨_, rfl⟩
  have hx0 : Hid (Two _ _ _ _ _ _ _ _ _ _ _ _) := Two.box h 34 #[.int .i64 d, .int .i64 (k : Int), .int .i64 a, .string t, .slice kb km kc, .bool true]
  have hx := hx0
  clear hx0
  obtain ⟨bx, hbxe⟩ : ∃ bx, w.heap.size = bx := ⟨_, rfl⟩
  rw [hbxe] at hx
  clear h
  go_enter Try.func12, Try.ntmps12
  go_wp2_with fail
  generalize w.alloc (.cells #[.int .i64 d, .int .i64 (k : Int), .int .i64 a, .string t, .slice kb km kc, .bool true] 34) = wb at hx ⊢
  have q1 := hx.out.blk.cell (i := 1) rfl
  have q5 := hx.out.blk.cell (i := 5) rfl
  obtain ⟨gd, cap, r0, -, -⟩ := hx.out.rtop
  go_quiet (fail)
  have hx2 : Hid (Two _ _ _ _ _ _ _ _ _ _ _ _) := Two.below ((firm_blk _ _ _).star firm_nought) hx.out (below_drewN' _ nq)
  clear hx q1 q5 r0
  generalize wb.drewN nq = wc at hx2 ⊢
  have q1 := hx2.out.blk.cell (i := 1) rfl
  have hd1 := t_disk hx2.out k HK.out
  have hf1 := t_fail ((firm_blk _ _ _).star firm_nought) hx2.out k HK.out
  go_wp2_with (first
    | (go_at_call 14; refine hd1.mono ?_; rintro e w1 ⟨rfl, hw'⟩; rw [hw']; clear hw' w1 hd1)
    | (go_at_call 34; refine hf1.mono ?_; rintro e w2 ⟨rfl, h2⟩; clear hx2 hf1 q1; have h2 : Hid (Two _ _ _ _ _ _ _ _ _ _ _ _) := h2))
  have h3 : Hid (Two _ _ _ _ _ _ _ _ _ _ _ _) := Two.below ((firm_blk _ _ _).star firm_nought) h2.out (Below.refl _ _).drew
  clear h2
  have q1 := h3.out.blk.cell (i := 1) rfl
  obtain ⟨gd2, cap2, r0, -, rp⟩ := h3.out.rtop
  have r1 := rp k HK.out
  clear rp
  have hf2 := t_rfail ((firm_blk _ _ _).star firm_nought) h3.out k HK.out
  go_region_with (go_at_call 35; refine hf2.mono ?_; rintro e w4 ⟨rfl, h4⟩; clear h3 hf2; have h4 : Hid (Two _ _ _ _ _ _ _ _ _ _ _ _) := h4)
  all_goals
    go_wp2_with fail
    go_ret
    exact ⟨rfl, _, _, _, _, h4.out.unbox, HSM.out.upd k (HSM.out k HK.out).fail, HF.out.upd k _ (Nat.zero_le _), by have := HS0.out; omega⟩
end Go.Proofs.Ytfepmafjkgjmmaa
/- One act, whichever: both banks answer the same. Images of both, and how many writes wait. -/
namespace Go.Proofs.Ytfepmafjkgjmmaa
open Go.RowKit Go.PlainAid
set_option linter.unusedVariables false

theorem btmod8 (d : Int) : d.tmod 8 = 0 ∨ d.tmod 8 = 1 ∨ d.tmod 8 = -1 ∨ d.tmod 8 = 2 ∨ d.tmod 8 = -2 ∨ d.tmod 8 = 3 ∨ d.tmod 8 = -3 ∨ d.tmod 8 = 4 ∨ d.tmod 8 = -4 ∨ d.tmod 8 = 5 ∨ d.tmod 8 = -5 ∨ d.tmod 8 = 6 ∨ d.tmod 8 = -6 ∨ d.tmod 8 = 7 ∨ d.tmod 8 = -7 := by
  have h1 := Int.tmod_lt_of_pos d (b := 8) (by omega)
  have h2 := Int.lt_tmod_of_pos d (b := 8) (by omega)
  omega
theorem bact_any {W w : World} {g g' N z : Nat} (h : Pl W w g g' N z) (hz : z ≤ 500) (A : BAct) (hA : BActOk W A) :
    Calls Try.prog 12 #[.pointer (some ⟨g, 0, none⟩), .pointer (some ⟨g', 0, none⟩), bactV A.d A.i A.a A.s (.slice A.kb A.km A.kc) A.x] w fun e w' => e = .returned (.bool true) ∧ Pl W w' g g' N (z + 1) := by
  obtain ⟨D, D', s, p, h, hsm, hf, hs⟩ := h
  obtain ⟨d, i, a, t, x, kb, km, kc, L⟩ := A
  obtain ⟨hL, hd1, hi1, ha1, ht⟩ := hA
  have fl : ∀ r : Int, (r = 7 ∨ r = -7) → d.tmod 8 = r → Calls Try.prog 12 #[.pointer (some ⟨g, 0, none⟩), .pointer (some ⟨g', 0, none⟩), bactV d i a t (.slice kb km kc) x] w fun e w' => e = .returned (.bool true) ∧ Pl W w' g g' N (z + 1) := by
    rintro r (rfl | rfl) hd
    · cases x
      · exact bact_stay7 h hsm hf hs hz d i a t ht kb km kc hd
      · by_cases h0 : i < 0
        · exact bact_low7 h hsm hf hs hz d i a t ht kb km kc h0 hd
        · by_cases h1 : i < (N : Int)
          · obtain ⟨k, rfl⟩ : ∃ k : Nat, i = (k : Int) := ⟨i.toNat, by omega⟩
            exact bact_fail7 h hsm hf hs hz d a t ht kb km kc k (by omega) hd
          · exact bact_high7 h hsm hf hs hz d i a t ht kb km kc h0 h1 hd
    · cases x
      · exact bact_staym7 h hsm hf hs hz d i a t ht kb km kc hd
      · by_cases h0 : i < 0
        · exact bact_lowm7 h hsm hf hs hz d i a t ht kb km kc h0 hd
        · by_cases h1 : i < (N : Int)
          · obtain ⟨k, rfl⟩ : ∃ k : Nat, i = (k : Int) := ⟨i.toNat, by omega⟩
            exact bact_failm7 h hsm hf hs hz d a t ht kb km kc k (by omega) hd
          · exact bact_highm7 h hsm hf hs hz d i a t ht kb km kc h0 h1 hd
  rcases btmod8 d with hd | hd | hd | hd | hd | hd | hd | hd | hd | hd | hd | hd | hd | hd | hd
  · exact bact_write0 h hsm hf hs hz d i a t ht kb km kc x hd
  · exact bact_write1 h hsm hf hs hz d i a t ht kb km kc x hd
  · exact bact_writem1 h hsm hf hs hz d i a t ht kb km kc x hd
  · exact bact_read2 h hsm hf hs hz d i a t ht kb km kc x hd
  · exact bact_readm2 h hsm hf hs hz d i a t ht kb km kc x hd
  · exact bact_flush3 h hsm hf hs hz d i a t ht kb km kc x hd
  · exact bact_flushm3 h hsm hf hs hz d i a t ht kb km kc x hd
  · exact bact_spend4 h hsm hf hs hz d i a t ht kb km kc x hd
  · exact bact_spendm4 h hsm hf hs hz d i a t ht kb km kc x hd
  · exact bact_cut5 h hsm hf hs hz d i a t ht kb km kc x ha1.2 hd
  · exact bact_cutm5 h hsm hf hs hz d i a t ht kb km kc x ha1.2 hd
  · exact bact_crash6 h hsm hf hs hz d i a t ht kb km kc x L hL hd
  · exact bact_crashm6 h hsm hf hs hz d i a t ht kb km kc x L hL hd
  · exact fl 7 (.inl rfl) hd
  · exact fl (-7) (.inr rfl) hd
/-- New banks, both. -/
theorem pl_new {W w1 w2 : World} {g g' N : Nat} {c : Int} {D D' : Nat → Dk} (hD : ∀ i, i < N → Fresh (D i) c) (hD' : ∀ i, i < N → Fresh (D' i) c) (h : Hold W.heap.size W w2 (star (rbk g' N D' 0 none) (star (bnk g N D 0 none) nought))) : Pl W w2 g g' N 0 := by
  refine ⟨D, D', 0, none, h.swap, fun i hi => ?_, fun i hi => by rw [(hD i hi).2.2.1]; exact Nat.le_refl _, Nat.le_refl _⟩
  obtain ⟨a1, a2, a3, a4⟩ := hD i hi
  obtain ⟨b1, b2, b3, b4⟩ := hD' i hi
  exact ⟨by rw [a1, b1], by rw [a3, b3], by rw [a4, b4], fun _ j _ => by rw [a2, b2]⟩
section
variable {R : Asn} {W w : World} {g g' N : Nat} {D D' : Nat → Dk} {s s' : Nat} {p p' : Option Nat}
theorem Pl.low {z : Nat} (h : Pl W w g g' N z) : Below W.heap.size W w := by obtain ⟨D, D', s, p, h, _⟩ := h; exact h.low
theorem Pl.below {z : Nat} {w' : World} (h : Pl W w g g' N z) (hb : Below w.heap.size w w') : Pl W w' g g' N z := by
  obtain ⟨D, D', s, p, h, h1⟩ := h
  exact ⟨D, D', s, p, h.below firm_nought hb, h1⟩
theorem Two.dsk (h : Two R W w g g' N D D' s s' p p') (k : Nat) (hk : k < N) : ∃ F, DiskAt w F (D k).g (D k).n (D k).l (D k).q (D k).dead := (Hold.openD h k hk).dsk
theorem Two.rf (h : Two R W w g g' N D D' s s' p p') (k : Nat) (hk : k < N) : ∃ F, RefAt w F (D' k).g (D' k).n (D' k).l (D' k).q (D' k).dead := ((Hold.swap h).openR k hk).rf
theorem t_waiting (h : Two R W w g g' N D D' s s' p p') (k : Nat) (hk : k < N) : Calls Try.prog 17 #[.pointer (some ⟨(D k).g, 0, none⟩)] w fun e w' => e = .returned (.int .i64 ((D k).q.length : Int)) ∧ w' = w := by
  obtain ⟨F, hF⟩ := h.dsk k hk
  exact waiting_any hF
theorem t_row (h : Two R W w g g' N D D' s s' p p') (k : Nat) (hk : k < N) : ∃ a c, w.cell? ⟨(D' k).g, 1, none⟩ = some (.slice a (D' k).q.length c) := by
  obtain ⟨F, gc, v, hF⟩ := h.rf k hk
  obtain ⟨a, c, hv⟩ := hF.row.form
  exact ⟨a, c, by rw [← hv]; exact hF.top.cell (i := 1) rfl⟩
/-- Both images have the same texts. -/
theorem t_image (h : Two R W w g g' N D D' s s' p p') (k : Nat) (hk : k < N) : ∃ n f, Hid (n ≤ 512) ∧ (Calls Try.prog 15 #[.pointer (some ⟨(D k).g, 0, none⟩)] w fun e w' => ∃ b c, e = .returned (.slice b n c) ∧ TextsAt w' (.slice b n c) n f ∧ Below w.heap.size w w') ∧ (Same N D D' → Few N D' 1000 → ∀ w1, Below w.heap.size w w1 → Firm R → Calls Try.prog 16 #[.pointer (some ⟨(D' k).g, 0, none⟩)] w1 fun e w' => ∃ b c, e = .returned (.slice b n c) ∧ TextsAt w' (.slice b n c) n f ∧ Below w1.heap.size w1 w') := by
  obtain ⟨F, hF⟩ := h.dsk k hk
  have hsz := hF.size
  cases hd : (D k).dead
  · rw [hd] at hF
    refine ⟨(D k).n, app (D k).l (D k).q, hsz.2, ?_, ?_⟩
    · refine (image_any hF).mono ?_
      rintro e w' ⟨he, hb, hw⟩
      exact ⟨_, _, he, texts_blk hb, hw⟩
    · intro hs hf w1 hb hR
      obtain ⟨F', hF'⟩ := (Two.below hR h hb).rf k hk
      obtain ⟨s1, s2, s3, s4⟩ := hs k hk
      rw [← s3, hd] at hF'
      refine (refImage_any hF' (by have := hf k hk; omega)).mono ?_
      rintro e w' ⟨b, c, he, ht, hw⟩
      rw [← s1, ← s2] at ht
      rw [← s1] at he
      exact ⟨b, c, he, ht.congr (fun i hi => app_congr _ _ _ _ (fun i hi => (s4 hd i hi).symm) i hi), hw⟩
  · rw [hd] at hF
    refine ⟨0, fun _ => noB, Nat.zero_le _, ?_, ?_⟩
    · refine (image_dead hF).mono ?_
      rintro e w' ⟨he, rfl⟩
      exact ⟨_, _, he, texts_none _ _, Below.refl _ _⟩
    · intro hs hf w1 hb hR
      obtain ⟨F', hF'⟩ := (Two.below hR h hb).rf k hk
      rw [← (hs k hk).2.2.1, hd] at hF'
      refine (refImage_dead hF').mono ?_
      rintro e w' ⟨he, rfl⟩
      exact ⟨_, _, he, texts_none _ _, Below.refl _ _⟩
theorem texts_cell {w : World} {b : Option Addr} {n c : Nat} {f : Nat → ByteArray} (h : TextsAt w (.slice b n c) n f) (i : Nat) (hi : i < n) : ∃ gb o, b = some ⟨gb, o, none⟩ ∧ w.cell? ⟨gb, o + i, none⟩ = some (.string (f i)) := by
  obtain ⟨a, cap, e, h0, h1⟩ := h
  cases e
  rcases h1 with h1 | ⟨gb, o, rfl, hl, hc⟩
  · omega
  · exact ⟨gb, o, rfl, hc i hi⟩
end
end Go.Proofs.Ytfepmafjkgjmmaa
/- The law BankPlays, walked. -/
namespace Go.Proofs.Ytfepmafjkgjmmaa
open Go.RowKit Go.PlainAid
set_option linter.unusedVariables false

section
variable {P : Program} {ops : Array Oper} {Q : Exit → Act → World → Prop} {md : Region.Mode} {S S' : World → Prop} {c : Nat}
/-- Behind c nothing is asked of the world any more. -/
theorem wpAnyH_toC : ∀ (fuel : Nat) (L : Array Bool) (a : Act) (w : World), L.getD c true = true → wpAnyH P md ops Q S' fuel L a w → wpAnyC P md ops Q S c fuel L a w
  | 0, _, _, _, _, h => h
  | fuel + 1, L, _, _, hc, h => ⟨h.1, fun i hi => wpOp_mono (fun a' w' h' => by
      have hc' : (L.setIfInBounds i true).getD c true = true := by
        rcases Nat.decEq i c with hne | rfl
        · rw [getD_set_ne true hne]; exact hc
        · rw [Array.getD_eq_getD_getElem?, Array.getElem?_setIfInBounds]
          simp only [if_true]
          split <;> rfl
      exact ⟨fun e => (by rw [hc'] at e; cases e), wpAnyH_toC fuel _ a' w' hc' h'.2⟩) (h.2 i hi)⟩
end
set_option maxRecDepth 20000 in
set_option maxHeartbeats 8000000 in
theorem bankPlays_law (dd c : Int) (s : Option Addr) (len cap : Nat) (W : World) (hs : BActsArg W s len cap) : Calls Try.prog 3 #[.int .i64 dd, .int .i64 c, .slice s len cap] W fun e w' => e = .returned (.bool true) ∧ Below W.heap.size W w' := by
  have hl1 := hs.1
  have hl2 := hs.2.1
  have HS : Hid (BActsArg W s len cap) := hs
  have hnew := bnew_any firm_nought (hold_nought W.heap.size W W (Nat.le_refl _) (Below.refl _ _)) dd c
  obtain ⟨N, hNN⟩ : ∃ N, newB dd = N := ⟨_, rfl⟩
  have hN := newB_low dd
  rw [hNN] at hnew hN
  have HNN : Hid _ := hNN
  clear hs hNN
  obtain ⟨C, hC1, hC2, hC3⟩ : ∃ C : Nat, (if (60 : Int) < (len : Int) then (60 : Int) else (len : Int)) = (C : Int) ∧ C ≤ 60 ∧ C ≤ len := ⟨min len 60, by split <;> omega, by omega, by omega⟩
  have hC4 : C ≤ cap := by omega
  go_enter Try.func3, Try.ntmps3
  go_wp2_with (first
    | (go_at_call 8; refine hnew.mono ?_; rintro e w1 ⟨g, rfl, D, hD, h1⟩; clear hnew; have HD : Hid _ := hD; clear hD; have hrn := rnew_any ((firm_bnk _ _ _ _ _).star firm_nought) h1 dd c; rw [HNN.out] at hrn; clear h1)
    | (go_at_call 9; refine hrn.mono ?_; rintro e w2 ⟨g', rfl, D', hD', h2⟩; clear hrn; have hx : Hid (Pl _ _ _ _ _ _) := pl_new (w1 := w2) HD.out hD' h2; clear h2 hD' HD))
  have hx2 : Hid (Pl _ _ _ _ _ _) := hx.out.below (Below.refl _ _).drew
  clear hx
  refine wp_region_noPanic ?_
  refine wp_region_held_drew (S := fun _ => True) (by kernel_rfl) trivial (fun hHeld => ?_)
  refine wpAnyH_ready (rs := [0]) (by kernel_rfl) (by simp) (AllReadyH.cons rfl (fun K hK => ?_) AllReadyH.nil)
  go_simp
  go_at_call 10
  refine (bwakes_any _).mono ?_
  rintro e wz ⟨rfl, hbz⟩
  have hx : Hid (Pl _ _ _ _ _ _) := hx2.out.below hbz
  clear hx2 hbz
  refine hK.out _ _ trivial (fun hHeld => ?_)
  clear hK K
  obtain ⟨D1, D1', s1, p1, ht1, -, -, -⟩ := hx.out
  obtain ⟨gdq, capq, r0, -, -⟩ := ht1.rtop
  have hsi := t_size ht1
  have HC : Hid (wz.cell? ⟨g', 0, none⟩ = some (.slice (some ⟨gdq, 0, none⟩) N capq)) := r0
  clear r0 ht1
  refine wpAnyH_weaken (S' := fun z : World => z.cell? ⟨g', 0, none⟩ = some (.slice (some ⟨gdq, 0, none⟩) N capq)) (fun _ _ => trivial) _ _ _ _ ?_
  have hHeld := HC.out
  refine wpAnyH_take (i := 1) (v := ?_) rfl (by kernel_rfl) (by kernel_rfl) (by kernel_rfl) (fun _ _ _ h => h) (Or.inl ⟨by rfl, ?_⟩) (by assumption) ?_
  rotate_left
  · intro w hSw; go_simp; try with_reducible rfl
  go_simp
  refine wpAnyH_take (i := 2) (v := ?_) rfl (by kernel_rfl) (by kernel_rfl) (by kernel_rfl) (fun _ _ _ h => h) (Or.inl ⟨by rfl, ?_⟩) (by assumption) ?_
  rotate_left
  · intro w hSw; go_simp; try with_reducible rfl
  go_simp
  refine wpAnyH_take (i := 3) (v := ?_) rfl (by kernel_rfl) (by kernel_rfl) (by kernel_rfl) (fun _ _ _ h => h) (Or.inl ⟨by rfl, ?_⟩) (by assumption) ?_
  rotate_left
  · intro w hSw; go_simp; try with_reducible rfl
  go_simp
  refine wpAnyH_take (i := 5) (v := ?_) rfl (by kernel_rfl) (by kernel_rfl) (by kernel_rfl) (fun _ _ _ h => h) (Or.inl ⟨by rfl, ?_⟩) (by assumption) ?_
  rotate_left
  · intro w hSw; go_simp; try with_reducible rfl
  go_simp
  refine wpAnyH_take (i := 6) (v := ?_) rfl (by kernel_rfl) (by kernel_rfl) (by kernel_rfl) (fun _ _ _ h => h) (Or.inl ⟨by rfl, ?_⟩) (by assumption) ?_
  rotate_left
  · intro w hSw; go_simp; try with_reducible rfl
  go_simp
  refine wpAnyH_take (i := 7) (v := ?_) rfl (by kernel_rfl) (by kernel_rfl) (by kernel_rfl) (fun _ _ _ h => h) (Or.inl ⟨by rfl, ?_⟩) (by assumption) ?_
  rotate_left
  · intro w hSw; go_simp; try with_reducible rfl
  go_simp
  refine wpAnyH_take (i := 8) (v := ?_) rfl (by kernel_rfl) (by kernel_rfl) (by kernel_rfl) (fun _ _ _ h => h) (Or.inl ⟨by rfl, ?_⟩) (by assumption) ?_
  rotate_left
  · intro w hSw; go_simp; try with_reducible rfl
  go_simp
  refine wpAnyH_take (i := 9) (v := ?_) rfl (by kernel_rfl) (by kernel_rfl) (by kernel_rfl) (fun _ _ _ h => h) (Or.inl ⟨by rfl, ?_⟩) (by assumption) ?_
  rotate_left
  · intro w hSw; go_simp; try with_reducible rfl
  go_simp
  refine wpAnyH_ready (rs := [4]) (by kernel_rfl) (by simp) (AllReadyH.cons rfl (fun K hK => ?_) AllReadyH.nil)
  go_simp
  go_at_call 11
  refine hsi.mono ?_
  rintro e wy ⟨rfl, hw'⟩
  rw [hw']
  clear hw' wy
  refine hK.out _ _ HC.out (fun hHeld => ?_)
  clear hK K
  refine wpAnyH_take (i := 10) (v := ?_) rfl (by kernel_rfl) (by kernel_rfl) (by kernel_rfl) (fun _ _ _ h => h) (Or.inl ⟨by rfl, ?_⟩) (by assumption) ?_
  rotate_left
  · intro w hSw; go_simp; try with_reducible rfl
  go_simp
  refine wpAnyH_take (i := 11) (v := ?_) rfl (by kernel_rfl) (by kernel_rfl) (by kernel_rfl) (fun _ _ _ h => h) (Or.inl ⟨by rfl, ?_⟩) (by assumption) ?_
  rotate_left
  · intro w hSw; go_simp; try with_reducible rfl
  go_simp
  refine wpAnyH_done (by kernel_rfl) ?_ _
  refine NoPanic.normal ?_
  clear hsi hHeld HC
  go_wp2_with fail
  clear hC1
  go_loopw [40] (fun i wr => ∃ j : Nat, j ≤ C ∧ i = .int .i64 (j : Int) ∧ Hid (Pl W wr g g' N j)) (fun i _ => C - (intOf i).toNat)
  case atStart => exact ⟨0, Nat.zero_le _, rfl, hx.out⟩
  case round =>
    clear hx
    obtain ⟨j, hj, rfl, hrr⟩ := hrel
    by_cases hlt : j < C
    · have hj' : (j : Int) < (C : Int) := by omega
      obtain ⟨sb, so, A, hsa, hA, c0, c1, c2, c3, c4, c5⟩ := bacts_at HS.out hrr.out.low j (by omega)
      subst hsa
      have hact : Hid (∀ w, Pl W w g g' N j → _) := fun w h => bact_any h (by omega) A hA
      obtain ⟨d, i, a, t, x, kb, km, kc, L⟩ := A
      have hp1 : Hid (Pl _ _ _ _ _ _) := hrr.out.below ((Below.refl _ _).alloc (Nat.le_refl _) (.cells #[.int .i64 d, .int .i64 i, .int .i64 a, .string t, .slice kb km kc, .bool x] 34))
      have hbx := Blk.new wr 34 #[.int .i64 d, .int .i64 i, .int .i64 a, .string t, .slice kb km kc, .bool x]
      have hp2 : Hid (Pl _ _ _ _ _ _) := hp1.out.below (Below.refl _ _).drew
      have hS0 : (fun z : World => z.cell? ⟨wr.heap.size, 0, none⟩ = some (.int .i64 d) ∧ z.cell? ⟨wr.heap.size, 1, none⟩ = some (.int .i64 i) ∧ z.cell? ⟨wr.heap.size, 2, none⟩ = some (.int .i64 a) ∧ z.cell? ⟨wr.heap.size, 3, none⟩ = some (.string t) ∧ z.cell? ⟨wr.heap.size, 4, none⟩ = some (.slice kb km kc) ∧ z.cell? ⟨wr.heap.size, 5, none⟩ = some (.bool x)) (wr.alloc (.cells #[.int .i64 d, .int .i64 i, .int .i64 a, .string t, .slice kb km kc, .bool x] 34)).drew := ⟨hbx.drew.cell rfl, hbx.drew.cell rfl, hbx.drew.cell rfl, hbx.drew.cell rfl, hbx.drew.cell rfl, hbx.drew.cell rfl⟩
      obtain ⟨bx, hbxe⟩ : ∃ bx, wr.heap.size = bx := ⟨_, rfl⟩
      clear hrr hp1 hbx hA
      go_wp2_with fail
      rw [hbxe] at hS0
      clear c0 c1 c2 c3 c4 c5
      refine wp_region_noPanic ?_
      refine wp_region_C (c := 3) (S := fun z : World => z.cell? ⟨bx, 0, none⟩ = some (.int .i64 d) ∧ z.cell? ⟨bx, 1, none⟩ = some (.int .i64 i) ∧ z.cell? ⟨bx, 2, none⟩ = some (.int .i64 a) ∧ z.cell? ⟨bx, 3, none⟩ = some (.string t) ∧ z.cell? ⟨bx, 4, none⟩ = some (.slice kb km kc) ∧ z.cell? ⟨bx, 5, none⟩ = some (.bool x)) (by kernel_rfl) ?_
      generalize (wr.alloc (.cells #[.int .i64 d, .int .i64 i, .int .i64 a, .string t, .slice kb km kc, .bool x] 34)).drew = wd at hS0 hp2 ⊢
      refine wpAnyC_take (i := 0) (v := ?_) rfl (by kernel_rfl) (by kernel_rfl) (by kernel_rfl) (by kernel_rfl) (fun _ _ _ h => h) (Or.inl ⟨by rfl, ?_⟩) hS0 ?_
      rotate_left
      · intro z hSw; go_simp; try with_reducible rfl
      go_simp
      refine wpAnyC_take (i := 1) (v := ?_) rfl (by kernel_rfl) (by kernel_rfl) (by kernel_rfl) (by kernel_rfl) (fun _ _ _ h => h) (Or.inl ⟨by rfl, ?_⟩) hS0 ?_
      rotate_left
      · intro z hSw; go_simp; try with_reducible rfl
      go_simp
      refine wpAnyC_take (i := 2) (v := ?_) rfl (by kernel_rfl) (by kernel_rfl) (by kernel_rfl) (by kernel_rfl) (fun _ _ _ h => h) (Or.inl ⟨by rfl, ?_⟩) hS0 ?_
      rotate_left
      · intro z hSw; go_simp; try with_reducible rfl
      go_simp
      have hac := hact.out wd hp2.out
      clear hact hp2 hS0
      refine wpAnyC_one (i := 3) (by kernel_rfl) rfl (fun K hK => ?_)
      go_simp
      go_at_call 12
      refine hac.mono ?_
      rintro e wz ⟨rfl, hpz⟩
      clear hac
      have hpz : Hid (Pl _ _ _ _ _ _) := hpz
      refine hK.out _ _ (fun h => absurd h (by decide)) ?_
      clear hK K
      obtain ⟨D2, D2', s2, p2, ht2, -, -, -⟩ := hpz.out
      obtain ⟨gdq2, capq2, -, r1, -⟩ := ht2.rtop
      have hst := t_steps ht2
      have HC : Hid (wz.cell? ⟨g', 1, none⟩ = some (.int .i64 (s2 : Int))) := r1
      clear r1 ht2
      refine wpAnyH_toC (S' := fun z : World => z.cell? ⟨g', 1, none⟩ = some (.int .i64 (s2 : Int))) _ _ _ _ (by kernel_rfl) ?_
      have hHeld := HC.out
      refine wpAnyH_take (i := 4) (v := ?_) rfl (by kernel_rfl) (by kernel_rfl) (by kernel_rfl) (fun _ _ _ h => h) (Or.inl ⟨by rfl, ?_⟩) (by assumption) ?_
      rotate_left
      · intro w hSw; go_simp; try with_reducible rfl
      go_simp
      refine wpAnyH_take (i := 5) (v := ?_) rfl (by kernel_rfl) (by kernel_rfl) (by kernel_rfl) (fun _ _ _ h => h) (Or.inl ⟨by rfl, ?_⟩) (by assumption) ?_
      rotate_left
      · intro w hSw; go_simp; try with_reducible rfl
      go_simp
      refine wpAnyH_take (i := 6) (v := ?_) rfl (by kernel_rfl) (by kernel_rfl) (by kernel_rfl) (fun _ _ _ h => h) (Or.inl ⟨by rfl, ?_⟩) (by assumption) ?_
      rotate_left
      · intro w hSw; go_simp; try with_reducible rfl
      go_simp
      refine wpAnyH_take (i := 8) (v := ?_) rfl (by kernel_rfl) (by kernel_rfl) (by kernel_rfl) (fun _ _ _ h => h) (Or.inl ⟨by rfl, ?_⟩) (by assumption) ?_
      rotate_left
      · intro w hSw; go_simp; try with_reducible rfl
      go_simp
      refine wpAnyH_take (i := 9) (v := ?_) rfl (by kernel_rfl) (by kernel_rfl) (by kernel_rfl) (fun _ _ _ h => h) (Or.inl ⟨by rfl, ?_⟩) (by assumption) ?_
      rotate_left
      · intro w hSw; go_simp; try with_reducible rfl
      go_simp
      refine wpAnyH_take (i := 10) (v := ?_) rfl (by kernel_rfl) (by kernel_rfl) (by kernel_rfl) (fun _ _ _ h => h) (Or.inl ⟨by rfl, ?_⟩) (by assumption) ?_
      rotate_left
      · intro w hSw; go_simp; try with_reducible rfl
      go_simp
      refine wpAnyH_take (i := 11) (v := ?_) rfl (by kernel_rfl) (by kernel_rfl) (by kernel_rfl) (fun _ _ _ h => h) (Or.inl ⟨by rfl, ?_⟩) (by assumption) ?_
      rotate_left
      · intro w hSw; go_simp; try with_reducible rfl
      go_simp
      refine wpAnyH_ready (rs := [7]) (by kernel_rfl) (by simp) (AllReadyH.cons rfl (fun K hK => ?_) AllReadyH.nil)
      go_simp
      go_at_call 13
      refine hst.mono ?_
      rintro e wy ⟨rfl, hw'⟩
      rw [hw']
      clear hw' wy
      refine hK.out _ _ HC.out (fun hHeld => ?_)
      clear hK K
      refine wpAnyH_take (i := 12) (v := ?_) rfl (by kernel_rfl) (by kernel_rfl) (by kernel_rfl) (fun _ _ _ h => h) (Or.inl ⟨by rfl, ?_⟩) (by assumption) ?_
      rotate_left
      · intro w hSw; go_simp; try with_reducible rfl
      go_simp
      refine wpAnyH_take (i := 13) (v := ?_) rfl (by kernel_rfl) (by kernel_rfl) (by kernel_rfl) (fun _ _ _ h => h) (Or.inl ⟨by rfl, ?_⟩) (by assumption) ?_
      rotate_left
      · intro w hSw; go_simp; try with_reducible rfl
      go_simp
      refine wpAnyH_done (by kernel_rfl) ?_ _
      refine NoPanic.normal ?_
      clear hst hHeld HC
      go_wp2_with fail
      go_roundw
      case rel => exact ⟨j + 1, by omega, by go_num, hpz.out⟩
      case measure => simp [intOf]; omega
    · have hj' : ¬ (j : Int) < (C : Int) := by omega
      obtain rfl : j = C := by omega
      obtain ⟨ws, hws⟩ : ∃ ws, ws = wr := ⟨_, rfl⟩
      subst hws
      obtain ⟨D, D', s1, p1, ht, hsm, hf, -⟩ := hrr.out
      obtain ⟨gd, capd, r0, -, rp⟩ := ht.rtop
      have HT : Hid (Two _ _ _ _ _ _ _ _ _ _ _ _) := ht
      have HSM : Hid (Same N D D') := hsm
      have HF : Hid (Few N D' 1000) := fun i hi => by have := (hf.same hsm) i hi; omega
      have HP : Hid (∀ z, Below ws.heap.size ws z → ∀ i, i < N → z.cell? ⟨gd, i, none⟩ = some (.pointer (some ⟨(D' i).g, 0, none⟩))) := fun z hz i hi => by
        have h1 := rp i hi
        exact (hz.cell (p := ⟨gd, i, none⟩) (cell_blk_lt h1)).trans h1
      clear ht hsm hf rp hrr
      go_wp2_with fail
      clear r0
      go_loopw [64] (fun i wq => ∃ k : Nat, k ≤ N ∧ i = .int .i64 (k : Int) ∧ Hid (Below ws.heap.size ws wq)) (fun i _ => N - (intOf i).toNat)
      case atStart => exact ⟨0, Nat.zero_le _, rfl, Below.refl _ _⟩
      case round =>
        obtain ⟨wq, hwq⟩ : ∃ wq, wq = wr := ⟨_, rfl⟩
        subst hwq
        obtain ⟨k, hk, rfl, hbq⟩ := hrel
        by_cases hkN : k < N
        · have hk' : (k : Int) < (N : Int) := by omega
          have HK : Hid (k < N) := hkN
          have cp := HP.out wq hbq.out k hkN
          have htq : Hid (Two _ _ _ _ _ _ _ _ _ _ _ _) := HT.out.below firm_nought hbq.out
          obtain ⟨n, f, hn, him, hri⟩ := t_image htq.out k hkN
          have hri : Hid _ := hri HSM.out HF.out
          have hdk := t_disk htq.out k hkN
          go_wp2_with (first
            | (go_at_call 14; refine hdk.mono ?_; rintro e w3 ⟨rfl, hw'⟩; rw [hw']; clear hw' w3 hdk)
            | (go_at_call 15; refine him.mono ?_; rintro e w4 ⟨b1, cc1, rfl, hx1, hb4⟩; clear him; have hx1 : Hid (TextsAt _ _ _ _) := hx1; have hb4 : Hid (Below _ _ _) := hb4; have hr2 := hri.out w4 hb4.out firm_nought; clear hri)
            | (go_at_call 16; refine hr2.mono ?_; rintro e w5 ⟨b2, cc2, rfl, hx2, hb5⟩; clear hr2; have hx2 : Hid (TextsAt _ _ _ _) := hx2; have hb5 : Hid (Below _ _ _) := hb5))
          have h51 : Hid (TextsAt w5 (.slice b1 n cc1) n f) := hx1.out.below hb5.out
          have ht5 : Hid (Two _ _ _ _ _ _ _ _ _ _ _ _) := (htq.out.below firm_nought hb4.out).below firm_nought hb5.out
          have hbq5 : Hid (Below ws.heap.size ws w5) := (hbq.out.trans (hb4.out.mono hbq.out.size)).trans (hb5.out.mono (Nat.le_trans hbq.out.size hb4.out.size))
          clear hx1 hb4 hb5 htq hbq cp
          have hd5 : ∀ nn, Calls Try.prog 14 #[.pointer (some ⟨g, 0, none⟩), .int .i64 (k : Int)] (w5.drewN nn) fun e w' => e = .returned (.pointer (some ⟨(D k).g, 0, none⟩)) ∧ w' = w5.drewN nn := fun nn => t_disk (ht5.out.below firm_nought (below_drewN' w5 nn)) k HK.out
          have hw5 : ∀ nn, Calls Try.prog 17 #[.pointer (some ⟨(D k).g, 0, none⟩)] (w5.drewN nn) fun e w' => e = .returned (.int .i64 ((D k).q.length : Int)) ∧ w' = w5.drewN nn := fun nn => t_waiting (ht5.out.below firm_nought (below_drewN' w5 nn)) k HK.out
          obtain ⟨ra, rc, cw⟩ := t_row ht5.out k HK.out
          rw [← (HSM.out k HK.out).2.1] at cw
          obtain ⟨ql, hql⟩ : ∃ ql, (D k).q.length = ql := ⟨_, rfl⟩
          rw [hql] at cw hw5
          have hg1 : decide ((n : Int) = (n : Int)) = true := decide_eq_true rfl
          clear hql
          go_quiet (first | (go_at_call 14; exact Calls.quiet_of_same (hd5 _)) | (go_at_call 17; exact Calls.quiet_of_same (hw5 _)))
          have h61 : Hid (TextsAt _ _ _ _) := h51.out.below (below_drewN' w5 nq)
          have h62 : Hid (TextsAt _ _ _ _) := hx2.out.below (below_drewN' w5 nq)
          have hbq6 : Hid (Below ws.heap.size ws (w5.drewN nq)) := hbq5.out.trans ((below_drewN' w5 nq).mono hbq5.out.size)
          clear hd5 hw5 cw h51 hx2 hbq5 ht5
          generalize w5.drewN nq = w6 at h61 h62 hbq6 ⊢
          go_wp2_with fail
          go_loopw [94] (fun i wy => ∃ m : Nat, m ≤ n ∧ i = .int .i64 (m : Int) ∧ Hid (Below w6.heap.size w6 wy)) (fun i _ => n - (intOf i).toNat)
          case atStart => exact ⟨0, Nat.zero_le _, rfl, Below.refl _ _⟩
          case round =>
            obtain ⟨wy, hwy⟩ : ∃ wy, wy = wr := ⟨_, rfl⟩
            subst hwy
            obtain ⟨m, hm, rfl, hby⟩ := hrel
            have hn' := hn.out
            by_cases hmn : m < n
            · have hm' : (m : Int) < (n : Int) := by omega
              obtain ⟨gb1, o1, he1, k1⟩ := texts_cell (h61.out.below hby.out) m hmn
              obtain ⟨gb2, o2, he2, k2⟩ := texts_cell (h62.out.below hby.out) m hmn
              subst he1 he2
              obtain ⟨ft, hft⟩ : ∃ ft, f m = ft := ⟨_, rfl⟩
              rw [hft] at k1 k2
              clear hft
              go_wp2_with fail
              go_quiet (fail)
              have hby2 : Hid (Below w6.heap.size w6 (wy.drewN nq)) := hby.out.trans ((below_drewN' wy nq).mono hby.out.size)
              clear hby k1 k2
              go_wp2_with fail
              go_roundw
              case rel => exact ⟨m + 1, by omega, by go_num, hby2.out⟩
              case measure => simp [intOf]; omega
            · have hm' : ¬ (m : Int) < (n : Int) := by omega
              have hbz : Hid (Below ws.heap.size ws wy) := hbq6.out.trans (hby.out.mono hbq6.out.size)
              go_wp2_with fail
              go_roundw
              case rel => exact ⟨k + 1, by omega, by go_num, hbz.out⟩
              case measure => simp [intOf]; omega
        · have hk' : ¬ (k : Int) < (N : Int) := by omega
          have HB : Hid (Below W.heap.size W wq) := (HT.out.below firm_nought hbq.out).low
          go_wp2_with fail
          go_ret
          exact ⟨rfl, HB.out⟩
end Go.Proofs.Ytfepmafjkgjmmaa
