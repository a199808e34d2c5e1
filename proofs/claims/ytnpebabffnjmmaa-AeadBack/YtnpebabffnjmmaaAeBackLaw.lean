/- What the Go function AeadBack answers: true, for every key, nonce and texts. -/
import Derived.Test.YtnpebabffnjmmaaAeWakes
import Derived.Test.YtnpebabffnjmmaaAeKeys
namespace Go.Proofs.Ytnpebabffnjmmaa
open Go.RowKit Go.PlainAid
set_option linter.unusedVariables false

set_option maxHeartbeats 2000000 in
set_option maxRecDepth 20000 in
theorem backLaw_walk (f : Nat → Nat) (a p : ByteArray) (hf : ∀ i, f i < 256) (ha : a.size ≤ maxLen) (hp : p.size ≤ maxLen) (w : World) :
    Calls Try.prog 5 #[.agg (nr .u8 46 f).toArray, .string a, .string p] w fun e w' => e = .returned (.bool true) ∧ Below w.heap.size w w' := by
  unfold maxLen at ha hp
  have hB : Blk (w.alloc (.cells (nr .u8 46 f).toArray 26)) w.heap.size 26 (nr .u8 46 f) := Blk.box w 26 _
  have hl : Below w.heap.size w (w.alloc (.cells (nr .u8 46 f).toArray 26)) := (Below.refl _ _).alloc (Nat.le_refl _) _
  obtain ⟨A, hA0⟩ : ∃ A, min a.size 1000 = A := ⟨_, rfl⟩
  obtain ⟨P, hP0⟩ : ∃ P, min p.size 1000 = P := ⟨_, rfl⟩
  have hA : min ((a.size : Nat) : Int) 1000 = (A : Int) := by omega
  have hP : min ((p.size : Nat) : Int) 1000 = (P : Int) := by omega
  have hA1 : A ≤ a.size := by omega
  have hP1 : P ≤ p.size := by omega
  have hA2 : (A : Int) ≤ ((a.size : Nat) : Int) := by omega
  have hP2 : (P : Int) ≤ ((p.size : Nat) : Int) := by omega
  obtain ⟨x, hx⟩ : ∃ x, a.extract 0 A = x := ⟨_, rfl⟩
  obtain ⟨y, hy⟩ : ∃ y, p.extract 0 P = y := ⟨_, rfl⟩
  have Hx : Hid (x.size ≤ 1000) := by
    have h : x.size ≤ 1000 := by rw [← hx, ByteArray.size_extract]; omega
    exact h
  have Hy : Hid (y.size ≤ 1000) := by
    have h : y.size ≤ 1000 := by rw [← hy, ByteArray.size_extract]; omega
    exact h
  have hLl : (nr .u8 46 f).length = 46 := nr_length _ _ _
  have HT := fun w => whole_any f w
  generalize nr .u8 46 f = L at *
  clear hA0 hP0 hf
  go_enter Try.func5, Try.ntmps5
  go_wp2_with fail
  refine wp_region_noPanic ?_
  refine wp_region_held_drew (S := fun _ => True) (by kernel_rfl) trivial (fun hHeld => ?_)
  refine wpAnyH_take (i := 0) (v := ?_) rfl (by kernel_rfl) (by kernel_rfl) (by kernel_rfl) (fun _ _ _ h => h) (Or.inl ⟨by rfl, ?_⟩) (by assumption) ?_
  rotate_left
  · intro w hSw; go_simp; try with_reducible rfl
  go_simp
  refine wpAnyH_take (i := 1) (v := ?_) rfl (by kernel_rfl) (by kernel_rfl) (by kernel_rfl) (fun _ _ _ h => h) (Or.inl ⟨by rfl, ?_⟩) (by assumption) ?_
  rotate_left
  · intro w hSw; go_simp; try with_reducible rfl
  go_simp
  refine wpAnyH_take (i := 2) (v := ?_) rfl (by kernel_rfl) (by kernel_rfl) (by kernel_rfl) (fun _ _ _ h => h) (Or.inl ⟨by rfl, ?_⟩) (by assumption) ?_
  rotate_left
  · intro w hSw; go_simp; try with_reducible rfl
  go_simp
  refine wpAnyH_take (i := 3) (v := ?_) rfl (by kernel_rfl) (by kernel_rfl) (by kernel_rfl) (fun _ _ _ h => h) (Or.inl ⟨by rfl, ?_⟩) (by assumption) ?_
  rotate_left
  · intro w hSw; go_simp; try with_reducible rfl
  go_simp
  refine wpAnyH_take (i := 4) (v := ?_) rfl (by kernel_rfl) (by kernel_rfl) (by kernel_rfl) (fun _ _ _ h => h) (Or.inl ⟨by rfl, ?_⟩) (by assumption) ?_
  rotate_left
  · intro w hSw; go_simp; try with_reducible rfl
  go_simp
  refine wpAnyH_take (i := 5) (v := ?_) rfl (by kernel_rfl) (by kernel_rfl) (by kernel_rfl) (fun _ _ _ h => h) (Or.inl ⟨by rfl, ?_⟩) (by assumption) ?_
  rotate_left
  · intro w hSw; go_simp; try with_reducible rfl
  go_simp
  refine wpAnyH_take (i := 6) (v := ?_) rfl (by kernel_rfl) (by kernel_rfl) (by kernel_rfl) (fun _ _ _ h => h) (Or.inl ⟨by rfl, ?_⟩) (by assumption) ?_
  rotate_left
  · intro w hSw; go_simp; try with_reducible rfl
  go_simp
  refine wpAnyH_take (i := 7) (v := ?_) rfl (by kernel_rfl) (by kernel_rfl) (by kernel_rfl) (fun _ _ _ h => h) (Or.inl ⟨by rfl, ?_⟩) (by assumption) ?_
  rotate_left
  · intro w hSw; go_simp; try with_reducible rfl
  go_simp
  refine wpAnyH_take (i := 8) (v := ?_) rfl (by kernel_rfl) (by kernel_rfl) (by kernel_rfl) (fun _ _ _ h => h) (Or.inl ⟨by rfl, ?_⟩) (by assumption) ?_
  rotate_left
  · intro w hSw; go_simp; try with_reducible rfl
  go_simp
  refine wpAnyH_take (i := 9) (v := ?_) rfl (by kernel_rfl) (by kernel_rfl) (by kernel_rfl) (fun _ _ _ h => h) (Or.inl ⟨by rfl, ?_⟩) (by assumption) ?_
  rotate_left
  · intro w hSw; go_simp; try with_reducible rfl
  go_simp
  refine wpAnyH_take (i := 10) (v := ?_) rfl (by kernel_rfl) (by kernel_rfl) (by kernel_rfl) (fun _ _ _ h => h) (Or.inl ⟨by rfl, ?_⟩) (by assumption) ?_
  rotate_left
  · intro w hSw; go_simp; try with_reducible rfl
  go_simp
  refine wpAnyH_take (i := 11) (v := ?_) rfl (by kernel_rfl) (by kernel_rfl) (by kernel_rfl) (fun _ _ _ h => h) (Or.inl ⟨by rfl, ?_⟩) (by assumption) ?_
  rotate_left
  · intro w hSw; go_simp; try with_reducible rfl
  go_simp
  refine wpAnyH_done (by kernel_rfl) ?_ _
  refine NoPanic.normal ?_
  clear hHeld
  have hB1 : Blk (w.alloc (.cells L.toArray 26)).drew w.heap.size 26 L := hB.drew
  have hl1 : Below w.heap.size w (w.alloc (.cells L.toArray 26)).drew := hl.drew
  clear hB hl hA hP hx hy hA1 hP1 hA2 hP2
  generalize (w.alloc (.cells L.toArray 26)).drew = w1 at hB1 hl1 ⊢
  go_wp2_with (refine wpList_load_blk rfl 26 _ rfl w.heap.size rfl 26 L _ hB1 Try.underlying26 rfl (by rw [Try.size26, hLl]) ?_)
  refine (HT w1).mono ?_
  rintro e w2 ⟨k, n, rfl, hk, hn, hb2⟩
  have hl2 : Below w.heap.size w w2 := hl1.trans (hb2.mono hl1.size)
  have p1 := fun w => seal_ok k n x y hk hn (by have := Hx.out; omega) (by have := Hy.out; omega) w
  have p2 := fun w => open_back k n x y hk hn (by have := Hx.out; omega) (by have := Hy.out; omega) w
  have hSs := slB_size k n x y
  generalize slB k n x y = S at p1 p2 hSs
  have hSI : (((S.size : Nat) : Int) == ((y.size : Nat) : Int) + 16) = true := by simp; omega
  have hys : y.size ≤ 1000 := Hy.out
  have HSs : Hid (S.size = y.size + 16) := hSs
  have hq := toList_eq y y
  rw [decide_eq_true rfl] at hq
  clear hl1 hb2 hB1 HT hk hn hSs
  go_wp2_with fail
  refine (p1 w2).mono ?_
  rintro e w3 ⟨rfl, hb3⟩
  have hl3 := hl2.trans (hb3.mono hl2.size)
  clear hl2 hb3 p1
  go_wp2_with fail
  refine (p2 w3).mono ?_
  rintro e w4 ⟨rfl, hb4⟩
  have hl4 := hl3.trans (hb4.mono hl3.size)
  clear hl3 hb4 p2
  go_wp2_with (go_at_call 12; refine (wakes_any _).mono ?_; rintro e w5 ⟨rfl, hb5⟩)
  go_ret
  exact ⟨rfl, hl4.trans (hb5.mono hl4.size)⟩
end Go.Proofs.Ytnpebabffnjmmaa
