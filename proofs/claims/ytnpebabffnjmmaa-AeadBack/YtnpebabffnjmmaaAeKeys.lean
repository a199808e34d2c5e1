/- A key and a nonce that came in as plain data, and the texts that are made of them. -/
import Derived.Test.YtnpebabffnjmmaaPoRow
import Derived.Test.YtnpebabffnjmmaaPoText
namespace Go.Proofs.Ytnpebabffnjmmaa
open Go.RowKit Go.PlainAid
set_option linter.unusedVariables false

set_option maxRecDepth 20000 in
theorem Try.size26 : (Try.prog.info? 26).map (·.size) = some 46 := by kernel_rfl

set_option maxRecDepth 20000 in
theorem conv_nr (z : World) (g o n cap : Nat) (f : Nat → Nat) (h : Blk z g 26 (nr .u8 46 f)) (ho : o + n ≤ 46) :
    (convert 36 9 (.slice (some ⟨g, o, none⟩) n cap)).run Try.prog z = .ok (.string (strOfNums ((List.range n).map fun i => ((f (o + i) : Nat) : Int)))) z :=
  run_convert_bytes_arg (P := Try.prog) z 36 5 Try.underlying36 Try.underlying5 g o n cap _ (by simp) (fun i hi => by
    rw [h.cell (nr_at .u8 46 f (o + i) (by omega))]
    simp [hi]) 9 Try.underlying9

set_option maxRecDepth 20000 in
set_option maxHeartbeats 1000000 in
theorem whole_any (f : Nat → Nat) (w : World) :
    Calls Try.prog 15 #[.agg (nr .u8 46 f).toArray] w fun e w' => ∃ k n : ByteArray, e = .returned (.tuple #[.string k, .string n]) ∧ k.size = 32 ∧ n.size = 12 ∧ Below w.heap.size w w' := by
  have hB : Blk (w.alloc (.cells (nr .u8 46 f).toArray 26)) w.heap.size 26 (nr .u8 46 f) := Blk.box w 26 _
  have hl : Below w.heap.size w (w.alloc (.cells (nr .u8 46 f).toArray 26)) := (Below.refl _ _).alloc (Nat.le_refl _) _
  obtain ⟨k, hk⟩ : ∃ k, strOfNums ((List.range 32).map fun i => ((f (0 + i) : Nat) : Int)) = k := ⟨_, rfl⟩
  obtain ⟨n, hn⟩ : ∃ n, strOfNums ((List.range 12).map fun i => ((f (32 + i) : Nat) : Int)) = n := ⟨_, rfl⟩
  have HK : Hid (k.size = 32 ∧ n.size = 12) := ⟨by rw [← hk, strOfNums_size]; simp, by rw [← hn, strOfNums_size]; simp⟩
  have hck : ∀ m, (convert 36 9 (.slice (some ⟨w.heap.size, 0, none⟩) 32 32)).run Try.prog ((w.alloc (.cells (nr .u8 46 f).toArray 26)).drewN m) = .ok (.string k) ((w.alloc (.cells (nr .u8 46 f).toArray 26)).drewN m) := fun m => by
    rw [← hk]; exact conv_nr _ _ 0 32 32 f (hB.drewN m) (by decide)
  have hcn : ∀ m, (convert 36 9 (.slice (some ⟨w.heap.size, 32, none⟩) 12 12)).run Try.prog ((w.alloc (.cells (nr .u8 46 f).toArray 26)).drewN m) = .ok (.string n) ((w.alloc (.cells (nr .u8 46 f).toArray 26)).drewN m) := fun m => by
    rw [← hn]; exact conv_nr _ _ 32 12 12 f (hB.drewN m) (by decide)
  generalize nr .u8 46 f = L at *
  clear hk hn hB
  go_enter Try.func15, Try.ntmps15
  go_wp2_with fail
  generalize w.alloc (.cells L.toArray 26) = w1 at hck hcn hl ⊢
  obtain ⟨g, hgd⟩ : ∃ g, w.heap.size = g := ⟨_, rfl⟩
  rw [hgd] at hck hcn hl ⊢
  have HG : Hid (w.heap.size = g) := hgd
  clear hgd
  go_quiet (fail)
  have hl2 : Below g w (w1.drewN nq) := ⟨hl.os, hl.tape, hl.output, hl.size, hl.block⟩
  clear hck hcn hl
  generalize w1.drewN nq = w2 at hl2 ⊢
  go_wp2_with fail
  go_ret2
  exact ⟨_, _, rfl, HK.out.1, HK.out.2, by rw [HG.out]; exact hl2⟩

set_option maxRecDepth 20000 in
set_option maxHeartbeats 1000000 in
theorem texts_any (f : Nat → Nat) (hf : ∀ i, f i < 256) (w : World) :
    Calls Try.prog 9 #[.agg (nr .u8 46 f).toArray] w fun e w' => ∃ k n : ByteArray, e = .returned (.tuple #[.string k, .string n]) ∧ k.size ≤ 32 ∧ n.size ≤ 12 ∧ Below w.heap.size w w' := by
  have hB : Blk (w.alloc (.cells (nr .u8 46 f).toArray 26)) w.heap.size 26 (nr .u8 46 f) := Blk.box w 26 _
  have hl : Below w.heap.size w (w.alloc (.cells (nr .u8 46 f).toArray 26)) := (Below.refl _ _).alloc (Nat.le_refl _) _
  obtain ⟨N1, hN1⟩ : ∃ N, 32 - min (f 44) 32 = N := ⟨_, rfl⟩
  obtain ⟨N2, hN2⟩ : ∃ N, 12 - min (f 45) 12 = N := ⟨_, rfl⟩
  have hN1I : IntKind.u8.wrap (32 - if (32 : Int) < ((f 44 : Nat) : Int) then 32 else ((f 44 : Nat) : Int)) = (N1 : Int) := by
    split
    · rw [IntWalk.u8_in _ ⟨by omega, by omega⟩]; omega
    · rw [IntWalk.u8_in _ ⟨by omega, by omega⟩]; omega
  have hN2I : IntKind.u8.wrap (12 - if (12 : Int) < ((f 45 : Nat) : Int) then 12 else ((f 45 : Nat) : Int)) = (N2 : Int) := by
    split
    · rw [IntWalk.u8_in _ ⟨by omega, by omega⟩]; omega
    · rw [IntWalk.u8_in _ ⟨by omega, by omega⟩]; omega
  have hN1M : IntKind.u8.wrap (32 - min ((f 44 : Nat) : Int) 32) = (N1 : Int) := by rw [IntWalk.u8_in _ ⟨by omega, by omega⟩]; omega
  have hN2M : IntKind.u8.wrap (12 - min ((f 45 : Nat) : Int) 12) = (N2 : Int) := by rw [IntWalk.u8_in _ ⟨by omega, by omega⟩]; omega
  have h1 : N1 ≤ 32 := by omega
  have h2 : N2 ≤ 12 := by omega
  have h1I : (N1 : Int) ≤ 32 := by omega
  have h2I : (N2 : Int) ≤ 12 := by omega
  obtain ⟨k, hk⟩ : ∃ k, strOfNums ((List.range N1).map fun i => ((f (0 + i) : Nat) : Int)) = k := ⟨_, rfl⟩
  obtain ⟨n, hn⟩ : ∃ n, strOfNums ((List.range N2).map fun i => ((f (32 + i) : Nat) : Int)) = n := ⟨_, rfl⟩
  have HK : Hid (k.size = N1 ∧ n.size = N2) := ⟨by rw [← hk, strOfNums_size]; simp, by rw [← hn, strOfNums_size]; simp⟩
  have HB : Hid (∀ z : World, Blk z w.heap.size 26 (nr .u8 46 f) → z.cell? ⟨w.heap.size, 44, none⟩ = some (.int .u8 ((f 44 : Nat) : Int)) ∧ z.cell? ⟨w.heap.size, 45, none⟩ = some (.int .u8 ((f 45 : Nat) : Int)) ∧ (convert 36 9 (.slice (some ⟨w.heap.size, 0, none⟩) N1 32)).run Try.prog z = .ok (.string k) z ∧ (convert 36 9 (.slice (some ⟨w.heap.size, 32, none⟩) N2 12)).run Try.prog z = .ok (.string n) z) := fun z hz =>
    ⟨hz.cell (nr_at .u8 46 f 44 (by decide)), hz.cell (nr_at .u8 46 f 45 (by decide)), by rw [← hk]; exact conv_nr _ _ 0 N1 32 f hz (by omega), by rw [← hn]; exact conv_nr _ _ 32 N2 12 f hz (by omega)⟩
  have hf1 := hf 44
  have hf2 := hf 45
  clear hk hn hf hN1 hN2
  generalize nr .u8 46 f = L at *
  generalize f 44 = x at *
  generalize f 45 = y at *
  go_enter Try.func9, Try.ntmps9
  go_wp2_with fail
  generalize w.alloc (.cells L.toArray 26) = w1 at hB hl ⊢
  obtain ⟨g, hgd⟩ : ∃ g, w.heap.size = g := ⟨_, rfl⟩
  rw [hgd] at hB HB hl ⊢
  have HG : Hid (w.heap.size = g) := hgd
  clear hgd
  have hS0 : (fun z : World => Blk z g 26 L) w1.drew := hB.drew
  have hl2 : Below g w w1.drew := hl.drew
  clear hB hl
  refine wp_region_noPanic ?_
  refine wp_region_held_drew (S := fun z : World => Blk z g 26 L) (by kernel_rfl) hS0 (fun hHeld => ?_)
  refine wpAnyH_take (i := 0) (v := ?_) rfl (by kernel_rfl) (by kernel_rfl) (by kernel_rfl) (fun _ _ _ h => h) (Or.inl ⟨by rfl, ?_⟩) (by assumption) ?_
  rotate_left
  · intro z hSw; go_simp; try with_reducible rfl
  go_simp
  refine wpAnyH_take (i := 1) (v := ?_) rfl (by kernel_rfl) (by kernel_rfl) (by kernel_rfl) (fun _ _ _ h => h) (Or.inl ⟨by rfl, ?_⟩) (by assumption) ?_
  rotate_left
  · intro z hSw; go_simp; try with_reducible rfl
  go_simp
  refine wpAnyH_take (i := 2) (v := ?_) rfl (by kernel_rfl) (by kernel_rfl) (by kernel_rfl) (fun _ _ _ h => h) (Or.inl ⟨by rfl, ?_⟩) (by assumption) ?_
  rotate_left
  · intro z hSw; go_simp; try with_reducible rfl
  go_simp
  refine wpAnyH_take (i := 3) (v := ?_) rfl (by kernel_rfl) (by kernel_rfl) (by kernel_rfl) (fun _ _ _ h => h) (Or.inl ⟨by rfl, ?_⟩) (by assumption) ?_
  rotate_left
  · intro z hSw; obtain ⟨e44, e45, ek, en⟩ := HB.out z hSw; go_simp; try with_reducible rfl
  go_simp
  refine wpAnyH_take (i := 4) (v := ?_) rfl (by kernel_rfl) (by kernel_rfl) (by kernel_rfl) (fun _ _ _ h => h) (Or.inl ⟨by rfl, ?_⟩) (by assumption) ?_
  rotate_left
  · intro z hSw; go_simp; try with_reducible rfl
  go_simp
  refine wpAnyH_take (i := 5) (v := ?_) rfl (by kernel_rfl) (by kernel_rfl) (by kernel_rfl) (fun _ _ _ h => h) (Or.inl ⟨by rfl, ?_⟩) (by assumption) ?_
  rotate_left
  · intro z hSw; go_simp; try with_reducible rfl
  go_simp
  refine wpAnyH_take (i := 6) (v := ?_) rfl (by kernel_rfl) (by kernel_rfl) (by kernel_rfl) (fun _ _ _ h => h) (Or.inl ⟨by rfl, ?_⟩) (by assumption) ?_
  rotate_left
  · intro z hSw; go_simp; try with_reducible rfl
  go_simp
  refine wpAnyH_take (i := 7) (v := ?_) rfl (by kernel_rfl) (by kernel_rfl) (by kernel_rfl) (fun _ _ _ h => h) (Or.inl ⟨by rfl, ?_⟩) (by assumption) ?_
  rotate_left
  · intro z hSw; obtain ⟨e44, e45, ek, en⟩ := HB.out z hSw; go_simp; try with_reducible rfl
  go_simp
  refine wpAnyH_take (i := 8) (v := ?_) rfl (by kernel_rfl) (by kernel_rfl) (by kernel_rfl) (fun _ _ _ h => h) (Or.inl ⟨by rfl, ?_⟩) (by assumption) ?_
  rotate_left
  · intro z hSw; go_simp; try with_reducible rfl
  go_simp
  refine wpAnyH_take (i := 9) (v := ?_) rfl (by kernel_rfl) (by kernel_rfl) (by kernel_rfl) (fun _ _ _ h => h) (Or.inl ⟨by rfl, ?_⟩) (by assumption) ?_
  rotate_left
  · intro z hSw; go_simp; try with_reducible rfl
  go_simp
  refine wpAnyH_take (i := 10) (v := ?_) rfl (by kernel_rfl) (by kernel_rfl) (by kernel_rfl) (fun _ _ _ h => h) (Or.inl ⟨by rfl, ?_⟩) (by assumption) ?_
  rotate_left
  · intro z hSw; go_simp; try with_reducible rfl
  go_simp
  refine wpAnyH_take (i := 11) (v := ?_) rfl (by kernel_rfl) (by kernel_rfl) (by kernel_rfl) (fun _ _ _ h => h) (Or.inl ⟨by rfl, ?_⟩) (by assumption) ?_
  rotate_left
  · intro z hSw; obtain ⟨e44, e45, ek, en⟩ := HB.out z hSw; go_simp; try with_reducible rfl
  go_simp
  refine wpAnyH_take (i := 12) (v := ?_) rfl (by kernel_rfl) (by kernel_rfl) (by kernel_rfl) (fun _ _ _ h => h) (Or.inl ⟨by rfl, ?_⟩) (by assumption) ?_
  rotate_left
  · intro z hSw; go_simp; try with_reducible rfl
  go_simp
  refine wpAnyH_take (i := 13) (v := ?_) rfl (by kernel_rfl) (by kernel_rfl) (by kernel_rfl) (fun _ _ _ h => h) (Or.inl ⟨by rfl, ?_⟩) (by assumption) ?_
  rotate_left
  · intro z hSw; go_simp; try with_reducible rfl
  go_simp
  refine wpAnyH_take (i := 14) (v := ?_) rfl (by kernel_rfl) (by kernel_rfl) (by kernel_rfl) (fun _ _ _ h => h) (Or.inl ⟨by rfl, ?_⟩) (by assumption) ?_
  rotate_left
  · intro z hSw; go_simp; try with_reducible rfl
  go_simp
  refine wpAnyH_take (i := 15) (v := ?_) rfl (by kernel_rfl) (by kernel_rfl) (by kernel_rfl) (fun _ _ _ h => h) (Or.inl ⟨by rfl, ?_⟩) (by assumption) ?_
  rotate_left
  · intro z hSw; obtain ⟨e44, e45, ek, en⟩ := HB.out z hSw; go_simp; try with_reducible rfl
  go_simp
  refine wpAnyH_take (i := 16) (v := ?_) rfl (by kernel_rfl) (by kernel_rfl) (by kernel_rfl) (fun _ _ _ h => h) (Or.inl ⟨by rfl, ?_⟩) (by assumption) ?_
  rotate_left
  · intro z hSw; go_simp; try with_reducible rfl
  go_simp
  refine wpAnyH_take (i := 17) (v := ?_) rfl (by kernel_rfl) (by kernel_rfl) (by kernel_rfl) (fun _ _ _ h => h) (Or.inl ⟨by rfl, ?_⟩) (by assumption) ?_
  rotate_left
  · intro z hSw; go_simp; try with_reducible rfl
  go_simp
  refine wpAnyH_done (by kernel_rfl) ?_ _
  refine NoPanic.normal ?_
  clear hS0 HB hHeld
  go_wp2_with fail
  all_goals
    go_ret2
    exact ⟨_, _, rfl, by rw [HK.out.1]; exact h1, by rw [HK.out.2]; exact h2, by rw [HG.out]; exact hl2⟩
end Go.Proofs.Ytnpebabffnjmmaa
