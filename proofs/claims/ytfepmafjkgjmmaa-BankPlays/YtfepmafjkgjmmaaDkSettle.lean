/- Cells moved by copy: settle, Flush; Fail, Image. -/
import Derived.Test.YtfepmafjkgjmmaaDkPut
import Derived.Test.YtfepmafjkgjmmaaDkNew
namespace Go.Proofs.Ytfepmafjkgjmmaa
open Go.RowKit Go.PlainAid
set_option linter.unusedVariables false

theorem copy_strs (w : World) (ga gb n : Nat) (f f' : Nat → ByteArray) (ha : Blk w ga 9 (strs n f)) (hb : Blk w gb 9 (strs n f')) (hn : 1 ≤ n) :
    (Builtin.copy_ #[37, 37] 3 #[.slice (some ⟨ga, 0, none⟩) n n, .slice (some ⟨gb, 0, none⟩) n n]).run Try.prog w = .ok (.int .i64 (n : Int)) (w.setRow ga (strs n f').toArray) := by
  have hr := run_copy_row (P := Try.prog) w 37 37 3 9 ga 0 n n ⟨gb, 0, none⟩ n n (strs n f).toArray 9 (strs n f') Try.underlying37 (by kernel_rfl) ha (by rw [strs_length]; exact (Nat.min_self n).symm) (fun j v hv => by
    rw [Addr.add_mid, Nat.zero_add]; exact hb.cell hv) (by simp [strs_length]) (strs_one n f')
  rw [hr]
  simp [strs_length, goInt]
  rw [List.drop_eq_nil_of_le (by rw [strs_length]; exact Nat.le_refl _), List.append_nil]
set_option maxRecDepth 20000 in
theorem dkSettle_any {F : Nat → Prop} {g n gc gl : Nat} {f l : Nat → ByteArray} {dead : Bool} {v : Value} {w : World} (hF : F g ∧ F gc ∧ F gl) (hne : gc ≠ gl) (h1 : 1 ≤ n) (h2 : n ≤ 512)
    (ht : Blk w g 76 [.slice (some ⟨gc, 0, none⟩) n n, .slice (some ⟨gl, 0, none⟩) n n, v, .bool dead]) (hc : Blk w gc 9 (strs n f)) (hl : Blk w gl 9 (strs n l)) (hb : ∀ k, F k → k < w.heap.size) :
    Calls Try.prog 50 #[.pointer (some ⟨g, 0, none⟩)] w fun e w' => e = .returned (.tuple #[]) ∧ Turned F w w' (fun F' => DiskAt w' F' g n l [] dead) := by
  have c0 := ht.cell (i := 0) rfl
  have c1 := ht.cell (i := 1) rfl
  have hgc := ht.ne hc (by decide)
  have hgl := ht.ne hl (by decide)
  have hrun := copy_strs w.drew gc gl n f l hc hl h1
  have K1 : Kept (fun k => k = gc) w (w.drew.setRow gc (strs n l).toArray) := (Kept.oneRow _ _ _).ofDrew
  have T1 := ht.kept K1 hgc
  have C1 : Blk (w.drew.setRow gc (strs n l).toArray) gc 9 (strs n l) := hc.drew.setRow
  have L1 := hl.kept K1 (fun e => hne e.symm)
  obtain ⟨Z, hZ⟩ : ∃ Z, (strs n l).toArray = Z := ⟨_, rfl⟩
  rw [hZ] at hrun K1 T1 C1 L1
  have d2 := T1.cell (i := 2) rfl
  have f2 := T1.frozen 2
  have d0 := T1.cell (i := 0) rfl
  have d1 := T1.cell (i := 1) rfl
  have T2 := T1.setCell 2 (.slice none 0 0)
  have K2 : Kept (fun k => k = g) (w.drew.setRow gc Z) ((w.drew.setRow gc Z).setCell ⟨g, 2, none⟩ (.slice none 0 0)) := Kept.one _ _ _ _
  have C2 := C1.kept K2 (fun e => hgc e.symm)
  have L2 := L1.kept K2 (fun e => hgl e.symm)
  have K3 : Kept F w ((w.drew.setRow gc Z).setCell ⟨g, 2, none⟩ (.slice none 0 0)) := (K1.mono (fun i _ e => by rw [e]; exact hF.2.1)).setCell (.inl hF.1) _ _
  have HT : Hid (Turned F w ((w.drew.setRow gc Z).setCell ⟨g, 2, none⟩ (.slice none 0 0)) (fun F' => DiskAt ((w.drew.setRow gc Z).setCell ⟨g, 2, none⟩ (.slice none 0 0)) F' g n l [] dead)) :=
    ⟨F, ⟨gc, gl, .slice none 0 0, ⟨hF.1, hF.2.1, hF.2.2, fun k hk => (by cases hk)⟩, hne, h1, h2, fun p hp => (by cases hp), T2, C2, L2, Waits.nil _ _, fun k hk => Nat.lt_of_lt_of_le (hb k hk) K3.size⟩, K3, fun k hk => .inl hk⟩
  clear ht hc hl hb K1 T1 C1 L1 T2 K2 C2 L2 K3 hgc hgl hZ hF hne
  go_enter Try.func50, Try.ntmps50
  go_wp2_with fail
  refine wp_region_noPanic ?_
  refine wp_region_held_drew (S := fun z => z.cell? ⟨g, 0, none⟩ = some (.slice (some ⟨gc, 0, none⟩) n n) ∧ z.cell? ⟨g, 1, none⟩ = some (.slice (some ⟨gl, 0, none⟩) n n)) (by kernel_rfl) ⟨c0, c1⟩ (fun hHeld => ?_)
  refine wpAnyH_take (i := 0) (v := ?_) rfl (by kernel_rfl) (by kernel_rfl) (by kernel_rfl) (fun _ _ _ h => h) (Or.inl ⟨by rfl, ?_⟩) (by assumption) ?_
  rotate_left
  · intro w hSw; go_simp; try with_reducible rfl
  go_simp
  refine wpAnyH_take (i := 1) (v := ?_) rfl (by kernel_rfl) (by kernel_rfl) (by kernel_rfl) (fun _ _ _ h => h) (Or.inl ⟨by rfl, ?_⟩) (by assumption) ?_
  rotate_left
  · intro w hSw; go_simp; try with_reducible rfl
  go_simp
  refine wpAnyH_take (i := 2) (v := ?_) rfl (by kernel_rfl) (by kernel_rfl) (by kernel_rfl) (fun _ _ _ h => h) (Or.inl ⟨by rfl, ?_⟩) (by assumption) ?_
  rotate_left
  · intro w hSw; go_simp; try with_reducible rfl
  go_simp
  refine wpAnyH_take (i := 3) (v := ?_) rfl (by kernel_rfl) (by kernel_rfl) (by kernel_rfl) (fun _ _ _ h => h) (Or.inl ⟨by rfl, ?_⟩) (by assumption) ?_
  rotate_left
  · intro w hSw; go_simp; try with_reducible rfl
  go_simp
  refine wpAnyH_take (i := 4) (v := ?_) rfl (by kernel_rfl) (by kernel_rfl) (by kernel_rfl) (fun _ _ _ h => h) (Or.inl ⟨by rfl, ?_⟩) (by assumption) ?_
  rotate_left
  · intro w hSw; go_simp; try with_reducible rfl
  go_simp
  refine wpAnyH_take (i := 5) (v := ?_) rfl (by kernel_rfl) (by kernel_rfl) (by kernel_rfl) (fun _ _ _ h => h) (Or.inl ⟨by rfl, ?_⟩) (by assumption) ?_
  rotate_left
  · intro w hSw; go_simp; try with_reducible rfl
  go_simp
  refine wpAnyH_take (i := 6) (v := ?_) rfl (by kernel_rfl) (by kernel_rfl) (by kernel_rfl) (fun _ _ _ h => h) (Or.inl ⟨by rfl, ?_⟩) (by assumption) ?_
  rotate_left
  · intro w hSw; go_simp; try with_reducible rfl
  go_simp
  refine wpAnyH_take (i := 7) (v := ?_) rfl (by kernel_rfl) (by kernel_rfl) (by kernel_rfl) (fun _ _ _ h => h) (Or.inl ⟨by rfl, ?_⟩) (by assumption) ?_
  rotate_left
  · intro w hSw; go_simp; try with_reducible rfl
  go_simp
  refine wpAnyH_ready (rs := [8]) (by kernel_rfl) (by simp) (AllReadyH.cons rfl (fun K hK => ?_) AllReadyH.nil)
  refine step_copy_run rfl _ _ 37 37 rfl _ _ rfl rfl _ _ hrun ?_
  refine hK.out _ _ ⟨d0, d1⟩ (fun hHeld => ?_)
  clear hK K
  refine wpAnyH_done (by kernel_rfl) ?_ _
  refine NoPanic.normal ?_
  go_wp2_with fail
  go_end0
  exact ⟨rfl, HT.out⟩
end Go.Proofs.Ytfepmafjkgjmmaa
