/- New disks, the program's and the document's. -/
import Derived.Test.YtfepmafjkgjmmaaDkLow
import Derived.Laws.MakeOwn
namespace Go.Proofs.Ytfepmafjkgjmmaa
open Go.RowKit Go.PlainAid
set_option linter.unusedVariables false

theorem Try.info9 : (Try.prog.info? 9).map (fun i => (i.zero, i.size, i.bytes)) = some (some (.string noB), 1, 16) := by kernel_rfl
theorem made_strs (n : Nat) : madeCells (Value.string noB).cells (n * 1) = (strs n fun _ => noB).toArray := by
  apply Array.ext
  · simp [madeCells, strs]
  · intro i h1 h2
    simp [madeCells, strs, Value.cells, Nat.mod_one]
theorem make_strs (n : Nat) (h : n ≤ 512) (w : World) : (Instr.makeSlice 37 (.int .i64 (n : Int)) (.int .i64 (n : Int))).run Try.prog w = .ok (.slice (some ⟨w.heap.size, 0, none⟩) n n) (w.alloc (.cells (strs n fun _ => noB).toArray 9)) := by
  obtain ⟨i0, hi, hz0, hz1, hz2⟩ := info_parts Try.info9
  have hr := run_make (P := Try.prog) w 37 9 i0 (.string noB) Try.underlying37 hi hz0 .i64 .i64 n n (by omega) (by omega) (by rw [hz2]; omega) (by omega)
  rw [hz1, Int.toNat_natCast, made_strs] at hr
  exact hr
/-- How many cells New makes. -/
def newN (c : Int) : Nat := if c < 1 then 1 else if 512 < c then 512 else c.toNat
theorem newN_low (c : Int) : 1 ≤ newN c ∧ newN c ≤ 512 := by
  unfold newN
  split
  · omega
  · split <;> omega
theorem newN_is (k : Nat) (h1 : 1 ≤ k) (h2 : k ≤ 512) : newN (k : Int) = k := by
  unfold newN; rw [if_neg (by omega), if_neg (by omega), Int.toNat_natCast]
set_option maxRecDepth 20000 in
theorem new_at (c : Int) (w : World) : Calls Try.prog 27 #[.int .i64 c] w fun e w' => ∃ g, e = .returned (.pointer (some ⟨g, 0, none⟩)) ∧ ∃ F, DiskAt w' F g (newN c) (fun _ => noB) [] false ∧ Below w.heap.size w w' ∧ ∀ k, F k → w.heap.size ≤ k := by
  obtain ⟨n, hn⟩ : ∃ n, newN c = n := ⟨_, rfl⟩
  have hl := newN_low c
  rw [hn] at hl ⊢
  have hmk := make_strs n hl.2
  obtain ⟨Z, hZ⟩ : ∃ Z, (strs n fun _ => noB) = Z := ⟨_, rfl⟩
  rw [hZ] at hmk
  have hfin : ∀ a b : Nat, a ≠ b → (a = w.heap.size ∨ b = w.heap.size) → (a = w.heap.size + 1 ∨ b = w.heap.size + 1) → ∀ wn, wn = ((w.alloc (.cells Z.toArray 9)).alloc (.cells Z.toArray 9)).alloc (.cells #[.slice (some ⟨a, 0, none⟩) n n, .slice (some ⟨b, 0, none⟩) n n, .slice none 0 0, .bool false] 76) →
      ∃ F, DiskAt wn.drew F (w.heap.size + 1 + 1) n (fun _ => noB) [] false ∧ Below w.heap.size w wn.drew ∧ ∀ k, F k → w.heap.size ≤ k := by
    intro a b hne h0 h1 wn rfl
    have hB : Below w.heap.size w (((w.alloc (.cells Z.toArray 9)).alloc (.cells Z.toArray 9)).alloc (.cells #[.slice (some ⟨a, 0, none⟩) n n, .slice (some ⟨b, 0, none⟩) n n, .slice none 0 0, .bool false] 76)) :=
      (((Below.refl _ _).alloc (Nat.le_refl _) _).alloc (by simp) _).alloc (by simp; omega) _
    have b1 := ((Blk.new w 9 Z.toArray).alloc (.cells Z.toArray 9)).alloc (.cells #[.slice (some ⟨a, 0, none⟩) n n, .slice (some ⟨b, 0, none⟩) n n, .slice none 0 0, .bool false] 76)
    have b2 := (Blk.new (w.alloc (.cells Z.toArray 9)) 9 Z.toArray).alloc (.cells #[.slice (some ⟨a, 0, none⟩) n n, .slice (some ⟨b, 0, none⟩) n n, .slice none 0 0, .bool false] 76)
    have b3 := Blk.new ((w.alloc (.cells Z.toArray 9)).alloc (.cells Z.toArray 9)) 76 #[.slice (some ⟨a, 0, none⟩) n n, .slice (some ⟨b, 0, none⟩) n n, .slice none 0 0, .bool false]
    have e1 : (w.alloc (.cells Z.toArray 9)).heap.size = w.heap.size + 1 := by simp
    have e2 : ((w.alloc (.cells Z.toArray 9)).alloc (.cells Z.toArray 9)).heap.size = w.heap.size + 2 := by simp
    rw [e1] at b2
    rw [e2] at b3
    rw [List.toList_toArray] at b1 b2
    refine ⟨fun k => w.heap.size ≤ k ∧ k < w.heap.size + 3, DiskAt.drew ⟨a, b, .slice none 0 0, ⟨⟨by omega, by omega⟩, ⟨by omega, by omega⟩, ⟨by omega, by omega⟩, fun k h => (by cases h)⟩, hne, hl.1, hl.2, fun p hp => (by cases hp), b3, ?_, ?_, Waits.nil _ _, fun k hk => (by rw [World.size_alloc, e2]; exact hk.2)⟩, hB.drew, fun k hk => hk.1⟩
    · show Blk _ a 9 (strs n fun _ => noB)
      rw [hZ]
      rcases h0 with rfl | rfl
      · exact b1
      · obtain rfl : a = w.heap.size + 1 := by omega
        exact b2
    · rw [hZ]
      rcases h0 with rfl | rfl
      · obtain rfl : b = w.heap.size + 1 := by omega
        exact b2
      · exact b1
  have HF : Hid _ := hfin
  clear hfin hZ
  unfold newN at hn
  by_cases h1 : c < 1
  · rw [if_pos h1] at hn
    subst hn
    replace hmk : ∀ w : World, (Instr.makeSlice 37 (.int .i64 1) (.int .i64 1)).run Try.prog w = .ok (.slice (some ⟨w.heap.size, 0, none⟩) 1 1) (w.alloc (.cells Z.toArray 9)) := hmk
    go_enter Try.func27, Try.ntmps27
    go_wp2_with fail
    go_region
    all_goals
      go_wp2_with fail
      go_ret
      first
      | exact ⟨_, rfl, HF.out w.heap.size (w.heap.size + 1) (by omega) (by omega) (by omega) _ rfl⟩
      | exact ⟨_, rfl, HF.out (w.heap.size + 1) w.heap.size (by omega) (by omega) (by omega) _ rfl⟩
  · rw [if_neg h1] at hn
    by_cases h2 : 512 < c
    · rw [if_pos h2] at hn
      subst hn
      replace hmk : ∀ w : World, (Instr.makeSlice 37 (.int .i64 512) (.int .i64 512)).run Try.prog w = .ok (.slice (some ⟨w.heap.size, 0, none⟩) 512 512) (w.alloc (.cells Z.toArray 9)) := hmk
      go_enter Try.func27, Try.ntmps27
      go_wp2_with fail
      go_region
      all_goals
        go_wp2_with fail
        go_ret
        first
        | exact ⟨_, rfl, HF.out w.heap.size (w.heap.size + 1) (by omega) (by omega) (by omega) _ rfl⟩
        | exact ⟨_, rfl, HF.out (w.heap.size + 1) w.heap.size (by omega) (by omega) (by omega) _ rfl⟩
    · rw [if_neg h2] at hn
      obtain rfl : c = (n : Int) := by omega
      clear hn
      go_enter Try.func27, Try.ntmps27
      go_wp2_with fail
      go_region
      all_goals
        go_wp2_with fail
        go_ret
        first
        | exact ⟨_, rfl, HF.out w.heap.size (w.heap.size + 1) (by omega) (by omega) (by omega) _ rfl⟩
        | exact ⟨_, rfl, HF.out (w.heap.size + 1) w.heap.size (by omega) (by omega) (by omega) _ rfl⟩
set_option maxRecDepth 20000 in
theorem refNew_at (c : Int) (w : World) : Calls Try.prog 28 #[.int .i64 c] w fun e w' => ∃ g, e = .returned (.pointer (some ⟨g, 0, none⟩)) ∧ ∃ F, RefAt w' F g (newN c) (fun _ => noB) [] false ∧ Below w.heap.size w w' ∧ ∀ k, F k → w.heap.size ≤ k := by
  obtain ⟨n, hn⟩ : ∃ n, newN c = n := ⟨_, rfl⟩
  have hl := newN_low c
  rw [hn] at hl ⊢
  have hmk := make_strs n hl.2
  obtain ⟨Z, hZ⟩ : ∃ Z, (strs n fun _ => noB) = Z := ⟨_, rfl⟩
  rw [hZ] at hmk
  have HF : Hid (∃ F, RefAt ((w.alloc (.cells Z.toArray 9)).alloc (.cells #[.slice (some ⟨w.heap.size, 0, none⟩) n n, .slice none 0 0, .bool false] 44)) F (w.heap.size + 1) n (fun _ => noB) [] false ∧ Below w.heap.size w ((w.alloc (.cells Z.toArray 9)).alloc (.cells #[.slice (some ⟨w.heap.size, 0, none⟩) n n, .slice none 0 0, .bool false] 44)) ∧ ∀ k, F k → w.heap.size ≤ k) := by
    have hB : Below w.heap.size w ((w.alloc (.cells Z.toArray 9)).alloc (.cells #[.slice (some ⟨w.heap.size, 0, none⟩) n n, .slice none 0 0, .bool false] 44)) :=
      ((Below.refl _ _).alloc (Nat.le_refl _) _).alloc (by simp) _
    have b1 := (Blk.new w 9 Z.toArray).alloc (.cells #[.slice (some ⟨w.heap.size, 0, none⟩) n n, .slice none 0 0, .bool false] 44)
    have b3 := Blk.new (w.alloc (.cells Z.toArray 9)) 44 #[.slice (some ⟨w.heap.size, 0, none⟩) n n, .slice none 0 0, .bool false]
    have e1 : (w.alloc (.cells Z.toArray 9)).heap.size = w.heap.size + 1 := by simp
    rw [e1] at b3
    rw [List.toList_toArray] at b1
    exact ⟨fun k => w.heap.size ≤ k ∧ k < w.heap.size + 2, ⟨w.heap.size, .slice none 0 0, ⟨⟨by omega, by omega⟩, ⟨by omega, by omega⟩, fun k h => (by cases h)⟩, hl.1, hl.2, fun p hp => (by cases hp), b3, by rw [hZ]; exact b1, Waits.nil _ _, fun k hk => (by rw [World.size_alloc, e1]; exact hk.2)⟩, hB, fun k hk => hk.1⟩
  clear hZ
  unfold newN at hn
  by_cases h1 : c < 1
  · rw [if_pos h1] at hn
    subst hn
    replace hmk : ∀ w : World, (Instr.makeSlice 37 (.int .i64 1) (.int .i64 1)).run Try.prog w = .ok (.slice (some ⟨w.heap.size, 0, none⟩) 1 1) (w.alloc (.cells Z.toArray 9)) := hmk
    go_enter Try.func28, Try.ntmps28
    go_wp2_with fail
    go_ret
    obtain ⟨F, k1, k2, k3⟩ := HF.out
    exact ⟨_, rfl, F, k1, k2, k3⟩
  · rw [if_neg h1] at hn
    by_cases h2 : 512 < c
    · rw [if_pos h2] at hn
      subst hn
      replace hmk : ∀ w : World, (Instr.makeSlice 37 (.int .i64 512) (.int .i64 512)).run Try.prog w = .ok (.slice (some ⟨w.heap.size, 0, none⟩) 512 512) (w.alloc (.cells Z.toArray 9)) := hmk
      go_enter Try.func28, Try.ntmps28
      go_wp2_with fail
      go_ret
      obtain ⟨F, k1, k2, k3⟩ := HF.out
      exact ⟨_, rfl, F, k1, k2, k3⟩
    · rw [if_neg h2] at hn
      obtain rfl : c = (n : Int) := by omega
      clear hn
      go_enter Try.func28, Try.ntmps28
      go_wp2_with fail
      go_ret
      obtain ⟨F, k1, k2, k3⟩ := HF.out
      exact ⟨_, rfl, F, k1, k2, k3⟩
end Go.Proofs.Ytfepmafjkgjmmaa
