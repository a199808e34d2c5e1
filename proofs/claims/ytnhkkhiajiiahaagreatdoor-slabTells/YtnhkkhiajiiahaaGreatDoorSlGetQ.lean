/- A chunk sealed, opened, had, by the program. -/
import Derived.Test.YtnhkkhiajiiahaaGreatDoorSlLead2Q
namespace Go.Proofs.YtnhkkhiajiiahaaGreatDoor
open Go.RowKit Go.PlainAid
set_option linter.unusedVariables false
set_option maxRecDepth 20000
theorem noB_of_size {c : ByteArray} (h : c.size = 0) : c = noB := by
  apply ByteArray.ext
  exact Array.eq_empty_of_size_eq_zero h
theorem empty17 (q : ByteArray) : q.toList.isEmpty = decide (q.size = 0) := by
  rw [ByteArray.toList_eq]
  cases h : q.data.toList with
  | nil =>
    have : q.size = 0 := by show q.data.size = 0; rw [← Array.length_toList, h]; rfl
    rw [this]; rfl
  | cons a l =>
    have : q.size ≠ 0 := by show q.data.size ≠ 0; rw [← Array.length_toList, h]; simp
    rw [decide_eq_false this]; rfl
theorem op_lt {key a c : ByteArray} (h0 : c.size ≠ 0) (h : c.size < 28) : opT key a c = noB ∧ opE key a c = 3 :=
  ⟨by unfold opT; rw [if_neg h0, if_pos h], by unfold opE; rw [if_neg h0, if_pos h]⟩
theorem op_yes {key a c : ByteArray} (h : ¬ c.size < 28) (hq : opQ key a c) : opT key a c = crB key (c.extract 0 12) ((c.extract 12 c.size).extract 0 (c.size - 28)) ∧ opE key a c = 0 := by
  have h0 : c.size ≠ 0 := by omega
  exact ⟨by unfold opT; rw [if_neg h0, if_neg h, if_pos hq], by unfold opE; rw [if_neg h0, if_neg h, if_pos hq]⟩
theorem op_no {key a c : ByteArray} (h : ¬ c.size < 28) (hq : ¬ opQ key a c) : opT key a c = noB ∧ opE key a c = 23 := by
  have h0 : c.size ≠ 0 := by omega
  exact ⟨by unfold opT; rw [if_neg h0, if_neg h, if_neg hq], by unfold opE; rw [if_neg h0, if_neg h, if_neg hq]⟩
theorem aopen_cell {key a c : ByteArray} (hk : key.size = 32) (ha : a.size = 16) (h12 : 12 ≤ c.size) (hc : c.size ≤ 2048) (z : World) : Calls Tryz.prog 100 #[.string key, .string (c.extract 0 12), .string a, .string (c.extract 12 c.size)] z fun e w' => e = .returned (.tuple #[.string (opT key a c), .int .i64 (opE key a c)]) ∧ Below z.heap.size z w' := by
  obtain ⟨h1, h2⟩ := cut12 c h12
  by_cases h3 : c.size < 28
  · have h := aeOpen_short key (c.extract 0 12) a (c.extract 12 c.size) hk h2 (by omega) z
    rw [(op_lt (by omega) h3).1, (op_lt (by omega) h3).2]; exact h
  · have h := aeOpen_any key (c.extract 0 12) a (c.extract 12 c.size) (c.size - 28) hk h2 (by omega) (by omega) (by omega) z
    by_cases hq : opQ key a c
    · rw [(op_yes h3 hq).1, (op_yes h3 hq).2]
      unfold opQ at hq
      rw [if_pos hq] at h; exact h
    · rw [(op_no h3 hq).1, (op_no h3 hq).2]
      unfold opQ at hq
      rw [if_neg hq] at h; exact h
set_option maxHeartbeats 1000000 in
theorem sopen_any {w : World} (pv : Value) {i k : Nat} (n : Int) {key c : ByteArray} (hi : i ≤ 1000) (hk : k ≤ 1000) (hky : key.size = 32) (hc : c.size ≤ 2048) : Calls Tryz.prog 52 #[slV pv (i : Int) n key, .int .i64 (k : Int), .string c] w fun e w' => e = .returned (.tuple #[.string (opT key (plc i k) c), .int .i64 (opE key (plc i k) c)]) ∧ Below w.heap.size w w' := by
  have hb : Hid (Below w.heap.size w (w.alloc (.cells #[pv, .int .i64 (i : Int), .int .i64 n, .string key] 41))) := (Below.refl _ _).alloc (Nat.le_refl _) _
  by_cases h0 : c.size = 0
  · obtain rfl : c = noB := noB_of_size h0
    rw [(op_none key (plc i k)).1, (op_none key (plc i k)).2]
    have hr : Hid (∀ z, Calls Tryz.prog 99 #[.string ⟨#[0]⟩, .int .i64 32] z fun e w' => e = .returned (.string (zB 32)) ∧ Below z.heap.size z w') := fun z => repeat_zero 32 z (by decide)
    generalize zB 32 = Z at *
    go_enter Tryz.func52, Tryz.ntmps52
    go_wp2_with (go_at_call 99; refine (hr.out _).mono ?_; rintro e w1 ⟨rfl, hb1⟩; have L1 : Hid (Below w.heap.size w w1) := hb.out.trans (hb1.mono hb.out.size); clear hb1)
    go_ret2
    exact ⟨rfl, L1.out⟩
  have hne : c.toList.isEmpty = false := by rw [empty17]; exact decide_eq_false h0
  by_cases h12 : c.size < 12
  · have e1 : opT key (plc i k) c = noB ∧ opE key (plc i k) c = 3 := op_lt h0 (by omega)
    rw [e1.1, e1.2]
    have h12' : (c.size : Int) < 12 := by omega
    go_enter Tryz.func52, Tryz.ntmps52
    go_wp2
    go_ret2
    exact ⟨rfl, hb.out⟩
  have h12' : ¬ (c.size : Int) < 12 := by omega
  have hp : Hid (∀ z, Calls Tryz.prog 40 #[slV pv (i : Int) n key, .int .i64 (k : Int)] z fun e w' => e = .returned (.string (plc i k)) ∧ Below z.heap.size z w') := fun z => place_any pv i k n key hi hk z
  have ho : Hid (∀ z, Calls Tryz.prog 100 #[.string key, .string (c.extract 0 12), .string (plc i k), .string (c.extract 12 c.size)] z fun e w' => e = .returned (.tuple #[.string (opT key (plc i k) c), .int .i64 (opE key (plc i k) c)]) ∧ Below z.heap.size z w') := fun z => aopen_cell hky (plc_size i k) (by omega) hc z
  have hbk : Hid (Blk _ _ _ _) := Blk.box w 41 [pv, .int .i64 (i : Int), .int .i64 n, .string key]
  generalize opT key (plc i k) c = T at *
  generalize opE key (plc i k) c = E at *
  generalize plc i k = A at *
  have hcc : (12 : Int) ≤ (c.size : Int) := by omega
  clear hc hky h0 h12
  go_enter Tryz.func52, Tryz.ntmps52
  generalize hw1 : w.alloc (.cells #[pv, .int .i64 (i : Int), .int .i64 n, .string key] 41) = w1 at *
  go_wp2
  have hS : Hid (∀ z, Below w1.heap.size w1 z → (z.cell? ⟨w.heap.size, 0, none⟩ = some pv ∧ z.cell? ⟨w.heap.size, 1, none⟩ = some (.int .i64 (i : Int)) ∧ z.cell? ⟨w.heap.size, 2, none⟩ = some (.int .i64 n) ∧ z.cell? ⟨w.heap.size, 3, none⟩ = some (.string key)) ∧ Blk z w.heap.size 41 [pv, .int .i64 (i : Int), .int .i64 n, .string key]) := fun z hz => by
    have h1 := hbk.out.below hz hbk.out.lt
    exact ⟨⟨h1.cell (i := 0) rfl, h1.cell (i := 1) rfl, h1.cell (i := 2) rfl, h1.cell (i := 3) rfl⟩, h1⟩
  have L1 : Hid (Below w1.heap.size w1 w1.drew) := (Below.refl _ _).drew
  refine wp_region_noPanic ?_
  refine wp_region_held_drew (S := fun z : World => z.cell? ⟨w.heap.size, 0, none⟩ = some pv ∧ z.cell? ⟨w.heap.size, 1, none⟩ = some (.int .i64 (i : Int)) ∧ z.cell? ⟨w.heap.size, 2, none⟩ = some (.int .i64 n) ∧ z.cell? ⟨w.heap.size, 3, none⟩ = some (.string key)) (by kernel_rfl) (hS.out _ L1.out).1 (fun hHeld => ?_)
  refine wpAnyH_take (i := 0) (v := ?_) rfl (by kernel_rfl) (by kernel_rfl) (by kernel_rfl) (fun _ _ _ h => h) (Or.inl ⟨by rfl, ?_⟩) (by assumption) ?_
  rotate_left
  · intro w hSw; go_simp; try with_reducible rfl
  go_simp
  refine wpAnyH_take (i := 1) (v := ?_) rfl (by kernel_rfl) (by kernel_rfl) (by kernel_rfl) (fun _ _ _ h => h) (Or.inl ⟨by rfl, ?_⟩) (by assumption) ?_
  rotate_left
  · intro w hSw; go_simp; try with_reducible rfl
  go_simp
  refine wpAnyH_take (i := 2) (v := ?_) rfl (by kernel_rfl) (by kernel_rfl) (by kernel_rfl) (fun _ _ _ h => h) (Or.inl ⟨by rfl, ?_⟩) (by assumption) ?_
  rotate_left
  · intro w hSw; go_simp; try with_reducible rfl
  go_simp
  refine wpAnyH_take (i := 3) (v := ?_) rfl (by kernel_rfl) (by kernel_rfl) (by kernel_rfl) (fun _ _ _ h => h) (Or.inl ⟨by rfl, ?_⟩) (by assumption) ?_
  rotate_left
  · intro w hSw; go_simp; try with_reducible rfl
  go_simp
  refine wpAnyH_take (i := 4) (v := ?_) rfl (by kernel_rfl) (by kernel_rfl) (by kernel_rfl) (fun _ _ _ h => h) (Or.inl ⟨by rfl, ?_⟩) (by assumption) ?_
  rotate_left
  · intro w hSw; go_simp; try with_reducible rfl
  go_simp
  refine wpAnyH_take (i := 5) (v := ?_) rfl (by kernel_rfl) (by kernel_rfl) (by kernel_rfl) (fun _ _ _ h => h) (Or.inl ⟨by rfl, ?_⟩) (by assumption) ?_
  rotate_left
  · intro w hSw; go_simp; try with_reducible rfl
  go_simp
  refine wpAnyH_take (i := 7) (v := ?_) rfl (by kernel_rfl) (by kernel_rfl) (by kernel_rfl) (fun _ _ _ h => h) (Or.inl ⟨by rfl, ?_⟩) (by assumption) ?_
  rotate_left
  · intro w hSw; go_simp; try with_reducible rfl
  go_simp
  refine wpAnyH_take (i := 8) (v := ?_) rfl (by kernel_rfl) (by kernel_rfl) (by kernel_rfl) (fun _ _ _ h => h) (Or.inl ⟨by rfl, ?_⟩) (by assumption) ?_
  rotate_left
  · intro w hSw; go_simp; try with_reducible rfl
  go_simp
  refine wpAnyH_ready (rs := [6]) (by kernel_rfl) (by simp) (AllReadyH.cons rfl (fun K hK => ?_) AllReadyH.nil)
  go_simp
  go_at_call 40
  refine (hp.out _).mono ?_
  rintro x wa ⟨rfl, hba⟩
  have L2 : Hid (Below w1.heap.size w1 wa) := L1.out.trans (hba.mono L1.out.size)
  clear hba
  refine hK.out _ _ (hS.out _ L2.out).1 (fun hHeld => ?_)
  clear hK K
  refine wpAnyH_ready (rs := [9]) (by kernel_rfl) (by simp) (AllReadyH.cons rfl (fun K hK => ?_) AllReadyH.nil)
  go_simp
  go_at_call 100
  refine (ho.out _).mono ?_
  rintro x wb ⟨rfl, hbb⟩
  have L3 : Hid (Below w1.heap.size w1 wb) := L2.out.trans (hbb.mono L2.out.size)
  clear hbb
  refine hK.out _ _ (hS.out _ L3.out).1 (fun hHeld => ?_)
  clear hK K
  refine wpAnyH_take (i := 10) (v := ?_) rfl (by kernel_rfl) (by kernel_rfl) (by kernel_rfl) (fun _ _ _ h => h) (Or.inl ⟨by rfl, ?_⟩) (by assumption) ?_
  rotate_left
  · intro w hSw; go_simp; try with_reducible rfl
  go_simp
  refine wpAnyH_take (i := 11) (v := ?_) rfl (by kernel_rfl) (by kernel_rfl) (by kernel_rfl) (fun _ _ _ h => h) (Or.inl ⟨by rfl, ?_⟩) (by assumption) ?_
  rotate_left
  · intro w hSw; go_simp; try with_reducible rfl
  go_simp
  refine wpAnyH_take (i := 12) (v := ?_) rfl (by kernel_rfl) (by kernel_rfl) (by kernel_rfl) (fun _ _ _ h => h) (Or.inl ⟨by rfl, ?_⟩) (by assumption) ?_
  rotate_left
  · intro w hSw; go_simp; try with_reducible rfl
  go_simp
  refine wpAnyH_take (i := 13) (v := ?_) rfl (by kernel_rfl) (by kernel_rfl) (by kernel_rfl) (fun _ _ _ h => h) (Or.inl ⟨by rfl, ?_⟩) (by assumption) ?_
  rotate_left
  · intro w hSw; go_simp; try with_reducible rfl
  go_simp
  refine wpAnyH_done (by kernel_rfl) ?_ _
  refine NoPanic.normal ?_
  go_wp2
  go_ret2
  exact ⟨rfl, hb.out.trans (L3.out.mono hb.out.size)⟩
end Go.Proofs.YtnhkkhiajiiahaaGreatDoor
