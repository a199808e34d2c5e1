/- A slab's small calls, by the program. -/
import Derived.Test.YtnhkkhiajiiahaaGreatDoorSlPlainQ
namespace Go.Proofs.YtnhkkhiajiiahaaGreatDoor
open Go.RowKit Go.PlainAid
set_option linter.unusedVariables false
set_option maxRecDepth 20000
theorem Tryz.size41 : (Tryz.prog.info? 41).map (·.size) = some 4 := by kernel_rfl
theorem pairAt_any (k : Nat) (hk : k ≤ 1000) (w : World) : Calls Tryz.prog 45 #[.int .i64 (k : Int)] w fun e w' => e = .returned (.int .i64 ((100 + k : Nat) : Int)) ∧ w' = w := by
  go_enter Tryz.func45, Tryz.ntmps45
  go_wp2
  go_ret
  exact ⟨by go_num, rfl⟩
theorem cellAt_any (k : Nat) (hk : k ≤ 1000) (w : World) : Calls Tryz.prog 46 #[.int .i64 (k : Int)] w fun e w' => e = .returned (.int .i64 ((120 + k : Nat) : Int)) ∧ w' = w := by
  go_enter Tryz.func46, Tryz.ntmps46
  go_wp2
  go_ret
  exact ⟨by go_num, rfl⟩
set_option maxHeartbeats 1000000 in
/-- Not a number of slots. -/
theorem wgood_no1 (pv : Value) (i n : Int) (key : ByteArray) (h : hasB n 0 = false) (w : World) : Calls Tryz.prog 48 #[slV pv i n key] w fun e w' => e = .returned (.bool false) ∧ Below w.heap.size w w' := by
  have hp : Hid (∀ z, Calls Tryz.prog 81 #[.int .i64 n, .int .i64 0] z fun e w' => e = .returned (.tuple #[.slice none 0 0, .int .i64 2]) ∧ w' = z) := fun z => path_bad n 0 h z
  have hb : Hid (Below w.heap.size w (w.alloc (.cells #[pv, .int .i64 i, .int .i64 n, .string key] 41))) := (Below.refl _ _).alloc (Nat.le_refl _) _
  go_enter Tryz.func48, Tryz.ntmps48
  go_wp2_with (go_at_call 81; refine (hp.out _).mono ?_; rintro e w1 ⟨rfl, hw⟩; rw [hw]; clear hw)
  go_ret
  exact ⟨rfl, hb.out⟩
set_option maxHeartbeats 1000000 in
/-- Not a key. -/
theorem wgood_no2 (pv : Value) (i : Int) (d n : Nat) (key : ByteArray) (hn : 2 ^ d = n) (hd : 1 ≤ d ∧ d ≤ 4) (hk : key.size ≠ 32) (w : World) : Calls Tryz.prog 48 #[slV pv i (n : Int) key] w fun e w' => e = .returned (.bool false) ∧ Below w.heap.size w w' := by
  have hp : Hid (∀ z, Calls Tryz.prog 81 #[.int .i64 (n : Int), .int .i64 0] z fun e w' => ∃ v, e = .returned (.tuple #[v, .int .i64 0]) ∧ w'.ownsRow z.heap.size 3 1 v d (nr .i64 d (nd d 0)) ∧ Below z.heap.size z w') := fun z => path_ok d n 0 hn ⟨hd.1, hd.2, by decide, by have := pow_pos' d; omega⟩ z
  have hb : Hid (Below w.heap.size w (w.alloc (.cells #[pv, .int .i64 i, .int .i64 n, .string key] 41))) := (Below.refl _ _).alloc (Nat.le_refl _) _
  have hB := Blk.box w 41 [pv, .int .i64 i, .int .i64 n, .string key]
  have hk1 : ¬ (key.size : Int) = 32 := by omega
  have hk2 : ((key.size : Int) == 32) = false := by simpa using hk1
  go_enter Tryz.func48, Tryz.ntmps48
  go_wp2_with (go_at_call 81; refine (hp.out _).mono ?_; rintro e w1 ⟨v, rfl, hv, hw⟩; have hB1 := hB.below hw hB.lt; have c3 := hB1.cell (i := 3) rfl; have L1 : Hid (Below w.heap.size w w1) := hb.out.trans (hw.mono hb.out.size); clear hw hv hB hB1)
  go_ret
  exact ⟨rfl, L1.out⟩
set_option maxHeartbeats 1000000 in
/-- It hangs on the disk. -/
theorem wgood_at (pv : Value) (i : Int) (d n : Nat) (key : ByteArray) (hn : 2 ^ d = n) (hd : 1 ≤ d ∧ d ≤ 4) (hk : key.size = 32) (w : World) (q : Option Addr) (hc : ∀ z, Below w.heap.size w z → Calls Tryz.prog 17 #[pv, .int .i64 i] z fun e w' => e = .returned (.pointer q) ∧ w' = z) :
    Calls Tryz.prog 48 #[slV pv i (n : Int) key] w fun e w' => e = .returned (.bool q.isSome) ∧ Below w.heap.size w w' := by
  have hp : Hid (∀ z, Calls Tryz.prog 81 #[.int .i64 (n : Int), .int .i64 0] z fun e w' => ∃ v, e = .returned (.tuple #[v, .int .i64 0]) ∧ w'.ownsRow z.heap.size 3 1 v d (nr .i64 d (nd d 0)) ∧ Below z.heap.size z w') := fun z => path_ok d n 0 hn ⟨hd.1, hd.2, by decide, by have := pow_pos' d; omega⟩ z
  have hb : Hid (Below w.heap.size w (w.alloc (.cells #[pv, .int .i64 i, .int .i64 n, .string key] 41))) := (Below.refl _ _).alloc (Nat.le_refl _) _
  have hB := Blk.box w 41 [pv, .int .i64 i, .int .i64 n, .string key]
  have hk1 : (key.size : Int) = 32 := by omega
  have HC : Hid (∀ z, Below w.heap.size w z → Calls Tryz.prog 17 #[pv, .int .i64 i] z fun e w' => e = .returned (.pointer q) ∧ w' = z) := hc
  clear hc
  go_enter Tryz.func48, Tryz.ntmps48
  cases q with
  | none =>
    go_wp2_with (first
      | (go_at_call 81; refine (hp.out _).mono ?_; rintro e w1 ⟨v, rfl, hv, hw⟩; have hB1 := hB.below hw hB.lt; have c3 := hB1.cell (i := 3) rfl; have c0 := hB1.cell (i := 0) rfl; have c1 := hB1.cell (i := 1) rfl; have L1 : Hid (Below w.heap.size w w1) := hb.out.trans (hw.mono hb.out.size); clear hw hv hB hB1)
      | (go_at_call 17; refine (HC.out _ L1.out).mono ?_; rintro e w2 ⟨rfl, hw⟩; rw [hw]; clear hw))
    go_ret
    exact ⟨rfl, L1.out⟩
  | some a =>
    go_wp2_with (first
      | (go_at_call 81; refine (hp.out _).mono ?_; rintro e w1 ⟨v, rfl, hv, hw⟩; have hB1 := hB.below hw hB.lt; have c3 := hB1.cell (i := 3) rfl; have c0 := hB1.cell (i := 0) rfl; have c1 := hB1.cell (i := 1) rfl; have L1 : Hid (Below w.heap.size w w1) := hb.out.trans (hw.mono hb.out.size); clear hw hv hB hB1)
      | (go_at_call 17; refine (HC.out _ L1.out).mono ?_; rintro e w2 ⟨rfl, hw⟩; rw [hw]; clear hw))
    go_ret
    exact ⟨rfl, L1.out⟩
/-- How many slots, and with which keys. -/
def shpS (n : Int) (key : ByteArray) : Prop := (n = 2 ∨ n = 4 ∨ n = 8 ∨ n = 16) ∧ key.size = 32
instance (n : Int) (key : ByteArray) : Decidable (shpS n key) := by unfold shpS; infer_instance
theorem hasB_zero (n : Int) : hasB n 0 = true ↔ (n = 2 ∨ n = 4 ∨ n = 8 ∨ n = 16) := by
  unfold hasB
  rw [decide_eq_true_eq]
  constructor
  · exact fun h => h.1
  · intro h; exact ⟨h, by decide, by omega⟩
theorem good_of {w : World} {pv : Value} {i n : Int} {key : ByteArray} {q : Option Addr} (hc : ∀ z, Below w.heap.size w z → Calls Tryz.prog 17 #[pv, .int .i64 i] z fun e w' => e = .returned (.pointer q) ∧ w' = z) : GoodIs w (slV pv i n key) (decide (shpS n key ∧ q.isSome = true)) := by
  intro z hz
  by_cases h1 : n = 2 ∨ n = 4 ∨ n = 8 ∨ n = 16
  · obtain ⟨d, d1, d2, rfl⟩ := depI_yes n h1
    by_cases h2 : key.size = 32
    · have h := wgood_at pv i d (2 ^ d) key rfl ⟨d1, d2⟩ h2 z q (fun y hy => hc y (hz.trans (hy.mono hz.size)))
      rw [show decide (shpS ((2 ^ d : Nat) : Int) key ∧ q.isSome = true) = q.isSome by
        cases q with
        | none => exact decide_eq_false (fun h => by cases h.2)
        | some a => exact decide_eq_true ⟨⟨h1, h2⟩, rfl⟩]
      exact h
    · rw [decide_eq_false (fun h => h2 h.1.2)]
      exact wgood_no2 pv i d (2 ^ d) key rfl ⟨d1, d2⟩ h2 z
  · rw [decide_eq_false (fun h => h1 h.1.1)]
    refine wgood_no1 pv i n key ?_ z
    cases h : hasB n 0
    · rfl
    · exact absurd ((hasB_zero n).1 h) h1
section
variable {w : World} {g N : Nat} {D : Nat → Dk} {s : Nat} {p : Option Nat}
/-- Of a bank that there is. -/
theorem good_bank (h : Bk w g N D s p) (i n : Int) (key : ByteArray) : GoodIs w (slV (.pointer (some ⟨g, 0, none⟩)) i n key) (decide (shpS n key ∧ ¬ Out N i)) := by
  rcases out_cases N i with ho | ⟨k, rfl, hk, ho⟩
  · have := good_of (w := w) (n := n) (key := key) (q := none) (fun z hz => bdisk_out (h.below hz).hold i ho)
    rw [show decide (shpS n key ∧ ¬ Out N i) = decide (shpS n key ∧ (none : Option Addr).isSome = true) from decide_eq_decide.2 ⟨fun h => absurd ho h.2, fun h => by cases h.2⟩]
    exact this
  · have := good_of (w := w) (n := n) (key := key) (q := some ⟨(D k).g, 0, none⟩) (fun z hz => bdisk_in (h.below hz).hold k hk)
    rw [show decide (shpS n key ∧ ¬ Out N (k : Int)) = decide (shpS n key ∧ (some ⟨(D k).g, 0, none⟩ : Option Addr).isSome = true) from decide_eq_decide.2 ⟨fun h => ⟨h.1, rfl⟩, fun h => ⟨h.1, ho⟩⟩]
    exact this
end
/-- Is there such a slot? -/
def slE17 (n k : Int) : Int := if k < 0 ∨ n ≤ k then 2 else 0
set_option maxHeartbeats 1000000 in
theorem fault_any {w : World} {pv : Value} {i n : Int} {key : ByteArray} (hg : GoodIs w (slV pv i n key) true) (k : Int) : Calls Tryz.prog 38 #[slV pv i n key, .int .i64 k] w fun e w' => e = .returned (.int .i64 (slE17 n k)) ∧ Below w.heap.size w w' := by
  have hb : Hid (Below w.heap.size w (w.alloc (.cells #[pv, .int .i64 i, .int .i64 n, .string key] 41))) := (Below.refl _ _).alloc (Nat.le_refl _) _
  have hB : Hid (Blk _ _ _ _) := Blk.box w 41 [pv, .int .i64 i, .int .i64 n, .string key]
  have hc : Hid (Calls _ _ _ _ _) := hg _ hb.out
  have hz : Hid ((Tryz.prog.info? 41).map (·.size) = some 4) := Tryz.size41
  obtain ⟨E, hE⟩ : ∃ E, slE17 n k = E := ⟨_, rfl⟩
  rw [hE]
  have HE : Hid (slE17 n k = E) := hE
  clear hE
  by_cases h0 : k < 0
  · go_enter Tryz.func38, Tryz.ntmps38
    go_wp2_with (first
      | (refine wpList_load_blk rfl 41 _ rfl w.heap.size rfl 41 [pv, .int .i64 i, .int .i64 n, .string key] _ hB.out Tryz.underlying41 rfl hz.out ?_)
      | (go_at_call 48; refine hc.out.mono ?_; rintro e w1 ⟨rfl, hw⟩; have L1 : Hid (Below w.heap.size w w1) := hb.out.trans (hw.mono hb.out.size); have hB1 := hB.out.below hw hB.out.lt; have c2 := hB1.cell (i := 2) rfl; clear hw hB1))
    go_ret
    exact ⟨by rw [← HE.out]; unfold slE17; rw [if_pos (.inl h0)]; rfl, L1.out⟩
  · by_cases h1 : n ≤ k
    · go_enter Tryz.func38, Tryz.ntmps38
      go_wp2_with (first
        | (refine wpList_load_blk rfl 41 _ rfl w.heap.size rfl 41 [pv, .int .i64 i, .int .i64 n, .string key] _ hB.out Tryz.underlying41 rfl hz.out ?_)
        | (go_at_call 48; refine hc.out.mono ?_; rintro e w1 ⟨rfl, hw⟩; have L1 : Hid (Below w.heap.size w w1) := hb.out.trans (hw.mono hb.out.size); have hB1 := hB.out.below hw hB.out.lt; have c2 := hB1.cell (i := 2) rfl; clear hw hB1))
      go_ret
      exact ⟨by rw [← HE.out]; unfold slE17; rw [if_pos (.inr h1)]; rfl, L1.out⟩
    · go_enter Tryz.func38, Tryz.ntmps38
      go_wp2_with (first
        | (refine wpList_load_blk rfl 41 _ rfl w.heap.size rfl 41 [pv, .int .i64 i, .int .i64 n, .string key] _ hB.out Tryz.underlying41 rfl hz.out ?_)
        | (go_at_call 48; refine hc.out.mono ?_; rintro e w1 ⟨rfl, hw⟩; have L1 : Hid (Below w.heap.size w w1) := hb.out.trans (hw.mono hb.out.size); have hB1 := hB.out.below hw hB.out.lt; have c2 := hB1.cell (i := 2) rfl; clear hw hB1))
      go_ret
      exact ⟨by rw [← HE.out]; unfold slE17; rw [if_neg (by omega)]; rfl, L1.out⟩
set_option maxHeartbeats 1000000 in
theorem place_any (pv : Value) (i k : Nat) (n : Int) (key : ByteArray) (hi : i ≤ 1000) (hk : k ≤ 1000) (w : World) : Calls Tryz.prog 40 #[slV pv (i : Int) n key, .int .i64 (k : Int)] w fun e w' => e = .returned (.string (plc i k)) ∧ Below w.heap.size w w' := by
  have hb : Hid (Below w.heap.size w (w.alloc (.cells #[pv, .int .i64 i, .int .i64 n, .string key] 41))) := (Below.refl _ _).alloc (Nat.le_refl _) _
  have h1 : Hid (∀ z, Calls Tryz.prog 80 #[.int .u64 (i : Int)] z fun e w' => e = .returned (.string (numB (i : Int))) ∧ Below z.heap.size z w') := fun z => cnumF_any (i : Int) (by omega) (by omega) z
  have h2 : Hid (∀ z, Calls Tryz.prog 80 #[.int .u64 (k : Int)] z fun e w' => e = .returned (.string (numB (k : Int))) ∧ Below z.heap.size z w') := fun z => cnumF_any (k : Int) (by omega) (by omega) z
  have ei : (i : Int) % 18446744073709551616 = (i : Int) := by omega
  have ek : (k : Int) % 18446744073709551616 = (k : Int) := by omega
  have HP : Hid (plc i k = numB (i : Int) ++ numB (k : Int)) := rfl
  have sA := numB_size (i : Int)
  have sB := numB_size (k : Int)
  generalize plc i k = P at *
  generalize numB (i : Int) = A at *
  generalize numB (k : Int) = Bb at *
  have tok : True := trivial
  go_enter Tryz.func40, Tryz.ntmps40
  go_wp2_with (first
    | (go_at_call 80; have _t := tok; refine (h1.out _).mono ?_; rintro e w1 ⟨rfl, hw⟩; have L1 : Hid (Below w.heap.size w w1) := hb.out.trans (hw.mono hb.out.size); clear hw tok)
    | (go_at_call 80; refine (h2.out _).mono ?_; rintro e w2 ⟨rfl, hw⟩; have L2 : Hid (Below w.heap.size w w2) := L1.out.trans (hw.mono L1.out.size); clear hw))
  go_ret
  exact ⟨by rw [HP.out]; rfl, L2.out⟩
end Go.Proofs.YtnhkkhiajiiahaaGreatDoor
