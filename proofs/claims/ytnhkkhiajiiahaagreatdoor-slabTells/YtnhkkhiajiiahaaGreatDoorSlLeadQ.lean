/- What leads to a slot, by the program. -/
import Derived.Test.YtnhkkhiajiiahaaGreatDoorSlLowQ
import Derived.Test.YtnhkkhiajiiahaaGreatDoorSlOrdQ
namespace Go.Proofs.YtnhkkhiajiiahaaGreatDoor
open Go.RowKit Go.PlainAid
set_option linter.unusedVariables false
set_option maxRecDepth 20000
/-- Which pairs were changed: those of a map; of a nil one none. -/
def ChgIs (w : World) (mv : Value) (f : Nat → Option ByteArray) : Prop := (mv = .map none ∧ ∀ k, f k = none) ∨ ∃ b n, mv = .map (some b) ∧ MapW w b 100 n f
section
variable {w w' : World} {mv : Value} {f : Nat → Option ByteArray}
theorem ChgIs.below (h : ChgIs w mv f) (hb : Below w.heap.size w w') : ChgIs w' mv f := by
  rcases h with h | ⟨b, n, h1, h2⟩
  · exact .inl h
  · exact .inr ⟨b, n, h1, h2.below hb⟩
theorem ChgIs.yes (h : ChgIs w mv f) {k : Nat} (hk : k < 16) {c : ByteArray} (hf : f k = some c) : (Instr.lookup 96 mv (.int .i64 (k : Int)) true).run Tryz.prog w = .ok (.tuple #[wrW ((100 + k : Nat) : Int) c, .bool true]) w := by
  rcases h with ⟨h1, h2⟩ | ⟨b, n, rfl, h2⟩
  · rw [h2 k] at hf; cases hf
  · exact (h2.look hk hf).1
theorem ChgIs.no (h : ChgIs w mv f) {k : Nat} (hk : k < 16) (hf : f k = none) : (Instr.lookup 96 mv (.int .i64 (k : Int)) true).run Tryz.prog w = .ok (.tuple #[wrW 0 noB, .bool false]) w := by
  rcases h with ⟨rfl, h2⟩ | ⟨b, n, rfl, h2⟩
  · exact nilLook w hk
  · exact h2.lookNone hk hf
end
theorem wrow17 (a : Int) (c : ByteArray) : ∀ v ∈ ([.int .i64 a, .string c] : List Value), v.oneCell' = true := fun v hv => by
  simp only [List.mem_cons, List.not_mem_nil, or_false] at hv
  rcases hv with rfl | rfl <;> rfl
theorem Tryz.sizeWr17 : (Tryz.prog.info? 104).map (·.size) = some 2 := by kernel_rfl
theorem set_over (w : World) (c c' : List Value) (T : TypeId) : (w.alloc (.cells c.toArray T)).setRow w.heap.size c'.toArray = w.alloc (.cells c'.toArray T) := World.setRow_alloc_new w c.toArray c'.toArray T
set_option maxHeartbeats 1000000 in
theorem spair_some {w : World} (pv : Value) (i n : Int) (key : ByteArray) {mv : Value} {f : Nat → Option ByteArray} (hc : ChgIs w mv f) {k : Nat} (hk : k < 16) {c : ByteArray} (hf : f k = some c) : Calls Tryz.prog 82 #[slV pv i n key, .int .i64 (k : Int), mv] w fun e w' => e = .returned (.tuple #[.string c, .int .i64 0]) ∧ Below w.heap.size w w' := by
  have hb : Hid (Below w.heap.size w (w.alloc (.cells #[pv, .int .i64 i, .int .i64 n, .string key] 41))) := (Below.refl _ _).alloc (Nat.le_refl _) _
  have hlk := (hc.below hb.out).yes hk hf
  have hz := zero17
  have hz2 : Hid ((Tryz.prog.info? 104).map (·.size) = some 2) := Tryz.sizeWr17
  generalize ((100 + k : Nat) : Int) = A at *
  go_enter Tryz.func82, Tryz.ntmps82
  generalize hw1 : w.alloc (.cells #[pv, .int .i64 i, .int .i64 n, .string key] 41) = w1 at *
  go_wp2_with (refine wpList_store_blk rfl 104 _ _ rfl w1.heap.size [.int .i64 0, .string noB] [.int .i64 A, .string c] rfl rfl 104 (Blk.box _ _ _) hz2.out rfl (wrow17 _ _) ?_; rw [set_over])
  go_ret2
  exact ⟨rfl, hb.out.alloc hb.out.size _⟩
set_option maxHeartbeats 1000000 in
theorem spair_read {w : World} {g N : Nat} {D : Nat → Dk} {s : Nat} {p : Option Nat} (hB : Bk w g N D s p) {i : Nat} (hi : i < N) (hdn : 140 ≤ (D i).n) (n : Int) (key : ByteArray) {mv : Value} {f : Nat → Option ByteArray} (hc : ChgIs w mv f) {k : Nat} (hk : k < 16) (hf : f k = none) :
    Calls Tryz.prog 82 #[slV (.pointer (some ⟨g, 0, none⟩)) (i : Int) n key, .int .i64 (k : Int), mv] w fun e w' => e = .returned (.tuple #[.string (rdS p (D i) (100 + k)), .int .i64 (eR p (D i))]) ∧ Below w.heap.size w w' := by
  have hb : Hid (Below w.heap.size w (w.alloc (.cells #[.pointer (some ⟨g, 0, none⟩), .int .i64 i, .int .i64 n, .string key] 41))) := (Below.refl _ _).alloc (Nat.le_refl _) _
  have hlk := (hc.below hb.out).no hk hf
  have hz := zero17
  have hz2 : Hid ((Tryz.prog.info? 104).map (·.size) = some 2) := Tryz.sizeWr17
  have hbk : Hid (Blk _ _ _ _) := Blk.box w 41 [.pointer (some ⟨g, 0, none⟩), .int .i64 i, .int .i64 n, .string key]
  have hp : Hid (∀ z, Calls Tryz.prog 45 #[.int .i64 (k : Int)] z fun e w' => e = .returned (.int .i64 ((100 + k : Nat) : Int)) ∧ w' = z) := fun z => pairAt_any k (by omega) z
  have hrd : Hid (∀ z, Below w.heap.size w z → Calls Tryz.prog 51 #[.pointer (some ⟨g, 0, none⟩), .int .i64 (i : Int), .int .i64 ((100 + k : Nat) : Int)] z fun e w' => e = .returned (.tuple #[.string (rdS p (D i) (100 + k)), .int .i64 (eR p (D i))]) ∧ w' = z) := fun z hz => bread_at (hB.below hz) hi (by omega)
  generalize rdS p (D i) (100 + k) = T at *
  generalize eR p (D i) = E at *
  generalize ((100 + k : Nat) : Int) = A at *
  go_enter Tryz.func82, Tryz.ntmps82
  generalize hw1 : w.alloc (.cells #[.pointer (some ⟨g, 0, none⟩), .int .i64 i, .int .i64 n, .string key] 41) = w1 at *
  have hbl : Hid (w.heap.size < w1.heap.size) := hbk.out.lt
  go_wp2_with (refine wpList_store_blk rfl 104 _ _ rfl w1.heap.size [.int .i64 0, .string noB] [.int .i64 0, .string noB] rfl rfl 104 (Blk.box _ _ _) hz2.out rfl (wrow17 _ _) ?_; rw [set_over])
  have hS : Hid (∀ z, z = (w1.alloc (.cells #[.int .i64 0, .string noB] 104)).drew → z.cell? ⟨w.heap.size, 0, none⟩ = some (.pointer (some ⟨g, 0, none⟩)) ∧ z.cell? ⟨w.heap.size, 1, none⟩ = some (.int .i64 (i : Int)) ∧ Below w.heap.size w z) := fun z e => by
    have hq : Below w1.heap.size w1 z := by rw [e]; exact ((Below.refl _ _).alloc (Nat.le_refl _) _).drew
    have h1 := hbk.out.below hq hbl.out
    exact ⟨h1.cell (i := 0) rfl, h1.cell (i := 1) rfl, hb.out.trans (hq.mono hb.out.size)⟩
  generalize hw2 : w1.alloc (.cells [.int .i64 0, .string noB].toArray 104) = w2 at *
  refine wp_region_noPanic ?_
  refine wp_region_held_drew (S := fun z : World => z.cell? ⟨w.heap.size, 0, none⟩ = some (.pointer (some ⟨g, 0, none⟩)) ∧ z.cell? ⟨w.heap.size, 1, none⟩ = some (.int .i64 (i : Int))) (by kernel_rfl) ⟨(hS.out _ rfl).1, (hS.out _ rfl).2.1⟩ (fun hHeld => ?_)
  refine wpAnyH_take (i := 0) (v := ?_) rfl (by kernel_rfl) (by kernel_rfl) (by kernel_rfl) (fun _ _ _ h => h) (Or.inl ⟨by rfl, ?_⟩) (by assumption) ?_
  rotate_left
  · intro w hSw; go_simp; try with_reducible rfl
  go_simp
  refine wpAnyH_take (i := 1) (v := ?_) rfl (by kernel_rfl) (by kernel_rfl) (by kernel_rfl) (fun _ _ _ h => h) (Or.inl ⟨by rfl, ?_⟩) (by assumption) ?_
  rotate_left
  · intro w hSw; go_simp; try with_reducible rfl
  go_simp
  refine wpAnyH_take (i := 2) (v := ?_) rfl (by kernel_rfl) (by kernel_rfl) (by kernel_rfl) (fun _ _ _ h => h) (Or.inl ⟨by rfl, ?_⟩) (by assumption) ?_
  rotate_left
  · intro w hSw; go_simp; try with_reducible rfl
  go_simp
  refine wpAnyH_take (i := 3) (v := ?_) rfl (by kernel_rfl) (by kernel_rfl) (by kernel_rfl) (fun _ _ _ h => h) (Or.inl ⟨by rfl, ?_⟩) (by assumption) ?_
  rotate_left
  · intro w hSw; go_simp; try with_reducible rfl
  go_simp
  refine wpAnyH_take (i := 4) (v := ?_) rfl (by kernel_rfl) (by kernel_rfl) (by kernel_rfl) (fun _ _ _ h => h) (Or.inl ⟨by rfl, ?_⟩) (by assumption) ?_
  rotate_left
  · intro w hSw; go_simp; try with_reducible rfl
  go_simp
  refine wpAnyH_ready (rs := [5]) (by kernel_rfl) (by simp) (AllReadyH.cons rfl (fun K hK => ?_) AllReadyH.nil)
  go_simp
  go_at_call 45
  refine (hp.out _).mono ?_
  rintro x wa ⟨rfl, hw⟩
  rw [hw]
  clear hw wa
  refine hK.out _ _ ⟨(hS.out _ rfl).1, (hS.out _ rfl).2.1⟩ (fun hHeld => ?_)
  clear hK K
  refine wpAnyH_ready (rs := [6]) (by kernel_rfl) (by simp) (AllReadyH.cons rfl (fun K hK => ?_) AllReadyH.nil)
  go_simp
  go_at_call 51
  refine (hrd.out _ (hS.out _ rfl).2.2).mono ?_
  rintro x wa ⟨rfl, hw⟩
  rw [hw]
  clear hw wa
  refine hK.out _ _ ⟨(hS.out _ rfl).1, (hS.out _ rfl).2.1⟩ (fun hHeld => ?_)
  clear hK K
  refine wpAnyH_take (i := 7) (v := ?_) rfl (by kernel_rfl) (by kernel_rfl) (by kernel_rfl) (fun _ _ _ h => h) (Or.inl ⟨by rfl, ?_⟩) (by assumption) ?_
  rotate_left
  · intro w hSw; go_simp; try with_reducible rfl
  go_simp
  refine wpAnyH_take (i := 8) (v := ?_) rfl (by kernel_rfl) (by kernel_rfl) (by kernel_rfl) (fun _ _ _ h => h) (Or.inl ⟨by rfl, ?_⟩) (by assumption) ?_
  rotate_left
  · intro w hSw; go_simp; try with_reducible rfl
  go_simp
  refine wpAnyH_take (i := 9) (v := ?_) rfl (by kernel_rfl) (by kernel_rfl) (by kernel_rfl) (fun _ _ _ h => h) (Or.inl ⟨by rfl, ?_⟩) (by assumption) ?_
  rotate_left
  · intro w hSw; go_simp; try with_reducible rfl
  go_simp
  refine wpAnyH_take (i := 10) (v := ?_) rfl (by kernel_rfl) (by kernel_rfl) (by kernel_rfl) (fun _ _ _ h => h) (Or.inl ⟨by rfl, ?_⟩) (by assumption) ?_
  rotate_left
  · intro w hSw; go_simp; try with_reducible rfl
  go_simp
  refine wpAnyH_done (by kernel_rfl) ?_ _
  refine NoPanic.normal ?_
  go_wp2
  go_ret2
  exact ⟨rfl, (hS.out _ rfl).2.2⟩
end Go.Proofs.YtnhkkhiajiiahaaGreatDoor
