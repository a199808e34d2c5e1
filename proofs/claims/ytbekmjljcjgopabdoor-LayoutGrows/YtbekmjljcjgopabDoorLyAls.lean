/- What a law keeps: the table, and blocks of its own. -/
import Derived.Test.YtbekmjljcjgopabDoorLyWakes2
import Derived.Deep.DeepCutAuto
import Derived.BigQuiet
namespace Go.Proofs.YtbekmjljcjgopabDoor
open Go.RowKit Go.PlainAid
set_option linter.unusedVariables false
set_option maxRecDepth 20000

def Als (w0 z : World) (bs : List (Nat × TypeId × List Value)) : Prop := (Below w0.heap.size w0 z ∧ Tabs z ∧ w0.heap.size ≤ z.heap.size) ∧ ∀ b ∈ bs, Blk z b.1 b.2.1 b.2.2
section
variable {w0 z z' : World} {bs : List (Nat × TypeId × List Value)}
theorem Als.nil (w : World) (ht : Tabs w) : Als w w [] := ⟨⟨Below.refl _ _, ht, Nat.le_refl _⟩, fun b hb => by cases hb⟩
theorem Als.low (h : Als w0 z bs) : Below w0.heap.size w0 z := h.1.1
theorem Als.tabs (h : Als w0 z bs) : Tabs z := h.1.2.1
theorem Als.next (h : Als w0 z bs) (hb : Below z.heap.size z z') : Als w0 z' bs :=
  ⟨⟨h.1.1.trans (hb.mono h.1.2.2), h.1.2.1.below hb h.1.2.1.lt, Nat.le_trans h.1.2.2 hb.size⟩, fun b hm => (h.2 b hm).below hb (h.2 b hm).lt⟩
theorem Als.drew (h : Als w0 z bs) : Als w0 z.drew bs := h.next (Below.refl _ _).drew
theorem ly_drewN {B : Nat} {a w : World} (h : Below B a w) (n : Nat) : Below B a (w.drewN n) := ⟨h.os, h.tape, h.output, h.size, h.block⟩
theorem Als.drewN (h : Als w0 z bs) (n : Nat) : Als w0 (z.drewN n) bs := h.next (ly_drewN (Below.refl _ _) n)
theorem Als.box (h : Als w0 z bs) (T : TypeId) (L : List Value) : Als w0 (z.alloc (.cells L.toArray T)) ((z.heap.size, T, L) :: bs) := by
  have h1 := h.next (bx z T L)
  exact ⟨h1.1, fun b hb => by
    rcases List.mem_cons.1 hb with rfl | hb
    · exact Blk.box z T L
    · exact h1.2 b hb⟩
theorem Als.tl {b : Nat × TypeId × List Value} (h : Als w0 z (b :: bs)) : Als w0 z bs := ⟨h.1, fun x hx => h.2 x (List.mem_cons_of_mem _ hx)⟩
theorem Als.hd {g : Nat} {T : TypeId} {L : List Value} (h : Als w0 z ((g, T, L) :: bs)) : Blk z g T L := h.2 (g, T, L) (List.mem_cons_self ..)
theorem Als.ly {g : Nat} {T : TypeId} {D S M : Int} {G : Bool} (h : Als w0 z ((g, T, lyL D S M G) :: bs)) : z.cell? ⟨g, 0, none⟩ = some (.int .i64 D) ∧ z.cell? ⟨g, 1, none⟩ = some (.int .i64 S) ∧ z.cell? ⟨g, 2, none⟩ = some (.int .i64 M) ∧ z.cell? ⟨g, 3, none⟩ = some (.bool G) :=
  ⟨h.hd.cell (i := 0) rfl, h.hd.cell (i := 1) rfl, h.hd.cell (i := 2) rfl, h.hd.cell (i := 3) rfl⟩
/-- One of two layouts in a row. -/
theorem Als.mid {g : Nat} {T : TypeId} {D S M D2 S2 M2 : Int} {G G2 : Bool} (h : Als w0 z ((g, T, [.int .i64 D, .int .i64 S, .int .i64 M, .bool G, .int .i64 D2, .int .i64 S2, .int .i64 M2, .bool G2]) :: bs)) (j : Nat) (hj : j < 2) :
    ∃ D' S' M' G', (j = 0 ∧ D' = D ∧ S' = S ∧ M' = M ∧ G' = G ∨ j = 1 ∧ D' = D2 ∧ S' = S2 ∧ M' = M2 ∧ G' = G2) ∧ z.rangeAt g (j * 4) [.int .i64 D', .int .i64 S', .int .i64 M', .bool G'] := by
  have hb := h.hd
  match j, hj with
  | 0, _ => exact ⟨D, S, M, G, .inl ⟨rfl, rfl, rfl, rfl, rfl⟩, fun i v hv => by
      match i, hv with
      | 0, hv => cases hv; exact hb.cell (i := 0) rfl
      | 1, hv => cases hv; exact hb.cell (i := 1) rfl
      | 2, hv => cases hv; exact hb.cell (i := 2) rfl
      | 3, hv => cases hv; exact hb.cell (i := 3) rfl
      | i + 4, hv => simp at hv⟩
  | 1, _ => exact ⟨D2, S2, M2, G2, .inr ⟨rfl, rfl, rfl, rfl, rfl⟩, fun i v hv => by
      match i, hv with
      | 0, hv => cases hv; exact hb.cell (i := 4) rfl
      | 1, hv => cases hv; exact hb.cell (i := 5) rfl
      | 2, hv => cases hv; exact hb.cell (i := 6) rfl
      | 3, hv => cases hv; exact hb.cell (i := 7) rfl
      | i + 4, hv => simp at hv⟩
end
end Go.Proofs.YtbekmjljcjgopabDoor
