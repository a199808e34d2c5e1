/- Layouts: the program's and the document's, as a law's own variables. -/
import Derived.Test.YtbekmjljcjgopaaDoorLyWakes2
import Derived.Deep.DeepCutAuto
namespace Go.Proofs.YtbekmjljcjgopaaDoor
open Go.RowKit Go.PlainAid
set_option linter.unusedVariables false
set_option maxRecDepth 20000

/-- One layout for each side. -/
def B2 (w0 w : World) (g1 g2 : Nat) (D S M : Int) (G : Bool) : Prop := Below w0.heap.size w0 w ∧ (Blk w g1 24 (lyL D S M G) ∧ Blk w g2 25 (lyL D S M G)) ∧ Tabs w ∧ w0.heap.size ≤ w.heap.size
section
variable {w0 w w' : World} {g1 g2 : Nat} {D S M : Int} {G : Bool}
theorem B2.next (h : B2 w0 w g1 g2 D S M G) (hb : Below w.heap.size w w') : B2 w0 w' g1 g2 D S M G := ⟨h.1.trans (hb.mono h.2.2.2), ⟨h.2.1.1.below hb h.2.1.1.lt, h.2.1.2.below hb h.2.1.2.lt⟩, h.2.2.1.below hb h.2.2.1.lt, Nat.le_trans h.2.2.2 hb.size⟩
theorem B2.tabs (h : B2 w0 w g1 g2 D S M G) : Tabs w := h.2.2.1
theorem B2.low (h : B2 w0 w g1 g2 D S M G) : Below w0.heap.size w0 w := h.1
theorem B2.c8 (h : B2 w0 w g1 g2 D S M G) : ((w.cell? ⟨g1, 0, none⟩ = some (.int .i64 D) ∧ w.cell? ⟨g1, 1, none⟩ = some (.int .i64 S) ∧ w.cell? ⟨g1, 2, none⟩ = some (.int .i64 M) ∧ w.cell? ⟨g1, 3, none⟩ = some (.bool G)) ∧ (w.cell? ⟨g2, 0, none⟩ = some (.int .i64 D) ∧ w.cell? ⟨g2, 1, none⟩ = some (.int .i64 S) ∧ w.cell? ⟨g2, 2, none⟩ = some (.int .i64 M) ∧ w.cell? ⟨g2, 3, none⟩ = some (.bool G))) :=
  ⟨⟨h.2.1.1.cell (i := 0) rfl, h.2.1.1.cell (i := 1) rfl, h.2.1.1.cell (i := 2) rfl, h.2.1.1.cell (i := 3) rfl⟩, ⟨h.2.1.2.cell (i := 0) rfl, h.2.1.2.cell (i := 1) rfl, h.2.1.2.cell (i := 2) rfl, h.2.1.2.cell (i := 3) rfl⟩⟩
theorem boxes (w : World) (ht : Tabs w) (T0 T1 T2 : TypeId) (A L : List Value) : Below w.heap.size w (((w.alloc (.cells A.toArray T0)).alloc (.cells L.toArray T1)).alloc (.cells L.toArray T2)).drew ∧ (Blk (((w.alloc (.cells A.toArray T0)).alloc (.cells L.toArray T1)).alloc (.cells L.toArray T2)).drew (w.heap.size + 1) T1 L ∧ Blk (((w.alloc (.cells A.toArray T0)).alloc (.cells L.toArray T1)).alloc (.cells L.toArray T2)).drew (w.heap.size + 1 + 1) T2 L) ∧ Tabs (((w.alloc (.cells A.toArray T0)).alloc (.cells L.toArray T1)).alloc (.cells L.toArray T2)).drew ∧ w.heap.size ≤ (((w.alloc (.cells A.toArray T0)).alloc (.cells L.toArray T1)).alloc (.cells L.toArray T2)).drew.heap.size := by
  have h0 := bx w T0 A
  have h1 := bx (w.alloc (.cells A.toArray T0)) T1 L
  have h2 := (bx ((w.alloc (.cells A.toArray T0)).alloc (.cells L.toArray T1)) T2 L).drew
  have hB1 := (Blk.box (w.alloc (.cells A.toArray T0)) T1 L)
  have hB1' := hB1.below h2 hB1.lt
  have hB2 := (Blk.box ((w.alloc (.cells A.toArray T0)).alloc (.cells L.toArray T1)) T2 L)
  have hB2' := hB2.below ((Below.refl _ _).drew) hB2.lt
  simp only [World.size_alloc] at hB1' hB2'
  have hb := (h0.trans ((h1.trans (h2.mono h1.size)).mono h0.size))
  exact ⟨hb, ⟨hB1', hB2'⟩, ht.below hb ht.lt, hb.size⟩
theorem b2_a (w : World) (ht : Tabs w) (T0 : TypeId) (A : List Value) : B2 w (((w.alloc (.cells A.toArray T0)).alloc (.cells (lyL D S M G).toArray 24)).alloc (.cells (lyL D S M G).toArray 25)).drew (w.heap.size + 1) (w.heap.size + 1 + 1) D S M G := by
  obtain ⟨a, ⟨b, c⟩, d, e⟩ := boxes w ht T0 24 25 A (lyL D S M G)
  exact ⟨a, ⟨b, c⟩, d, e⟩
theorem b2_b (w : World) (ht : Tabs w) (T0 : TypeId) (A : List Value) : B2 w (((w.alloc (.cells A.toArray T0)).alloc (.cells (lyL D S M G).toArray 25)).alloc (.cells (lyL D S M G).toArray 24)).drew (w.heap.size + 1 + 1) (w.heap.size + 1) D S M G := by
  obtain ⟨a, ⟨b, c⟩, d, e⟩ := boxes w ht T0 25 24 A (lyL D S M G)
  exact ⟨a, ⟨c, b⟩, d, e⟩
end
end Go.Proofs.YtbekmjljcjgopaaDoor
