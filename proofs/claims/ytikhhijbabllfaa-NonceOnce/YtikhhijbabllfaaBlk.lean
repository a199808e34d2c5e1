/- Blocks of cells that are known whole, and worlds in which one block alone has turned. -/
import Derived.Test.YtikhhijbabllfaaText
import Derived.Laws.CopyOwn
import Derived.Deep.QuietTactic
import Derived.BigQuiet
import Derived.BigRegion
import Derived.Deep.RegionWith
import Derived.Deep.RegionHeld3
namespace Go.Proofs.Ytikhhijbabllfaa
open Go.RowKit Go.PlainAid
set_option linter.unusedVariables false

/-- The block g holds the cells L. -/
def Blk (w : World) (g : Nat) (T : TypeId) (L : List Value) : Prop := w.heap[g]? = some (.cells L.toArray T (0, 0))
/-- Of what was there the block g alone may have turned. -/
def Only (g : Nat) (w w' : World) : Prop := w.grownBy w' (some g)

set_option maxRecDepth 20000 in
theorem Blk.lt {w : World} {g : Nat} {T : TypeId} {L : List Value} (h : Blk w g T L) : g < w.heap.size := by
  rcases Nat.lt_or_ge g w.heap.size with h' | h'
  · exact h'
  · unfold Blk at h; rw [Array.getElem?_eq_none h'] at h; cases h
set_option maxRecDepth 20000 in
theorem Blk.cell {w : World} {g : Nat} {T : TypeId} {L : List Value} (h : Blk w g T L) {i : Nat} {v : Value} (hi : L[i]? = some v) : w.cell? ⟨g, i, none⟩ = some v := by
  unfold Blk at h
  simp [World.cell?, h, hi]
set_option maxRecDepth 20000 in
theorem Blk.frozen {w : World} {g : Nat} {T : TypeId} {L : List Value} (h : Blk w g T L) (i : Nat) : w.frozen? ⟨g, i, none⟩ = false := by
  unfold Blk at h
  simp [World.frozen?, h]
set_option maxRecDepth 20000 in
theorem Blk.drew {w : World} {g : Nat} {T : TypeId} {L : List Value} (h : Blk w g T L) : Blk w.drew g T L := h
set_option maxRecDepth 20000 in
theorem Blk.drewN {w : World} {g : Nat} {T : TypeId} {L : List Value} (h : Blk w g T L) (n : Nat) : Blk (w.drewN n) g T L := h
set_option maxRecDepth 20000 in
theorem Blk.setCell {w : World} {g : Nat} {T : TypeId} {L : List Value} (h : Blk w g T L) (i : Nat) (v : Value) : Blk (w.setCell ⟨g, i, none⟩ v) g T (L.set i v) := by
  unfold Blk at h ⊢
  rw [setCell_eq_setRow w g i _ T (0, 0) v h, setRow_heap w g _ _ T (0, 0) h]
  simp
set_option maxRecDepth 20000 in
theorem Blk.setOther {w : World} {g k : Nat} {T : TypeId} {L : List Value} (h : Blk w g T L) (hk : g ≠ k) (i : Nat) (v : Value) : Blk (w.setCell ⟨k, i, none⟩ v) g T L := by
  unfold Blk at h ⊢
  rw [Below.heap_setCell w ⟨k, i, none⟩ v g hk]; exact h
set_option maxRecDepth 20000 in
theorem Blk.alloc {w : World} {g : Nat} {T : TypeId} {L : List Value} (h : Blk w g T L) (o : Obj) : Blk (w.alloc o) g T L := by
  have := h.lt
  unfold Blk at h ⊢
  rw [Below.heap_alloc w o g this]; exact h
set_option maxRecDepth 20000 in
theorem Blk.new (w : World) (T : TypeId) (L : Array Value) : Blk (w.alloc (.cells L T)) w.heap.size T L.toList := by
  unfold Blk
  rw [Array.toArray_toList]; exact Array.getElem?_push_size
set_option maxRecDepth 20000 in
theorem Blk.below {w w' : World} {g B : Nat} {T : TypeId} {L : List Value} (h : Blk w g T L) (hb : Below B w w') (hB : g < B) : Blk w' g T L := by
  unfold Blk at h ⊢
  rw [hb.block g hB]; exact h
set_option maxRecDepth 20000 in
theorem Blk.only {w w' : World} {g k : Nat} {T : TypeId} {L : List Value} (h : Blk w g T L) (ho : Only k w w') (hk : g ≠ k) : Blk w' g T L := by
  have hl := h.lt
  unfold Blk at h ⊢
  rw [ho.block g hl (fun e => hk (Option.some.inj e))]; exact h

set_option maxRecDepth 20000 in
theorem Only.refl (g : Nat) (w : World) : Only g w w := ⟨rfl, rfl, rfl, Nat.le_refl _, fun _ _ _ => rfl⟩
set_option maxRecDepth 20000 in
theorem Only.trans {g : Nat} {a b c : World} (h : Only g a b) (k : Only g b c) : Only g a c :=
  ⟨k.os.trans h.os, k.tape.trans h.tape, k.output.trans h.output, Nat.le_trans h.size k.size, fun i hi hne => (k.block i (Nat.lt_of_lt_of_le hi h.size) hne).trans (h.block i hi hne)⟩
set_option maxRecDepth 20000 in
theorem Only.drew {g : Nat} {a w : World} (h : Only g a w) : Only g a w.drew := ⟨h.os, h.tape, h.output, h.size, h.block⟩
set_option maxRecDepth 20000 in
theorem Only.drewN {g : Nat} {a w : World} (h : Only g a w) (n : Nat) : Only g a (w.drewN n) := ⟨h.os, h.tape, h.output, h.size, h.block⟩
set_option maxRecDepth 20000 in
theorem Only.setCell {g : Nat} {a w : World} (h : Only g a w) (i : Nat) (v : Value) : Only g a (w.setCell ⟨g, i, none⟩ v) :=
  h.trans ⟨rfl, rfl, rfl, by simp, fun k hk hne => Below.heap_setCell w ⟨g, i, none⟩ v k (fun e => hne (by rw [e]))⟩
set_option maxRecDepth 20000 in
theorem Only.setRow {g : Nat} {a w : World} (h : Only g a w) (cs : Array Value) : Only g a (w.setRow g cs) :=
  h.trans ⟨rfl, rfl, rfl, by simp [World.setRow], fun k _ hne => setRow_other w g k cs fun e => hne (by rw [e])⟩
set_option maxRecDepth 20000 in
theorem Only.alloc {g : Nat} {a w : World} (h : Only g a w) (o : Obj) : Only g a (w.alloc o) :=
  h.trans ⟨rfl, rfl, rfl, by simp, fun k hk _ => Below.heap_alloc w o k hk⟩
set_option maxRecDepth 20000 in
theorem Only.ofBelow {g : Nat} {w w' : World} (h : Below w.heap.size w w') : Only g w w' := ⟨h.os, h.tape, h.output, h.size, fun k hk _ => h.block k hk⟩
set_option maxRecDepth 20000 in
theorem Only.thenBelow {g : Nat} {a w w' : World} (h : Only g a w) (k : Below w.heap.size w w') : Only g a w' := h.trans (.ofBelow k)
set_option maxRecDepth 20000 in
/-- A block that the call itself made may turn as it likes. -/
theorem Below.only {B g : Nat} {a w w' : World} (h : Below B a w) (ho : Only g w w') (hB : B ≤ w.heap.size) (hg : B ≤ g) : Below B a w' :=
  Below.grown h ho hB (fun k e => by cases e; exact hg)
set_option maxRecDepth 20000 in
theorem Below.toOnly {B g : Nat} {w w' : World} (h : Below B w w') (hB : B ≤ w.heap.size) (hl : ∀ k, B ≤ k → k < w.heap.size → k = g) : Only g w w' :=
  ⟨h.os, h.tape, h.output, h.size, fun k hk hne => by
    rcases Nat.lt_or_ge k B with h' | h'
    · exact h.block k h'
    · exact absurd (by rw [hl k h' hk]) hne⟩

/-- A row of n words S. -/
def ws (n : Nat) (S : Nat → Int) : List Value := (List.range n).map fun i => .int .u32 (S i)
set_option maxRecDepth 20000 in
theorem ws_length (n : Nat) (S : Nat → Int) : (ws n S).length = n := by simp [ws]
set_option maxRecDepth 20000 in
theorem ws_at (n : Nat) (S : Nat → Int) (i : Nat) (h : i < n) : (ws n S)[i]? = some (.int .u32 (S i)) := by simp [ws, h]
set_option maxRecDepth 20000 in
theorem ws_congr (n : Nat) (S R : Nat → Int) (h : ∀ i, i < n → S i = R i) : ws n S = ws n R := by
  unfold ws; exact List.map_congr_left fun i hi => by rw [h i (List.mem_range.1 hi)]
set_option maxRecDepth 20000 in
theorem ws_set (n : Nat) (S : Nat → Int) (k : Nat) (x : Int) : (ws n S).set k (.int .u32 x) = ws n (fun i => if i = k then x else S i) := by
  apply List.ext_getElem
  · simp [ws]
  · intro j h1 h2
    rw [List.getElem_set]
    simp only [ws, List.getElem_map, List.getElem_range]
    by_cases e : k = j
    · rw [if_pos e, if_pos e.symm]
    · rw [if_neg e, if_neg (fun h => e h.symm)]
set_option maxRecDepth 20000 in
theorem ws_one (n : Nat) (S : Nat → Int) : ∀ v ∈ ws n S, v.oneCell' = true := by
  intro v hv
  obtain ⟨i, _, rfl⟩ := List.mem_map.1 hv
  rfl
end Go.Proofs.Ytikhhijbabllfaa
