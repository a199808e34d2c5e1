import Derived.Test.YtokknmkleceooaaGreatDoorSlBlank
import Derived.BigRegion
namespace Go.Proofs.YtokknmkleceooaaGreatDoor
open Go.RowKit Go.PlainAid
set_option linter.unusedVariables false
set_option maxRecDepth 20000
def RGoodIs (w : World) (sv : Value) (b : Bool) : Prop := ∀ z, Below w.heap.size w z → Calls Tryz.prog 90 #[sv] z fun e w' => e = .returned (.bool b) ∧ Below z.heap.size z w'
theorem RGoodIs.below {w w' : World} {sv : Value} {b : Bool} (h : RGoodIs w sv b) (hb : Below w.heap.size w w') : RGoodIs w' sv b := fun z hz => h z (hb.trans (hz.mono hb.size))
theorem Tryz.size52 : (Tryz.prog.info? 52).map (·.size) = some 4 := by kernel_rfl
theorem Rk.top {w : World} {g N : Nat} {D : Nat → Dk} {s : Nat} {p : Option Nat} (h : Rk w g N D s p) : ∃ gd cap, w.cell? ⟨g, 0, none⟩ = some (.slice (some ⟨gd, 0, none⟩) N cap) ∧ N ≤ 12 := by
  obtain ⟨gd, cap, h1, h2, h3⟩ := h.hold.rbkTop
  exact ⟨gd, cap, h1.cell (i := 0) rfl, h.hold.rbkN.2⟩
def Lo (w z : World) (pv : Value) (i n : Int) (key : ByteArray) (v nv : Value) (d k : Nat) (q cf : Nat → ByteArray) (s : Nat) : Prop :=
  Hold w.heap.size w z (star (rowK 9 1 v k (strs k q)) (star (rowK 3 1 nv d (nr .i64 d (nd d s))) (star (blkA w.heap.size 52 [pv, .int .i64 i, .int .i64 n, .string key]) (star (blkA (w.heap.size + 1) 167 (strs 16 cf)) nought))))
section
variable {w z z' : World} {pv : Value} {i n : Int} {key : ByteArray} {v nv : Value} {d k : Nat} {q cf : Nat → ByteArray} {s : Nat}
theorem lo_firm : Firm (star (rowK 3 1 nv d (nr .i64 d (nd d s))) (star (blkA w.heap.size 52 [pv, .int .i64 i, .int .i64 n, .string key]) (star (blkA (w.heap.size + 1) 167 (strs 16 cf)) nought))) := (firm_rowK _ _ _ _ _).star ((firm_blk _ _ _).star ((firm_blk _ _ _).star firm_nought))
theorem Lo.below (h : Lo w z pv i n key v nv d k q cf s) (hb : Below z.heap.size z z') : Lo w z' pv i n key v nv d k q cf s := Hold.below h ((firm_rowK _ _ _ _ _).star lo_firm) hb
theorem Lo.low (h : Lo w z pv i n key v nv d k q cf s) : Below w.heap.size w z := Hold.low h
theorem Lo.box (h : Lo w z pv i n key v nv d k q cf s) : Blk z w.heap.size 52 [pv, .int .i64 i, .int .i64 n, .string key] := (Hold.right (Hold.right h)).blk
theorem Lo.chg (h : Lo w z pv i n key v nv d k q cf s) : Blk z (w.heap.size + 1) 167 (strs 16 cf) := (Hold.right (Hold.right (Hold.right h))).blk
theorem Lo.sc {g1 c1 : Nat} (h : Lo w z pv i n key v (.slice (some ⟨g1, 0, none⟩) d c1) d k q cf s) (hk : k < d) : z.cell? ⟨w.heap.size, 0, none⟩ = some pv ∧ z.cell? ⟨w.heap.size, 1, none⟩ = some (.int .i64 i) ∧ z.cell? ⟨g1, k, none⟩ = some (.int .i64 (nd d s k : Int)) := by
  obtain ⟨g2, e, hc⟩ := owns_cell (Hold.rowK (Hold.right h)) (nr_at .i64 d (nd d s) k hk)
  cases e
  exact ⟨h.box.cell (i := 0) rfl, h.box.cell (i := 1) rfl, hc⟩
end
end Go.Proofs.YtokknmkleceooaaGreatDoor
