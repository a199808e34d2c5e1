/- Layouts that came in as plain data; what the table of slots starts as. -/
import Derived.Test.YtbekmjljcjgopabDoorRows
import Derived.Test.YtbekmjljcjgopabDoorLyLow
import Derived.ProofKit
import Derived.LaidMore
import Derived.OpenShut
import Derived.MakeChecks
import Derived.FnData
namespace Go.Proofs.YtbekmjljcjgopabDoor
open Go.ChangeShapes Go.WideShapes Go.ChangeAt Go.RowKit Go.PlainAid
set_option linter.unusedVariables false
set_option maxRecDepth 20000

section
variable {H : Type} {enc : TypeId × Value → H} {W : World}
theorem raw18_in {fuel : Nat} {cs : List Value} {x : DataW H × List MemPlace} (h : DataW.trod enc Tryd.prog W 0 (fun _ => true) true fuel 23 cs = some x) : ∃ (D S M : Int) (G : Bool), cs = [.int .i64 D, .int .i64 S, .int .i64 M, .bool G] ∧ D ≤ 9223372036854775807 ∧ M ≤ 9223372036854775807 := by
  obtain ⟨xs, m, _, _, hl, hn, hf⟩ := DataW.trod_struct Tryd.underlying23 h
  rw [show Tryd.prog.cellsOf 23 = 4 by kernel_rfl] at hl
  have hn4 : xs.length = 4 := hn
  obtain ⟨c0, c1, c2, c3, rfl⟩ : ∃ c0 c1 c2 c3, cs = [c0, c1, c2, c3] := by
    match cs, hl with
    | [c0, c1, c2, c3], _ => exact ⟨c0, c1, c2, c3, rfl⟩
  have h0 : DataW.trod enc Tryd.prog W 0 (fun _ => true) true m 3 [c0] = xs[0]? := hf 0 _ rfl
  have h1 : DataW.trod enc Tryd.prog W 0 (fun _ => true) true m 3 [c1] = xs[1]? := hf 1 _ rfl
  have h2 : DataW.trod enc Tryd.prog W 0 (fun _ => true) true m 3 [c2] = xs[2]? := hf 2 _ rfl
  have h3 : DataW.trod enc Tryd.prog W 0 (fun _ => true) true m 4 [c3] = xs[3]? := hf 3 _ rfl
  rw [List.getElem?_eq_getElem (by omega)] at h0 h1 h2 h3
  obtain ⟨v0, e0, -, w0⟩ := DataW.trod_int Tryd.underlying3 h0
  obtain ⟨v1, e1, -, w1⟩ := DataW.trod_int Tryd.underlying3 h1
  obtain ⟨v2, e2, -, w2⟩ := DataW.trod_int Tryd.underlying3 h2
  obtain ⟨v3, e3, -⟩ := DataW.trod_bool Tryd.underlying4 h3
  cases e0; cases e1; cases e2; cases e3
  exact ⟨v0, v1, v2, v3, rfl, (bounds_i64 w0).2, (bounds_i64 w2).2⟩
theorem raw18_arg {L : List Value} {d : DataW H} {p : List MemPlace} (h : DataW.Trod enc Tryd.prog W 0 (fun _ => true) true 23 (.agg L.toArray) d p) : ∃ (D S M : Int) (G : Bool), L = [.int .i64 D, .int .i64 S, .int .i64 M, .bool G] ∧ D ≤ 9223372036854775807 ∧ M ≤ 9223372036854775807 := by
  obtain ⟨fuel, hf⟩ := h
  obtain ⟨D, S, M, G, h1, h2⟩ := raw18_in hf
  exact ⟨D, S, M, G, by simpa [Value.cells] using h1, h2⟩
end
theorem gSlots : Tryd.prog.globalNamed "cofferdam/layout.slotCounts" = some 0 := by kernel_rfl
theorem tSlots : (Tryd.prog.globals[0]?).map (·.type) = some 40 := by kernel_rfl
theorem cells3 : Tryd.prog.cellsOf 3 = 1 := by kernel_rfl
theorem dSlots : (Rows.laid_cofferdam_layout_slotCounts : DataW Unit) = .agg (([2, 4, 8, 16] : List Int).map fun x => .lit (.int .i64 x)) := rfl
theorem ints_laid {H : Type} {enc : TypeId × Value → H} {W : World} {sp : Nat → Bool} {held : Bool} {fuel : Nat} {t : TypeId} {n g : Nat} {cs : Array Value} {L : List Int} {p : List MemPlace} (hu : Tryd.prog.underlying t = some (.array n 3))
    (hcell : ∀ i, W.cell? ⟨g, i, none⟩ = cs[i]?) (hd : DataW.trod enc Tryd.prog W 0 sp held fuel t cs.toList = some (.agg (L.map fun x => .lit (.int .i64 x)), p)) :
    ∀ i, i < n → W.cell? ⟨g, i, none⟩ = some (.int .i64 (L.getD i 0)) := by
  obtain ⟨xs, m, rfl, hx, hlen, hn, hel⟩ := DataW.trod_array hu hd
  simp only [Prod.mk.injEq, DataW.agg.injEq] at hx
  intro i hi
  have h := hel i hi
  rw [cells3, Nat.mul_one] at h
  have hxi : i < xs.length := by omega
  rw [List.getElem?_eq_getElem hxi] at h
  obtain ⟨k, e1, e2, _⟩ := DataW.trod_int Tryd.underlying3 h
  have hL := congrArg (fun l => l[i]?) hx.1
  simp only [List.getElem?_map, List.getElem?_eq_getElem hxi, Option.map_some] at hL
  rw [e2] at hL
  cases hLi : L[i]? with
  | none => rw [hLi] at hL; cases hL
  | some x =>
    rw [hLi] at hL
    simp only [Option.map_some, Option.some.injEq, DataW.lit.injEq, Lit.int.injEq, true_and] at hL
    subst hL
    rw [hcell i, List.getD_eq_getElem?_getD, hLi, Option.getD_some]
    have h0 := congrArg (fun l => l[0]?) e1
    simp only [List.getElem?_take_of_lt (show 0 < 1 by omega), List.getElem?_drop, Nat.add_zero, List.getElem?_cons_zero] at h0
    rw [← h0, Array.getElem?_toList]
def laid1 : List (String × DataW Unit) := [("cofferdam/layout.slotCounts", Rows.laid_cofferdam_layout_slotCounts)]
theorem of_laid1 {W : World} (h : laidMetH Tryd.prog laid1 W) : Tabs W := by
  rw [MakeChecks.laidMetH_plain _ _ _ (by kernel_rfl)] at h
  obtain ⟨ps, ⟨g2, t2, cs2, f2, p2, q2, hg2, ht2, hv2, hd2, _, _⟩, _, _⟩ := h
  obtain rfl := Option.some.inj (gSlots.symm.trans hg2)
  obtain rfl := Option.some.inj (tSlots.symm.trans ht2)
  rw [dSlots] at hd2
  have h := ints_laid Tryd.underlying40 (World.var?_cell hg2 hv2) hd2
  exact ⟨h 0 (by decide), h 1 (by decide), h 2 (by decide), h 3 (by decide)⟩
theorem door1 (os : Os) (args : Array Value) : laidMetH Tryd.prog laid1 ((World.doorLaid Tryd.prog 400 os).forCall (fun _ _ => 0) ⟨#[], args, []⟩).memory :=
  laidMetH_of_parts3 (fuel := 8) (laidMet_of_run' 8 (by kernel_rfl) (by kernel_rfl)) (by kernel_rfl) (by kernel_rfl)
end Go.Proofs.YtbekmjljcjgopabDoor
