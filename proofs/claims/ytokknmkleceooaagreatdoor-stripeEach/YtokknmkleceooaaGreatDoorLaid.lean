import Derived.Test.YtokknmkleceooaaGreatDoorRows
import Derived.Test.YtokknmkleceooaaGreatDoorShaM
import Derived.ProofKit
import Derived.LaidMore
import Derived.OpenShut
import Derived.MakeChecks
import Derived.FnData
namespace Go.Proofs.YtokknmkleceooaaGreatDoor
open Go.ChangeShapes Go.WideShapes Go.ChangeAt Go.RowKit
set_option linter.unusedVariables false
set_option maxRecDepth 20000 in
theorem gConst : Tryz.prog.globalNamed "cofferdam/sha.constants" = some 2 := by kernel_rfl
set_option maxRecDepth 20000 in
theorem tConst : (Tryz.prog.globals[2]?).map (·.type) = some 298 := by kernel_rfl
set_option maxRecDepth 20000 in
theorem cells195 : Tryz.prog.cellsOf 195 = 1 := by kernel_rfl
set_option maxRecDepth 20000 in
theorem dConst : (Rows.laid_cofferdam_sha_constants : DataW Unit) = .agg (kL.map fun x => .lit (.int .u32 x)) := rfl
set_option maxRecDepth 20000 in
theorem words_laid {H : Type} {enc : TypeId × Value → H} {W : World} {sp : Nat → Bool} {held : Bool} {fuel : Nat} {t : TypeId} {n g : Nat} {cs : Array Value} {L : List Int} {p : List MemPlace} (hu : Tryz.prog.underlying t = some (.array n 195))
    (hcell : ∀ i, W.cell? ⟨g, i, none⟩ = cs[i]?) (hd : DataW.trod enc Tryz.prog W 0 sp held fuel t cs.toList = some (.agg (L.map fun x => .lit (.int .u32 x)), p)) :
    ∀ i, i < n → W.cell? ⟨g, i, none⟩ = some (.int .u32 (L.getD i 0)) := by
  obtain ⟨xs, m, rfl, hx, hlen, hn, hel⟩ := DataW.trod_array hu hd
  simp only [Prod.mk.injEq, DataW.agg.injEq] at hx
  intro i hi
  have h := hel i hi
  rw [cells195, Nat.mul_one] at h
  have hxi : i < xs.length := by omega
  rw [List.getElem?_eq_getElem hxi] at h
  obtain ⟨k, e1, e2, _⟩ := DataW.trod_int Tryz.underlying195 h
  have hL := congrArg (fun l => l[i]?) hx.1
  simp only [List.getElem?_map, List.getElem?_eq_getElem hxi, Option.map_some] at hL
  rw [e2] at hL
  cases hLi : L[i]? with
  | none => rw [hLi] at hL; cases hL
  | some x =>
    rw [hLi] at hL
    simp only [Option.map_some, Option.some.injEq, DataW.lit.injEq, Lit.int.injEq, true_and] at hL
    subst hL
    rw [hcell i, List.getD_eq_getElem?_getD, hLi, Option.getD_some]
    have h0 := congrArg (fun l => l[0]?) e1
    simp only [List.getElem?_take_of_lt (show 0 < 1 by omega), List.getElem?_drop, Nat.add_zero, List.getElem?_cons_zero] at h0
    rw [← h0, Array.getElem?_toList]
def laid1 : List (String × DataW Unit) := [("cofferdam/sha.constants", Rows.laid_cofferdam_sha_constants)]
set_option maxRecDepth 20000 in
theorem of_laid1 {W : World} (h : laidMetH Tryz.prog laid1 W) : Tabs W := by
  rw [MakeChecks.laidMetH_plain _ _ _ (by kernel_rfl)] at h
  obtain ⟨ps, ⟨g2, t2, cs2, f2, p2, q2, hg2, ht2, hv2, hd2, _, _⟩, _, _⟩ := h
  obtain rfl := Option.some.inj (gConst.symm.trans hg2)
  obtain rfl := Option.some.inj (tConst.symm.trans ht2)
  rw [dConst] at hd2
  exact words_laid Tryz.underlying298 (World.var?_cell hg2 hv2) hd2
set_option maxRecDepth 20000 in
theorem door1 (os : Os) (args : Array Value) : laidMetH Tryz.prog laid1 ((World.doorLaid Tryz.prog 400 os).forCall (fun _ _ => 0) ⟨#[], args, []⟩).memory :=
  laidMetH_of_parts3 (fuel := 8) (laidMet_of_run' 8 (by kernel_rfl) (by kernel_rfl)) (by kernel_rfl) (by kernel_rfl)
end Go.Proofs.YtokknmkleceooaaGreatDoor
