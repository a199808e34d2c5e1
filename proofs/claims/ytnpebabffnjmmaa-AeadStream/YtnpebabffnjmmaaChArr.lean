/- Rows of sixteen words, out of and into blocks that are known whole. -/
import Derived.Test.YtnpebabffnjmmaaChQuart
import Derived.Deep.MidRow
namespace Go.Proofs.Ytnpebabffnjmmaa
open Go.RowKit Go.PlainAid
set_option linter.unusedVariables false

theorem Try.zero45 : (Try.prog.info? 45).map (fun i => i.zero) = some (some (.agg (ws 16 (fun _ => 0)).toArray)) := by kernel_rfl
theorem zero45_run (w : World) : (zeroValue 45).run Try.prog w = .ok (.agg (ws 16 (fun _ => 0)).toArray) w := by
  obtain ⟨i, hi, hz⟩ := Option.map_eq_some_iff.1 Try.zero45
  simp [zeroValue, typeInfo, hi, hz]
theorem Try.size45 : (Try.prog.info? 45).map (·.size) = some 16 := by kernel_rfl
theorem load45 {w : World} {g : Nat} {T : TypeId} {S : Nat → Int} (h : Blk w g T (ws 16 S)) : (loadVar 45 ⟨g, 0, none⟩).run Try.prog w = .ok (.agg (ws 16 S).toArray) w :=
  run_loadVar_row w g T 45 _ (0, 0) _ h Try.underlying45 rfl (by rw [Try.size45]; simp [ws_length])
/-- The row behind four stores. -/
theorem ws_four (S : Nat → Int) (a b c d : Nat) (x y z u : Int) : ((((ws 16 S).set a (.int .u32 x)).set b (.int .u32 y)).set c (.int .u32 z)).set d (.int .u32 u) = ws 16 (fun i => if i = d then u else if i = c then z else if i = b then y else if i = a then x else S i) := by
  rw [ws_set, ws_set, ws_set, ws_set]
theorem ws_quarter (S : Nat → Int) (a b c d : Nat) : ((((ws 16 S).set a (.int .u32 (qa (S a) (S b) (S c) (S d)))).set b (.int .u32 (qb (S a) (S b) (S c) (S d)))).set c (.int .u32 (qc (S a) (S b) (S c) (S d)))).set d (.int .u32 (qd (S a) (S b) (S c) (S d))) = ws 16 (qS S a b c d) := by
  rw [ws_four]; rfl
theorem Blk.four {w : World} {g : Nat} {T : TypeId} {S : Nat → Int} (h : Blk w g T (ws 16 S)) (a b c d : Nat) :
    Blk ((((w.setCell ⟨g, a, none⟩ (.int .u32 (qa (S a) (S b) (S c) (S d)))).setCell ⟨g, b, none⟩ (.int .u32 (qb (S a) (S b) (S c) (S d)))).setCell ⟨g, c, none⟩ (.int .u32 (qc (S a) (S b) (S c) (S d)))).setCell ⟨g, d, none⟩ (.int .u32 (qd (S a) (S b) (S c) (S d)))) g T (ws 16 (qS S a b c d)) := by
  rw [← ws_quarter]
  exact (((h.setCell a _).setCell b _).setCell c _).setCell d _
end Go.Proofs.Ytnpebabffnjmmaa
