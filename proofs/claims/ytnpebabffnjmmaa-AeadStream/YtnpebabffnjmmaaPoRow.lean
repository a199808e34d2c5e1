/- Rows of numbers (five parts of 64 bits, seventeen bytes as int), out of and into blocks that are known whole. -/
import Derived.Test.YtnpebabffnjmmaaBrow
import Derived.Test.YtnpebabffnjmmaaCut
import Derived.Test.YtnpebabffnjmmaaPoMath
namespace Go.Proofs.Ytnpebabffnjmmaa
open Go.RowKit Go.PlainAid
set_option linter.unusedVariables false

/-- A row of n numbers S of kind κ. -/
def nr (κ : IntKind) (n : Nat) (S : Nat → Nat) : List Value := (List.range n).map fun i => .int κ ((S i : Nat) : Int)
theorem nr_length (κ : IntKind) (n : Nat) (S : Nat → Nat) : (nr κ n S).length = n := by simp [nr]
theorem nr_at (κ : IntKind) (n : Nat) (S : Nat → Nat) (i : Nat) (h : i < n) : (nr κ n S)[i]? = some (.int κ ((S i : Nat) : Int)) := by simp [nr, h]
theorem nr_congr (κ : IntKind) (n : Nat) (S R : Nat → Nat) (h : ∀ i, i < n → S i = R i) : nr κ n S = nr κ n R := by
  unfold nr; exact List.map_congr_left fun i hi => by rw [h i (List.mem_range.1 hi)]
theorem nr_set (κ : IntKind) (n : Nat) (S : Nat → Nat) (k x : Nat) : (nr κ n S).set k (.int κ (x : Int)) = nr κ n (fun i => if i = k then x else S i) := by
  apply List.ext_getElem
  · simp [nr]
  · intro j h1 h2
    rw [List.getElem_set]
    simp only [nr, List.getElem_map, List.getElem_range]
    by_cases e : k = j
    · rw [if_pos e, if_pos e.symm]
    · rw [if_neg e, if_neg (fun h => e h.symm)]
theorem nr_one (κ : IntKind) (n : Nat) (S : Nat → Nat) : ∀ v ∈ nr κ n S, v.oneCell' = true := by
  intro v hv
  obtain ⟨i, _, rfl⟩ := List.mem_map.1 hv
  rfl
/-- One element of an array by value. -/
theorem run_index_agg {P : Program} (w : World) (t e : TypeId) (n : Nat) (L : List Value) (i : Nat) (v : Value) (h : P.underlying t = some (.array n e)) (hi : i < n) (hv : L[i]? = some v)
    (ha : ∀ w, (isAgg e).run P w = .ok false w) (hs : ∀ w, (sizeOf e).run P w = .ok 1 w) : (Instr.index t (.agg L.toArray) (.int .i64 (i : Int))).run P w = .ok v w := by
  have hn : (0 : Int) ≤ (i : Int) ∧ (i : Int) < (n : Int) := by omega
  simp [Instr.index, run_underlying h, asIntOf, hn, hs, ha, part, hv, go_sem]
  intro h; omega

theorem Try.zero74 : (Try.prog.info? 74).map (fun i => i.zero) = some (some (.agg (nr .u64 5 (fun _ => 0)).toArray)) := by kernel_rfl
theorem zero74_run (w : World) : (zeroValue 74).run Try.prog w = .ok (.agg (nr .u64 5 (fun _ => 0)).toArray) w := by
  obtain ⟨i, hi, hz⟩ := Option.map_eq_some_iff.1 Try.zero74
  simp [zeroValue, typeInfo, hi, hz]
theorem Try.size74 : (Try.prog.info? 74).map (·.size) = some 5 := by kernel_rfl
theorem load74 {w : World} {g : Nat} {T : TypeId} {L : List Value} (h : Blk w g T L) (hl : L.length = 5) : (loadVar 74 ⟨g, 0, none⟩).run Try.prog w = .ok (.agg L.toArray) w :=
  run_loadVar_row w g T 74 _ (0, 0) _ h Try.underlying74 rfl (by rw [Try.size74]; simp [hl])
theorem Try.zero89 : (Try.prog.info? 89).map (fun i => i.zero) = some (some (.agg (nr .i64 17 (fun _ => 0)).toArray)) := by kernel_rfl
theorem zero89_run (w : World) : (zeroValue 89).run Try.prog w = .ok (.agg (nr .i64 17 (fun _ => 0)).toArray) w := by
  obtain ⟨i, hi, hz⟩ := Option.map_eq_some_iff.1 Try.zero89
  simp [zeroValue, typeInfo, hi, hz]
theorem Try.size89 : (Try.prog.info? 89).map (·.size) = some 17 := by kernel_rfl
theorem load89 {w : World} {g : Nat} {T : TypeId} {L : List Value} (h : Blk w g T L) (hl : L.length = 17) : (loadVar 89 ⟨g, 0, none⟩).run Try.prog w = .ok (.agg L.toArray) w :=
  run_loadVar_row w g T 89 _ (0, 0) _ h Try.underlying89 rfl (by rw [Try.size89]; simp [hl])
theorem index74 (w : World) (S : Nat → Nat) (i : Nat) (hi : i < 5) : (Instr.index 74 (.agg (nr .u64 5 S).toArray) (.int .i64 (i : Int))).run Try.prog w = .ok (.int .u64 ((S i : Nat) : Int)) w :=
  run_index_agg w 74 72 5 _ i _ Try.underlying74 hi (nr_at _ _ _ i hi) Try.isAgg72 Try.sizeOf72
/-- A row box of a call's own argument. -/
theorem Blk.box (w : World) (T : TypeId) (L : List Value) : Blk (w.alloc (.cells L.toArray T)) w.heap.size T L := by
  have := Blk.new w T L.toArray
  simpa using this
end Go.Proofs.Ytnpebabffnjmmaa
