/- Trees: the document's own Depth, size, Path, digest, Build. -/
import Derived.Test.YtbbgagpompgagabDoorTrPut
import Derived.Test.YtbbgagpompgagabDoorRSum
namespace Go.Proofs.YtbbgagpompgagabDoor
open Go.RowKit Go.PlainAid Go.Shelf
set_option linter.unusedVariables false

def depI (n : Int) : Int := if n = 2 then 1 else if n = 4 then 2 else if n = 8 then 3 else if n = 16 then 4 else 0
theorem depI_pow (d : Nat) (h1 : 1 ≤ d) (h2 : d ≤ 4) : depI ((2 ^ d : Nat) : Int) = (d : Int) := by
  have : d = 1 ∨ d = 2 ∨ d = 3 ∨ d = 4 := by omega
  rcases this with rfl | rfl | rfl | rfl <;> rfl
theorem depI_no (n : Int) (h : ¬ (n = 2 ∨ n = 4 ∨ n = 8 ∨ n = 16)) : depI n = 0 := by unfold depI; rw [if_neg (by omega), if_neg (by omega), if_neg (by omega), if_neg (by omega)]
theorem depI_yes (n : Int) (h : n = 2 ∨ n = 4 ∨ n = 8 ∨ n = 16) : ∃ d : Nat, 1 ≤ d ∧ d ≤ 4 ∧ n = ((2 ^ d : Nat) : Int) := by
  rcases h with rfl | rfl | rfl | rfl
  · exact ⟨1, by decide, by decide, rfl⟩
  · exact ⟨2, by decide, by decide, rfl⟩
  · exact ⟨3, by decide, by decide, rfl⟩
  · exact ⟨4, by decide, by decide, rfl⟩
theorem isTree_pow {n : Nat} (h : isTree n) : ∃ d, 1 ≤ d ∧ d ≤ 4 ∧ 2 ^ d = n := by
  unfold isTree at h
  rcases h with rfl | rfl | rfl | rfl
  · exact ⟨1, by decide, by decide, rfl⟩
  · exact ⟨2, by decide, by decide, rfl⟩
  · exact ⟨3, by decide, by decide, rfl⟩
  · exact ⟨4, by decide, by decide, rfl⟩
theorem pow_isTree {d : Nat} (h1 : 1 ≤ d) (h2 : d ≤ 4) : isTree (2 ^ d) := by
  have : d = 1 ∨ d = 2 ∨ d = 3 ∨ d = 4 := by omega
  unfold isTree
  rcases this with rfl | rfl | rfl | rfl <;> decide

def sizI (n : Nat) : Nat := if 1 ≤ n ∧ n ≤ 4 then 2 ^ n else 0
theorem Tryd.info3q : (Tryd.prog.info? 3).map (fun i => (i.zero, i.size, i.bytes)) = some (some (.int .i64 0), 1, 8) := by kernel_rfl
theorem mk_ints (n : Nat) (h : n ≤ 512) (w : World) : (Instr.makeSlice 32 (.int .i64 (n : Int)) (.int .i64 (n : Int))).run Tryd.prog w = .ok (.slice (some ⟨w.heap.size, 0, none⟩) n n) (w.alloc (.cells (nr .i64 n fun _ => 0).toArray 3)) := by
  obtain ⟨i0, hi, hz0, hz1, hz2⟩ := info_parts Tryd.info3q
  have hr := run_make (P := Tryd.prog) w 32 3 i0 (.int .i64 0) Tryd.underlying32 hi hz0 .i64 .i64 n n (by omega) (by omega) (by rw [hz2]; omega) (by omega)
  rw [hz1, Int.toNat_natCast, show madeCells (Value.int .i64 0).cells (n * 1) = (nr .i64 n fun _ => 0).toArray from by
    apply Array.ext
    · simp [madeCells, nr]
    · intro i h1 h2
      simp [madeCells, nr, Value.cells, Nat.mod_one]] at hr
  exact hr
/-- The nodes written by then. -/
def nM (d s j i : Nat) : Nat := if j ≤ i then nd d s i else 0
end Go.Proofs.YtbbgagpompgagabDoor
