/- Rows of bools, and steps that three disks are gone through by. -/
import Derived.Test.YtmgllcmfnljfjaaDkTri
namespace Go.Proofs.Ytmgllcmfnljfjaa
open Go.RowKit Go.PlainAid
set_option linter.unusedVariables false

/-- What the first k of three have, and the others. -/
def qn (q q' : List Wr) (k i : Nat) : List Wr := if i < k then q' else q
def ln (l l' : Nat → ByteArray) (k i : Nat) : Nat → ByteArray := if i < k then l' else l
/-- Thirty bools, the first j of them set. -/
def bs (j : Nat) : List Value := (List.range 30).map fun i => .bool (decide (i < j))
theorem bs_at (j i : Nat) (h : i < 30) : (bs j)[i]? = some (.bool (decide (i < j))) := by simp [bs, h]
theorem bs_set (j : Nat) (h : j < 30) : (bs j).set j (.bool true) = bs (j + 1) := by
  apply List.ext_getElem?
  intro i
  by_cases e : i = j
  · subst e; rw [List.getElem?_set_self (by simp [bs]; exact h), bs_at _ _ h, decide_eq_true (by omega)]
  · rw [List.getElem?_set_ne (fun h => e h.symm)]
    by_cases hi : i < 30
    · rw [bs_at _ _ hi, bs_at _ _ hi]
      congr 2
      by_cases h1 : i < j
      · rw [decide_eq_true h1, decide_eq_true (by omega)]
      · rw [decide_eq_false h1, decide_eq_false (by omega)]
    · rw [List.getElem?_eq_none (by simp [bs]; omega), List.getElem?_eq_none (by simp [bs]; omega)]
theorem bs_bools {w : World} {g j : Nat} (h : Blk w g 4 (bs j)) (hj : j ≤ 30) : BoolsAt w (.slice (some ⟨g, 0, none⟩) 30 30) 30 (fun i => decide (i < j)) :=
  ⟨⟨_, _, rfl, .inr ⟨g, 0, rfl, h.lt, fun i hi => by rw [Nat.zero_add]; exact h.cell (bs_at j i hi)⟩⟩, fun i hi => decide_eq_false (by omega)⟩
theorem Try.info4 : (Try.prog.info? 4).map (fun i => (i.zero, i.size, i.bytes)) = some (some (.bool false), 1, 1) := by kernel_rfl
theorem make_bools (w : World) : (Instr.makeSlice 33 (.int .i64 30) (.int .i64 30)).run Try.prog w = .ok (.slice (some ⟨w.heap.size, 0, none⟩) 30 30) (w.alloc (.cells (bs 0).toArray 4)) := by
  obtain ⟨i0, hi, hz0, hz1, hz2⟩ := info_parts Try.info4
  have hr := run_make (P := Try.prog) w 33 4 i0 (.bool false) Try.underlying33 hi hz0 .i64 .i64 30 30 (by omega) (by omega) (by rw [hz2]; omega) (by omega)
  have e : madeCells (Value.bool false).cells ((30 : Int).toNat * i0.size) = (bs 0).toArray := by
    rw [hz1, show (30 : Int).toNat * 1 = 30 from rfl]
    apply Array.ext
    · simp [madeCells, bs]
    · intro i h1 h2
      simp [madeCells, bs, Value.cells, Nat.mod_one]
  rw [e] at hr
  exact hr
end Go.Proofs.Ytmgllcmfnljfjaa
