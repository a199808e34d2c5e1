/- What the document fixes: the tag of no bytes, and of one byte with a plain key. -/
import Derived.Test.YtnpebabffnjmmaaPoSum
namespace Go.Proofs.Ytnpebabffnjmmaa
open Go.RowKit Go.PlainAid
set_option linter.unusedVariables false

set_option maxRecDepth 20000 in
theorem Try.info5w : (Try.prog.info? 5).map (fun i => (i.zero, i.size, i.bytes)) = some (some (.int .u8 0), 1, 1) := by kernel_rfl
/-- n bytes of nought in the block G. -/
def PZ (G n : Nat) (z : World) : Prop := ∀ i, i < n → z.cell? ⟨G, i, none⟩ = some (.int .u8 0)
set_option maxRecDepth 20000 in
theorem pz_conv (z : World) (G n : Nat) (h : PZ G n z) : (convert 36 9 (.slice (some ⟨G, 0, none⟩) n n)).run Try.prog z = .ok (.string (strOfNums (List.replicate n 0))) z :=
  run_convert_bytes_arg (P := Try.prog) z 36 5 Try.underlying36 Try.underlying5 G 0 n n (List.replicate n 0) (List.length_replicate ..) (fun i hi => by
    rw [Nat.zero_add, h i hi, List.getD_eq_getElem?_getD, List.getElem?_replicate, if_pos hi]; rfl) 9 Try.underlying9
set_option maxRecDepth 20000 in
theorem pz_made (n : Nat) (hn : n ≤ 100000) : ∃ Z : Array Value, (∀ x : World, (Instr.makeSlice 36 (.int .i64 (n : Int)) (.int .i64 (n : Int))).run Try.prog x = .ok (.slice (some ⟨x.heap.size, 0, none⟩) n n) (x.alloc (.cells Z 5 (0, 0)))) ∧ ∀ x : World, PZ x.heap.size n (x.alloc (.cells Z 5 (0, 0))) := by
  obtain ⟨i0, hi, hz0, hz1, hz2⟩ := info_parts Try.info5w
  refine ⟨madeCells (Value.int .u8 0).cells (n * i0.size), fun x => ?_, fun x => ?_⟩
  · have := run_make (P := Try.prog) x 36 5 i0 (.int .u8 0) Try.underlying36 hi hz0 .i64 .i64 (n : Int) (n : Int) (by omega) (Int.le_refl _) (by rw [hz2]; omega) (by omega)
    rw [Int.toNat_natCast] at this
    exact this
  · intro i hi
    rw [hz1]
    have : (madeCells (Value.int .u8 0).cells (n * 1)).toList = List.replicate n (.int .u8 0) := by rw [Nat.mul_one]; exact toList_madeCells_one _ _
    have hl : (madeCells (Value.int .u8 0).cells (n * 1))[i]? = some (.int .u8 0) := by
      rw [← Array.getElem?_toList, this, List.getElem?_replicate, if_pos hi]
    rw [cell_of_row (x.alloc (.cells (madeCells (Value.int .u8 0).cells (n * 1)) 5 (0, 0))) x.heap.size i _ 5 (0, 0) (heap_alloc_new x _), hl]
set_option maxRecDepth 20000 in
theorem PZ.below {G n B : Nat} {z z' : World} (h : PZ G n z) (hb : Below B z z') (hG : G < B) : PZ G n z' := fun i hi => (hb.cell (p := ⟨G, i, none⟩) hG).trans (h i hi)
set_option maxRecDepth 20000 in
/-- string(make([]byte, n)), at one place. -/
theorem zeros_at (n : Nat) (hn : n ≤ 100000) : ∃ Z : Array Value, (∀ x : World, (Instr.makeSlice 36 (.int .i64 (n : Int)) (.int .i64 (n : Int))).run Try.prog x = .ok (.slice (some ⟨x.heap.size, 0, none⟩) n n) (x.alloc (.cells Z 5 (0, 0)))) ∧
    ∀ x : World, (convert 36 9 (.slice (some ⟨x.heap.size, 0, none⟩) n n)).run Try.prog (x.alloc (.cells Z 5 (0, 0))) = .ok (.string (strOfNums (List.replicate n 0))) (x.alloc (.cells Z 5 (0, 0))) := by
  obtain ⟨Z, h1, h2⟩ := pz_made n hn
  exact ⟨Z, h1, fun x => pz_conv _ _ n (h2 x)⟩

def zB (n : Nat) : ByteArray := strOfNums (List.replicate n 0)
set_option maxRecDepth 20000 in
theorem zB_size (n : Nat) : (zB n).size = n := by unfold zB; rw [strOfNums_size, List.length_replicate]
def kw1 : ByteArray := ⟨#[1]⟩ ++ zB 15 ++ ⟨#[48, 49, 50, 51, 52, 53, 54, 55, 56, 57, 97, 98, 99, 100, 101, 102]⟩
def kw2 : ByteArray := ⟨#[1]⟩ ++ zB 31
set_option maxRecDepth 20000 in
theorem tag1 : tagB kw1 ⟨#[]⟩ = ⟨#[48, 49, 50, 51, 52, 53, 54, 55, 56, 57, 97, 98, 99, 100, 101, 102]⟩ := by decide +kernel
set_option maxRecDepth 20000 in
theorem tag2 : tagB kw2 ⟨#[97]⟩ = ⟨#[97, 1]⟩ ++ zB 14 := by decide +kernel
set_option maxRecDepth 20000 in
theorem kw1_size : kw1.size = 32 := by decide +kernel
set_option maxRecDepth 20000 in
theorem kw2_size : kw2.size = 32 := by decide +kernel

end Go.Proofs.Ytnpebabffnjmmaa
