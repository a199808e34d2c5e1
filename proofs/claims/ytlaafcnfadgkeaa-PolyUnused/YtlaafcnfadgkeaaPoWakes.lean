/- What the document fixes: the tag of no bytes, and of one byte with a plain key. -/
import Derived.Test.YtlaafcnfadgkeaaPoSum
namespace Go.Proofs.Ytlaafcnfadgkeaa
open Go.RowKit Go.PlainAid
set_option linter.unusedVariables false

theorem Try.info5w : (Try.prog.info? 5).map (fun i => (i.zero, i.size, i.bytes)) = some (some (.int .u8 0), 1, 1) := by kernel_rfl
/-- n bytes of nought in the block G. -/
def HZ (G n : Nat) (z : World) : Prop := ∀ i, i < n → z.cell? ⟨G, i, none⟩ = some (.int .u8 0)
theorem conv_zero (z : World) (G n : Nat) (h : HZ G n z) : (convert 26 9 (.slice (some ⟨G, 0, none⟩) n n)).run Try.prog z = .ok (.string (strOfNums (List.replicate n 0))) z :=
  run_convert_bytes_arg (P := Try.prog) z 26 5 Try.underlying26 Try.underlying5 G 0 n n (List.replicate n 0) (List.length_replicate ..) (fun i hi => by
    rw [Nat.zero_add, h i hi, List.getD_eq_getElem?_getD, List.getElem?_replicate, if_pos hi]; rfl) 9 Try.underlying9
theorem made_zero (n : Nat) (hn : n ≤ 100000) : ∃ Z : Array Value, (∀ x : World, (Instr.makeSlice 26 (.int .i64 (n : Int)) (.int .i64 (n : Int))).run Try.prog x = .ok (.slice (some ⟨x.heap.size, 0, none⟩) n n) (x.alloc (.cells Z 5 (0, 0)))) ∧ ∀ x : World, HZ x.heap.size n (x.alloc (.cells Z 5 (0, 0))) := by
  obtain ⟨i0, hi, hz0, hz1, hz2⟩ := info_parts Try.info5w
  refine ⟨madeCells (Value.int .u8 0).cells (n * i0.size), fun x => ?_, fun x => ?_⟩
  · have := run_make (P := Try.prog) x 26 5 i0 (.int .u8 0) Try.underlying26 hi hz0 .i64 .i64 (n : Int) (n : Int) (by omega) (Int.le_refl _) (by rw [hz2]; omega) (by omega)
    rw [Int.toNat_natCast] at this
    exact this
  · intro i hi
    rw [hz1]
    have : (madeCells (Value.int .u8 0).cells (n * 1)).toList = List.replicate n (.int .u8 0) := by rw [Nat.mul_one]; exact toList_madeCells_one _ _
    have hl : (madeCells (Value.int .u8 0).cells (n * 1))[i]? = some (.int .u8 0) := by
      rw [← Array.getElem?_toList, this, List.getElem?_replicate, if_pos hi]
    rw [cell_of_row (x.alloc (.cells (madeCells (Value.int .u8 0).cells (n * 1)) 5 (0, 0))) x.heap.size i _ 5 (0, 0) (heap_alloc_new x _), hl]
theorem HZ.below {G n B : Nat} {z z' : World} (h : HZ G n z) (hb : Below B z z') (hG : G < B) : HZ G n z' := fun i hi => (hb.cell (p := ⟨G, i, none⟩) hG).trans (h i hi)
/-- string(make([]byte, n)), at one place. -/
theorem zeros_at (n : Nat) (hn : n ≤ 100000) : ∃ Z : Array Value, (∀ x : World, (Instr.makeSlice 26 (.int .i64 (n : Int)) (.int .i64 (n : Int))).run Try.prog x = .ok (.slice (some ⟨x.heap.size, 0, none⟩) n n) (x.alloc (.cells Z 5 (0, 0)))) ∧
    ∀ x : World, (convert 26 9 (.slice (some ⟨x.heap.size, 0, none⟩) n n)).run Try.prog (x.alloc (.cells Z 5 (0, 0))) = .ok (.string (strOfNums (List.replicate n 0))) (x.alloc (.cells Z 5 (0, 0))) := by
  obtain ⟨Z, h1, h2⟩ := made_zero n hn
  exact ⟨Z, h1, fun x => conv_zero _ _ n (h2 x)⟩

def zB (n : Nat) : ByteArray := strOfNums (List.replicate n 0)
theorem zB_size (n : Nat) : (zB n).size = n := by unfold zB; rw [strOfNums_size, List.length_replicate]
def kw1 : ByteArray := ⟨#[1]⟩ ++ zB 15 ++ ⟨#[48, 49, 50, 51, 52, 53, 54, 55, 56, 57, 97, 98, 99, 100, 101, 102]⟩
def kw2 : ByteArray := ⟨#[1]⟩ ++ zB 31
theorem tag1 : tagB kw1 ⟨#[]⟩ = ⟨#[48, 49, 50, 51, 52, 53, 54, 55, 56, 57, 97, 98, 99, 100, 101, 102]⟩ := by decide +kernel
theorem tag2 : tagB kw2 ⟨#[97]⟩ = ⟨#[97, 1]⟩ ++ zB 14 := by decide +kernel
theorem kw1_size : kw1.size = 32 := by decide +kernel
theorem kw2_size : kw2.size = 32 := by decide +kernel

set_option maxHeartbeats 2000000 in
set_option maxRecDepth 20000 in
theorem wakes_any (w : World) : Calls Try.prog 11 #[] w fun e w' => e = .returned (.bool true) ∧ Below w.heap.size w w' := by
  obtain ⟨Za, hma, hca⟩ := zeros_at 15 (by decide)
  obtain ⟨Zb, hmb, hcb⟩ := zeros_at 31 (by decide)
  obtain ⟨Zc, hmc, hcc⟩ := zeros_at 14 (by decide)
  rw [show ((15 : Nat) : Int) = 15 from rfl] at hma
  rw [show ((31 : Nat) : Int) = 31 from rfl] at hmb
  rw [show ((14 : Nat) : Int) = 14 from rfl] at hmc
  rw [show strOfNums (List.replicate 15 0) = zB 15 from rfl] at hca
  rw [show strOfNums (List.replicate 31 0) = zB 31 from rfl] at hcb
  rw [show strOfNums (List.replicate 14 0) = zB 14 from rfl] at hcc
  have c1 := fun w => sum_ok kw1 ⟨#[]⟩ kw1_size (by decide) w
  have c2 := fun w => sum_ok kw2 ⟨#[97]⟩ kw2_size (by decide) w
  rw [tag1] at c1
  rw [tag2] at c2
  have e1 : ⟨#[1]⟩ ++ zB 15 ++ ⟨#[48, 49, 50, 51, 52, 53, 54, 55, 56, 57, 97, 98, 99, 100, 101, 102]⟩ = kw1 := rfl
  have e2 : ⟨#[1]⟩ ++ zB 31 = kw2 := rfl
  have l15 := zB_size 15
  have l31 := zB_size 31
  have l14 := zB_size 14
  generalize kw1 = k1 at *
  generalize kw2 = k2 at *
  generalize zB 15 = z15 at *
  generalize zB 31 = z31 at *
  generalize zB 14 = z14 at *
  have HCb : Hid (∀ x : World, (convert 26 9 (.slice (some ⟨x.heap.size, 0, none⟩) 31 31)).run Try.prog (x.alloc (.cells Zb 5 (0, 0))) = .ok (.string z31) (x.alloc (.cells Zb 5 (0, 0)))) := hcb
  have HCc : Hid (∀ x : World, (convert 26 9 (.slice (some ⟨x.heap.size, 0, none⟩) 14 14)).run Try.prog (x.alloc (.cells Zc 5 (0, 0))) = .ok (.string z14) (x.alloc (.cells Zc 5 (0, 0)))) := hcc
  have hca1 := hca w
  clear hca hcb hcc
  go_enter Try.func11, Try.ntmps11
  go_wp2_with fail
  have hb0 : Below w.heap.size w (w.alloc (.cells Za 5 (0, 0))) := (Below.refl _ _).alloc (Nat.le_refl _) _
  refine (c1 _).mono ?_
  rintro e w1 ⟨rfl, hb1⟩
  have hb2 := hb0.trans (hb1.mono hb0.size)
  have hcb1 := HCb.out w1
  clear hb0 hb1 c1 hca1
  go_wp2_with fail
  have hb3 : Below w.heap.size w (w1.alloc (.cells Zb 5 (0, 0))) := hb2.alloc hb2.size _
  refine (c2 _).mono ?_
  rintro e w2 ⟨rfl, hb4⟩
  have hb5 := hb3.trans (hb4.mono hb3.size)
  have hcc1 := HCc.out w2
  have hb6 : Below w.heap.size w (w2.alloc (.cells Zc 5 (0, 0))) := hb5.alloc hb5.size _
  clear hb2 hb3 hb4 hb5 c2 hcb1
  go_wp2_with fail
  go_ret
  exact ⟨rfl, hb6⟩
end Go.Proofs.Ytlaafcnfadgkeaa
