import Derived.Test.YtokknmkleceooaaGreatDoorSlBegin
namespace Go.Proofs.YtokknmkleceooaaGreatDoor
open Go.RowKit Go.PlainAid
set_option linter.unusedVariables false
set_option maxRecDepth 20000
section
variable {B : Nat} {w0 z : World} {gx g gr : Nat} {b b' : Bs} {i d n : Nat} {key top : ByteArray} {R : Asn} {l : Nat → ByteArray} {C : Nat → ByteArray}
theorem fault_in {pv : Value} {i n : Int} {key : ByteArray} {z : World} (hg : GoodIs z (slV pv i n key) true) {k : Int} (h0 : 0 ≤ k) (h1 : k < n) : FaultIs z (slV pv i n key) k 0 := by
  have := faultIs_any hg k
  rwa [show slE17 n k = 0 from if_neg (by omega)] at this
def pS (b : Bs) (i d : Nat) (top : ByteArray) (cs : List (Int × ByteArray)) : Sl := (prR (rdS b.p (b.D i)) (eR b.p (b.D i)) d (sl0 top) cs).2
theorem slW_few (S : Sl) : (slW S).length ≤ 32 := by
  unfold slW
  rw [List.length_append, slL_length, slL_length]
  have h1 := ksN_length S.ch
  have h2 := ksN_length S.ce
  omega
end
theorem Cg.one (w : World) (s : Int) (c : ByteArray) : Cg (w.alloc (.cells #[.int .i64 s, .string c] 92)) 92 (some ⟨w.heap.size, 0, none⟩) [(s, c)] := by
  refine .inr ⟨w.heap.size, 0, rfl, by simp, fun i p hp => ?_⟩
  match i, hp with
  | 0, hp =>
    cases hp
    intro j v hv
    exact (Blk.new w 92 #[.int .i64 s, .string c]).cell (by simpa using hv)
  | i + 1, hp => simp at hp
end Go.Proofs.YtokknmkleceooaaGreatDoor
