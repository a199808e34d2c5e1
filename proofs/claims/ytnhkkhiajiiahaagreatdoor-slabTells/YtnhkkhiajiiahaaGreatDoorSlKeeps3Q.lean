/- SlabKeeps: what is wanted at the beginning. -/
import Derived.Test.YtnhkkhiajiiahaaGreatDoorSlKeeps2Q
import Derived.Test.YtnhkkhiajiiahaaGreatDoorSlQuiet0Q
namespace Go.Proofs.YtnhkkhiajiiahaaGreatDoor
open Go.RowKit Go.PlainAid
set_option linter.unusedVariables false
set_option maxRecDepth 20000
/-- The first k are noughts. -/
def flW (k : Nat) : Nat → ByteArray := fun j => if j < k then zB 32 else noB
theorem strs_eq (n : Nat) {f h : Nat → ByteArray} (e : ∀ j, j < n → f j = h j) : strs n f = strs n h := List.map_congr_left fun j hj => by rw [e j (List.mem_range.1 hj)]
def Kf (W : World) (gx g gr gw n : Nat) (key : ByteArray) (b b' : Bs) (top : ByteArray) (k : Nat) (z : World) : Prop := Bth W.heap.size W z gx g gr 2 b b' 1 (n : Int) key top (star (blkA gw 9 (strs n (flW k))) nought)
section
variable {W z z' : World} {gx g gr gw d n k : Nat} {key top : ByteArray} {b b' : Bs} {l : Nat → ByteArray}
theorem Kf.new (h : Bth W.heap.size W z gx g gr 2 b b' 1 (n : Int) key top nought) : Kf W gx g gr z.heap.size n key b b' top 0 (z.alloc (.cells (strs n fun _ => noB).toArray 9)) := by
  have h1 := Hold.newBlk (bth_firm firm_nought) h 9 (strs n fun _ => noB).toArray
  rw [List.toList_toArray] at h1
  exact h1.back4
theorem Kf.below (h : Kf W gx g gr gw n key b b' top k z) (hb : Below z.heap.size z z') : Kf W gx g gr gw n key b b' top k z' := Bth.below ((firm_blk _ _ _).star firm_nought) h hb
theorem Kf.blk (h : Kf W gx g gr gw n key b b' top k z) : Blk z gw 9 (strs n (flW k)) := Hold.blk (Hold.right (Hold.right (Hold.right h)))
theorem Kf.step (h : Kf W gx g gr gw n key b b' top k z) : Kf W gx g gr gw n key b b' top (k + 1) (z.setCell ⟨gw, k, none⟩ (.string (zB 32))) := by
  have h4 := Hold.setBlk ((firm_blk _ _ _).star ((firm_bnk _ _ _ _ _).star ((firm_rbk _ _ _ _ _).star firm_nought))) (Hold.pull4 h) k (.string (zB 32))
  rw [strs_set, show upd (flW k) (k, zB 32) = flW (k + 1) from by
    funext j
    unfold upd flW
    by_cases e : j = k
    · subst e; rw [if_pos rfl, if_pos (by omega)]
    · rw [if_neg e]
      by_cases e2 : j < k
      · rw [if_pos e2, if_pos (by omega)]
      · rw [if_neg e2, if_neg (by omega)]] at h4
  exact Hold.back4 h4
theorem Kf.done (h : Kf W gx g gr gw n key b b' top n z) (hL : Liv 2 1 b l) (hT : InT l d (sl0 top) (fun _ => noB)) (hf : Few17 2 b 100) : Ko W gx g gr gw d n key 0 z := by
  unfold Kf at h
  rw [strs_eq n (f := flW n) (h := fun _ => zB 32) (fun j hj => if_pos hj)] at h
  exact ⟨b, b', l, top, fun _ => noB, fun _ => zB 32, h, hL, hT, kp_begin key 1 n, hf, fun _ => zB_size 32⟩
end
end Go.Proofs.YtnhkkhiajiiahaaGreatDoor
