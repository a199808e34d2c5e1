/- A digest under way, as it lies in memory. -/
import Derived.Test.YtegebaomhbogmaaDoorMix
import Derived.Test.YtegebaomhbogmaaDoorRep
namespace Go.Proofs.YtegebaomhbogmaaDoor
open Go.RowKit Go.PlainAid
set_option linter.unusedVariables false

/-- The cells of a digest under way: the state, the open block's bytes, the length. -/
def hcells (S R : Nat → Int) (n : Nat) : List Value := (List.range 73).map fun j => if j < 8 then .int .u32 (S j) else if j < 72 then .int .u8 (R (j - 8)) else .int .i64 (n : Int)
theorem hcells_length (S R : Nat → Int) (n : Nat) : (hcells S R n).length = 73 := by simp [hcells]
theorem hcells_at (S R : Nat → Int) (n j : Nat) (h : j < 73) : (hcells S R n)[j]? = some (if j < 8 then .int .u32 (S j) else if j < 72 then .int .u8 (R (j - 8)) else .int .i64 (n : Int)) := by
  simp [hcells, h]
theorem hcells_state (S R : Nat → Int) (n j : Nat) (h : j < 8) : (hcells S R n)[j]? = some (.int .u32 (S j)) := by
  rw [hcells_at S R n j (by omega), if_pos h]
theorem hcells_rest (S R : Nat → Int) (n j : Nat) (h : j < 64) : (hcells S R n)[8 + j]? = some (.int .u8 (R j)) := by
  rw [hcells_at S R n (8 + j) (by omega), if_neg (by omega), if_pos (by omega), Nat.add_sub_cancel_left]
theorem hcells_len (S R : Nat → Int) (n : Nat) : (hcells S R n)[72]? = some (.int .i64 (n : Int)) := by
  rw [hcells_at S R n 72 (by omega), if_neg (by omega), if_neg (by omega)]
theorem hcells_one (S R : Nat → Int) (n : Nat) : ∀ v ∈ hcells S R n, v.oneCell' = true := by
  intro v hv
  obtain ⟨i, _, rfl⟩ := List.mem_map.1 hv
  split
  · rfl
  · split <;> rfl
theorem hcells_congr (S S' R R' : Nat → Int) (n : Nat) (hS : ∀ i, i < 8 → S i = S' i) (hR : ∀ i, i < 64 → R i = R' i) : hcells S R n = hcells S' R' n := by
  unfold hcells
  apply List.map_congr_left
  intro j hj
  have := List.mem_range.1 hj
  by_cases h : j < 8
  · rw [if_pos h, if_pos h, hS j h]
  · rw [if_neg h, if_neg h]
    by_cases h2 : j < 72
    · rw [if_pos h2, if_pos h2, hR (j - 8) (by omega)]
    · rw [if_neg h2, if_neg h2]
theorem hcells_setLen (S R : Nat → Int) (n m : Nat) : (hcells S R n).set 72 (.int .i64 (m : Int)) = hcells S R m := by
  apply List.ext_getElem
  · simp [hcells]
  · intro j h1 h2
    simp only [hcells_length] at h2
    rw [List.getElem_set]
    simp only [hcells, List.getElem_map, List.getElem_range]
    by_cases e : 72 = j
    · subst e; rw [if_pos rfl, if_neg (by omega), if_neg (by omega)]
    · rw [if_neg e]
      by_cases h : j < 8
      · rw [if_pos h, if_pos h]
      · rw [if_neg h, if_neg h, if_pos (by omega), if_pos (by omega)]
/-- A digest under way of the bytes s lies in the block g. -/
def HashAt (w : World) (g : Nat) (s : ByteArray) : Prop := ∃ R : Nat → Int, (∀ i, 0 ≤ R i ∧ R i ≤ 255) ∧ (∀ i, i < s.size % 64 → R i = bt s (64 * (s.size / 64) + i)) ∧ Blk w g 118 (hcells (hst s (s.size / 64)) R s.size)
theorem HashAt.lt {w : World} {g : Nat} {s : ByteArray} (h : HashAt w g s) : g < w.heap.size := by
  obtain ⟨R, _, _, hb⟩ := h
  exact hb.lt
theorem HashAt.below {w w' : World} {g B : Nat} {s : ByteArray} (h : HashAt w g s) (hb : Below B w w') (hB : g < B) : HashAt w' g s := by
  obtain ⟨R, h1, h2, h3⟩ := h
  exact ⟨R, h1, h2, h3.below hb hB⟩
theorem HashAt.only {w w' : World} {g k : Nat} {s : ByteArray} (h : HashAt w g s) (ho : Only k w w') (hk : g ≠ k) : HashAt w' g s := by
  obtain ⟨R, h1, h2, h3⟩ := h
  exact ⟨R, h1, h2, h3.only ho hk⟩
/-- The bytes of a text laid over the open block, from r on. -/
theorem hcells_over (S R : Nat → Int) (n r k : Nat) (f : Nat → Int) (hk : r + k ≤ 64) :
    List.take (8 + r) (hcells S R n) ++ ((List.range k).map fun i => Value.int .u8 (f i)) ++ List.drop (8 + r + k) (hcells S R n) = hcells S (fun i => if r ≤ i ∧ i < r + k then f (i - r) else R i) n := by
  apply List.ext_getElem?
  intro j
  rcases Nat.lt_or_ge j (8 + r) with h | h
  · rw [List.append_assoc, List.getElem?_append_left (by simp [hcells_length]; omega), List.getElem?_take_of_lt h, hcells_at _ _ _ _ (by omega), hcells_at _ _ _ _ (by omega)]
    by_cases h8 : j < 8
    · rw [if_pos h8, if_pos h8]
    · rw [if_neg h8, if_neg h8, if_pos (by omega), if_pos (by omega), if_neg (by omega)]
  · rw [List.append_assoc, List.getElem?_append_right (by simp [hcells_length]; omega)]
    have e : j - (List.take (8 + r) (hcells S R n)).length = j - (8 + r) := by simp [hcells_length]; omega
    rw [e]
    rcases Nat.lt_or_ge j (8 + r + k) with h2 | h2
    · rw [List.getElem?_append_left (by simp; omega), hcells_at _ _ _ _ (by omega), if_neg (by omega), if_pos (by omega), if_pos (by omega), List.getElem?_map, List.getElem?_range (by omega)]
      show some (Value.int .u8 (f (j - (8 + r)))) = _
      congr 3
      omega
    · rw [List.getElem?_append_right (by simp; omega), List.getElem?_drop]
      simp only [List.length_map, List.length_range]
      rw [show 8 + r + k + (j - (8 + r) - k) = j by omega]
      rcases Nat.lt_or_ge j 73 with h3 | h3
      · have h8 : ¬ j < 8 := by omega
        rw [hcells_at _ _ _ _ h3, hcells_at _ _ _ _ h3, if_neg h8, if_neg h8]
        by_cases h4 : j < 72
        · rw [if_pos h4, if_pos h4, if_neg (by omega)]
        · rw [if_neg h4, if_neg h4]
      · rw [List.getElem?_eq_none (by rw [hcells_length]; omega), List.getElem?_eq_none (by rw [hcells_length]; omega)]
theorem Tryd.size5 : (Tryd.prog.info? 5).map (·.size) = some 1 := by kernel_rfl
theorem str_cells (q : ByteArray) (k : Nat) (hk : k ≤ q.size) : List.take k (List.map (fun b => Value.int .u8 (b.toNat : Int)) q.data.toList) = (List.range k).map fun i => Value.int .u8 (bt q i) := by
  have hs : q.size = q.data.size := rfl
  apply List.ext_getElem
  · simp; omega
  · intro i h1 h2
    simp only [List.length_map, List.length_range] at h2
    simp only [List.getElem_take, List.getElem_map, List.getElem_range]
    unfold bt
    rw [dif_pos (show i < q.size by omega)]
    simp
    rfl
theorem run_copy_text (w : World) (S R : Nat → Int) (n r k g : Nat) (q : ByteArray) (hg : Blk w g 118 (hcells S R n)) (hr : r < 64) (hk : k = min q.size (64 - r)) :
    (Builtin.copy_ #[51, 9] 3 #[.slice (some ⟨g, 8 + r, none⟩) (64 - r) (64 - r), .string q]).run Tryd.prog w = .ok (.int .i64 (k : Int)) (w.setRow g (hcells S (fun i => if r ≤ i ∧ i < r + k then bt q (i - r) else R i) n).toArray) := by
  have hst := run_storeCells_at Tryd.prog g (8 + r) 118 ((List.range k).map fun i => Value.int .u8 (bt q i)) 0 (hcells S R n).toArray w hg (by simp [hcells_length]; omega) (fun v hv => by
    obtain ⟨i, _, rfl⟩ := List.mem_map.1 hv
    rfl)
  have ho := hcells_over S R n r k (bt q) (by omega)
  simp only [Nat.add_zero, List.length_map, List.length_range] at hst
  rw [ho] at hst
  have hc := str_cells q k (by omega)
  have hm : Nat.min q.size (64 - r) = k := by rw [hk]
  obtain ⟨i0, hi, _⟩ := Option.map_eq_some_iff.1 Tryd.size5
  simp [Builtin.copy_, run_underlying Tryd.underlying51, Builtin.lenOf, Builtin.firstCells, sizeOf, typeInfo, hi, hm]
  rw [hc, hst]
  rfl
end Go.Proofs.YtegebaomhbogmaaDoor
