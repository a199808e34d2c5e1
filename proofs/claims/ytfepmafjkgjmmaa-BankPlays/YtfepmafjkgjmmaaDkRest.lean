/- Restore. -/
import Derived.Test.YtfepmafjkgjmmaaDkCrash
namespace Go.Proofs.Ytfepmafjkgjmmaa
open Go.RowKit Go.PlainAid
set_option linter.unusedVariables false

theorem TextsAt.kept {F : Nat → Prop} {w w' : World} {v : Value} {m : Nat} {f : Nat → ByteArray} (h : TextsAt w v m f) (ho : Kept F w w') (ha : Away F v) : TextsAt w' v m f := by
  obtain ⟨a, cap, rfl, hc0, h1⟩ := h
  refine ⟨a, cap, rfl, hc0, ?_⟩
  rcases h1 with h1 | ⟨b, o, rfl, hb, hc⟩
  · exact .inl h1
  · exact .inr ⟨b, o, rfl, Nat.lt_of_lt_of_le hb ho.size, fun i hi => (ho.cell (p := ⟨b, o + i, none⟩) hb (show ¬ F b from ha ⟨b, o, none⟩ m cap rfl (by omega))).trans (hc i hi)⟩
theorem TextsAt.below {w w' : World} {v : Value} {m : Nat} {f : Nat → ByteArray} (h : TextsAt w v m f) (hb : Below w.heap.size w w') : TextsAt w' v m f := h.kept (F := fun _ => False) (Kept.ofBelow hb) (fun _ _ _ _ _ h => h)
/-- The texts of an image, and none behind them. -/
def rawL (m : Nat) (f : Nat → ByteArray) (i : Nat) : ByteArray := if i < m then f i else noB
/-- What a cell has behind a Restore. -/
def restL (m : Nat) (f : Nat → ByteArray) (i : Nat) : ByteArray := if i < m ∧ (f i).size ≤ 2048 then f i else noB
/-- .. on the way. -/
def midL (m : Nat) (f : Nat → ByteArray) (j i : Nat) : ByteArray := if i < j then restL m f i else rawL m f i
theorem restL_raw (m : Nat) (f : Nat → ByteArray) (i : Nat) : restL m f i = if 2048 < (rawL m f i).size then noB else rawL m f i := by
  unfold restL rawL
  by_cases h : i < m
  · rw [if_pos h]
    by_cases hs : 2048 < (f i).size
    · rw [if_pos hs, if_neg (by omega)]
    · rw [if_neg hs, if_pos ⟨h, by omega⟩]
  · rw [if_neg h, if_neg (fun h' => h h'.1)]
    split <;> rfl
theorem midL_zero (m : Nat) (f : Nat → ByteArray) : midL m f 0 = rawL m f := by funext i; unfold midL; rw [if_neg (by omega)]
theorem midL_cut (m : Nat) (f : Nat → ByteArray) (j : Nat) (h : 2048 < (rawL m f j).size) : upd (midL m f j) (j, noB) = midL m f (j + 1) := by
  funext i
  unfold upd midL
  simp only
  by_cases e : i = j
  · subst e; rw [if_pos rfl, if_pos (by omega), restL_raw, if_pos h]
  · rw [if_neg e]
    by_cases h1 : i < j
    · rw [if_pos h1, if_pos (by omega)]
    · rw [if_neg h1, if_neg (by omega)]
theorem midL_same (m : Nat) (f : Nat → ByteArray) (j : Nat) (h : ¬ 2048 < (rawL m f j).size) : midL m f j = midL m f (j + 1) := by
  funext i
  unfold midL
  by_cases e : i = j
  · subst e; rw [if_neg (by omega), if_pos (by omega), restL_raw, if_neg h]
  · by_cases h1 : i < j
    · rw [if_pos h1, if_pos (by omega)]
    · rw [if_neg h1, if_neg (by omega)]
theorem midL_end (m : Nat) (f : Nat → ByteArray) (n : Nat) : ∀ i, i < n → midL m f n i = restL m f i := by
  intro i hi; unfold midL; rw [if_pos hi]
theorem copy_texts (w : World) (ga n m : Nat) (f : Nat → ByteArray) (v : Value) (ha : Blk w ga 9 (strs n fun _ => noB)) (hv : TextsAt w v m f) :
    ∃ r, (Builtin.copy_ #[37, 37] 3 #[.slice (some ⟨ga, 0, none⟩) n n, v]).run Try.prog w = .ok (.int .i64 r) (w.setRow ga (strs n (rawL m f)).toArray) := by
  obtain ⟨a, cap, rfl, hc0, h1⟩ := hv
  by_cases h0 : min m n = 0
  · have hr := run_copy_none (P := Try.prog) w 37 37 3 9 (some ⟨ga, 0, none⟩) a n n m cap Try.underlying37 (by kernel_rfl) h0
    refine ⟨0, ?_⟩
    rw [hr]
    have e : (strs n fun _ => noB) = strs n (rawL m f) := strs_congr _ _ _ fun i hi => by unfold rawL; rw [if_neg (by omega)]
    rw [← e, setRow_self w ga _ 9 (0, 0) ha]
    rfl
  · rcases h1 with h1 | ⟨b, o, rfl, hb, hc⟩
    · omega
    · have hr := run_copy_row (P := Try.prog) w 37 37 3 9 ga 0 n n ⟨b, o, none⟩ m cap (strs n fun _ => noB).toArray 9 (strs (min m n) f) Try.underlying37 (by kernel_rfl) ha (by rw [strs_length]) (fun j u hu => by
        have hj : j < min m n := by
          rcases Nat.lt_or_ge j (min m n) with h | h
          · exact h
          · rw [List.getElem?_eq_none (by rw [strs_length]; exact h)] at hu; cases hu
        rw [strs_at _ _ j hj] at hu
        rw [Addr.add_mid, hc j (by omega)]; exact hu) (by simp [strs_length] <;> omega) (strs_one _ f)
      refine ⟨(min m n : Nat), ?_⟩
      rw [hr]
      have e : List.take 0 (strs n fun _ => noB).toArray.toList ++ strs (min m n) f ++ List.drop (0 + (strs (min m n) f).length) (strs n fun _ => noB).toArray.toList = strs n (rawL m f) := by
        rw [strs_length, Nat.zero_add, List.take_zero, List.nil_append, List.toList_toArray]
        apply List.ext_getElem?
        intro i
        rcases Nat.lt_or_ge i (min m n) with h | h
        · rw [List.getElem?_append_left (by rw [strs_length]; exact h), strs_at _ _ i h, strs_at _ _ i (by omega)]
          unfold rawL; rw [if_pos (by omega)]
        · rw [List.getElem?_append_right (by rw [strs_length]; exact h), List.getElem?_drop, strs_length, show min m n + (i - min m n) = i by omega]
          rcases Nat.lt_or_ge i n with h2 | h2
          · rw [strs_at _ _ i h2, strs_at _ _ i h2]; unfold rawL; rw [if_neg (by omega)]
          · rw [List.getElem?_eq_none (by rw [strs_length]; exact h2), List.getElem?_eq_none (by rw [strs_length]; exact h2)]
      rw [e, strs_length]
      rfl
/-- What lasts behind a Restore. -/
def restoreL (l : Nat → ByteArray) (dead : Bool) (m : Nat) (f : Nat → ByteArray) : Nat → ByteArray := if dead = true then l else restL m f
end Go.Proofs.Ytfepmafjkgjmmaa
