/- Texts of arrays of bytes. -/
import Derived.Test.YtnpebabffnjmmaaPoRow
import Derived.Test.YtnpebabffnjmmaaPoText
namespace Go.Proofs.Ytnpebabffnjmmaa
open Go.RowKit Go.PlainAid
set_option linter.unusedVariables false

/-- The text of n bytes f. -/
def tx (n : Nat) (f : Nat → Nat) : ByteArray := strOfNums ((List.range n).map fun i => ((f i : Nat) : Int))
set_option maxRecDepth 20000 in
theorem tx_size (n : Nat) (f : Nat → Nat) : (tx n f).size = n := by unfold tx; rw [strOfNums_size]; simp
set_option maxRecDepth 20000 in
theorem bn_tx (n : Nat) (f : Nat → Nat) (hf : ∀ i, f i < 256) (i : Nat) (h : i < n) : bn (tx n f) i = f i := by
  unfold bn tx
  rw [bt_str _ _ i (by simpa using h)]
  · simp
  · intro x hx
    obtain ⟨j, _, rfl⟩ := List.mem_map.1 hx
    have := hf j
    omega
set_option maxRecDepth 20000 in
theorem conv_blk {w : World} {g T n : Nat} {f : Nat → Nat} (h : Blk w g T (nr .u8 n f)) (m c : Nat) (hm : m ≤ n) : (convert 36 9 (.slice (some ⟨g, 0, none⟩) m c)).run Try.prog w = .ok (.string (tx m f)) w :=
  run_convert_bytes_arg (P := Try.prog) w 36 5 Try.underlying36 Try.underlying5 g 0 m c _ (by simp) (fun i hi => by
    rw [Nat.zero_add, h.cell (nr_at .u8 n f i (by omega))]
    simp [hi]) 9 Try.underlying9
set_option maxRecDepth 20000 in
theorem tx_cut (n m : Nat) (f : Nat → Nat) (hf : ∀ i, f i < 256) (h : m ≤ n) : (tx n f).extract 0 m = tx m f := by
  apply bt_ext
  · rw [ByteArray.size_extract, tx_size, tx_size]; omega
  · intro i hi
    rw [ByteArray.size_extract, tx_size] at hi
    rw [bt_cut _ 0 m i (by rw [tx_size]; exact h) (by omega), Nat.zero_add, ← bn_int, ← bn_int, bn_tx n f hf i (by omega), bn_tx m f hf i (by omega)]
set_option maxRecDepth 20000 in
theorem tx_congr (n : Nat) (f g : Nat → Nat) (h : ∀ i, i < n → f i = g i) : tx n f = tx n g := by
  unfold tx
  congr 1
  exact List.map_congr_left fun i hi => by rw [h i (List.mem_range.1 hi)]
end Go.Proofs.Ytnpebabffnjmmaa
