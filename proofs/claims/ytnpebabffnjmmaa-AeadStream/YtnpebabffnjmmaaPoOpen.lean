/- Arrays of bytes that came in. -/
import Derived.Test.YtnpebabffnjmmaaPoRow
import Derived.Test.YtnpebabffnjmmaaPoText
import Derived.OpenShut
import Derived.ShutString
import Derived.ChangeOld
import Derived.ChangeArms
import Derived.ProofKit
namespace Go.Proofs.Ytnpebabffnjmmaa
open Go.ChangeShapes Go.WideShapes Go.ChangeAt Go.RowKit Go.PlainAid
set_option linter.unusedVariables false

set_option maxRecDepth 20000 in
theorem po_agg {W : World} {b0 n : Nat} {t e : TypeId} {v : Value} (hu : Try.prog.underlying t = some (.array n e)) (h : Value.okWide Try.prog W .any b0 t v) : ∃ xs : List Value, v = .agg xs.toArray := by
  simp only [Value.okWide, hu] at h
  obtain ⟨cs, h1, _⟩ := h
  exact ⟨cs.toList, by rw [h1]⟩
section
variable {H : Type} {enc : TypeId × Value → H} {W : World}
set_option maxRecDepth 20000 in
theorem po_take (L : List Value) (i : Nat) (h : i < L.length) : (L.drop i).take 1 = [L[i]] := by
  rw [List.drop_eq_getElem_cons h]; rfl
set_option maxRecDepth 20000 in
theorem bytes_arg {t n : Nat} (hu : Try.prog.underlying t = some (.array n 5)) (hc : Try.prog.cellsOf t = n) {L : List Value} {d : DataW H} {p : List MemPlace} (h : DataW.Trod enc Try.prog W 0 (fun _ => true) true t (.agg L.toArray) d p) :
    ∃ f : Nat → Nat, L = nr .u8 n f ∧ ∀ i, f i < 256 := by
  obtain ⟨fuel, hf0⟩ := h
  obtain ⟨xs, m, _, _, hl, hn, hf⟩ := DataW.trod_array hu hf0
  rw [hc] at hl
  have hl' : L.length = n := by simpa [Value.cells] using hl
  have hs : ∀ i, i < n → ∃ k : Nat, L[i]? = some (.int .u8 (k : Int)) ∧ k < 256 := fun i hi => by
    have h1 := hf i hi
    rw [show Try.prog.cellsOf 5 = 1 by kernel_rfl, Nat.mul_one] at h1
    rw [List.getElem?_eq_getElem (by omega)] at h1
    obtain ⟨k, h3, -, h4⟩ := DataW.trod_int Try.underlying5 h1
    have hb := bounds_u8 h4
    simp only [Value.cells] at h3
    rw [po_take L i (by omega)] at h3
    refine ⟨k.toNat, ?_, by omega⟩
    rw [List.getElem?_eq_getElem (by omega), (List.cons.inj h3).1, Int.toNat_of_nonneg hb.1]
  refine ⟨fun i => if h : i < n then (hs i h).choose else 0, ?_, ?_⟩
  · apply List.ext_getElem?
    intro i
    by_cases hi : i < n
    · rw [nr_at _ _ _ i hi]
      refine (hs i hi).choose_spec.1.trans ?_
      simp only [dif_pos hi]
    · rw [List.getElem?_eq_none (by omega), List.getElem?_eq_none (by rw [nr_length]; omega)]
  · intro i
    show (if h : i < n then (hs i h).choose else 0) < 256
    split
    · rename_i h; exact (hs i h).choose_spec.2
    · decide
set_option maxRecDepth 20000 in
theorem bytes32_arg {L : List Value} {d : DataW H} {p : List MemPlace} (h : DataW.Trod enc Try.prog W 0 (fun _ => true) true 22 (.agg L.toArray) d p) : ∃ f : Nat → Nat, L = nr .u8 32 f ∧ ∀ i, f i < 256 := bytes_arg Try.underlying22 (by kernel_rfl) h
end
end Go.Proofs.Ytnpebabffnjmmaa
