/- A key, a nonce and two numbers that came in, read. -/
import Derived.Test.YtnpebabffnjmmaaPoOpen
namespace Go.Proofs.Ytnpebabffnjmmaa
open Go.ChangeShapes Go.WideShapes Go.ChangeAt Go.RowKit Go.PlainAid
set_option linter.unusedVariables false

set_option maxRecDepth 20000 in
theorem ae_struct {W : World} {b0 : Nat} {t : TypeId} {fs : Array Field} {v : Value} (hu : Try.prog.underlying t = some (.struct fs)) (h : Value.okWide Try.prog W .any b0 t v) : ∃ xs : List Value, v = .agg xs.toArray := by
  simp only [Value.okWide, hu] at h
  obtain ⟨cs, h1, _⟩ := h
  exact ⟨cs.toList, by rw [h1]⟩
section
variable {H : Type} {enc : TypeId × Value → H} {W : World}
set_option maxRecDepth 20000 in
theorem bytes2_arg {L : List Value} {d : DataW H} {p : List MemPlace} (h : DataW.Trod enc Try.prog W 0 (fun _ => true) true 24 (.agg L.toArray) d p) : ∃ f : Nat → Nat, L = nr .u8 2 f ∧ ∀ i, f i < 256 := bytes_arg Try.underlying24 (by kernel_rfl) h
set_option maxRecDepth 20000 in
theorem bytes_in {fuel n : Nat} {t : TypeId} {cs : List Value} {x : DataW H × List MemPlace} (hu : Try.prog.underlying t = some (.array n 5)) (hc : Try.prog.cellsOf t = n) (h : DataW.trod enc Try.prog W 0 (fun _ => true) true fuel t cs = some x) :
    ∀ i, i < n → ∃ k : Nat, cs[i]? = some (.int .u8 (k : Int)) ∧ k < 256 := by
  obtain ⟨xs, m, _, _, hl, hn, hf⟩ := DataW.trod_array hu h
  rw [hc] at hl
  intro i hi
  have h1 := hf i hi
  rw [show Try.prog.cellsOf 5 = 1 by kernel_rfl, Nat.mul_one] at h1
  rw [List.getElem?_eq_getElem (by omega)] at h1
  obtain ⟨k, h3, -, h4⟩ := DataW.trod_int Try.underlying5 h1
  have hb := bounds_u8 h4
  rw [po_take cs i (by omega)] at h3
  refine ⟨k.toNat, ?_, by omega⟩
  rw [List.getElem?_eq_getElem (by omega), (List.cons.inj h3).1, Int.toNat_of_nonneg hb.1]
set_option maxRecDepth 20000 in
theorem keys8_arg {L : List Value} {d : DataW H} {p : List MemPlace} (h : DataW.Trod enc Try.prog W 0 (fun _ => true) true 26 (.agg L.toArray) d p) : ∃ f : Nat → Nat, L = nr .u8 46 f ∧ ∀ i, f i < 256 := by
  obtain ⟨fuel, hf0⟩ := h
  obtain ⟨xs, m, _, _, hl, hn, hf⟩ := DataW.trod_struct Try.underlying26 hf0
  rw [show Try.prog.cellsOf 26 = 46 by kernel_rfl] at hl
  have hl' : L.length = 46 := by simpa [Value.cells] using hl
  have hn3 : xs.length = 3 := hn
  have h0 : DataW.trod enc Try.prog W 0 (fun _ => true) true m 22 ((L.drop 0).take (Try.prog.cellsOf 22)) = xs[0]? := hf 0 _ rfl
  have h1 : DataW.trod enc Try.prog W 0 (fun _ => true) true m 23 ((L.drop 32).take (Try.prog.cellsOf 23)) = xs[1]? := hf 1 _ rfl
  have h2 : DataW.trod enc Try.prog W 0 (fun _ => true) true m 24 ((L.drop 44).take (Try.prog.cellsOf 24)) = xs[2]? := hf 2 _ rfl
  rw [List.getElem?_eq_getElem (by omega)] at h0 h1 h2
  rw [show Try.prog.cellsOf 22 = 32 by kernel_rfl] at h0
  rw [show Try.prog.cellsOf 23 = 12 by kernel_rfl] at h1
  rw [show Try.prog.cellsOf 24 = 2 by kernel_rfl] at h2
  have b0 := bytes_in Try.underlying22 (by kernel_rfl) h0
  have b1 := bytes_in Try.underlying23 (by kernel_rfl) h1
  have b2 := bytes_in Try.underlying24 (by kernel_rfl) h2
  have hs : ∀ i, i < 46 → ∃ k : Nat, L[i]? = some (.int .u8 (k : Int)) ∧ k < 256 := fun i hi => by
    by_cases hi1 : i < 32
    · obtain ⟨k, hk, hk'⟩ := b0 i hi1
      rw [List.getElem?_take_of_lt hi1, List.getElem?_drop, Nat.zero_add] at hk
      exact ⟨k, hk, hk'⟩
    · by_cases hi2 : i < 44
      · obtain ⟨k, hk, hk'⟩ := b1 (i - 32) (by omega)
        rw [List.getElem?_take_of_lt (by omega), List.getElem?_drop, show 32 + (i - 32) = i by omega] at hk
        exact ⟨k, hk, hk'⟩
      · obtain ⟨k, hk, hk'⟩ := b2 (i - 44) (by omega)
        rw [List.getElem?_take_of_lt (by omega), List.getElem?_drop, show 44 + (i - 44) = i by omega] at hk
        exact ⟨k, hk, hk'⟩
  refine ⟨fun i => if h : i < 46 then (hs i h).choose else 0, ?_, ?_⟩
  · apply List.ext_getElem?
    intro i
    by_cases hi : i < 46
    · rw [nr_at _ _ _ i hi]
      refine (hs i hi).choose_spec.1.trans ?_
      simp only [dif_pos hi]
    · rw [List.getElem?_eq_none (by omega), List.getElem?_eq_none (by rw [nr_length]; omega)]
  · intro i
    show (if h : i < 46 then (hs i h).choose else 0) < 256
    split
    · rename_i h; exact (hs i h).choose_spec.2
    · decide
end
end Go.Proofs.Ytnpebabffnjmmaa
