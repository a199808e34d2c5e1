/- Four words, and a key, a nonce and a number, that came in, read. -/
import Derived.Test.YtajkfjafhigcpabChKeys
import Derived.ProofKit
import Derived.OpenShut
import Derived.ShutString
import Derived.ChangeArms
namespace Go.Proofs.Ytajkfjafhigcpab
open Go.ChangeShapes Go.WideShapes Go.RowKit
set_option linter.unusedVariables false

theorem okWide_aggL {W : World} {b0 n : Nat} {t e : TypeId} {v : Value} (hu : Try.prog.underlying t = some (.array n e)) (h : Value.okWide Try.prog W .any b0 t v) : ∃ xs : List Value, v = .agg xs.toArray := by
  simp only [Value.okWide, hu] at h
  obtain ⟨cs, h1, _⟩ := h
  exact ⟨cs.toList, by rw [h1]⟩
theorem okWide_struct {W : World} {b0 : Nat} {t : TypeId} {fs : Array Field} {v : Value} (hu : Try.prog.underlying t = some (.struct fs)) (h : Value.okWide Try.prog W .any b0 t v) : ∃ xs : List Value, v = .agg xs.toArray := by
  simp only [Value.okWide, hu] at h
  obtain ⟨cs, h1, _⟩ := h
  exact ⟨cs.toList, by rw [h1]⟩
theorem take_one (cs : List Value) (i : Nat) (h : i < cs.length) : List.take 1 (List.drop i cs) = [cs[i]] := by
  rw [List.drop_eq_getElem_cons h]; rfl
section
variable {H : Type} {enc : TypeId × Value → H} {W : World}
theorem bytes_at {fuel n : Nat} {t : TypeId} {cs : List Value} {x : DataW H × List MemPlace} (hu : Try.prog.underlying t = some (.array n 5)) (hc : Try.prog.cellsOf t = n) (h : DataW.trod enc Try.prog W 0 (fun _ => true) true fuel t cs = some x) :
    cs.length = n ∧ ∀ i, i < n → ∃ k : Int, cs[i]? = some (.int .u8 k) := by
  obtain ⟨xs, m, _, _, hl, hn, hf⟩ := DataW.trod_array hu h
  rw [hc] at hl
  refine ⟨hl, fun i hi => ?_⟩
  have h1 := hf i hi
  rw [show Try.prog.cellsOf 5 = 1 by kernel_rfl, Nat.mul_one] at h1
  rw [List.getElem?_eq_getElem (by omega)] at h1
  obtain ⟨k, h3, -, -⟩ := DataW.trod_int Try.underlying5 h1
  rw [take_one cs i (by omega)] at h3
  exact ⟨k, by rw [List.getElem?_eq_getElem (by omega), (List.cons.inj h3).1]⟩
theorem keys_arg {L : List Value} {d : DataW H} {p : List MemPlace} (h : DataW.Trod enc Try.prog W 0 (fun _ => true) true 25 (.agg L.toArray) d p) : ∃ c : Int, KeysL L c := by
  obtain ⟨fuel, hf0⟩ := h
  obtain ⟨xs, m, _, _, hl, hn, hf⟩ := DataW.trod_struct Try.underlying25 hf0
  rw [show Try.prog.cellsOf 25 = 45 by kernel_rfl] at hl
  have hl' : L.length = 45 := by simpa [Value.cells] using hl
  have hn3 : xs.length = 3 := hn
  have h0 : DataW.trod enc Try.prog W 0 (fun _ => true) true m 22 ((L.drop 0).take (Try.prog.cellsOf 22)) = xs[0]? := hf 0 _ rfl
  have h1 : DataW.trod enc Try.prog W 0 (fun _ => true) true m 23 ((L.drop 32).take (Try.prog.cellsOf 23)) = xs[1]? := hf 1 _ rfl
  have h2 : DataW.trod enc Try.prog W 0 (fun _ => true) true m 3 ((L.drop 44).take (Try.prog.cellsOf 3)) = xs[2]? := hf 2 _ rfl
  rw [List.getElem?_eq_getElem (by omega)] at h0 h1 h2
  rw [show Try.prog.cellsOf 22 = 32 by kernel_rfl] at h0
  rw [show Try.prog.cellsOf 23 = 12 by kernel_rfl] at h1
  rw [show Try.prog.cellsOf 3 = 1 by kernel_rfl] at h2
  obtain ⟨-, hb0⟩ := bytes_at Try.underlying22 (by kernel_rfl) h0
  obtain ⟨-, hb1⟩ := bytes_at Try.underlying23 (by kernel_rfl) h1
  obtain ⟨c, h3, -, h4⟩ := DataW.trod_int Try.underlying3 h2
  have hb := bounds_i64 h4
  rw [take_one L 44 (by omega)] at h3
  refine ⟨c, hl', fun j hj => ?_, by rw [List.getElem?_eq_getElem (by omega), (List.cons.inj h3).1], hb.1, hb.2⟩
  by_cases hj2 : j < 32
  · obtain ⟨k, hk⟩ := hb0 j hj2
    refine ⟨k, ?_⟩
    rw [List.getElem?_take_of_lt hj2] at hk
    simpa using hk
  · obtain ⟨k, hk⟩ := hb1 (j - 32) (by omega)
    refine ⟨k, ?_⟩
    rw [List.getElem?_take_of_lt (by omega), List.getElem?_drop] at hk
    rw [show 32 + (j - 32) = j by omega] at hk
    simpa using hk
end
end Go.Proofs.Ytajkfjafhigcpab
