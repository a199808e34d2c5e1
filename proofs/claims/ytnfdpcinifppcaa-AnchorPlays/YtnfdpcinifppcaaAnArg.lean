/- Calls and digests that came in, read. -/
import Derived.Test.YtnfdpcinifppcaaAnCall
namespace Go.Proofs.Ytnfdpcinifppcaa
open Go.ChangeShapes Go.WideShapes Go.ChangeAt Go.RowKit Go.PlainAid
set_option linter.unusedVariables false

def ClOk (A : Cl) : Prop := (0 ≤ A.n ∧ A.n ≤ 18446744073709551615) ∧ (∀ i, A.f i < 256) ∧ A.s.size ≤ maxLen
def noCl : Cl := ⟨0, fun _ => 0, noB, false⟩
theorem Try.cells32 : Try.prog.cellsOf 32 = 35 := by kernel_rfl
theorem Try.cells30 : Try.prog.cellsOf 30 = 32 := by kernel_rfl
section
variable {H : Type} {enc : TypeId × Value → H} {W : World}
theorem digest_in {fuel : Nat} {cs : List Value} {x : DataW H × List MemPlace} (h : DataW.trod enc Try.prog W 0 (fun _ => true) true fuel 30 cs = some x) : ∃ f : Nat → Nat, (∀ i, f i < 256) ∧ cs = nr .u8 32 f := by
  have hb := bytes_in Try.underlying30 Try.cells30 h
  obtain ⟨xs, m, _, _, hl, hn, hf⟩ := DataW.trod_array Try.underlying30 h
  rw [Try.cells30] at hl
  exact bytes_row hl hb
theorem digests_arg {a : Option Addr} {len cap : Nat} {d : DataW H} {p : List MemPlace} (h : DataW.Trod enc Try.prog W 0 (fun _ => true) true 40 (.slice a len cap) d p) : Came (fun f : Nat → Nat => ∀ i, f i < 256) (fun f => nr .u8 32 f) 32 W a len cap :=
  came_arg (fun _ => 0) _ _ 32 (fun a => nr_length _ _ _) (by decide) Try.underlying40 Try.cells30 (fun fuel cs x h => digest_in h) h
theorem call_in {fuel : Nat} {cs : List Value} {x : DataW H × List MemPlace} (h : DataW.trod enc Try.prog W 0 (fun _ => true) true fuel 32 cs = some x) : ∃ A : Cl, ClOk A ∧ cs = A.row := by
  obtain ⟨xs, m, _, _, hl, hn, hf⟩ := DataW.trod_struct Try.underlying32 h
  rw [Try.cells32] at hl
  have hn4 : xs.length = 4 := hn
  have h0 : DataW.trod enc Try.prog W 0 (fun _ => true) true m 26 ((cs.drop 0).take (Try.prog.cellsOf 26)) = xs[0]? := hf 0 _ rfl
  have h1 : DataW.trod enc Try.prog W 0 (fun _ => true) true m 30 ((cs.drop 1).take (Try.prog.cellsOf 30)) = xs[1]? := hf 1 _ rfl
  have h2 : DataW.trod enc Try.prog W 0 (fun _ => true) true m 9 ((cs.drop 33).take (Try.prog.cellsOf 9)) = xs[2]? := hf 2 _ rfl
  have h3 : DataW.trod enc Try.prog W 0 (fun _ => true) true m 4 ((cs.drop 34).take (Try.prog.cellsOf 4)) = xs[3]? := hf 3 _ rfl
  rw [List.getElem?_eq_getElem (by omega)] at h0 h1 h2 h3
  rw [show Try.prog.cellsOf 26 = 1 by kernel_rfl, po_take cs 0 (by omega)] at h0
  rw [show Try.prog.cellsOf 9 = 1 by kernel_rfl, po_take cs 33 (by omega)] at h2
  rw [show Try.prog.cellsOf 4 = 1 by kernel_rfl, po_take cs 34 (by omega)] at h3
  rw [Try.cells30] at h1
  obtain ⟨n, e0, -, w0⟩ := DataW.trod_int Try.underlying26 h0
  obtain ⟨s, e2, -, w2⟩ := DataW.trod_string Try.underlying9 h2
  obtain ⟨b, e3, -⟩ := DataW.trod_bool Try.underlying4 h3
  have hb := bytes_in Try.underlying30 Try.cells30 h1
  obtain ⟨f, hf1, hf2⟩ := bytes_row (n := 32) (cs := (cs.drop 1).take 32) (by rw [List.length_take, List.length_drop]; omega) hb
  refine ⟨⟨n, f, s, b⟩, ⟨bounds_u64 w0, hf1, w2⟩, ?_⟩
  have g0 : cs[0]? = some (.int .u64 n) := by rw [List.getElem?_eq_getElem (by omega), (List.cons.inj e0).1]
  have g2 : cs[33]? = some (.string s) := by rw [List.getElem?_eq_getElem (by omega), (List.cons.inj e2).1]
  have g3 : cs[34]? = some (.bool b) := by rw [List.getElem?_eq_getElem (by omega), (List.cons.inj e3).1]
  apply List.ext_getElem?
  intro i
  by_cases hi0 : i = 0
  · subst hi0; rw [g0, Cl.at0]
  · by_cases hi1 : i < 33
    · obtain ⟨j, rfl⟩ : ∃ j, i = 1 + j := ⟨i - 1, by omega⟩
      rw [Cl.atF _ j (by omega)]
      have := congrArg (fun L : List Value => L[j]?) hf2
      simp only [nr_at _ _ _ j (show j < 32 by omega)] at this
      rw [List.getElem?_take_of_lt (by omega), List.getElem?_drop] at this
      exact this
    · by_cases hi2 : i = 33
      · subst hi2; rw [g2, Cl.at33]
      · by_cases hi3 : i = 34
        · subst hi3; rw [g3, Cl.at34]
        · rw [List.getElem?_eq_none (by omega), List.getElem?_eq_none (by rw [Cl.len]; omega)]
theorem calls_arg {a : Option Addr} {len cap : Nat} {d : DataW H} {p : List MemPlace} (h : DataW.Trod enc Try.prog W 0 (fun _ => true) true 22 (.slice a len cap) d p) : Came ClOk Cl.row 35 W a len cap :=
  came_arg noCl _ _ 35 Cl.len (by decide) Try.underlying22 Try.cells32 (fun fuel cs x h => call_in h) h
end
end Go.Proofs.Ytnfdpcinifppcaa
