/- What came in, for the laws of layer 15: writes, texts. -/
import Derived.Test.YtegebaomhbogmaaDoorInWrites
import Derived.SliceStrings
import Derived.SizedLaws
import Derived.ProofKit
import Derived.OpenShut
namespace Go.Proofs.YtegebaomhbogmaaDoor
open Go.ChangeShapes Go.WideShapes Go.ChangeAt Go.RowKit Go.PlainAid
set_option linter.unusedVariables false
set_option maxRecDepth 20000

section
variable {H : Type} {enc : TypeId × Value → H} {W : World}
theorem lwr_in {fuel : Nat} {cs : List Value} {x : DataW H × List MemPlace} (h : DataW.trod enc Tryd.prog W 0 (fun _ => true) true fuel 54 cs = some x) : ∃ A : LWr, A.Ok ∧ cs = A.row := by
  obtain ⟨xs, m, _, _, hl, hn, hf⟩ := DataW.trod_struct Tryd.underlying54 h
  rw [show Tryd.prog.cellsOf 54 = 3 by kernel_rfl] at hl
  have hn3 : xs.length = 3 := hn
  obtain ⟨c0, c1, c2, rfl⟩ : ∃ c0 c1 c2, cs = [c0, c1, c2] := by
    match cs, hl with
    | [c0, c1, c2], _ => exact ⟨c0, c1, c2, rfl⟩
  have h0 : DataW.trod enc Tryd.prog W 0 (fun _ => true) true m 3 [c0] = xs[0]? := hf 0 _ rfl
  have h1 : DataW.trod enc Tryd.prog W 0 (fun _ => true) true m 3 [c1] = xs[1]? := hf 1 _ rfl
  have h2 : DataW.trod enc Tryd.prog W 0 (fun _ => true) true m 9 [c2] = xs[2]? := hf 2 _ rfl
  rw [List.getElem?_eq_getElem (by omega)] at h0 h1 h2
  obtain ⟨s, e0, -, w0⟩ := DataW.trod_int Tryd.underlying3 h0
  obtain ⟨t, e1, -, w1⟩ := DataW.trod_int Tryd.underlying3 h1
  obtain ⟨l, e2, -, w2⟩ := DataW.trod_string Tryd.underlying9 h2
  cases e0; cases e1; cases e2
  exact ⟨⟨s, t, l⟩, ⟨bounds_i64 w0, bounds_i64 w1, w2⟩, rfl⟩
theorem lwrs_arg {a : Option Addr} {len cap : Nat} {d : DataW H} {p : List MemPlace} (h : DataW.Trod enc Tryd.prog W 0 (fun _ => true) true 22 (.slice a len cap) d p) : LCame W a len cap :=
  came_arg ⟨0, 0, noB⟩ _ _ 3 (fun _ => rfl) (by decide) Tryd.underlying22 (by kernel_rfl) (fun fuel cs x h => lwr_in h) h
theorem Tryd.cells9i : Tryd.prog.cellsOf 9 = 1 := by kernel_rfl
theorem Tryd.bytes9i : Tryd.prog.bytesOf 9 = 16 := by kernel_rfl
theorem iweights_texts {H : Type} (P : Program) (e : TypeId) : ∀ (ss : List ByteArray) (s : ByteArray), s ∈ ss → s.size ∈ DataW.weightsAll P e (ChangeShapes.strs (H := H) ss)
  | a :: ss, s, h => by
    simp only [ChangeShapes.strs, List.map_cons, DataW.weightsAll, DataW.weights, List.mem_append]
    rcases List.mem_cons.1 h with rfl | h
    · exact .inl (by simp)
    · exact .inr (iweights_texts P e ss s h)
theorem itexts_open {a : Option Addr} {len cap : Nat} {d : DataW H} {p : List MemPlace} {ts : List TypeId} {ds : List (DataW H)} (hsz : (DataW.weightsEach Tryd.prog ts ds).all (· ≤ reachBytes) = true) {j : Nat} (ht : ts[j]? = some 27) (hd : ds[j]? = some d)
    (h : DataW.Trod enc Tryd.prog W 0 (fun _ => true) true 27 (.slice a len cap) d p) : len ≤ cap ∧ cap ≤ 140737488351232 ∧ (a = none → cap = 0) ∧ (len = 0 ∨ ∃ ss : List ByteArray, d = .slice (ChangeShapes.strs (ss.take len)) (ChangeShapes.strs (ss.drop len)) ∧ len ≤ ss.length ∧ Cs W a len (fun i => ss.getD i noB)) := by
  obtain ⟨fuel, hf⟩ := h
  rcases open_strings Tryd.underlying27 Tryd.underlying9 Tryd.cells9i hf with ⟨hcs, _⟩ | ⟨x, l, c, ss, hcs, _, hl, hm, hz, hx, hcell, hws⟩
  · simp [Value.cells] at hcs
    obtain ⟨rfl, rfl, rfl⟩ := hcs
    exact ⟨Nat.le_refl _, Nat.zero_le _, fun _ => rfl, .inl rfl⟩
  · simp [Value.cells] at hcs
    obtain ⟨rfl, rfl, rfl⟩ := hcs
    simp at hz
    obtain ⟨rfl, -⟩ := Prod.mk.inj hx
    have hs1 := sized_slice hsz ht hd Tryd.underlying27
    rw [Tryd.bytes9i] at hs1
    have hlen : (ChangeShapes.strs (H := H) (ss.take len)).length + (ChangeShapes.strs (H := H) (ss.drop len)).length = cap := by
      simp [ChangeShapes.strs]; omega
    rw [hlen] at hs1
    have hr : reachBytes ≤ 140737488351232 := by decide
    refine ⟨hl, by omega, (fun h => by cases h), ?_⟩
    by_cases h0 : len = 0
    · exact .inl h0
    · obtain ⟨b, off, spot⟩ := x
      have hspot : spot = none := by simpa [Addr.add] using World.cell?_spot (hcell 0 (by omega))
      subst hspot
      have hc : ∀ i, i < len → W.cell? ⟨b, off + i, none⟩ = some (.string (ss.getD i noB)) := fun r hr => by rw [← Go.WideShapes.add_plain]; exact hcell r (by omega)
      exact .inr ⟨ss, rfl, by omega, .inr ⟨b, off, rfl, cell_blk_lt (hc 0 (by omega)), hc⟩⟩
theorem getD_take {ss : List ByteArray} {len i : Nat} (h : len ≤ ss.length) (hi : i < len) : ss.getD i noB ∈ ss.take len := by
  rw [List.getD_eq_getElem?_getD, List.getElem?_eq_getElem (show i < ss.length by omega), Option.getD_some]
  exact List.mem_take_iff_getElem.2 ⟨i, by omega, rfl⟩
theorem itexts_arg {a : Option Addr} {len cap : Nat} {d : DataW H} {p : List MemPlace} {ts : List TypeId} {ds : List (DataW H)} (hsz : (DataW.weightsEach Tryd.prog ts ds).all (· ≤ reachBytes) = true) {j : Nat} (ht : ts[j]? = some 27) (hd : ds[j]? = some d)
    (h : DataW.Trod enc Tryd.prog W 0 (fun _ => true) true 27 (.slice a len cap) d p) : TxArg 140737488351232 W a len cap := by
  obtain ⟨h1, h2, hno, h3⟩ := itexts_open hsz ht hd h
  refine ⟨h1, h2, hno, ?_⟩
  rcases h3 with rfl | ⟨ss, rfl, hl, hc⟩
  · exact ⟨fun _ => noB, .inl rfl, fun i hi => by omega⟩
  · refine ⟨_, hc, fun i hi => ?_⟩
    have h4 := List.all_eq_true.1 hsz _ (DataW.weights_mem_each ht hd (ss.getD i noB).size (by
      simp only [DataW.weights, Tryd.underlying27]
      exact List.mem_cons_of_mem _ (List.mem_append_left _ (iweights_texts Tryd.prog 9 _ _ (getD_take hl hi)))))
    have h5 : (ss.getD i noB).size ≤ reachBytes := by simpa using h4
    exact Nat.le_trans h5 (by decide)
end
end Go.Proofs.YtegebaomhbogmaaDoor
