/- What came in, for the laws of layer 12: texts in a row, two integers. -/
import Derived.Test.YtbbgagpompgagabDoorTrHelp2
import Derived.SliceStrings
import Derived.SizedLaws
import Derived.ProofKit
import Derived.OpenShut
namespace Go.Proofs.YtbbgagpompgagabDoor
open Go.ChangeShapes Go.WideShapes Go.RowKit Go.PlainAid
set_option linter.unusedVariables false

theorem Tryd.cells9t : Tryd.prog.cellsOf 9 = 1 := by kernel_rfl
theorem Tryd.bytes9t : Tryd.prog.bytesOf 9 = 16 := by kernel_rfl
theorem weights_texts {H : Type} (P : Program) (e : TypeId) : ∀ (ss : List ByteArray) (s : ByteArray), s ∈ ss → s.size ∈ DataW.weightsAll P e (ChangeShapes.strs (H := H) ss)
  | a :: ss, s, h => by
    simp only [ChangeShapes.strs, List.map_cons, DataW.weightsAll, DataW.weights, List.mem_append]
    rcases List.mem_cons.1 h with rfl | h
    · exact .inl (by simp)
    · exact .inr (weights_texts P e ss s h)
/-- What is told of texts that came in. -/
def TsArg (W : World) (a : Option Addr) (len cap : Nat) : Prop :=
  ∃ T : Nat → ByteArray, len ≤ cap ∧ cap ≤ 140737488351232 ∧ (a = none → cap = 0) ∧ Sa W a len T ∧ ∀ i, i < len → (T i).size ≤ 140737488351232
theorem tstrs_arg {H : Type} {enc : TypeId × Value → H} {W : World} {a : Option Addr} {len cap : Nat} {d : DataW H} {p : List MemPlace} {ts : List TypeId} {ds : List (DataW H)} (hsz : (DataW.weightsEach Tryd.prog ts ds).all (· ≤ reachBytes) = true) {j : Nat} (ht : ts[j]? = some 22) (hd : ds[j]? = some d)
    (h : DataW.Trod enc Tryd.prog W 0 (fun _ => true) true 22 (.slice a len cap) d p) : TsArg W a len cap := by
  obtain ⟨fuel, hf⟩ := h
  rcases open_strings Tryd.underlying22 Tryd.underlying9 Tryd.cells9t hf with ⟨hcs, _⟩ | ⟨x, l, c, ss, hcs, _, hl, hm, hz, hx, hcell, hws⟩
  · simp [Value.cells] at hcs
    obtain ⟨rfl, rfl, rfl⟩ := hcs
    exact ⟨fun _ => ByteArray.empty, Nat.le_refl _, Nat.zero_le _, fun _ => rfl, .inl rfl, fun i hi => by omega⟩
  · simp [Value.cells] at hcs
    obtain ⟨rfl, rfl, rfl⟩ := hcs
    simp at hz
    obtain ⟨rfl, -⟩ := Prod.mk.inj hx
    have hs1 := sized_slice hsz ht hd Tryd.underlying22
    rw [Tryd.bytes9t] at hs1
    have hlen : (ChangeShapes.strs (H := H) (ss.take len)).length + (ChangeShapes.strs (H := H) (ss.drop len)).length = cap := by
      simp [ChangeShapes.strs]; omega
    rw [hlen] at hs1
    have hr : reachBytes ≤ 140737488351232 := by decide
    refine ⟨fun i => ss.getD i ByteArray.empty, hl, by omega, (fun h => by cases h), ?_, fun i hi => ?_⟩
    · by_cases h0 : len = 0
      · exact .inl h0
      · obtain ⟨b, off, spot⟩ := x
        have hspot : spot = none := by simpa [Addr.add] using World.cell?_spot (hcell 0 (by omega))
        subst hspot
        exact .inr ⟨b, off, rfl, fun r hr => by rw [← Go.WideShapes.add_plain]; exact hcell r (by omega)⟩
    · have hmem : ss.getD i ByteArray.empty ∈ ss.take len := by
        rw [List.getD_eq_getElem?_getD, List.getElem?_eq_getElem (show i < ss.length by omega), Option.getD_some]
        exact List.mem_take_iff_getElem.2 ⟨i, by omega, rfl⟩
      have h2 := List.all_eq_true.1 hsz _ (DataW.weights_mem_each ht hd (ss.getD i ByteArray.empty).size (by
        simp only [DataW.weights, Tryd.underlying22]
        exact List.mem_cons_of_mem _ (List.mem_append_left _ (weights_texts Tryd.prog 9 _ _ hmem))))
      have h3 : (ss.getD i ByteArray.empty).size ≤ reachBytes := by simpa using h2
      exact Nat.le_trans h3 hr
theorem t2_range {β : Type} {g : Nat → Option β} : ∀ (L : List Nat) (ys : List β), L.mapM g = some ys → ∀ i ∈ L, ∃ y, g i = some y
  | [], ys, h => fun i hi => by cases hi
  | a :: L, ys, h => fun i hi => by
    rw [List.mapM_cons] at h
    simp only [bind, Option.bind_eq_some_iff, pure, Option.some.injEq] at h
    obtain ⟨y, hy, zs, hz, rfl⟩ := h
    cases hi with
    | head => exact ⟨y, hy⟩
    | tail _ hi => exact t2_range L zs hz i hi
set_option maxRecDepth 20000 in
theorem t2_at {H : Type} {enc : TypeId × Value → H} {W : World} {t e : TypeId} {n : Nat} {xs : Array Value} {d : DataW H} {p : List MemPlace} (hu : Tryd.prog.underlying t = some (.array n e)) (hc : Tryd.prog.cellsOf e = 1) (hct : Tryd.prog.cellsOf t = n)
    (h : DataW.Trod enc Tryd.prog W 0 (fun _ => true) true t (.agg xs) d p) : xs.size = n ∧ ∀ i, i < n → ∃ fuel y v, DataW.trod enc Tryd.prog W 0 (fun _ => true) true fuel e [v] = some y ∧ xs[i]? = some v := by
  obtain ⟨fuel, hf⟩ := h
  cases fuel with
  | zero => simp [DataW.trod] at hf
  | succ m =>
    rw [DataW.trod_step] at hf
    unfold DataW.trodStep at hf
    simp only [hu, Value.cells, hc, hct] at hf
    by_cases hn : xs.toList.length = n
    · rw [if_pos hn] at hf
      simp only [Option.map_eq_some_iff] at hf
      obtain ⟨ys, hy, -⟩ := hf
      have hn' : xs.size = n := by simpa using hn
      refine ⟨hn', fun i hi => ?_⟩
      obtain ⟨y, hy⟩ := t2_range _ _ hy i (List.mem_range.2 hi)
      have e1 : (xs.toList.drop (i * 1)).take 1 = [xs[i]'(by omega)] := by
        rw [Nat.mul_one, List.drop_eq_getElem_cons (by rw [Array.length_toList]; omega)]
        simp
      rw [e1] at hy
      exact ⟨m, y, _, hy, Array.getElem?_eq_getElem _⟩
    · rw [if_neg hn] at hf; cases hf
end Go.Proofs.YtbbgagpompgagabDoor
