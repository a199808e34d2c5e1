/- Arrays that came in, read. -/
import Derived.Test.YtdpcbiccbhlonabRows
import Derived.WalkKit
import Derived.ProofKit
import Derived.OpenShut
import Derived.ShutString
import Derived.ChangeArms
namespace Go.Proofs.Ytdpcbiccbhlonab
open Go.ChangeShapes Go.WideShapes Go.RowKit
set_option linter.unusedVariables false

theorem okWide_agg {W : World} {b0 n : Nat} {t e : TypeId} {v : Value} (hu : Try.prog.underlying t = some (.array n e)) (h : Value.okWide Try.prog W .any b0 t v) : ∃ xs : Array Value, v = .agg xs := by
  simp only [Value.okWide, hu] at h
  obtain ⟨cs, h1, _⟩ := h
  exact ⟨cs, h1⟩
theorem mapM_range {β : Type} {g : Nat → Option β} : ∀ (L : List Nat) (ys : List β), L.mapM g = some ys → ∀ i ∈ L, ∃ y, g i = some y
  | [], ys, h => fun i hi => by cases hi
  | a :: L, ys, h => fun i hi => by
    rw [List.mapM_cons] at h
    simp only [bind, Option.bind_eq_some_iff, pure, Option.some.injEq] at h
    obtain ⟨y, hy, zs, hz, rfl⟩ := h
    cases hi with
    | head => exact ⟨y, hy⟩
    | tail _ hi => exact mapM_range L zs hz i hi
theorem arr_at {H : Type} {enc : TypeId × Value → H} {W : World} {t e : TypeId} {n : Nat} {xs : Array Value} {d : DataW H} {p : List MemPlace} (hu : Try.prog.underlying t = some (.array n e)) (hc : Try.prog.cellsOf e = 1) (hct : Try.prog.cellsOf t = n)
    (h : DataW.Trod enc Try.prog W 0 (fun _ => true) true t (.agg xs) d p) : xs.size = n ∧ ∀ i, i < n → ∃ fuel y v, DataW.trod enc Try.prog W 0 (fun _ => true) true fuel e [v] = some y ∧ xs[i]? = some v := by
  obtain ⟨fuel, hf⟩ := h
  cases fuel with
  | zero => simp [DataW.trod] at hf
  | succ m =>
    rw [DataW.trod_step] at hf
    unfold DataW.trodStep at hf
    simp only [hu, Value.cells, hc, hct] at hf
    by_cases hn : xs.toList.length = n
    · rw [if_pos hn] at hf
      simp only [Option.map_eq_some_iff] at hf
      obtain ⟨ys, hy, -⟩ := hf
      have hn' : xs.size = n := by simpa using hn
      refine ⟨hn', fun i hi => ?_⟩
      obtain ⟨y, hy⟩ := mapM_range _ _ hy i (List.mem_range.2 hi)
      have e1 : (xs.toList.drop (i * 1)).take 1 = [xs[i]'(by omega)] := by
        rw [Nat.mul_one, List.drop_eq_getElem_cons (by rw [Array.length_toList]; omega)]
        simp
      rw [e1] at hy
      exact ⟨m, y, _, hy, Array.getElem?_eq_getElem _⟩
    · rw [if_neg hn] at hf; cases hf
theorem ints2_arg {H : Type} {enc : TypeId × Value → H} {W : World} {xs : Array Value} {d : DataW H} {p : List MemPlace} (h : DataW.Trod enc Try.prog W 0 (fun _ => true) true 31 (.agg xs) d p) :
    ∃ x y : Int, xs = #[.int .i64 x, .int .i64 y] ∧ (-9223372036854775808 ≤ x ∧ x ≤ 9223372036854775807) ∧ -9223372036854775808 ≤ y ∧ y ≤ 9223372036854775807 := by
  obtain ⟨hn, hx⟩ := arr_at Try.underlying31 (by kernel_rfl) (by kernel_rfl) h
  have hs : ∀ i, i < 2 → ∃ n : Int, xs[i]? = some (.int .i64 n) ∧ -9223372036854775808 ≤ n ∧ n ≤ 9223372036854775807 := fun i hi => by
    obtain ⟨fuel, y, v, h1, h2⟩ := hx i hi
    obtain ⟨s, h3, -, h4⟩ := DataW.trod_int Try.underlying3 h1
    simp at h3
    exact ⟨s, by rw [h2, h3], bounds_i64 h4⟩
  obtain ⟨s0, a0, b0⟩ := hs 0 (by decide)
  obtain ⟨s1, a1, b1⟩ := hs 1 (by decide)
  refine ⟨s0, s1, ?_, b0, b1⟩
  apply Array.ext_getElem?
  intro i
  match i with
  | 0 => exact a0
  | 1 => exact a1
  | i + 2 => rw [Array.getElem?_eq_none (by omega), Array.getElem?_eq_none (by simp)]
end Go.Proofs.Ytdpcbiccbhlonab
