/- Records that came in as plain data. -/
import Derived.Test.YtbjmhpbelkndpaaSuWakes
namespace Go.Proofs.Ytbjmhpbelkndpaa
open Go.ChangeShapes Go.WideShapes Go.ChangeAt Go.RowKit Go.PlainAid
set_option linter.unusedVariables false

section
variable {H : Type} {enc : TypeId × Value → H} {W : World}
set_option maxRecDepth 20000 in
theorem disk_in {fuel : Nat} {cs : List Value} {x : DataW H × List MemPlace} (h : DataW.trod enc Try.prog W 0 (fun _ => true) true fuel 52 cs = some x) : ∃ A : Dsk, A.Ok ∧ cs = A.row := by
  obtain ⟨xs, m, _, _, hl, hn, hf⟩ := DataW.trod_struct Try.underlying52 h
  rw [show Try.prog.cellsOf 52 = 4 by kernel_rfl] at hl
  have hn4 : xs.length = 4 := hn
  obtain ⟨c0, c1, c2, c3, rfl⟩ : ∃ c0 c1 c2 c3, cs = [c0, c1, c2, c3] := by
    match cs, hl with
    | [c0, c1, c2, c3], _ => exact ⟨c0, c1, c2, c3, rfl⟩
  have h0 : DataW.trod enc Try.prog W 0 (fun _ => true) true m 3 [c0] = xs[0]? := hf 0 _ rfl
  have h1 : DataW.trod enc Try.prog W 0 (fun _ => true) true m 5 [c1] = xs[1]? := hf 1 _ rfl
  have h2 : DataW.trod enc Try.prog W 0 (fun _ => true) true m 5 [c2] = xs[2]? := hf 2 _ rfl
  have h3 : DataW.trod enc Try.prog W 0 (fun _ => true) true m 4 [c3] = xs[3]? := hf 3 _ rfl
  rw [List.getElem?_eq_getElem (by omega)] at h0 h1 h2 h3
  obtain ⟨s, e0, -, w0⟩ := DataW.trod_int Try.underlying3 h0
  obtain ⟨t, e1, -, w1⟩ := DataW.trod_int Try.underlying5 h1
  obtain ⟨l, e2, -, w2⟩ := DataW.trod_int Try.underlying5 h2
  obtain ⟨b, e3, -⟩ := DataW.trod_bool Try.underlying4 h3
  have b1 := bounds_u8 w1
  have b2 := bounds_u8 w2
  cases e0; cases e1; cases e2; cases e3
  refine ⟨⟨s, t.toNat, l.toNat, b⟩, ⟨bounds_i64 w0, by show t.toNat < 256; omega, by show l.toNat < 256; omega⟩, ?_⟩
  show [Value.int .i64 s, .int .u8 t, .int .u8 l, .bool b] = [.int .i64 s, .int .u8 ((t.toNat : Nat) : Int), .int .u8 ((l.toNat : Nat) : Int), .bool b]
  rw [Int.toNat_of_nonneg b1.1, Int.toNat_of_nonneg b2.1]
set_option maxRecDepth 20000 in
theorem slice_in {fuel : Nat} {t e : TypeId} (hu : Try.prog.underlying t = some (.slice e)) {c : Value} {x : DataW H × List MemPlace} (h : DataW.trod enc Try.prog W 0 (fun _ => true) true fuel t [c] = some x) : ∃ a len cap, c = .slice a len cap ∧ DataW.Trod enc Try.prog W 0 (fun _ => true) true t (.slice a len cap) x.1 x.2 := by
  rcases DataW.trod_slice hu h with ⟨hq, _⟩ | ⟨y, l, c', elems, rest, n, _, hq, _⟩
  · cases hq; exact ⟨_, _, _, rfl, fuel, h⟩
  · cases hq; exact ⟨_, _, _, rfl, fuel, h⟩
set_option maxRecDepth 20000 in
theorem raw_in {fuel : Nat} {cs : List Value} {x : DataW H × List MemPlace} (h : DataW.trod enc Try.prog W 0 (fun _ => true) true fuel 26 cs = some x) : ∃ (y : Raw) (A : Nat → Int) (D : Nat → Dsk), cs = y.row ∧ y.At A D W ∧ (y.toR A D).Fine := by
  obtain ⟨xs, m, _, _, hl, hn, hf⟩ := DataW.trod_struct Try.underlying26 h
  rw [show Try.prog.cellsOf 26 = 9 by kernel_rfl] at hl
  have hn9 : xs.length = 9 := hn
  obtain ⟨c0, c1, c2, c3, c4, c5, c6, c7, c8, rfl⟩ : ∃ c0 c1 c2 c3 c4 c5 c6 c7 c8, cs = [c0, c1, c2, c3, c4, c5, c6, c7, c8] := by
    match cs, hl with
    | [c0, c1, c2, c3, c4, c5, c6, c7, c8], _ => exact ⟨c0, c1, c2, c3, c4, c5, c6, c7, c8, rfl⟩
  have h0 : DataW.trod enc Try.prog W 0 (fun _ => true) true m 22 [c0] = xs[0]? := hf 0 _ rfl
  have h1 : DataW.trod enc Try.prog W 0 (fun _ => true) true m 22 [c1] = xs[1]? := hf 1 _ rfl
  have h2 : DataW.trod enc Try.prog W 0 (fun _ => true) true m 3 [c2] = xs[2]? := hf 2 _ rfl
  have h3 : DataW.trod enc Try.prog W 0 (fun _ => true) true m 3 [c3] = xs[3]? := hf 3 _ rfl
  have h4 : DataW.trod enc Try.prog W 0 (fun _ => true) true m 3 [c4] = xs[4]? := hf 4 _ rfl
  have h5 : DataW.trod enc Try.prog W 0 (fun _ => true) true m 3 [c5] = xs[5]? := hf 5 _ rfl
  have h6 : DataW.trod enc Try.prog W 0 (fun _ => true) true m 4 [c6] = xs[6]? := hf 6 _ rfl
  have h7 : DataW.trod enc Try.prog W 0 (fun _ => true) true m 23 [c7] = xs[7]? := hf 7 _ rfl
  have h8 : DataW.trod enc Try.prog W 0 (fun _ => true) true m 24 [c8] = xs[8]? := hf 8 _ rfl
  rw [List.getElem?_eq_getElem (by omega)] at h0 h1 h2 h3 h4 h5 h6 h7 h8
  obtain ⟨v0, e0, -, w0⟩ := DataW.trod_int Try.underlying22 h0
  obtain ⟨v1, e1, -, w1⟩ := DataW.trod_int Try.underlying22 h1
  obtain ⟨v2, e2, -, w2⟩ := DataW.trod_int Try.underlying3 h2
  obtain ⟨v3, e3, -, w3⟩ := DataW.trod_int Try.underlying3 h3
  obtain ⟨v4, e4, -, w4⟩ := DataW.trod_int Try.underlying3 h4
  obtain ⟨v5, e5, -, w5⟩ := DataW.trod_int Try.underlying3 h5
  obtain ⟨v6, e6, -⟩ := DataW.trod_bool Try.underlying4 h6
  obtain ⟨xa, xn, xc, rfl, t7⟩ := slice_in Try.underlying23 h7
  obtain ⟨da, dn, dc, rfl, t8⟩ := slice_in Try.underlying24 h8
  cases e0; cases e1; cases e2; cases e3; cases e4; cases e5; cases e6
  have k7 : Came (fun n : Int => -9223372036854775808 ≤ n ∧ n ≤ 9223372036854775807) (fun n => [.int .i64 n]) 1 W xa xn xc :=
    came_arg 0 _ _ 1 (fun _ => rfl) (by decide) Try.underlying23 (by kernel_rfl) (fun fuel cs x h => by
      obtain ⟨n, e, -, hw⟩ := DataW.trod_int Try.underlying3 h
      exact ⟨n, bounds_i64 hw, e⟩) t7
  have k8 : Came Dsk.Ok Dsk.row 4 W da dn dc := came_arg ⟨0, 0, 0, false⟩ _ _ 4 Dsk.len (by decide) Try.underlying24 (by kernel_rfl) (fun fuel cs x h => disk_in h) t8
  obtain ⟨A, hA⟩ := came_fun k7
  obtain ⟨D, hD⟩ := came_fun k8
  have hat : (⟨v0, v1, v2, v3, v4, v5, v6, xa, xn, xc, da, dn, dc⟩ : Raw).At A D W := ⟨fun w hb i hi => by
    obtain ⟨b, o, e, h1, h2⟩ := hA w hb i hi
    exact ⟨b, o, e, h1, by have := h2 0 _ rfl; simpa using this⟩, fun w hb i hi => hD w hb i hi, ⟨k7.1, k7.2.1⟩, ⟨k8.1, k8.2.1⟩⟩
  exact ⟨⟨v0, v1, v2, v3, v4, v5, v6, xa, xn, xc, da, dn, dc⟩, A, D, rfl, hat, hat.fine (bounds_u64 w0) (bounds_u64 w1) (bounds_i64 w2) (bounds_i64 w3) (bounds_i64 w4) (bounds_i64 w5)⟩
set_option maxRecDepth 20000 in
theorem raw14_arg {L : List Value} {d : DataW H} {p : List MemPlace} (h : DataW.Trod enc Try.prog W 0 (fun _ => true) true 26 (.agg L.toArray) d p) : ∃ (y : Raw) (A : Nat → Int) (D : Nat → Dsk), L = y.row ∧ y.At A D W ∧ (y.toR A D).Fine := by
  obtain ⟨fuel, hf⟩ := h
  have := raw_in hf
  simpa [Value.cells] using this
end
end Go.Proofs.Ytbjmhpbelkndpaa
