/- Acts, texts and bools that came in, read. -/
import Derived.Test.YtmgllcmfnljfjaaDkWakes
import Derived.Deep.Matrix
import Derived.Deep.Grids
import Derived.SliceStrings
namespace Go.Proofs.Ytmgllcmfnljfjaa
open Go.ChangeShapes Go.WideShapes Go.ChangeAt Go.RowKit Go.PlainAid
set_option linter.unusedVariables false

theorem Try.cells4 : Try.prog.cellsOf 4 = 1 := by kernel_rfl
theorem Try.cells9 : Try.prog.cellsOf 9 = 1 := by kernel_rfl
theorem Try.cells35 : Try.prog.cellsOf 35 = 6 := by kernel_rfl
/-- An act, as plain data; where its list lies. -/
structure ActD where
  d : Int
  a : Int
  s : ByteArray
  n : Int
  x : Bool
  kb : Option Addr
  km : Nat
  kc : Nat
  kk : Nat → Bool
abbrev ActD.row (A : ActD) : Value := .slice A.kb A.km A.kc
/-- What is known of bools that came in. -/
def BoolsOk (W : World) (a : Option Addr) (m c : Nat) (k : Nat → Bool) : Prop := BoolsAt W (.slice a m c) m k ∧ m ≤ c ∧ c ≤ maxLen
def ActOk (W : World) (A : ActD) : Prop := BoolsOk W A.kb A.km A.kc A.kk ∧ (-9223372036854775808 ≤ A.d ∧ A.d ≤ 9223372036854775807) ∧ (-9223372036854775808 ≤ A.a ∧ A.a ≤ 9223372036854775807) ∧ (-9223372036854775808 ≤ A.n ∧ A.n ≤ 9223372036854775807) ∧ A.s.size ≤ maxLen
/-- Acts in a row. -/
def ActsArg (W : World) (a : Option Addr) (len cap : Nat) : Prop := len ≤ cap ∧ cap ≤ maxLen ∧ ∃ A : Nat → ActD, (∀ i, i < len → ActOk W (A i)) ∧ (len = 0 ∨ ∃ b o, a = some ⟨b, o, none⟩ ∧ b < W.heap.size ∧ ∀ i, i < len →
  W.cell? ⟨b, o + i * 6, none⟩ = some (.int .i64 (A i).d) ∧ W.cell? ⟨b, o + i * 6 + 1, none⟩ = some (.int .i64 (A i).a) ∧ W.cell? ⟨b, o + i * 6 + 2, none⟩ = some (.string (A i).s) ∧ W.cell? ⟨b, o + i * 6 + 3, none⟩ = some (.int .i64 (A i).n) ∧ W.cell? ⟨b, o + i * 6 + 4, none⟩ = some (A i).row ∧ W.cell? ⟨b, o + i * 6 + 5, none⟩ = some (.bool (A i).x))
/-- Texts in a row. -/
def TextsArg (W : World) (a : Option Addr) (len cap : Nat) : Prop := cap ≤ maxLen ∧ ∃ f, TextsAt W (.slice a len cap) len f ∧ ∀ i, i < len → (f i).size ≤ maxLen
def BoolsArg (W : World) (a : Option Addr) (len cap : Nat) : Prop := ∃ k, BoolsOk W a len cap k
theorem cell_blk_lt {W : World} {b o : Nat} {v : Value} (h : W.cell? ⟨b, o, none⟩ = some v) : b < W.heap.size := World.block_lt_of_cell? W ⟨b, o, none⟩ h
section
variable {H : Type} {enc : TypeId × Value → H} {W : World}
theorem bools_in {fuel : Nat} {cs : List Value} {x : DataW H × List MemPlace} (h : DataW.trod enc Try.prog W 0 (fun _ => true) true fuel 33 cs = some x) : ∃ a m c k, cs = [.slice a m c] ∧ BoolsOk W a m c k := by
  rcases Go.Deep.open_bools Try.underlying33 Try.underlying4 Try.cells4 h with ⟨rfl, _⟩ | ⟨y, l, c, bs, rfl, _, hl, hm, _, hcell⟩
  · exact ⟨none, 0, 0, fun _ => false, rfl, ⟨⟨_, _, rfl, .inl rfl⟩, fun _ _ => rfl⟩, Nat.le_refl _, Nat.zero_le _⟩
  · refine ⟨some y, l, c, fun i => if i < l then bs i else false, rfl, ⟨⟨_, _, rfl, ?_⟩, fun i hi => if_neg (by omega)⟩, hl, hm⟩
    by_cases h0 : l = 0
    · exact .inl h0
    · obtain ⟨b, off, spot⟩ := y
      have hspot : spot = none := by simpa [Addr.add] using World.cell?_spot (hcell 0 (by omega))
      subst hspot
      have hc : ∀ i, i < l → W.cell? ⟨b, off + i, none⟩ = some (.bool (if i < l then bs i else false)) := fun i hi => by
        rw [if_pos hi, ← Go.WideShapes.add_plain]; exact hcell i (by omega)
      exact .inr ⟨b, off, rfl, cell_blk_lt (hc 0 (by omega)), hc⟩
theorem bools_arg {a : Option Addr} {len cap : Nat} {d : DataW H} {p : List MemPlace} (h : DataW.Trod enc Try.prog W 0 (fun _ => true) true 33 (.slice a len cap) d p) : BoolsArg W a len cap := by
  obtain ⟨fuel, hf⟩ := h
  obtain ⟨a', m, c, k, hcs, hk⟩ := bools_in hf
  simp [Value.cells] at hcs
  obtain ⟨rfl, rfl, rfl⟩ := hcs
  exact ⟨k, hk⟩
theorem strs_arg {a : Option Addr} {len cap : Nat} {d : DataW H} {p : List MemPlace} (h : DataW.Trod enc Try.prog W 0 (fun _ => true) true 27 (.slice a len cap) d p) : TextsArg W a len cap := by
  obtain ⟨fuel, hf⟩ := h
  rcases open_strings Try.underlying27 Try.underlying9 Try.cells9 hf with ⟨hcs, _⟩ | ⟨x, l, c, ss, hcs, _, hl, hm, hz, _, hcell, hws⟩
  · simp [Value.cells] at hcs
    obtain ⟨rfl, rfl, rfl⟩ := hcs
    exact ⟨Nat.zero_le _, fun _ => noB, ⟨_, _, rfl, Nat.le_refl _, .inl rfl⟩, fun i hi => by omega⟩
  · simp [Value.cells] at hcs
    obtain ⟨rfl, rfl, rfl⟩ := hcs
    simp at hz
    refine ⟨hm, fun i => ss.getD i ByteArray.empty, ⟨_, _, rfl, hl, ?_⟩, fun i hi => ?_⟩
    · by_cases h0 : len = 0
      · exact .inl h0
      · obtain ⟨b, off, spot⟩ := x
        have hspot : spot = none := by simpa [Addr.add] using World.cell?_spot (hcell 0 (by omega))
        subst hspot
        have hc : ∀ i, i < len → W.cell? ⟨b, off + i, none⟩ = some (.string (ss.getD i ByteArray.empty)) := fun i hi => by
          rw [← Go.WideShapes.add_plain]; exact hcell i (by omega)
        exact .inr ⟨b, off, rfl, cell_blk_lt (hc 0 (by omega)), hc⟩
    · apply hws
      show ss.getD i ByteArray.empty ∈ ss
      rw [List.getD_eq_getElem?_getD, List.getElem?_eq_getElem (show i < ss.length by omega)]
      exact List.getElem_mem _
/-- The six cells of an act. -/
theorem act_in {fuel : Nat} {cs : List Value} {x : DataW H × List MemPlace} (h : DataW.trod enc Try.prog W 0 (fun _ => true) true fuel 35 cs = some x) : ∃ A : ActD, ActOk W A ∧ cs = [.int .i64 A.d, .int .i64 A.a, .string A.s, .int .i64 A.n, A.row, .bool A.x] := by
  obtain ⟨xs, m, _, _, hl, hn, hf⟩ := DataW.trod_struct Try.underlying35 h
  rw [Try.cells35] at hl
  have hn6 : xs.length = 6 := hn
  obtain ⟨c0, c1, c2, c3, c4, c5, rfl⟩ : ∃ c0 c1 c2 c3 c4 c5, cs = [c0, c1, c2, c3, c4, c5] := by
    match cs, hl with
    | [c0, c1, c2, c3, c4, c5], _ => exact ⟨c0, c1, c2, c3, c4, c5, rfl⟩
  have h0 : DataW.trod enc Try.prog W 0 (fun _ => true) true m 3 [c0] = xs[0]? := hf 0 _ rfl
  have h1 : DataW.trod enc Try.prog W 0 (fun _ => true) true m 3 [c1] = xs[1]? := hf 1 _ rfl
  have h2 : DataW.trod enc Try.prog W 0 (fun _ => true) true m 9 [c2] = xs[2]? := hf 2 _ rfl
  have h3 : DataW.trod enc Try.prog W 0 (fun _ => true) true m 3 [c3] = xs[3]? := hf 3 _ rfl
  have h4 : DataW.trod enc Try.prog W 0 (fun _ => true) true m 33 [c4] = xs[4]? := hf 4 _ rfl
  have h5 : DataW.trod enc Try.prog W 0 (fun _ => true) true m 4 [c5] = xs[5]? := hf 5 _ rfl
  rw [List.getElem?_eq_getElem (by omega)] at h0 h1 h2 h3 h4 h5
  obtain ⟨d, e0, -, w0⟩ := DataW.trod_int Try.underlying3 h0
  obtain ⟨a, e1, -, w1⟩ := DataW.trod_int Try.underlying3 h1
  obtain ⟨s, e2, -, w2⟩ := DataW.trod_string Try.underlying9 h2
  obtain ⟨n, e3, -, w3⟩ := DataW.trod_int Try.underlying3 h3
  obtain ⟨kb, km, kc, kk, e4, w4⟩ := bools_in h4
  obtain ⟨b, e5, -⟩ := DataW.trod_bool Try.underlying4 h5
  cases e0; cases e1; cases e2; cases e3; cases e4; cases e5
  exact ⟨⟨d, a, s, n, b, kb, km, kc, kk⟩, ⟨w4, bounds_i64 w0, bounds_i64 w1, bounds_i64 w3, w2⟩, rfl⟩
theorem act_arg {L : List Value} {d : DataW H} {p : List MemPlace} (h : DataW.Trod enc Try.prog W 0 (fun _ => true) true 35 (.agg L.toArray) d p) : ∃ A : ActD, ActOk W A ∧ L = [.int .i64 A.d, .int .i64 A.a, .string A.s, .int .i64 A.n, A.row, .bool A.x] := by
  obtain ⟨fuel, hf⟩ := h
  have := act_in hf
  simpa [Value.cells] using this
theorem acts_arg {a : Option Addr} {len cap : Nat} {d : DataW H} {p : List MemPlace} (h : DataW.Trod enc Try.prog W 0 (fun _ => true) true 22 (.slice a len cap) d p) : ActsArg W a len cap := by
  obtain ⟨fuel, hf⟩ := h
  rcases DataW.trod_slice Try.underlying22 hf with ⟨hcs, _⟩ | ⟨x, l, c, elems, rest, n, _, hcs, _, hb, hl, hm, hel, hc, _⟩
  · simp [Value.cells] at hcs
    obtain ⟨rfl, rfl, rfl⟩ := hcs
    exact ⟨Nat.le_refl _, Nat.zero_le _, fun _ => ⟨0, 0, noB, 0, false, none, 0, 0, fun _ => false⟩, fun i hi => by omega, .inl rfl⟩
  · simp [Value.cells] at hcs
    obtain ⟨rfl, rfl, rfl⟩ := hcs
    have hact : ∀ i, i < len → ∃ A : ActD, ActOk W A ∧ W.cells? 0 (x.add (i * 6)) 6 = some [.int .i64 A.d, .int .i64 A.a, .string A.s, .int .i64 A.n, A.row, .bool A.x] := fun i hi => by
      have h1 := hc i hi
      rw [Try.cells35, List.getElem?_eq_getElem (by omega), Option.bind_eq_some_iff] at h1
      obtain ⟨cs, h2, h3⟩ := h1
      obtain ⟨A, hA, rfl⟩ := act_in h3
      exact ⟨A, hA, h2⟩
    obtain ⟨A, hA⟩ : ∃ A : Nat → ActD, ∀ i, i < len → ActOk W (A i) ∧ W.cells? 0 (x.add (i * 6)) 6 = some [.int .i64 (A i).d, .int .i64 (A i).a, .string (A i).s, .int .i64 (A i).n, (A i).row, .bool (A i).x] :=
      ⟨fun i => if h : i < len then (hact i h).choose else ⟨0, 0, noB, 0, false, none, 0, 0, fun _ => false⟩, fun i hi => by simp only [dif_pos hi]; exact (hact i hi).choose_spec⟩
    refine ⟨hl, hm, A, fun i hi => (hA i hi).1, ?_⟩
    by_cases h0 : len = 0
    · exact .inl h0
    · have hcell : ∀ i, i < len → ∀ j u, [Value.int .i64 (A i).d, .int .i64 (A i).a, .string (A i).s, .int .i64 (A i).n, (A i).row, .bool (A i).x][j]? = some u → W.cell? ((x.add (i * 6)).add j) = some u := by
        intro i hi j u hu
        have h1 := (hA i hi).2
        unfold World.cells? at h1
        rw [if_pos (Nat.zero_le _)] at h1
        have hj : j < 6 := by
          rcases Nat.lt_or_ge j 6 with h | h
          · exact h
          · rw [List.getElem?_eq_none (by simpa using h)] at hu; cases hu
        have h2 := Go.mapM_some_get h1 j j (by simp [hj])
        rw [h2, hu]
      obtain ⟨b, off, spot⟩ := x
      have hspot : spot = none := by
        have := World.cell?_spot (hcell 0 (by omega) 0 _ rfl)
        simpa [Addr.add] using this
      subst hspot
      have hc0 := hcell 0 (by omega) 0 _ rfl
      rw [Go.WideShapes.add_plain, Go.WideShapes.add_plain] at hc0
      refine .inr ⟨b, off, rfl, cell_blk_lt hc0, fun i hi => ?_⟩
      have g : ∀ j u, [Value.int .i64 (A i).d, .int .i64 (A i).a, .string (A i).s, .int .i64 (A i).n, (A i).row, .bool (A i).x][j]? = some u → W.cell? ⟨b, off + i * 6 + j, none⟩ = some u := fun j u hu => by
        have := hcell i hi j u hu
        rw [Go.WideShapes.add_plain, Go.WideShapes.add_plain] at this
        exact this
      exact ⟨g 0 _ rfl, g 1 _ rfl, g 2 _ rfl, g 3 _ rfl, g 4 _ rfl, g 5 _ rfl⟩
end
theorem BoolsOk.below {w w' : World} {a : Option Addr} {m c : Nat} {k : Nat → Bool} (h : BoolsOk w a m c k) (hb : Below w.heap.size w w') : BoolsOk w' a m c k := ⟨h.1.below hb, h.2⟩
end Go.Proofs.Ytmgllcmfnljfjaa
