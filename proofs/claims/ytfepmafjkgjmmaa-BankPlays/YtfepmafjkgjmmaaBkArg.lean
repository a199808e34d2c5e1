/- Acts on a bank that came in, read. -/
import Derived.Test.YtfepmafjkgjmmaaBkLists
import Derived.OpenShut
import Derived.ShutString
import Derived.ChangeOld
import Derived.ChangeArms
import Derived.ProofKit
namespace Go.Proofs.Ytfepmafjkgjmmaa
open Go.ChangeShapes Go.WideShapes Go.ChangeAt Go.RowKit Go.PlainAid
set_option linter.unusedVariables false

theorem Try.cells80 : Try.prog.cellsOf 80 = 1 := by kernel_rfl
theorem Try.cells34 : Try.prog.cellsOf 34 = 6 := by kernel_rfl
/-- An act on a bank, as plain data; where its lists lie. -/
structure BAct where
  d : Int
  i : Int
  a : Int
  s : ByteArray
  x : Bool
  kb : Option Addr
  km : Nat
  kc : Nat
  L : Nat → Bl
abbrev BAct.row (A : BAct) : Value := .slice A.kb A.km A.kc
def BActOk (W : World) (A : BAct) : Prop := ListsIn W.heap.size W A.kb A.km A.kc A.L ∧ (-9223372036854775808 ≤ A.d ∧ A.d ≤ 9223372036854775807) ∧ (-9223372036854775808 ≤ A.i ∧ A.i ≤ 9223372036854775807) ∧ (-9223372036854775808 ≤ A.a ∧ A.a ≤ 9223372036854775807) ∧ A.s.size ≤ maxLen
def BActsArg (W : World) (a : Option Addr) (len cap : Nat) : Prop := len ≤ cap ∧ cap ≤ maxLen ∧ ∃ A : Nat → BAct, (∀ i, i < len → BActOk W (A i)) ∧ (len = 0 ∨ ∃ b o, a = some ⟨b, o, none⟩ ∧ b < W.heap.size ∧ ∀ i, i < len →
  W.cell? ⟨b, o + i * 6, none⟩ = some (.int .i64 (A i).d) ∧ W.cell? ⟨b, o + i * 6 + 1, none⟩ = some (.int .i64 (A i).i) ∧ W.cell? ⟨b, o + i * 6 + 2, none⟩ = some (.int .i64 (A i).a) ∧ W.cell? ⟨b, o + i * 6 + 3, none⟩ = some (.string (A i).s) ∧ W.cell? ⟨b, o + i * 6 + 4, none⟩ = some (A i).row ∧ W.cell? ⟨b, o + i * 6 + 5, none⟩ = some (.bool (A i).x))
def noBl : Bl := ⟨none, 0, 0, fun _ => false⟩
def noAct : BAct := ⟨0, 0, 0, noB, false, none, 0, 0, fun _ => noBl⟩
section
variable {H : Type} {enc : TypeId × Value → H} {W : World}
theorem BoolsOk.oldB {W : World} {a : Option Addr} {m c : Nat} {k : Nat → Bool} (h : BoolsOk W a m c k) : Old W.heap.size (.slice a m c) := by
  obtain ⟨⟨⟨a', cap, e, h1⟩, _⟩, _⟩ := h
  cases e
  intro x n c' e e0
  cases e
  rcases h1 with h1 | ⟨b, o, e, hl, _⟩
  · omega
  · cases e; exact hl
theorem lists_in {fuel : Nat} {cs : List Value} {x : DataW H × List MemPlace} (h : DataW.trod enc Try.prog W 0 (fun _ => true) true fuel 32 cs = some x) : ∃ a m c L, cs = [.slice a m c] ∧ ListsIn W.heap.size W a m c L := by
  rcases DataW.trod_slice Try.underlying32 h with ⟨hcs, _⟩ | ⟨x, l, c, elems, rest, n, _, hcs, _, hb, hl, hm, hel, hc, _⟩
  · subst hcs
    exact ⟨none, 0, 0, fun _ => noBl, rfl, Nat.le_refl _, Nat.zero_le _, fun i hi => by omega, .inl rfl⟩
  · subst hcs
    have hact : ∀ i, i < l → ∃ b : Bl, BoolsOk W b.a b.m b.c b.k ∧ W.cells? 0 (x.add (i * 1)) 1 = some [.slice b.a b.m b.c] := fun i hi => by
      have h1 := hc i hi
      rw [Try.cells80, List.getElem?_eq_getElem (by omega), Option.bind_eq_some_iff] at h1
      obtain ⟨cs, h2, h3⟩ := h1
      obtain ⟨a, m, c, k, rfl, hk⟩ := bools_in h3
      exact ⟨⟨a, m, c, k⟩, hk, h2⟩
    obtain ⟨L, hL⟩ : ∃ L : Nat → Bl, ∀ i, i < l → BoolsOk W (L i).a (L i).m (L i).c (L i).k ∧ W.cells? 0 (x.add (i * 1)) 1 = some [.slice (L i).a (L i).m (L i).c] :=
      ⟨fun i => if h : i < l then (hact i h).choose else noBl, fun i hi => by simp only [dif_pos hi]; exact (hact i hi).choose_spec⟩
    refine ⟨some x, l, c, L, rfl, hl, hm, fun i hi => ⟨(hL i hi).1, (hL i hi).1.oldB⟩, ?_⟩
    by_cases h0 : l = 0
    · exact .inl h0
    · have hcell : ∀ i, i < l → W.cell? ((x.add (i * 1)).add 0) = some (.slice (L i).a (L i).m (L i).c) := by
        intro i hi
        have h1 := (hL i hi).2
        unfold World.cells? at h1
        rw [if_pos (Nat.zero_le _)] at h1
        exact Go.mapM_some_get h1 0 0 (by simp)
      obtain ⟨b, off, spot⟩ := x
      have hspot : spot = none := by
        have := World.cell?_spot (hcell 0 (by omega))
        simpa [Addr.add] using this
      subst hspot
      have g : ∀ i, i < l → W.cell? ⟨b, off + i, none⟩ = some (.slice (L i).a (L i).m (L i).c) := fun i hi => by
        have := hcell i hi
        rw [Go.WideShapes.add_plain, Go.WideShapes.add_plain, Nat.mul_one, Nat.add_zero] at this
        exact this
      exact .inr ⟨b, off, rfl, cell_blk_lt (g 0 (by omega)), g⟩
/-- The six cells of an act. -/
theorem bact_in {fuel : Nat} {cs : List Value} {x : DataW H × List MemPlace} (h : DataW.trod enc Try.prog W 0 (fun _ => true) true fuel 34 cs = some x) : ∃ A : BAct, BActOk W A ∧ cs = [.int .i64 A.d, .int .i64 A.i, .int .i64 A.a, .string A.s, A.row, .bool A.x] := by
  obtain ⟨xs, m, _, _, hl, hn, hf⟩ := DataW.trod_struct Try.underlying34 h
  rw [Try.cells34] at hl
  have hn6 : xs.length = 6 := hn
  obtain ⟨c0, c1, c2, c3, c4, c5, rfl⟩ : ∃ c0 c1 c2 c3 c4 c5, cs = [c0, c1, c2, c3, c4, c5] := by
    match cs, hl with
    | [c0, c1, c2, c3, c4, c5], _ => exact ⟨c0, c1, c2, c3, c4, c5, rfl⟩
  have h0 : DataW.trod enc Try.prog W 0 (fun _ => true) true m 3 [c0] = xs[0]? := hf 0 _ rfl
  have h1 : DataW.trod enc Try.prog W 0 (fun _ => true) true m 3 [c1] = xs[1]? := hf 1 _ rfl
  have h2 : DataW.trod enc Try.prog W 0 (fun _ => true) true m 3 [c2] = xs[2]? := hf 2 _ rfl
  have h3 : DataW.trod enc Try.prog W 0 (fun _ => true) true m 9 [c3] = xs[3]? := hf 3 _ rfl
  have h4 : DataW.trod enc Try.prog W 0 (fun _ => true) true m 32 [c4] = xs[4]? := hf 4 _ rfl
  have h5 : DataW.trod enc Try.prog W 0 (fun _ => true) true m 4 [c5] = xs[5]? := hf 5 _ rfl
  rw [List.getElem?_eq_getElem (by omega)] at h0 h1 h2 h3 h4 h5
  obtain ⟨d, e0, -, w0⟩ := DataW.trod_int Try.underlying3 h0
  obtain ⟨i, e1, -, w1⟩ := DataW.trod_int Try.underlying3 h1
  obtain ⟨a, e2, -, w2⟩ := DataW.trod_int Try.underlying3 h2
  obtain ⟨s, e3, -, w3⟩ := DataW.trod_string Try.underlying9 h3
  obtain ⟨kb, km, kc, L, e4, w4⟩ := lists_in h4
  obtain ⟨b, e5, -⟩ := DataW.trod_bool Try.underlying4 h5
  cases e0; cases e1; cases e2; cases e3; cases e4; cases e5
  exact ⟨⟨d, i, a, s, b, kb, km, kc, L⟩, ⟨w4, bounds_i64 w0, bounds_i64 w1, bounds_i64 w2, w3⟩, rfl⟩
theorem bact_arg {L : List Value} {d : DataW H} {p : List MemPlace} (h : DataW.Trod enc Try.prog W 0 (fun _ => true) true 34 (.agg L.toArray) d p) : ∃ A : BAct, BActOk W A ∧ L = [.int .i64 A.d, .int .i64 A.i, .int .i64 A.a, .string A.s, A.row, .bool A.x] := by
  obtain ⟨fuel, hf⟩ := h
  have := bact_in hf
  simpa [Value.cells] using this
theorem bacts_arg {a : Option Addr} {len cap : Nat} {d : DataW H} {p : List MemPlace} (h : DataW.Trod enc Try.prog W 0 (fun _ => true) true 22 (.slice a len cap) d p) : BActsArg W a len cap := by
  obtain ⟨fuel, hf⟩ := h
  rcases DataW.trod_slice Try.underlying22 hf with ⟨hcs, _⟩ | ⟨x, l, c, elems, rest, n, _, hcs, _, hb, hl, hm, hel, hc, _⟩
  · simp [Value.cells] at hcs
    obtain ⟨rfl, rfl, rfl⟩ := hcs
    exact ⟨Nat.le_refl _, Nat.zero_le _, fun _ => noAct, fun i hi => by omega, .inl rfl⟩
  · simp [Value.cells] at hcs
    obtain ⟨rfl, rfl, rfl⟩ := hcs
    have hact : ∀ i, i < len → ∃ A : BAct, BActOk W A ∧ W.cells? 0 (x.add (i * 6)) 6 = some [.int .i64 A.d, .int .i64 A.i, .int .i64 A.a, .string A.s, A.row, .bool A.x] := fun i hi => by
      have h1 := hc i hi
      rw [Try.cells34, List.getElem?_eq_getElem (by omega), Option.bind_eq_some_iff] at h1
      obtain ⟨cs, h2, h3⟩ := h1
      obtain ⟨A, hA, rfl⟩ := bact_in h3
      exact ⟨A, hA, h2⟩
    obtain ⟨A, hA⟩ : ∃ A : Nat → BAct, ∀ i, i < len → BActOk W (A i) ∧ W.cells? 0 (x.add (i * 6)) 6 = some [.int .i64 (A i).d, .int .i64 (A i).i, .int .i64 (A i).a, .string (A i).s, (A i).row, .bool (A i).x] :=
      ⟨fun i => if h : i < len then (hact i h).choose else noAct, fun i hi => by simp only [dif_pos hi]; exact (hact i hi).choose_spec⟩
    refine ⟨hl, hm, A, fun i hi => (hA i hi).1, ?_⟩
    by_cases h0 : len = 0
    · exact .inl h0
    · have hcell : ∀ i, i < len → ∀ j u, [Value.int .i64 (A i).d, .int .i64 (A i).i, .int .i64 (A i).a, .string (A i).s, (A i).row, .bool (A i).x][j]? = some u → W.cell? ((x.add (i * 6)).add j) = some u := by
        intro i hi j u hu
        have h1 := (hA i hi).2
        unfold World.cells? at h1
        rw [if_pos (Nat.zero_le _)] at h1
        have hj : j < 6 := by
          rcases Nat.lt_or_ge j 6 with h | h
          · exact h
          · rw [List.getElem?_eq_none (by simpa using h)] at hu; cases hu
        have h2 := Go.mapM_some_get h1 j j (by simp [hj])
        rw [h2, hu]
      obtain ⟨b, off, spot⟩ := x
      have hspot : spot = none := by
        have := World.cell?_spot (hcell 0 (by omega) 0 _ rfl)
        simpa [Addr.add] using this
      subst hspot
      have hc0 := hcell 0 (by omega) 0 _ rfl
      rw [Go.WideShapes.add_plain, Go.WideShapes.add_plain] at hc0
      refine .inr ⟨b, off, rfl, cell_blk_lt hc0, fun i hi => ?_⟩
      have g : ∀ j u, [Value.int .i64 (A i).d, .int .i64 (A i).i, .int .i64 (A i).a, .string (A i).s, (A i).row, .bool (A i).x][j]? = some u → W.cell? ⟨b, off + i * 6 + j, none⟩ = some u := fun j u hu => by
        have := hcell i hi j u hu
        rw [Go.WideShapes.add_plain, Go.WideShapes.add_plain] at this
        exact this
      exact ⟨g 0 _ rfl, g 1 _ rfl, g 2 _ rfl, g 3 _ rfl, g 4 _ rfl, g 5 _ rfl⟩
end
/-- An act that came in, as it lies there still. -/
theorem bacts_at {W w : World} {a : Option Addr} {len cap : Nat} (h : BActsArg W a len cap) (hb : Below W.heap.size W w) (i : Nat) (hi : i < len) : ∃ b o, ∃ A : BAct, a = some ⟨b, o, none⟩ ∧ BActOk W A ∧ w.cell? ⟨b, o + i * 6, none⟩ = some (.int .i64 A.d) ∧ w.cell? ⟨b, o + i * 6 + 1, none⟩ = some (.int .i64 A.i) ∧ w.cell? ⟨b, o + i * 6 + 2, none⟩ = some (.int .i64 A.a) ∧ w.cell? ⟨b, o + i * 6 + 3, none⟩ = some (.string A.s) ∧ w.cell? ⟨b, o + i * 6 + 4, none⟩ = some (.slice A.kb A.km A.kc) ∧ w.cell? ⟨b, o + i * 6 + 5, none⟩ = some (.bool A.x) := by
  obtain ⟨h1, h2, A, h3, h4⟩ := h
  rcases h4 with h4 | ⟨b, o, rfl, hb0, hc⟩
  · omega
  · have g : ∀ j, w.cell? ⟨b, j, none⟩ = W.cell? ⟨b, j, none⟩ := fun j => hb.cell (p := ⟨b, j, none⟩) hb0
    obtain ⟨c0, c1, c2, c3, c4, c5⟩ := hc i hi
    exact ⟨b, o, A i, rfl, h3 i hi, by rw [g]; exact c0, by rw [g]; exact c1, by rw [g]; exact c2, by rw [g]; exact c3, by rw [g]; exact c4, by rw [g]; exact c5⟩
theorem bk_struct {W : World} {b0 : Nat} {t : TypeId} {fs : Array Field} {v : Value} (hu : Try.prog.underlying t = some (.struct fs)) (h : Value.okWide Try.prog W .any b0 t v) : ∃ xs : List Value, v = .agg xs.toArray := by
  simp only [Value.okWide, hu] at h
  obtain ⟨cs, h1, _⟩ := h
  exact ⟨cs.toList, by rw [h1]⟩
end Go.Proofs.Ytfepmafjkgjmmaa
