/- Acts, texts and bools that came in, read. -/
import Derived.Test.YtfepmafjkgjmmaaDkOwn
import Derived.Deep.Matrix
import Derived.Deep.Grids
import Derived.SliceStrings
namespace Go.Proofs.Ytfepmafjkgjmmaa
open Go.ChangeShapes Go.WideShapes Go.ChangeAt Go.RowKit Go.PlainAid
set_option linter.unusedVariables false

theorem Try.cells4 : Try.prog.cellsOf 4 = 1 := by kernel_rfl
theorem Try.cells9 : Try.prog.cellsOf 9 = 1 := by kernel_rfl
/-- An act, as plain data; where its list lies. -/
structure ActD where
  d : Int
  a : Int
  s : ByteArray
  n : Int
  x : Bool
  kb : Option Addr
  km : Nat
  kc : Nat
  kk : Nat → Bool
abbrev ActD.row (A : ActD) : Value := .slice A.kb A.km A.kc
/-- What is known of bools that came in. -/
def BoolsOk (W : World) (a : Option Addr) (m c : Nat) (k : Nat → Bool) : Prop := BoolsAt W (.slice a m c) m k ∧ m ≤ c ∧ c ≤ maxLen
def ActOk (W : World) (A : ActD) : Prop := BoolsOk W A.kb A.km A.kc A.kk ∧ (-9223372036854775808 ≤ A.d ∧ A.d ≤ 9223372036854775807) ∧ (-9223372036854775808 ≤ A.a ∧ A.a ≤ 9223372036854775807) ∧ (-9223372036854775808 ≤ A.n ∧ A.n ≤ 9223372036854775807) ∧ A.s.size ≤ maxLen
/-- Acts in a row. -/
def ActsArg (W : World) (a : Option Addr) (len cap : Nat) : Prop := len ≤ cap ∧ cap ≤ maxLen ∧ ∃ A : Nat → ActD, (∀ i, i < len → ActOk W (A i)) ∧ (len = 0 ∨ ∃ b o, a = some ⟨b, o, none⟩ ∧ b < W.heap.size ∧ ∀ i, i < len →
  W.cell? ⟨b, o + i * 6, none⟩ = some (.int .i64 (A i).d) ∧ W.cell? ⟨b, o + i * 6 + 1, none⟩ = some (.int .i64 (A i).a) ∧ W.cell? ⟨b, o + i * 6 + 2, none⟩ = some (.string (A i).s) ∧ W.cell? ⟨b, o + i * 6 + 3, none⟩ = some (.int .i64 (A i).n) ∧ W.cell? ⟨b, o + i * 6 + 4, none⟩ = some (A i).row ∧ W.cell? ⟨b, o + i * 6 + 5, none⟩ = some (.bool (A i).x))
/-- Texts in a row. -/
def TextsArg (W : World) (a : Option Addr) (len cap : Nat) : Prop := cap ≤ maxLen ∧ ∃ f, TextsAt W (.slice a len cap) len f ∧ ∀ i, i < len → (f i).size ≤ maxLen
def DkBools (W : World) (a : Option Addr) (len cap : Nat) : Prop := ∃ k, BoolsOk W a len cap k
theorem cell_blk_lt {W : World} {b o : Nat} {v : Value} (h : W.cell? ⟨b, o, none⟩ = some v) : b < W.heap.size := World.block_lt_of_cell? W ⟨b, o, none⟩ h
section
variable {H : Type} {enc : TypeId × Value → H} {W : World}
theorem bools_in {fuel : Nat} {cs : List Value} {x : DataW H × List MemPlace} (h : DataW.trod enc Try.prog W 0 (fun _ => true) true fuel 80 cs = some x) : ∃ a m c k, cs = [.slice a m c] ∧ BoolsOk W a m c k := by
  rcases Go.Deep.open_bools Try.underlying80 Try.underlying4 Try.cells4 h with ⟨rfl, _⟩ | ⟨y, l, c, bs, rfl, _, hl, hm, _, hcell⟩
  · exact ⟨none, 0, 0, fun _ => false, rfl, ⟨⟨_, _, rfl, .inl rfl⟩, fun _ _ => rfl⟩, Nat.le_refl _, Nat.zero_le _⟩
  · refine ⟨some y, l, c, fun i => if i < l then bs i else false, rfl, ⟨⟨_, _, rfl, ?_⟩, fun i hi => if_neg (by omega)⟩, hl, hm⟩
    by_cases h0 : l = 0
    · exact .inl h0
    · obtain ⟨b, off, spot⟩ := y
      have hspot : spot = none := by simpa [Addr.add] using World.cell?_spot (hcell 0 (by omega))
      subst hspot
      have hc : ∀ i, i < l → W.cell? ⟨b, off + i, none⟩ = some (.bool (if i < l then bs i else false)) := fun i hi => by
        rw [if_pos hi, ← Go.WideShapes.add_plain]; exact hcell i (by omega)
      exact .inr ⟨b, off, rfl, cell_blk_lt (hc 0 (by omega)), hc⟩
theorem dkBools_arg {a : Option Addr} {len cap : Nat} {d : DataW H} {p : List MemPlace} (h : DataW.Trod enc Try.prog W 0 (fun _ => true) true 80 (.slice a len cap) d p) : DkBools W a len cap := by
  obtain ⟨fuel, hf⟩ := h
  obtain ⟨a', m, c, k, hcs, hk⟩ := bools_in hf
  simp [Value.cells] at hcs
  obtain ⟨rfl, rfl, rfl⟩ := hcs
  exact ⟨k, hk⟩
theorem dkStrs_arg {a : Option Addr} {len cap : Nat} {d : DataW H} {p : List MemPlace} (h : DataW.Trod enc Try.prog W 0 (fun _ => true) true 37 (.slice a len cap) d p) : TextsArg W a len cap := by
  obtain ⟨fuel, hf⟩ := h
  rcases open_strings Try.underlying37 Try.underlying9 Try.cells9 hf with ⟨hcs, _⟩ | ⟨x, l, c, ss, hcs, _, hl, hm, hz, _, hcell, hws⟩
  · simp [Value.cells] at hcs
    obtain ⟨rfl, rfl, rfl⟩ := hcs
    exact ⟨Nat.zero_le _, fun _ => noB, ⟨_, _, rfl, Nat.le_refl _, .inl rfl⟩, fun i hi => by omega⟩
  · simp [Value.cells] at hcs
    obtain ⟨rfl, rfl, rfl⟩ := hcs
    simp at hz
    refine ⟨hm, fun i => ss.getD i ByteArray.empty, ⟨_, _, rfl, hl, ?_⟩, fun i hi => ?_⟩
    · by_cases h0 : len = 0
      · exact .inl h0
      · obtain ⟨b, off, spot⟩ := x
        have hspot : spot = none := by simpa [Addr.add] using World.cell?_spot (hcell 0 (by omega))
        subst hspot
        have hc : ∀ i, i < len → W.cell? ⟨b, off + i, none⟩ = some (.string (ss.getD i ByteArray.empty)) := fun i hi => by
          rw [← Go.WideShapes.add_plain]; exact hcell i (by omega)
        exact .inr ⟨b, off, rfl, cell_blk_lt (hc 0 (by omega)), hc⟩
    · apply hws
      show ss.getD i ByteArray.empty ∈ ss
      rw [List.getD_eq_getElem?_getD, List.getElem?_eq_getElem (show i < ss.length by omega)]
      exact List.getElem_mem _
end
theorem BoolsOk.below {w w' : World} {a : Option Addr} {m c : Nat} {k : Nat → Bool} (h : BoolsOk w a m c k) (hb : Below w.heap.size w w') : BoolsOk w' a m c k := ⟨h.1.below hb, h.2⟩
end Go.Proofs.Ytfepmafjkgjmmaa
