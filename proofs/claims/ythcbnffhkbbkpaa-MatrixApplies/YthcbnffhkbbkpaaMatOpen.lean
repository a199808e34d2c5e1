/- Rows that came in, read. -/
import Derived.Test.YthcbnffhkbbkpaaMatAt
import Derived.Deep.Matrix
namespace Go.Proofs.Ythcbnffhkbbkpaa
open Go.ChangeShapes Go.WideShapes Go.RowKit
set_option linter.unusedVariables false

theorem Try.cells48 : Try.prog.cellsOf 48 = 1 := by kernel_rfl
theorem Try.cells5 : Try.prog.cellsOf 5 = 1 := by kernel_rfl
/-- What is told of rows that came in. -/
def RawArg (W : World) (a : Option Addr) (len cap : Nat) : Prop :=
  ∃ L X AR CR, len ≤ maxLen ∧ MatIn W a len L X AR CR ∧ ∀ r, r < len → L r ≤ CR r ∧ CR r ≤ maxLen ∧ (AR r = none → CR r = 0)
theorem raw_arg {H : Type} {enc : TypeId × Value → H} {W : World} {a : Option Addr} {len cap : Nat} {d : DataW H} {p : List MemPlace}
    (h : DataW.Trod enc Try.prog W 0 (fun _ => true) true 26 (.slice a len cap) d p) : RawArg W a len cap := by
  obtain ⟨fuel, hf⟩ := h
  rcases Go.Deep.open_int_rows Try.underlying26 Try.underlying48 Try.underlying5 Try.cells48 Try.cells5 hf with ⟨hcs, _⟩ | ⟨x, l, c, A, L, C, Z, hcs, _, hl, hm, _, hcell⟩
  · simp [Value.cells] at hcs
    obtain ⟨rfl, rfl, rfl⟩ := hcs
    exact ⟨fun _ => 0, fun _ _ => 0, fun _ => none, fun _ => 0, Nat.zero_le _, ⟨.inl rfl, fun r hr => by omega⟩, fun r hr => by omega⟩
  · simp [Value.cells] at hcs
    obtain ⟨rfl, rfl, rfl⟩ := hcs
    have hX : ∀ r, r < len → ∀ k, k < C r → ∃ y : E, (Z r).getD k 0 = (y.v : Int) := fun r hr k hk => by
      obtain ⟨_, h1, h2, h3, h4, _⟩ := hcell r (by omega)
      have hmem : (Z r).getD k 0 ∈ Z r := by
        rw [List.getD_eq_getElem?_getD, List.getElem?_eq_getElem (show k < (Z r).length by omega)]
        exact List.getElem_mem _
      have hw := bounds_u8 (h4 _ hmem)
      exact ⟨⟨((Z r).getD k 0).toNat, by omega⟩, by simp only; omega⟩
    refine ⟨L, fun r k => ⟨((Z r).getD k 0).toNat % 256, Nat.mod_lt _ (by decide)⟩, A, C, by omega, ⟨?_, fun r hr => ?_⟩, fun r hr => ?_⟩
    · by_cases h0 : len = 0
      · exact .inl h0
      · obtain ⟨b, off, spot⟩ := x
        have hspot : spot = none := by simpa [Addr.add] using World.cell?_spot (hcell 0 (by omega)).1
        subst hspot
        exact .inr ⟨b, off, rfl, fun r hr => by rw [← Go.WideShapes.add_plain]; exact (hcell r (by omega)).1⟩
    · obtain ⟨_, h1, h2, h3, h4, h5, h6⟩ := hcell r (by omega)
      refine ⟨by omega, ?_⟩
      by_cases h0 : L r = 0
      · exact .inl h0
      · cases hA : A r with
        | none => have := h5 hA; omega
        | some a' =>
          have h7 := (h6 a' hA).2
          obtain ⟨b, off, spot⟩ := a'
          have hspot : spot = none := by simpa [Addr.add] using World.cell?_spot (h7 0 (by omega))
          subst hspot
          refine .inr ⟨b, off, rfl, fun k hk => ?_⟩
          rw [← Go.WideShapes.add_plain, h7 k (by omega)]
          obtain ⟨y, hy⟩ := hX r hr k (by omega)
          have := y.h
          simp only [byteV]
          rw [hy, Int.toNat_natCast, Nat.mod_eq_of_lt this]
    · obtain ⟨_, h1, h2, _, _, h5, _⟩ := hcell r (by omega)
      exact ⟨h1, h2, h5⟩
end Go.Proofs.Ythcbnffhkbbkpaa
