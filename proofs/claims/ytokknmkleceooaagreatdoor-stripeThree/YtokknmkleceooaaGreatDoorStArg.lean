import Derived.Test.YtokknmkleceooaaGreatDoorStBlk
import Derived.SliceStrings
import Derived.SizedLaws
import Derived.ProofKit
import Derived.OpenShut
namespace Go.Proofs.YtokknmkleceooaaGreatDoor
open Go.ChangeShapes Go.WideShapes Go.ChangeAt Go.RowKit Go.PlainAid
set_option linter.unusedVariables false
set_option maxRecDepth 20000
def BytsArg (W : World) (a : Option Addr) (len cap : Nat) : Prop :=
  ∃ f : Nat → Nat, len ≤ cap ∧ cap ≤ maxLen ∧ (a = none → cap = 0) ∧ BytA W a len f
theorem byts_arg {H : Type} {enc : TypeId × Value → H} {W : World} {a : Option Addr} {len cap : Nat} {d : DataW H} {p : List MemPlace}
    (h : DataW.Trod enc Tryz.prog W 0 (fun _ => true) true 22 (.slice a len cap) d p) : BytsArg W a len cap := by
  obtain ⟨fuel, hf⟩ := h
  rcases open_ints Tryz.underlying22 Tryz.underlying5 (by kernel_rfl) hf with ⟨hcs, _⟩ | ⟨x, l, c, zs, hcs, _, hl, hm, hz, _, hcell, hwz⟩
  · simp [Value.cells] at hcs
    obtain ⟨rfl, rfl, rfl⟩ := hcs
    exact ⟨fun _ => 0, Nat.le_refl _, Nat.zero_le _, fun _ => rfl, fun i => by show 0 < 256; omega, .inl rfl⟩
  · simp [Value.cells] at hcs
    obtain ⟨rfl, rfl, rfl⟩ := hcs
    simp at hz
    have hr := range_u8 hwz
    refine ⟨fun i => (zs[i]?.getD 0).toNat, hl, hm, (fun h => by cases h), fun i => by have := hr i; show (zs[i]?.getD 0).toNat < 256; omega, ?_⟩
    by_cases h0 : len = 0
    · exact .inl h0
    · obtain ⟨b, off, spot⟩ := x
      have hspot : spot = none := by simpa [Addr.add] using World.cell?_spot (hcell 0 (by omega))
      subst hspot
      refine .inr ⟨b, off, rfl, fun r hr' => ?_⟩
      have h1 := hcell r (by omega)
      rw [Go.WideShapes.add_plain] at h1
      have h2 := hr r
      rw [List.getD_eq_getElem?_getD] at h1
      show W.cell? ⟨b, off + r, none⟩ = some (.int .u8 (((zs[r]?.getD 0).toNat : Nat) : Int))
      rw [show (((zs[r]?.getD 0).toNat : Nat) : Int) = zs[r]?.getD 0 by omega]
      exact h1
end Go.Proofs.YtokknmkleceooaaGreatDoor
