/- The arguments of layer 16's laws, as they come in. -/
import Derived.Test.YtikhhijbabllfaaNums
namespace Go.Proofs.Ytikhhijbabllfaa
open Go.RowKit Go.PlainAid
set_option linter.unusedVariables false
set_option maxRecDepth 20000

abbrev u32Ok (n : Int) : Prop := 0 ≤ n ∧ n ≤ 4294967295
section
variable {H : Type} {enc : TypeId × Value → H} {W : World}
theorem nu32s_arg {a : Option Addr} {len cap : Nat} {d : DataW H} {p : List MemPlace} (h : DataW.Trod enc Try.prog W 0 (fun _ => true) true 46 (.slice a len cap) d p) : Came u32Ok (fun n => [.int .u32 n]) 1 W a len cap :=
  came_arg 0 _ _ 1 (fun _ => rfl) (by decide) Try.underlying46 (by kernel_rfl) (fun fuel cs x h => by
    obtain ⟨n, e, -, hw⟩ := DataW.trod_int Try.underlying47 h
    exact ⟨n, ⟨(bounds_u32 hw).1, by have := (bounds_u32 hw).2; omega⟩, e⟩) h
theorem bytes12_arg {L : List Value} {d : DataW H} {p : List MemPlace} (h : DataW.Trod enc Try.prog W 0 (fun _ => true) true 38 (.agg L.toArray) d p) : ∃ f : Nat → Nat, L = nr .u8 12 f ∧ ∀ i, f i < 256 := bytes_arg Try.underlying38 (by kernel_rfl) h
end
end Go.Proofs.Ytikhhijbabllfaa
