/- What came in, for the laws of layer 17: acts. -/
import Derived.Test.YtnhkkhiajiiahaaGreatDoorSlBeginQ
import Derived.SliceStrings
import Derived.SizedLaws
import Derived.ProofKit
import Derived.OpenShut
namespace Go.Proofs.YtnhkkhiajiiahaaGreatDoor
open Go.ChangeShapes Go.WideShapes Go.ChangeAt Go.RowKit Go.PlainAid
set_option linter.unusedVariables false
set_option maxRecDepth 20000

/-- An act as it lies. -/
structure Ac where
  d : Int
  s : Int
  a : Int
  t : Int
  ca : Option Addr
  cl : Nat
  cc : Nat
  p : ByteArray
abbrev Ac.row (x : Ac) : List Value := [.int .i64 x.d, .int .i64 x.s, .int .i64 x.a, .int .u8 x.t, .slice x.ca x.cl x.cc, .string x.p]
abbrev Ac.Ok (x : Ac) : Prop := (-9223372036854775808 ≤ x.d ∧ x.d ≤ 9223372036854775807) ∧ (-9223372036854775808 ≤ x.s ∧ x.s ≤ 9223372036854775807) ∧ (-9223372036854775808 ≤ x.a ∧ x.a ≤ 9223372036854775807) ∧ (0 ≤ x.t ∧ x.t ≤ 255) ∧ x.p.size ≤ maxLen
/-- Acts that came in. -/
def Acs (W : World) (a : Option Addr) (len cap : Nat) : Prop := Came Ac.Ok Ac.row 6 W a len cap
section
variable {H : Type} {enc : TypeId × Value → H} {W : World}
theorem ac_in {fuel : Nat} {cs : List Value} {x : DataW H × List MemPlace} (h : DataW.trod enc Tryz.prog W 0 (fun _ => true) true fuel 32 cs = some x) : ∃ A : Ac, A.Ok ∧ cs = A.row := by
  obtain ⟨xs, m, _, _, hl, hn, hf⟩ := DataW.trod_struct Tryz.underlying32 h
  rw [show Tryz.prog.cellsOf 32 = 6 by kernel_rfl] at hl
  have hn6 : xs.length = 6 := hn
  obtain ⟨c0, c1, c2, c3, c4, c5, rfl⟩ : ∃ c0 c1 c2 c3 c4 c5, cs = [c0, c1, c2, c3, c4, c5] := by
    match cs, hl with
    | [c0, c1, c2, c3, c4, c5], _ => exact ⟨c0, c1, c2, c3, c4, c5, rfl⟩
  have h0 : DataW.trod enc Tryz.prog W 0 (fun _ => true) true m 3 [c0] = xs[0]? := hf 0 _ rfl
  have h1 : DataW.trod enc Tryz.prog W 0 (fun _ => true) true m 3 [c1] = xs[1]? := hf 1 _ rfl
  have h2 : DataW.trod enc Tryz.prog W 0 (fun _ => true) true m 3 [c2] = xs[2]? := hf 2 _ rfl
  have h3 : DataW.trod enc Tryz.prog W 0 (fun _ => true) true m 5 [c3] = xs[3]? := hf 3 _ rfl
  have h5 : DataW.trod enc Tryz.prog W 0 (fun _ => true) true m 9 [c5] = xs[5]? := hf 5 _ rfl
  have h4 : DataW.trod enc Tryz.prog W 0 (fun _ => true) true m 30 [c4] = xs[4]? := hf 4 _ rfl
  rw [List.getElem?_eq_getElem (by omega)] at h0 h1 h2 h3 h4 h5
  obtain ⟨ca, cl, cc, rfl⟩ : ∃ ca cl cc, c4 = .slice ca cl cc := by
    rcases DataW.trod_slice Tryz.underlying30 h4 with ⟨hq, _⟩ | ⟨x, l, c, elems, rest, n, _, hq, _⟩
    · simp at hq; exact ⟨_, _, _, hq⟩
    · simp at hq; exact ⟨_, _, _, hq⟩
  obtain ⟨d, e0, -, w0⟩ := DataW.trod_int Tryz.underlying3 h0
  obtain ⟨s, e1, -, w1⟩ := DataW.trod_int Tryz.underlying3 h1
  obtain ⟨a, e2, -, w2⟩ := DataW.trod_int Tryz.underlying3 h2
  obtain ⟨t, e3, -, w3⟩ := DataW.trod_int Tryz.underlying5 h3
  obtain ⟨p, e5, -, w5⟩ := DataW.trod_string Tryz.underlying9 h5
  cases e0; cases e1; cases e2; cases e3; cases e5
  exact ⟨⟨d, s, a, t, ca, cl, cc, p⟩, ⟨bounds_i64 w0, bounds_i64 w1, bounds_i64 w2, by have := bounds_u8 w3; omega, w5⟩, rfl⟩
theorem acs_arg {a : Option Addr} {len cap : Nat} {d : DataW H} {p : List MemPlace} (h : DataW.Trod enc Tryz.prog W 0 (fun _ => true) true 24 (.slice a len cap) d p) : Acs W a len cap :=
  came_arg ⟨0, 0, 0, 0, none, 0, 0, noB⟩ _ _ 6 (fun _ => rfl) (by decide) Tryz.underlying24 (by kernel_rfl) (fun fuel cs x h => ac_in h) h
end
theorem acs_at {W z : World} {a : Option Addr} {len cap : Nat} (h : Acs W a len cap) (hb : Below W.heap.size W z) (j : Nat) (hj : j < len) : ∃ sb so, ∃ A : Ac, a = some ⟨sb, so, none⟩ ∧ A.Ok ∧ z.rangeAt sb (so + j * 6) A.row := by
  obtain ⟨_, _, A, hA, h0 | ⟨b, o, e, hl, hr⟩⟩ := h
  · omega
  · exact ⟨b, o, A j, e, hA j hj, fun k v hv => (hb.cell (p := ⟨b, o + j * 6 + k, none⟩) hl).trans (hr j hj k v hv)⟩
end Go.Proofs.YtnhkkhiajiiahaaGreatDoor
