/- What the Go function IntentPuts answers: true, for all writes. -/
import Derived.Test.YtegebaomhbogmaaDoorInWrites
namespace Go.Proofs.YtegebaomhbogmaaDoor
open Go.RowKit Go.PlainAid
set_option linter.unusedVariables false
set_option maxRecDepth 20000

set_option maxHeartbeats 2000000 in
theorem intentPuts_law (s : Option Addr) (len cap : Nat) (W : World) (hs : LCame W s len cap) (ht : Tabs W) (hr : RTabs W) : Calls Tryd.prog 3 #[.slice s len cap] W fun e w' => e = .returned (.bool true) ∧ Below W.heap.size W w' := by
  obtain ⟨x, hx⟩ := writes15_any hs
  have hw := hx W (Below.refl _ _)
  have H0 : Hid (Tb W W) := ⟨Below.refl _ _, ht, hr⟩
  have hN : min len 120 ≤ 120 := Nat.min_le_right _ _
  have HP : Hid (∀ z a c, Tb W z → Wx z a (min len 120) (lwA x) (lwC x) → Calls Tryd.prog 8 #[.slice a (min len 120) c] z fun e w' => ∃ a' c', e = .returned (.tuple #[.slice a' (lgN (min len 120) (lwA x) (lwC x)) c', .string (lgD (min len 120) (lwA x) (lwC x)), .int .i64 (lgE (min len 120) (lwA x) (lwC x))]) ∧ Cs w' a' (lgN (min len 120) (lwA x) (lwC x)) (celF (min len 120) (lwA x) (lwC x)) ∧ Below z.heap.size z w') := fun z a c hz h => (iput_any h (by omega) hz.t).mono fun e w' ⟨a', c', he, h1, _, h2⟩ => ⟨a', c', he, h1, h2⟩
  have HR : Hid (∀ z a c, Tb W z → Wx z a (min len 120) (lwA x) (lwC x) → Calls Tryd.prog 9 #[.slice a (min len 120) c] z fun e w' => ∃ a' c', e = .returned (.tuple #[.slice a' (lgN (min len 120) (lwA x) (lwC x)) c', .string (lgD (min len 120) (lwA x) (lwC x)), .int .i64 (lgE (min len 120) (lwA x) (lwC x))]) ∧ Cs w' a' (lgN (min len 120) (lwA x) (lwC x)) (celF (min len 120) (lwA x) (lwC x)) ∧ Below z.heap.size z w') := fun z a c hz h => rput15_any h (by omega) hz.r
  have HZ : Hid (∀ z, Tb W z → Calls Tryd.prog 9 #[.slice none 0 0] z fun e w' => ∃ a' c', e = .returned (.tuple #[.slice a' (lgN 0 zA zC) c', .string (lgD 0 zA zC), .int .i64 (lgE 0 zA zC)]) ∧ Cs w' a' (lgN 0 zA zC) (celF 0 zA zC) ∧ Below z.heap.size z w') := fun z hz => rput15_any (.inl rfl) (by decide) hz.r
  have hM : lgN (min len 120) (lwA x) (lwC x) ≤ 1000 := by unfold lgN; split <;> omega
  have HM : Hid (lgN (min len 120) (lwA x) (lwC x) ≤ 1000) := hM
  generalize celF (min len 120) (lwA x) (lwC x) = F at *
  generalize lgN (min len 120) (lwA x) (lwC x) = M at *
  generalize lgD (min len 120) (lwA x) (lwC x) = D at *
  generalize lgE (min len 120) (lwA x) (lwC x) = E at *
  generalize lgN 0 zA zC = M0 at *
  have hD0 : Hid (∀ z, Tb W z → Calls Tryd.prog 12 #[] z fun e w' => e = .returned (.string (lgD 0 zA zC)) ∧ Below z.heap.size z w') := fun z hz => iempty_any hz.t
  generalize lgD 0 zA zC = D0 at *
  generalize lgE 0 zA zC = E0 at *
  generalize min len 120 = N at *
  have t1 := text_self D
  have t2 := text_self D0
  have t3 := int_self E
  clear hs ht hr hx hM
  go_enter Tryd.func3, Tryd.ntmps3
  go_wp2_with (first
    | (go_at_call 7; refine hw.mono ?_; rintro e w1 ⟨a, b, ca, cb, rfl, ha, hb, hl⟩; have H1 : Hid (Tb W w1) := H0.out.below hl; have A1 : Hid (Wx w1 a N (lwA x) (lwC x)) := ha; have B1 : Hid (Wx w1 b N (lwA x) (lwC x)) := hb; clear hw ha hb hl H0)
    | (go_at_call 8; refine (HP.out _ _ _ H1.out A1.out).mono ?_; rintro e w2 ⟨a2, c2, rfl, hc2, hb2⟩; have H2 : Hid (Tb W w2) := H1.out.below hb2; have B2 : Hid (Wx w2 b N (lwA x) (lwC x)) := B1.out.below hb2; have C2 : Hid (Cs w2 a2 M F) := hc2; clear hb2 hc2 H1 A1 B1 HP)
    | (go_at_call 9; refine (HR.out _ _ _ H2.out B2.out).mono ?_; rintro e w3 ⟨a3, c3, rfl, hc3, hb3⟩; have H3 : Hid (Tb W w3) := H2.out.below hb3; have C3 : Hid (Cs w3 a2 M F) := C2.out.below hb3; have D3 : Hid (Cs w3 a3 M F) := hc3; clear hb3 hc3 H2 B2 C2 HR)
    | (go_at_call 9; refine (HZ.out _ H3.out).mono ?_; rintro e w4 ⟨a4, c4, rfl, hc4, hb4⟩; have H4 : Hid (Tb W w4) := H3.out.below hb4; have C4 : Hid (Cs w4 a2 M F) := C3.out.below hb4; have D4 : Hid (Cs w4 a3 M F) := D3.out.below hb4; clear hb4 hc4 H3 C3 D3 HZ)
    | (go_at_call 10; refine (wakes15_any H4.out.t).mono ?_; rintro e w5 ⟨rfl, hb5⟩; have H5 : Hid (Tb W w5) := H4.out.below hb5; have C5 : Hid (Cs w5 a2 M F) := C4.out.below hb5; have D5 : Hid (Cs w5 a3 M F) := D4.out.below hb5; clear hb5 H4 C4 D4)
    | (go_at_call 11; refine (equal15_any C5.out D5.out HM.out).mono ?_; rintro e w6 ⟨rfl, hb6⟩; have H6 : Hid (Tb W w6) := H5.out.below hb6; clear hb6 H5 C5 D5)
    | (go_at_call 12; refine (hD0.out _ H6.out).mono ?_; rintro e w7 ⟨rfl, hb7⟩; have H7 : Hid (Tb W w7) := H6.out.below hb7; clear hb7 H6 hD0))
  go_ret
  exact ⟨rfl, H7.out.low⟩
end Go.Proofs.YtegebaomhbogmaaDoor
