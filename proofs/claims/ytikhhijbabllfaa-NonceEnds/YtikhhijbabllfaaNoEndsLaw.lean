/- The law NonceEnds, walked. -/
import Derived.Test.YtikhhijbabllfaaNoWakes
namespace Go.Proofs.Ytikhhijbabllfaa
open Go.RowKit Go.PlainAid
set_option linter.unusedVariables false
set_option maxRecDepth 20000

set_option maxHeartbeats 1000000 in
theorem nonceEnds_law (e l : Int) (W : World) (he : 0 ≤ e ∧ e ≤ 4294967295) (hl : 0 ≤ l ∧ l ≤ 255) : Calls Try.prog 6 #[.int .u32 e, .int .u8 l] W fun x w' => x = .returned (.bool true) ∧ Below W.heap.size W w' := by
  obtain ⟨e0, e1⟩ := he
  obtain ⟨l0, l1⟩ := hl
  by_cases hz : e = 0
  · subst hz
    go_enter Try.func6, Try.ntmps6
    go_wp2_with (go_at_call 8; refine (wakes16_any _).mono ?_; rintro x w1 ⟨rfl, hb⟩)
    go_ret
    exact ⟨rfl, hb⟩
  · obtain ⟨L, rfl⟩ : ∃ L : Nat, l = (L : Int) := ⟨l.toNat, by omega⟩
    have hz' : (e == 0) = false := by simpa using hz
    have z1 : IntKind.u64.wrap e = e := IntWalk.u64_in _ ⟨by omega, by omega⟩
    have z2 : IntKind.u64.wrap (L : Int) = (L : Int) := IntWalk.u64_in _ ⟨by omega, by omega⟩
    have z3 : IntKind.u64.wrap (4294967295 - (L : Int)) = 4294967295 - (L : Int) := IntWalk.u64_in _ ⟨by omega, by omega⟩
    have z4 : IntKind.i64.wrap (L : Int) = (L : Int) := IntWalk.i64_in _ ⟨by omega, by omega⟩
    have z5 : IntKind.i64.wrap ((L : Int) + 1) = (L : Int) + 1 := IntWalk.i64_in _ ⟨by omega, by omega⟩
    have hnew := nnew_ok firm_nought (hold_nought W.heap.size W W (Nat.le_refl _) (Below.refl _ _)) e (4294967295 - (L : Int)) e0 (by omega) (by omega) ((mayE_iff e).2 ⟨hz, e1⟩) (by omega)
    clear hz
    go_enter Try.func6, Try.ntmps6
    go_wp2_with (go_at_call 7; refine hnew.mono ?_; rintro x w1 ⟨g, rfl, h1⟩; clear hnew; have H1 : Hid (Hold _ _ _ _) := h1; clear h1)
    go_loopw [26] (fun i wr => ∃ k : Nat, k ≤ L + 1 ∧ i = .int .i64 (k : Int) ∧ Hid (Hold W.heap.size W wr (star (src g e (4294967295 - (L : Int) + (k : Int))) nought))) (fun i _ => L + 1 - (intOf i).toNat)
    case atStart => exact ⟨0, Nat.zero_le _, rfl, by rw [show (4294967295 : Int) - (L : Int) + ((0 : Nat) : Int) = 4294967295 - (L : Int) by omega]; exact H1.out⟩
    case round =>
      clear H1
      obtain ⟨k, hk, rfl, hr⟩ := hrel
      by_cases hlt : k < L + 1
      · have hk' : (k : Int) < (L : Int) + 1 := by omega
        have hn := nnext_ok firm_nought hr.out e0 (by omega) (by omega) (by omega)
        rw [show (4294967295 : Int) - (L : Int) + (k : Int) + 1 = 4294967295 - (L : Int) + ((k + 1 : Nat) : Int) by omega] at hn
        generalize nonB e (4294967295 - (L : Int) + (k : Int)) = T at *
        clear hr
        go_wp2_with (go_at_call 10; refine hn.mono ?_; rintro x w2 ⟨rfl, h2⟩; clear hn; have H2 : Hid (Hold _ _ _ _) := h2; clear h2)
        go_roundw
        case rel => exact ⟨k + 1, by omega, by go_num, H2.out⟩
        case measure => simp [intOf]; omega
      · obtain rfl : k = L + 1 := by omega
        have hk' : ¬ ((L + 1 : Nat) : Int) < (L : Int) + 1 := by omega
        have H2 : Hid (Hold W.heap.size W wr (star (src g e 4294967296) nought)) := by
          have := hr.out
          rw [show (4294967295 : Int) - (L : Int) + ((L + 1 : Nat) : Int) = 4294967296 by omega] at this
          exact this
        clear hr
        go_wp2
        go_loopw [36] (fun i wr => ∃ k : Nat, k ≤ 3 ∧ i = .int .i64 (k : Int) ∧ Hid (Hold W.heap.size W wr (star (src g e 4294967296) nought))) (fun i _ => 3 - (intOf i).toNat)
        case atStart => exact ⟨0, Nat.zero_le _, rfl, H2.out⟩
        case round =>
          clear H2
          obtain ⟨k, hk, rfl, hr⟩ := hrel
          by_cases hlt : k < 3
          · have hk' : (k : Int) < 3 := by omega
            have hn := nnext_used hr.out
            rw [show noB = (⟨#[]⟩ : ByteArray) from rfl] at hn
            have hlf := nleft_any hr.out (by decide) (by decide)
            go_wp2_with (first
              | (go_at_call 10; refine hn.mono ?_; rintro x w2 ⟨rfl, hw⟩; rw [hw]; clear hw w2 hn)
              | (go_at_call 11; refine hlf.mono ?_; rintro x w3 ⟨rfl, hw⟩; rw [hw]; clear hw w3 hlf))
            go_roundw
            case rel => exact ⟨k + 1, by omega, by go_num, hr.out⟩
            case measure => simp [intOf]; omega
          · have hk' : ¬ (k : Int) < 3 := by omega
            go_wp2_with (go_at_call 8; refine (wakes16_any _).mono ?_; rintro x w4 ⟨rfl, hb⟩; have H4 : Hid (Below W.heap.size W w4) := hr.out.low.trans (hb.mono hr.out.size); clear hb)
            go_ret
            exact ⟨rfl, H4.out⟩
end Go.Proofs.Ytikhhijbabllfaa
