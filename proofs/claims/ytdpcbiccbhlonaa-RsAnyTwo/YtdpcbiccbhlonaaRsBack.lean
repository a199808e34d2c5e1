/- A stripe's own chunks are told back; two lists of the same texts are equal. -/
import Derived.Test.YtdpcbiccbhlonaaRsDec
namespace Go.Proofs.Ytdpcbiccbhlonaa
open Go.RowKit Go.PlainAid
set_option linter.unusedVariables false

theorem decode_back (a b : Option Addr) (k m ca cb : Nat) (M : Nat → Nat) (Y D : Mx) (T : Nat → Bool) (w : World) (k1 : 1 ≤ k) (k8 : k ≤ 8) (hm : m ≤ 65536) (hT : TxtAt w a (k + 2) M Y) (hB : Vals w b (k + 2) fun i => .bool (T i))
    (hcnt : k ≤ cnt T (k + 2)) (hfit : ∀ i, i < k + 2 → T i = true → M i = m ∧ ∀ c, c < m → Y i c = St k D i c) :
    Calls Try.prog 15 #[.slice a (k + 2) ca, .slice b (k + 2) cb] w fun e w' => Below w.heap.size w w' ∧ ∃ v, e = .returned (.tuple #[v, .int .i64 0]) ∧ w'.ownsRow w.heap.size 9 1 v (k + 2) (strsL (k + 2) fun i => strE m (St k D i)) := by
  have hM : ∀ r, r < cnt T (k + 2) → M (kidx T (k + 2) r) = m := fun r hr => by
    have hs := kidx_spec T hr
    exact (hfit _ hs.1 hs.2.1).1
  have hz : meaE (cnt T (k + 2)) (fun r => M (kidx T (k + 2) r)) = 0 := by
    refine mea_zero.2 ⟨fun c hc => ?_, ?_⟩
    · show M _ = M _; rw [hM c hc, hM 0 (by omega)]
    · show M _ ≤ _; rw [hM 0 (by omega)]; exact hm
  refine (decode_any a b (k + 2) (k + 2) ca cb M Y T w (by omega) (by omega) hT hB).mono ?_
  rintro e w' ⟨hb, v, er, rfl, ⟨hno, -, -⟩ | ⟨-, hno, -, -⟩ | ⟨-, -, hno, -, -⟩ | ⟨-, -, -, rfl, D', hF, hown⟩⟩
  · exact absurd ⟨by omega, by omega, rfl⟩ hno
  · omega
  · exact absurd hz hno
  · refine ⟨hb, v, rfl, ?_⟩
    rw [hM 0 (by omega), Nat.add_sub_cancel] at hown
    rw [hM 0 (by omega), Nat.add_sub_cancel] at hF
    have hF' : Fits k T m Y D := fun i hi hu c hc => by
      have hu' : T i = true ∧ cnt T i < k := by simpa [used] using hu
      exact ((hfit i hi hu'.1).2 c hc).symm
    have e : (strsL (k + 2) fun i => strE m (St k D i)) = strsL (k + 2) fun i => strE m (St k D' i) := strsL_congr fun i hi => strE_congr fun c hc => fits_all (by omega) hcnt hF' hF i c hc
    rw [e]
    exact hown
theorem decode_lost (a b : Option Addr) (k ca cb : Nat) (M : Nat → Nat) (Y : Mx) (T : Nat → Bool) (w : World) (k1 : 1 ≤ k) (k8 : k ≤ 8) (hT : TxtAt w a (k + 2) M Y) (hB : Vals w b (k + 2) fun i => .bool (T i)) (hcnt : cnt T (k + 2) < k) :
    Calls Try.prog 15 #[.slice a (k + 2) ca, .slice b (k + 2) cb] w fun e w' => Below w.heap.size w w' ∧ e = .returned (.tuple #[.slice none 0 0, .int .i64 24]) := by
  refine (decode_any a b (k + 2) (k + 2) ca cb M Y T w (by omega) (by omega) hT hB).mono ?_
  rintro e w' ⟨hb, v, er, rfl, ⟨hno, -, -⟩ | ⟨-, -, rfl, rfl⟩ | ⟨-, hno, -, -, -⟩ | ⟨-, hno, -, -, -⟩⟩
  · exact absurd ⟨by omega, by omega, rfl⟩ hno
  · exact ⟨hb, rfl⟩
  · omega
  · omega

set_option maxHeartbeats 1000000 in
theorem equal_yes (a b : Option Addr) (n ca cb : Nat) (F : Nat → ByteArray) (w : World) (hn : n ≤ 1000) (ha : Vals w a n fun i => .string (F i)) (hb : Vals w b n fun i => .string (F i)) :
    Calls Try.prog 17 #[.slice a n ca, .slice b n cb] w fun e w' => e = .returned (.bool true) ∧ Below w.heap.size w w' := by
  have HA := ha.at
  have HB := hb.at
  have t0 : ((n : Int) != (n : Int)) = false := by simp
  clear ha hb
  go_enter Try.func17, Try.ntmps17
  go_wp2_with fail
  go_loopw [13] (fun i wr => ∃ k : Nat, k ≤ n ∧ i = .int .i64 k ∧ Below w.heap.size w wr) (fun i _ => (n : Nat) - (intOf i).toNat)
  case atStart => exact ⟨0, Nat.zero_le _, rfl, Below.refl _ _⟩
  case round =>
    obtain ⟨k, hk, rfl, hbk⟩ := hrel
    by_cases hlt : k < n
    · obtain ⟨b1, o1, rfl, e1⟩ := HA.out wr hbk k hlt
      obtain ⟨b2, o2, rfl, e2⟩ := HB.out wr hbk k hlt
      have kn : (k : Int) < (n : Int) := by omega
      generalize F k = s at e1 e2
      go_wp2_with fail
      go_quiet (fail)
      go_wp2_with fail
      go_roundw
      case rel => exact ⟨k + 1, by omega, by go_num, below_drewN hbk _⟩
      case measure => simp [intOf]; omega
    · have hkn : n = k := by omega
      subst hkn
      go_wp2_with fail
      go_ret
      exact ⟨rfl, hbk⟩
end Go.Proofs.Ytdpcbiccbhlonaa
