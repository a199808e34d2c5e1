/- The parity chunks of data chunks: the program's own answer. -/
import Derived.Test.YtdpcbiccbhlonabMatApply
import Derived.Test.YtdpcbiccbhlonabRsMath
namespace Go.Proofs.Ytdpcbiccbhlonab
open Go.RowKit Go.PlainAid
set_option linter.unusedVariables false

theorem inData_any (n : Int) (g : Bool) (hg : g = true ↔ (1 ≤ n ∧ n ≤ 8)) (w : World) : Calls Try.prog 10 #[.int .i64 n] w fun e w' => e = .returned (.bool g) ∧ w' = w := by
  by_cases h1 : 1 ≤ n
  · by_cases h2 : n ≤ 8
    · obtain rfl : g = true := hg.2 ⟨h1, h2⟩
      clear hg
      go_enter Try.func10, Try.ntmps10
      go_wp2
      go_ret
      exact ⟨rfl, rfl⟩
    · obtain rfl : g = false := by
        cases g with
        | false => rfl
        | true => exact absurd (hg.1 rfl).2 h2
      clear hg
      go_enter Try.func10, Try.ntmps10
      go_wp2
      go_ret
      exact ⟨rfl, rfl⟩
  · obtain rfl : g = false := by
      cases g with
      | false => rfl
      | true => exact absurd (hg.1 rfl).1 h1
    clear hg
    go_enter Try.func10, Try.ntmps10
    go_wp2
    go_ret
    exact ⟨rfl, rfl⟩

theorem parityRows_any (k : Nat) (h1 : 1 ≤ k) (h8 : k ≤ 8) (w : World) :
    Calls Try.prog 12 #[.int .i64 (k : Int)] w fun e w' => Below w.heap.size w w' ∧ ∃ g G, e = .returned (.slice (some ⟨g, 0, none⟩) 2 2) ∧ OwnM w' w.heap.size g 2 k 2 G powM := by
  have hv := vander_any 2 (k : Int) w (by decide) (by decide) (by omega) (by omega)
  have hk2 : ¬ (1 ≤ (2 : Int) ∧ (2 : Int) ≤ 16 ∧ 1 ≤ (k : Int) ∧ (k : Int) ≤ 16) → False := fun h => h ⟨by decide, by decide, by omega, by omega⟩
  go_enter Try.func12, Try.ntmps12
  go_wp2_with fail
  go_at_call 20
  refine hv.mono ?_
  rintro e w1 ⟨hb, ⟨hno, -⟩ | ⟨n, l, g, G, en, el, -, -, -, -, rfl, hO⟩⟩
  · exact (hk2 hno).elim
  · obtain rfl : n = 2 := by omega
    obtain rfl : l = k := by omega
    clear en el
    go_wp2_with fail
    go_ret
    exact ⟨hb, g, G, rfl, hO⟩

/-- What Encode answers: its number, and the text of row r. -/
def encE (k : Nat) (M : Nat → Nat) : Int := if 1 ≤ k ∧ k ≤ 8 then (if ∀ c, c < k → M c = M 0 then (if 65536 < M 0 then 5 else 0) else 7) else 2
def encS (k : Nat) (M : Nat → Nat) (Y : Mx) (r : Nat) : ByteArray := if encE k M = 0 then strE (M 0) (mulM k powM Y r) else ⟨#[]⟩
theorem encE_zero {k : Nat} {M : Nat → Nat} : encE k M = 0 ↔ (1 ≤ k ∧ k ≤ 8) ∧ (∀ c, c < k → M c = M 0) ∧ M 0 ≤ 65536 := by
  unfold encE
  split
  · split
    · split
      · constructor
        · intro h; exact absurd h (by decide)
        · intro h; omega
      · rename_i h1 h2 h3; exact ⟨fun _ => ⟨h1, h2, by omega⟩, fun _ => rfl⟩
    · rename_i h1 h2; exact ⟨fun h => absurd h (by decide), fun h => absurd h.2.1 h2⟩
  · rename_i h1; exact ⟨fun h => absurd h (by decide), fun h => absurd h.1 h1⟩

set_option maxHeartbeats 1000000 in
theorem encode_any (a : Option Addr) (k ca : Nat) (M : Nat → Nat) (Y : Mx) (w : World) (hca : k ≤ ca) (hcm : ca ≤ 9223372036854775807) (hT : TxtAt w a k M Y) :
    Calls Try.prog 7 #[.slice a k ca] w fun e w' => Below w.heap.size w w' ∧ e = .returned (.tuple #[.string (encS k M Y 0), .string (encS k M Y 1), .int .i64 (encE k M)]) := by
  by_cases hk : 1 ≤ k ∧ k ≤ 8
  · have hin := fun x => inData_any (k : Int) true ⟨fun _ => by omega, fun _ => rfl⟩ x
    have hpr := fun x => parityRows_any k hk.1 hk.2 x
    have hap := fun g G (x : World) (hb : Below w.heap.size w x) (b : Nat) (hO : OwnM x b g 2 k 2 G powM) => apply_any (some ⟨g, 0, none⟩) a 2 k 2 ca (fun _ => k) M powM Y x (by decide) (hO.mat (by unfold maxLen; omega)) hca hcm (hT.below hb)
    have gd : Gd 2 (fun _ => k) := ⟨by decide, by decide, by show 1 ≤ k; omega, by show k ≤ 16; omega, fun _ _ => rfl⟩
    have HK : Hid (1 ≤ k ∧ k ≤ 8) := hk
    have hk9 : (k : Int) ≤ 9223372036854775807 := by omega
    have HG : Hid (Gd 2 (fun _ => k)) := gd
    clear hk hT gd
    go_enter Try.func7, Try.ntmps7
    go_wp2_with fail
    go_at_call 10
    refine (hin _).mono ?_
    rintro e w' ⟨rfl, rfl⟩
    go_wp2_with fail
    go_at_call 12
    refine (hpr _).mono ?_
    rintro e w1 ⟨hb1, g, G, rfl, hO⟩
    have hap1 := hap g G w1 hb1 _ hO
    clear hap hpr hin
    go_wp2_with fail
    go_at_call 11
    refine hap1.mono ?_
    rintro e w2 ⟨hb2, v, er, rfl, hpost⟩
    have hb02 := hb1.trans (hb2.mono hb1.size)
    rcases hpost with ⟨hno, rfl, rfl⟩ | ⟨-, hno, rfl, rfl⟩ | ⟨-, hyes, h5, rfl, rfl⟩ | ⟨-, hyes, h5, rfl, a', c', rfl, hc1, hc2, hT'⟩
    · exact absurd HG.out hno
    · have HE : Hid (encE k M = 7) := by
        show encE k M = 7
        unfold encE; rw [if_pos HK.out, if_neg (fun h => hno ⟨rfl, h⟩)]
      clear hno hap1
      go_wp2_with fail
      go_ret3
      refine ⟨hb02, ?_⟩
      unfold encS
      rw [HE.out]; rfl
    · have HE : Hid (encE k M = 5) := by
        show encE k M = 5
        unfold encE; rw [if_pos HK.out, if_pos hyes.2, if_pos h5]
      clear hyes h5 hap1
      go_wp2_with fail
      go_ret3
      refine ⟨hb02, ?_⟩
      unfold encS
      rw [HE.out]; rfl
    · have HE : Hid (encE k M = 0) := encE_zero.2 ⟨HK.out, hyes.2, h5⟩
      obtain ⟨b, o, rfl, hc⟩ := hT'.cell (by decide)
      have e0 := hc 0 (by decide)
      have e1 := hc 1 (by decide)
      rw [Nat.add_zero] at e0
      generalize hs0 : strE (M 0) (mulM k powM Y 0) = s0 at e0
      generalize hs1 : strE (M 0) (mulM k powM Y 1) = s1 at e1
      have HS : Hid (s0 = encS k M Y 0 ∧ s1 = encS k M Y 1) := by
        show s0 = encS k M Y 0 ∧ s1 = encS k M Y 1
        unfold encS; rw [if_pos HE.out, if_pos HE.out, hs0, hs1]; exact ⟨rfl, rfl⟩
      clear hyes h5 hap1 hc hT' hs0 hs1
      go_wp2_with fail
      go_quiet (fail)
      go_wp2_with fail
      go_ret3
      refine ⟨below_drewN hb02 _, ?_⟩
      rw [← HS.out.1, ← HS.out.2, HE.out]; rfl
  · have hin := fun x => inData_any (k : Int) false ⟨fun h => Bool.noConfusion h, fun h => absurd (by omega) hk⟩ x
    have hk9 : (k : Int) ≤ 9223372036854775807 := by omega
    have HE : Hid (encE k M = 2) := if_neg hk
    clear hk hT
    go_enter Try.func7, Try.ntmps7
    go_wp2_with fail
    go_at_call 10
    refine (hin _).mono ?_
    rintro e w' ⟨rfl, rfl⟩
    go_wp2_with fail
    go_ret3
    refine ⟨Below.refl _ _, ?_⟩
    unfold encS
    rw [HE.out]; rfl
end Go.Proofs.Ytdpcbiccbhlonab
