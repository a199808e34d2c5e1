/- The parity chunks behind a change: the program's own answer. -/
import Derived.Test.YtdpcbiccbhlonabRsMeas
namespace Go.Proofs.Ytdpcbiccbhlonab
open Go.RowKit Go.PlainAid
set_option linter.unusedVariables false

def four {α : Type} (a b c d : α) : Nat → α
  | 0 => a
  | 1 => b
  | 2 => c
  | _ => d
/-- What Update answers: its number; the texts. -/
def updE (i : Int) (M : Nat → Nat) : Int := if 0 ≤ i ∧ i < 8 then meaE 4 M else 2
def updP (i : Int) (M : Nat → Nat) (Y : Mx) : ByteArray := if updE i M = 0 then strE (M 0) (fun c => Y 0 c + (Y 2 c + Y 3 c)) else ⟨#[]⟩
def updQ (i : Int) (M : Nat → Nat) (Y : Mx) : ByteArray := if updE i M = 0 then strE (M 0) (fun c => Y 1 c + pw two i.toNat * (Y 2 c + Y 3 c)) else ⟨#[]⟩
theorem txt_four (w : World) (M : Nat → Nat) (Y : Mx) (s0 s1 s2 s3 : ByteArray) (h0 : s0 = strE (M 0) (Y 0)) (h1 : s1 = strE (M 1) (Y 1)) (h2 : s2 = strE (M 2) (Y 2)) (h3 : s3 = strE (M 3) (Y 3)) (hM : ∀ c, c < 4 → M c ≤ 9223372036854775807) :
    TxtAt (w.alloc (.cells #[.string s0, .string s1, .string s2, .string s3] 9 (0, 0))) (some ⟨w.heap.size, 0, none⟩) 4 M Y := by
  refine ⟨.inr ⟨w.heap.size, 0, rfl, fun i hi => ?_⟩, hM⟩
  match i, hi with
  | 0, _ => show _ = some (Value.string (strE (M 0) (Y 0))); rw [← h0]; go_simp
  | 1, _ => show _ = some (Value.string (strE (M 1) (Y 1))); rw [← h1]; go_simp
  | 2, _ => show _ = some (Value.string (strE (M 2) (Y 2))); rw [← h2]; go_simp
  | 3, _ => show _ = some (Value.string (strE (M 3) (Y 3))); rw [← h3]; go_simp
theorem mea_zero {k : Nat} {M : Nat → Nat} : meaE k M = 0 ↔ (∀ c, c < k → M c = M 0) ∧ M 0 ≤ 65536 := by
  unfold meaE
  split
  · split
    · exact ⟨fun h => absurd h (by decide), fun h => by omega⟩
    · rename_i h1 h2; exact ⟨fun _ => ⟨h1, by omega⟩, fun _ => rfl⟩
  · rename_i h; exact ⟨fun h => absurd h (by decide), fun h' => absurd h'.1 h⟩

set_option maxHeartbeats 1000000 in
theorem update_any (i : Int) (M : Nat → Nat) (Y : Mx) (w : World) (hM : ∀ c, c < 4 → M c ≤ 9223372036854775807) (hi0 : -9223372036854775808 ≤ i) (hi1 : i ≤ 9223372036854775807) :
    Calls Try.prog 8 #[.string (strE (M 0) (Y 0)), .string (strE (M 1) (Y 1)), .int .i64 i, .string (strE (M 2) (Y 2)), .string (strE (M 3) (Y 3))] w fun e w' => Below w.heap.size w w' ∧ e = .returned (.tuple #[.string (updP i M Y), .string (updQ i M Y), .int .i64 (updE i M)]) := by
  by_cases hi : 0 ≤ i ∧ i < 8
  · obtain ⟨k, rfl⟩ : ∃ k : Nat, i = (k : Int) := ⟨i.toNat, by omega⟩
    have hmea := fun s0 s1 s2 s3 h0 h1 h2 h3 => measure_any (some ⟨w.heap.size, 0, none⟩) 4 4 M Y _ (by decide) (by decide) (txt_four w M Y s0 s1 s2 s3 h0 h1 h2 h3 hM)
    by_cases hz : meaE 4 M = 0
    · obtain ⟨hall, h5⟩ := mea_zero.1 hz
      have hE : updE (k : Int) M = 0 := by unfold updE; rw [if_pos hi]; exact hz
      have eP : updP (k : Int) M Y = strE (M 0) (fun c => Y 0 c + (Y 2 c + Y 3 c)) := if_pos hE
      have eQ : updQ (k : Int) M Y = strE (M 0) (fun c => Y 1 c + pw two k * (Y 2 c + Y 3 c)) := by unfold updQ; rw [if_pos hE, Int.toNat_natCast]
      rw [eP, eQ, hE]
      obtain ⟨m, hm⟩ : ∃ m, M 0 = m := ⟨_, rfl⟩
      rw [hm] at h5
      have m1 : M 1 = m := by rw [hall 1 (by decide), hm]
      have m2 : M 2 = m := by rw [hall 2 (by decide), hm]
      have m3 : M 3 = m := by rw [hall 3 (by decide), hm]
      rw [hm, m1, m2, m3] at hmea
      rw [hm, m1, m2, m3]
      rw [hz] at hmea
      have x1 := fun x => xor_E m (Y 2) (Y 3) x h5
      have x2 := fun x => xor_E m (Y 0) (fun c => Y 2 c + Y 3 c) x h5
      have x3 := fun x => scale_E (pw two k) m (fun c => Y 2 c + Y 3 c) x h5
      have x4 := fun x => xor_E m (Y 1) (fun c => pw two k * (Y 2 c + Y 3 c)) x h5
      have x5 : ∀ x, Calls Try.prog 16 #[.int .u8 2, .int .i64 (k : Int)] x fun e w' => e = .returned (.int .u8 ((pw two k).v : Int)) ∧ w' = x := fun x => by
        have := gfPow_any 2 (by decide) (k : Int) hi0 hi1 x
        rw [gpow_nat 2 k (by decide)] at this
        exact this
      have k8 : (k : Int) < 8 := hi.2
      generalize strE m (Y 0) = s0 at *
      generalize strE m (Y 1) = s1 at *
      generalize strE m (Y 2) = s2 at *
      generalize strE m (Y 3) = s3 at *
      generalize strE m (fun c => Y 2 c + Y 3 c) = s4 at *
      generalize strE m (fun c => Y 0 c + (Y 2 c + Y 3 c)) = s5 at *
      generalize strE m (fun c => pw two k * (Y 2 c + Y 3 c)) = s6 at *
      generalize strE m (fun c => Y 1 c + pw two k * (Y 2 c + Y 3 c)) = s7 at *
      have hmea' := hmea s0 s1 s2 s3 rfl rfl rfl rfl
      clear hmea hM hz hall hE eP eQ hm m1 m2 m3 h5 hi
      go_enter Try.func8, Try.ntmps8
      go_wp2_with fail
      go_at_call 13
      refine hmea'.mono ?_
      rintro e w1 ⟨hb1, rfl⟩
      have hb01 : Below w.heap.size w w1 := ((Below.refl _ _).alloc (Nat.le_refl _) _).trans (hb1.mono (by simp))
      clear hmea'
      go_wp2_with fail
      go_at_call 14
      refine (x1 _).mono ?_
      rintro e w2 ⟨rfl, hb2⟩
      have hb02 := hb01.trans (hb2.mono hb01.size)
      go_wp2_with fail
      go_at_call 14
      refine (x2 _).mono ?_
      rintro e w3 ⟨rfl, hb3⟩
      have hb03 := hb02.trans (hb3.mono hb02.size)
      go_wp2_with fail
      go_at_call 16
      refine (x5 _).mono ?_
      rintro e w3' ⟨rfl, rfl⟩
      go_wp2_with fail
      go_at_call 15
      refine (x3 _).mono ?_
      rintro e w4 ⟨rfl, hb4⟩
      have hb04 := hb03.trans (hb4.mono hb03.size)
      go_wp2_with fail
      go_at_call 14
      refine (x4 _).mono ?_
      rintro e w5 ⟨rfl, hb5⟩
      have hb05 := hb04.trans (hb5.mono hb04.size)
      go_wp2_with fail
      go_ret3
      exact ⟨hb05, rfl⟩
    · have hE : updE (k : Int) M = meaE 4 M := if_pos hi
      have eP : updP (k : Int) M Y = ⟨#[]⟩ := if_neg (by rw [hE]; exact hz)
      have eQ : updQ (k : Int) M Y = ⟨#[]⟩ := if_neg (by rw [hE]; exact hz)
      rw [eP, eQ, hE]
      have k8 : (k : Int) < 8 := hi.2
      generalize strE (M 0) (Y 0) = s0 at *
      generalize strE (M 1) (Y 1) = s1 at *
      generalize strE (M 2) (Y 2) = s2 at *
      generalize strE (M 3) (Y 3) = s3 at *
      have hmea' := hmea s0 s1 s2 s3 rfl rfl rfl rfl
      generalize meaE 4 M = er at *
      have t0 : (er != 0) = true := by simpa using hz
      clear hmea hM hz hE eP eQ hi
      go_enter Try.func8, Try.ntmps8
      go_wp2_with fail
      go_at_call 13
      refine hmea'.mono ?_
      rintro e w1 ⟨hb1, rfl⟩
      have hb01 : Below w.heap.size w w1 := ((Below.refl _ _).alloc (Nat.le_refl _) _).trans (hb1.mono (by simp))
      clear hmea'
      go_wp2_with fail
      go_ret3
      exact ⟨hb01, rfl⟩
  · have hE : updE i M = 2 := if_neg hi
    have eP : updP i M Y = ⟨#[]⟩ := if_neg (by rw [hE]; decide)
    have eQ : updQ i M Y = ⟨#[]⟩ := if_neg (by rw [hE]; decide)
    rw [eP, eQ, hE]
    clear hE eP eQ
    generalize strE (M 0) (Y 0) = s0
    generalize strE (M 1) (Y 1) = s1
    generalize strE (M 2) (Y 2) = s2
    generalize strE (M 3) (Y 3) = s3
    by_cases h0 : i < 0
    · clear hi
      go_enter Try.func8, Try.ntmps8
      go_wp2_with fail
      go_ret3
      exact ⟨Below.refl _ _, rfl⟩
    · have h8 : 8 ≤ i := by omega
      clear hi
      go_enter Try.func8, Try.ntmps8
      go_wp2_with fail
      go_ret3
      exact ⟨Below.refl _ _, rfl⟩
end Go.Proofs.Ytdpcbiccbhlonab
