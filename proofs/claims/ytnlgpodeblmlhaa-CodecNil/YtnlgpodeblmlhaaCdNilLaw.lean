/- The laws CodecNil and CodecWrites, walked. -/
import Derived.Test.YtnlgpodeblmlhaaCdWakes
namespace Go.Proofs.Ytnlgpodeblmlhaa
open Go.RowKit Go.PlainAid
set_option linter.unusedVariables false

set_option maxRecDepth 20000 in
theorem codecNil_law (b : Int) (W : World) (hb : -9223372036854775808 ≤ b ∧ b ≤ 9223372036854775807) : Calls Try.prog 7 #[.int .i64 b] W fun e w' => e = .returned (.bool true) ∧ Below W.heap.size W w' := by
  have e0 : noB = ⟨#[]⟩ := rfl
  have hbel := cbelow_nil b hb
  have htx := ctext_nil
  rw [e0] at htx
  have HB : Hid (∀ w, Calls Try.prog 17 _ w _) := hbel
  have HT : Hid (∀ w, Calls Try.prog 19 _ w _) := htx
  clear e0 hbel htx hb
  go_enter Try.func7, Try.ntmps7
  go_wp2_with (first
    | (go_at_call 9; refine (cwakes_any _).mono ?_; rintro x w1 ⟨rfl, hb1⟩; have H1 : Hid (Below _ _ _) := hb1; clear hb1)
    | (go_at_call 15; refine (cnum_nil _).mono ?_; rintro x w2 ⟨rfl, hw⟩; rw [hw]; clear hw w2)
    | (go_at_call 17; refine (HB.out _).mono ?_; rintro x w2 ⟨rfl, hw⟩; rw [hw]; clear hw w2)
    | (go_at_call 19; refine (HT.out _).mono ?_; rintro x w2 ⟨rfl, hw⟩; rw [hw]; clear hw w2)
    | (go_at_call 23; refine (cleft_nil _).mono ?_; rintro x w2 ⟨rfl, hw⟩; rw [hw]; clear hw w2)
    | (go_at_call 21; refine (cdone_nil _).mono ?_; rintro x w2 ⟨rfl, hw⟩; rw [hw]; clear hw w2))
  go_ret
  exact ⟨rfl, H1.out⟩
set_option maxRecDepth 20000 in
theorem codecWrites_law (n : Int) (s : ByteArray) (W : World) (hn : 0 ≤ n ∧ n ≤ 18446744073709551615) (hs : s.size ≤ maxLen) : Calls Try.prog 3 #[.int .u64 n, .string s] W fun e w' => e = .returned (.bool true) ∧ Below W.heap.size W w' := by
  obtain ⟨N, rfl⟩ := Int.eq_ofNat_of_zero_le hn.1
  have h1 : Hid (∀ w, Calls Try.prog 10 _ w _) := cnumF_any (N : Int) hn.1 hn.2
  have h2 : Hid (∀ w, Calls Try.prog 11 _ w _) := rnumF_any N (by omega)
  obtain ⟨C, hC1, hC2, hC3⟩ : ∃ C : Nat, (if (2000 : Int) < (s.size : Int) then (2000 : Int) else (s.size : Int)) = (C : Int) ∧ C ≤ 2000 ∧ C ≤ s.size := ⟨min s.size 2000, by split <;> omega, by omega, by omega⟩
  have hz : (s.extract 0 C).size ≤ 140737488355328 := by rw [ByteArray.size_extract]; omega
  have h3 : Hid (∀ w, Calls Try.prog 12 _ w _) := ctextF_any (s.extract 0 C) hz
  have h4 : Hid (∀ w, Calls Try.prog 13 _ w _) := rtextF_any (s.extract 0 C) hz
  generalize numB (N : Int) = A at *
  generalize textB (s.extract 0 C) = T at *
  unfold maxLen at hs
  clear hn hz
  go_enter Try.func3, Try.ntmps3
  go_wp2_with (first
    | (go_at_call 9; refine (cwakes_any _).mono ?_; rintro x w1 ⟨rfl, hb1⟩; have H1 : Hid (Below _ _ _) := hb1; clear hb1)
    | (go_at_call 10; refine (h1.out _).mono ?_; rintro x w2 ⟨rfl, hb2⟩; have H2 : Hid (Below _ _ _) := H1.out.trans (hb2.mono H1.out.size); clear hb2 H1)
    | (go_at_call 11; refine (h2.out _).mono ?_; rintro x w3 ⟨rfl, hb3⟩; have H3 : Hid (Below _ _ _) := H2.out.trans (hb3.mono H2.out.size); clear hb3 H2)
    | (go_at_call 12; refine (h3.out _).mono ?_; rintro x w4 ⟨rfl, hb4⟩; have H4 : Hid (Below _ _ _) := H3.out.trans (hb4.mono H3.out.size); clear hb4 H3)
    | (go_at_call 13; refine (h4.out _).mono ?_; rintro x w5 ⟨rfl, hb5⟩; have H5 : Hid (Below _ _ _) := H4.out.trans (hb5.mono H4.out.size); clear hb5 H4))
  go_ret
  exact ⟨rfl, H5.out⟩
end Go.Proofs.Ytnlgpodeblmlhaa
