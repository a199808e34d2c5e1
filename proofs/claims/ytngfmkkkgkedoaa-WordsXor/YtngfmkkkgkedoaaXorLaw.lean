/- What the Go function WordsXor answers: true, for every two texts. -/
import Derived.Test.YtngfmkkkgkedoaaRefXor
namespace Go.Proofs.Ytngfmkkkgkedoaa
open Go.RowKit Go.PlainAid
set_option linter.unusedVariables false

theorem min_cut (x : Nat) (c : Int) (h : 0 ≤ c) : ∃ n : Nat, (if c < (x : Int) then c else (x : Int)) = (n : Int) ∧ n ≤ x ∧ (n : Int) ≤ c :=
  ⟨min x c.toNat, by split <;> omega, by omega, by omega⟩

theorem xor_small' (a b : ByteArray) (w : World) (ha : a.size ≤ 4000) (hb : b.size ≤ 4000) :
    Calls Try.prog 21 #[.string a, .string b] w fun e w' => e = .returned (.string (xorB a b)) ∧ Below w.heap.size w w' :=
  xor_any a b w (by unfold maxLen; omega) (by unfold maxLen; omega) (by omega)

theorem xorLaw_walk (a0 : ByteArray) (a1 : ByteArray) (w0 : a0.size ≤ maxLen) (w1 : a1.size ≤ maxLen) (w : World) :
    Calls Try.prog 6 #[.string a0, .string a1] w fun e w' => e = .returned (.bool true) ∧ Below w.heap.size w w' := by
  unfold maxLen at w0 w1
  obtain ⟨n0, hn0, m0, m0'⟩ := min_cut a0.size 2000 (by decide)
  obtain ⟨n1, hn1, m1, m1'⟩ := min_cut a1.size 2000 (by decide)
  go_enter Try.func6, Try.ntmps6
  go_wp2_with fail
  go_quiet (fail)
  have s0 : (a0.extract 0 n0).size ≤ 4000 := by rw [ByteArray.size_extract]; omega
  have s1 : (a1.extract 0 n1).size ≤ 4000 := by rw [ByteArray.size_extract]; omega
  generalize a0.extract 0 n0 = A at s0 ⊢
  generalize a1.extract 0 n1 = B at s1 ⊢
  clear hn0 hn1 w0 w1 m0 m1
  have k15 : (⟨#[15]⟩ : ByteArray).size ≤ 4000 := by decide
  have k5 : (⟨#[5]⟩ : ByteArray).size ≤ 4000 := by decide
  have f1 := xorB_wakes
  go_wp2_with fail
  go_at_call 21
  refine (xor_small' _ _ _ (by assumption) (by assumption)).mono ?_
  rintro e x1 ⟨rfl, hbel1⟩
  go_wp2_with fail
  go_at_call 21
  refine (xor_small' _ _ _ (by assumption) (by assumption)).mono ?_
  rintro e x2 ⟨rfl, hbel2⟩
  go_wp2_with fail
  go_at_call 22
  refine (refXor_any _ _ _ (by assumption) (by assumption)).mono ?_
  rintro e x3 ⟨rfl, hbel3⟩
  go_wp2_with fail
  go_ret
  refine ⟨rfl, ?_⟩
  have b0 : Below w.heap.size w (w.drewN nq) := below_drewN (Below.refl _ _) _
  have b1 := b0.trans (hbel1.mono (by exact b0.size))
  have b2 := b1.trans (hbel2.mono b1.size)
  exact b2.trans (hbel3.mono b2.size)
end Go.Proofs.Ytngfmkkkgkedoaa
