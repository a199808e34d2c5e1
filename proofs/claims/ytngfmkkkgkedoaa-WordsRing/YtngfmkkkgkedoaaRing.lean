/- What the Go function WordsRing answers: true, for every three texts. -/
import Derived.Test.YtngfmkkkgkedoaaXor
import Derived.WalkKit
import Derived.ProofKit
import Derived.OpenShut
import Derived.WalkLawsBesides
import Derived.WalkSpells
import Derived.Deep.QuietTactic
import Derived.BigQuiet
namespace Go.Proofs.Ytngfmkkkgkedoaa
open Go.RowKit Go.PlainAid
set_option linter.unusedVariables false

theorem xor_small (a b : ByteArray) (w : World) (ha : a.size ≤ 4000) (hb : b.size ≤ 4000) :
    Calls Try.prog 21 #[.string a, .string b] w fun e w' => e = .returned (.string (xorB a b)) ∧ (xorB a b).size ≤ 4000 ∧ Below w.heap.size w w' :=
  (xor_any a b w (by unfold maxLen; omega) (by unfold maxLen; omega) (by omega)).mono fun e w' ⟨h, k⟩ => ⟨h, by rw [xorB_size]; omega, k⟩

theorem xor_turned (a b : ByteArray) (w : World) (ha : a.size ≤ 4000) (hb : b.size ≤ 4000) :
    Calls Try.prog 21 #[.string a, .string b] w fun e w' => e = .returned (.string (xorB b a)) ∧ (xorB b a).size ≤ 4000 ∧ Below w.heap.size w w' := by
  rw [xorB_comm b a]; exact xor_small a b w ha hb
theorem xor_regrouped (a b c : ByteArray) (w : World) (ha : a.size ≤ 4000) (hb : (xorB b c).size ≤ 4000) :
    Calls Try.prog 21 #[.string a, .string (xorB b c)] w fun e w' => e = .returned (.string (xorB (xorB a b) c)) ∧ (xorB (xorB a b) c).size ≤ 4000 ∧ Below w.heap.size w w' := by
  rw [xorB_assoc a b c]; exact xor_small a (xorB b c) w ha hb

theorem min3 (x y z : Nat) : ∃ n : Nat, min (min (min (x : Int) y) z) 2000 = (n : Int) ∧ n ≤ x ∧ n ≤ y ∧ n ≤ z ∧ n ≤ 2000 :=
  ⟨min (min (min x y) z) 2000, by omega, by omega, by omega, by omega, by omega⟩

theorem run_min4 {P : Program} (w : World) (ts : Array TypeId) (t : TypeId) (x y z u : Int) :
    (Builtin.min_ ts t #[.int .i64 x, .int .i64 y, .int .i64 z, .int .i64 u]).run P w = .ok (.int .i64 (min (min (min x y) z) u)) w := by
  have m : ∀ a b : Int, (if b < a then b else a) = min a b := by intro a b; omega
  simp [Builtin.min_, Builtin.min2, m]

theorem ring_walk (a0 : ByteArray) (a1 : ByteArray) (a2 : ByteArray) (w0 : a0.size ≤ maxLen) (w1 : a1.size ≤ maxLen) (w2 : a2.size ≤ maxLen) (w : World) :
    Calls Try.prog 8 #[.string a0, .string a1, .string a2] w fun e w' => e = .returned (.bool true) ∧ Below w.heap.size w w' := by
  unfold maxLen at w0 w1 w2
  obtain ⟨n, hn, n0, n1, n2, n3⟩ := min3 a0.size a1.size a2.size
  have hmin := fun wx => run_min4 (P := Try.prog) wx #[3, 3, 3, 3] 3 (a0.size : Int) (a1.size : Int) (a2.size : Int) 2000
  rw [hn] at hmin
  clear hn
  go_enter Try.func8, Try.ntmps8
  go_wp2_with fail
  go_quiet (fail)
  have s0 : (a0.extract 0 n).size = n := by rw [ByteArray.size_extract]; omega
  have s1 : (a1.extract 0 n).size = n := by rw [ByteArray.size_extract]; omega
  have s2 : (a2.extract 0 n).size = n := by rw [ByteArray.size_extract]; omega
  generalize a0.extract 0 n = A at s0 ⊢
  generalize a1.extract 0 n = B at s1 ⊢
  generalize a2.extract 0 n = C at s2 ⊢
  clear hmin w0 w1 w2 n0 n1 n2
  have hA : A.size ≤ 4000 := by omega
  have hB : B.size ≤ 4000 := by omega
  have hC : C.size ≤ 4000 := by omega
  have k15 : (⟨#[15]⟩ : ByteArray).size ≤ 4000 := by decide
  have k5 : (⟨#[5]⟩ : ByteArray).size ≤ 4000 := by decide
  have f1 := xorB_wakes
  have f2 := xorB_twice A B (by omega)
  clear s0 s1 s2
  go_wp2_with fail
  go_at_call 21
  refine (xor_small _ _ _ (by assumption) (by assumption)).mono ?_
  rintro e w1 ⟨rfl, hsz1, hbel1⟩
  go_wp2_with fail
  go_at_call 21
  refine (xor_small _ _ _ (by assumption) (by assumption)).mono ?_
  rintro e w2 ⟨rfl, hsz2, hbel2⟩
  go_wp2_with fail
  go_at_call 21
  refine (xor_small _ _ _ (by assumption) (by assumption)).mono ?_
  rintro e w3 ⟨rfl, hsz3, hbel3⟩
  go_wp2_with fail
  go_at_call 21
  refine (xor_small _ _ _ (by assumption) (by assumption)).mono ?_
  rintro e w4 ⟨rfl, hsz4, hbel4⟩
  go_wp2_with fail
  go_at_call 21
  refine (xor_turned _ _ _ (by assumption) (by assumption)).mono ?_
  rintro e w5 ⟨rfl, hsz5, hbel5⟩
  go_wp2_with fail
  go_at_call 21
  refine (xor_small _ _ _ (by assumption) (by assumption)).mono ?_
  rintro e w6 ⟨rfl, hsz6, hbel6⟩
  go_wp2_with fail
  go_at_call 21
  refine (xor_small _ _ _ (by assumption) (by assumption)).mono ?_
  rintro e w7 ⟨rfl, hsz7, hbel7⟩
  go_wp2_with fail
  go_at_call 21
  refine (xor_small _ _ _ (by assumption) (by assumption)).mono ?_
  rintro e w8 ⟨rfl, hsz8, hbel8⟩
  go_wp2_with fail
  go_at_call 21
  refine (xor_regrouped _ _ _ _ (by assumption) (by assumption)).mono ?_
  rintro e w9 ⟨rfl, hsz9, hbel9⟩
  go_wp2_with fail
  go_ret
  refine ⟨rfl, ?_⟩
  have b0 : Below w.heap.size w (w.drewN nq) := below_drewN (Below.refl _ _) _
  have b1 := b0.trans (hbel1.mono (by exact b0.size))
  have b2 := b1.trans (hbel2.mono b1.size)
  have b3 := b2.trans (hbel3.mono b2.size)
  have b4 := b3.trans (hbel4.mono b3.size)
  have b5 := b4.trans (hbel5.mono b4.size)
  have b6 := b5.trans (hbel6.mono b5.size)
  have b7 := b6.trans (hbel7.mono b6.size)
  have b8 := b7.trans (hbel8.mono b7.size)
  exact b8.trans (hbel9.mono b8.size)
end Go.Proofs.Ytngfmkkkgkedoaa
