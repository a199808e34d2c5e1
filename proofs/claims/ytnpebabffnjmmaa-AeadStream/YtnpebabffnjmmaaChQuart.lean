/- What a quarter of a round answers, for every four words: the program's own, and the document's. -/
import Derived.Test.YtnpebabffnjmmaaChPlain
import Derived.Test.YtnpebabffnjmmaaBrow
import Derived.Test.YtnpebabffnjmmaaTurn
namespace Go.Proofs.Ytnpebabffnjmmaa
open Go.RowKit Go.PlainAid
set_option linter.unusedVariables false

theorem left_to (x : Int) (n : Nat) (hn : n < 32) (h : W32 x) (w : World) :
    Calls Try.prog 75 #[.int .u32 x, .int .i64 (n : Int)] w fun e w' => e = .returned (.int .u32 (turn n x)) ∧ w' = w := by
  refine (left_any x n h.1 h.2 w).mono ?_
  rintro e w' ⟨rfl, rfl⟩
  refine ⟨?_, rfl⟩
  rw [show ((n : Int) % 32).toNat = n by omega]
theorem meet_any (x y z : Int) (n : Nat) (hn : n < 32) (w : World) :
    Calls Try.prog 68 #[.int .u32 x, .int .u32 y, .int .u32 z, .int .i64 (n : Int)] w fun e w' => e = .returned (.tuple #[.int .u32 (ad x y), .int .u32 (xtr n z (ad x y))]) ∧ w' = w := by
  have hl := fun w => left_to (bits .xor .u32 z (ad x y)) n hn (xor_lo _ _) w
  rw [show turn n (bits .xor .u32 z (ad x y)) = xtr n z (ad x y) from rfl] at hl
  obtain ⟨s, hs⟩ : ∃ s, ad x y = s := ⟨_, rfl⟩
  have hs' : (x + y) % 4294967296 = s := hs
  rw [hs] at hl ⊢
  clear hs
  go_enter Try.func68, Try.ntmps68
  go_wp2_with (go_at_call 75; refine (hl _).mono ?_; rintro e w' ⟨rfl, rfl⟩)
  go_ret2
  exact ⟨rfl, rfl⟩
theorem quarter_any (a b c d : Int) (w : World) :
    Calls Try.prog 60 #[.int .u32 a, .int .u32 b, .int .u32 c, .int .u32 d] w fun e w' => e = .returned (.tuple #[.int .u32 (qa a b c d), .int .u32 (qb a b c d), .int .u32 (qc a b c d), .int .u32 (qd a b c d)]) ∧ w' = w := by
  have h1 := fun w => meet_any a b d 16 (by decide) w
  have h2 := fun w => meet_any c (q1d a b c d) b 12 (by decide) w
  have h3 := fun w => meet_any (q1a a b c d) (q1b a b c d) (q1d a b c d) 8 (by decide) w
  have h4 := fun w => meet_any (q1c a b c d) (qd a b c d) (q1b a b c d) 7 (by decide) w
  rw [show xtr 16 d (ad a b) = q1d a b c d from rfl, show ad a b = q1a a b c d from rfl] at h1
  rw [show xtr 12 b (ad c (q1d a b c d)) = q1b a b c d from rfl, show ad c (q1d a b c d) = q1c a b c d from rfl] at h2
  rw [show xtr 8 (q1d a b c d) (ad (q1a a b c d) (q1b a b c d)) = qd a b c d from rfl, show ad (q1a a b c d) (q1b a b c d) = qa a b c d from rfl] at h3
  rw [show xtr 7 (q1b a b c d) (ad (q1c a b c d) (qd a b c d)) = qb a b c d from rfl, show ad (q1c a b c d) (qd a b c d) = qc a b c d from rfl] at h4
  generalize q1a a b c d = a1 at h1 h3
  generalize q1b a b c d = b1 at h2 h3 h4
  generalize q1c a b c d = c1 at h2 h4
  generalize q1d a b c d = d1 at h1 h2 h3
  generalize qa a b c d = A at h3 ⊢
  generalize qb a b c d = B at h4 ⊢
  generalize qc a b c d = C at h4 ⊢
  generalize qd a b c d = D at h3 h4 ⊢
  go_enter Try.func60, Try.ntmps60
  go_wp2_with fail
  refine (h1 _).mono ?_
  rintro e w' ⟨rfl, rfl⟩
  go_wp2_with fail
  refine (h2 _).mono ?_
  rintro e w' ⟨rfl, rfl⟩
  go_wp2_with fail
  refine (h3 _).mono ?_
  rintro e w' ⟨rfl, rfl⟩
  go_wp2_with fail
  refine (h4 _).mono ?_
  rintro e w' ⟨rfl, rfl⟩
  go_wp2_with fail
  exact bodyPost_ret (v := .tuple #[.int .u32 A, .int .u32 B, .int .u32 C, .int .u32 D]) (by simp [results, Try.results60, go_sem]) rfl ⟨rfl, rfl⟩

theorem refLeft_to (x : Int) (n : Nat) (hn : n < 32) (h : W32 x) (w : World) :
    Calls Try.prog 73 #[.int .u32 x, .int .i64 (n : Int)] w fun e w' => e = .returned (.int .u32 (turn n x)) ∧ w' = w := by
  refine (refLeft_any x n h.1 h.2 (by omega) (by omega) w).mono ?_
  rintro e w' ⟨rfl, rfl⟩
  refine ⟨?_, rfl⟩
  rw [show ((n : Int) % 32).toNat = n by omega]
theorem refQuarter_any (a b c d : Int) (w : World) :
    Calls Try.prog 66 #[.int .u32 a, .int .u32 b, .int .u32 c, .int .u32 d] w fun e w' => e = .returned (.agg #[.int .u32 (qa a b c d), .int .u32 (qb a b c d), .int .u32 (qc a b c d), .int .u32 (qd a b c d)]) ∧ Below w.heap.size w w' := by
  have h1 := fun w => refLeft_to (bits .xor .u32 d (q1a a b c d)) 16 (by decide) (xor_lo _ _) w
  have h2 := fun w => refLeft_to (bits .xor .u32 b (q1c a b c d)) 12 (by decide) (xor_lo _ _) w
  have h3 := fun w => refLeft_to (bits .xor .u32 (q1d a b c d) (qa a b c d)) 8 (by decide) (xor_lo _ _) w
  have h4 := fun w => refLeft_to (bits .xor .u32 (q1b a b c d) (qc a b c d)) 7 (by decide) (xor_lo _ _) w
  rw [show turn 16 (bits .xor .u32 d (q1a a b c d)) = q1d a b c d from rfl] at h1
  rw [show turn 12 (bits .xor .u32 b (q1c a b c d)) = q1b a b c d from rfl] at h2
  rw [show turn 8 (bits .xor .u32 (q1d a b c d) (qa a b c d)) = qd a b c d from rfl] at h3
  rw [show turn 7 (bits .xor .u32 (q1b a b c d) (qc a b c d)) = qb a b c d from rfl] at h4
  have e1 : (a + b) % 4294967296 = q1a a b c d := rfl
  have e2 : (c + q1d a b c d) % 4294967296 = q1c a b c d := rfl
  have e3 : (q1a a b c d + q1b a b c d) % 4294967296 = qa a b c d := rfl
  have e4 : (q1c a b c d + qd a b c d) % 4294967296 = qc a b c d := rfl
  generalize q1a a b c d = a1 at *
  generalize q1b a b c d = b1 at *
  generalize q1c a b c d = c1 at *
  generalize q1d a b c d = d1 at *
  generalize qa a b c d = A at *
  generalize qb a b c d = B at *
  generalize qc a b c d = C at *
  generalize qd a b c d = D at *
  go_enter Try.func66, Try.ntmps66
  go_wp2_with fail
  refine (h1 _).mono ?_
  rintro e w' ⟨rfl, rfl⟩
  go_wp2_with fail
  refine (h2 _).mono ?_
  rintro e w' ⟨rfl, rfl⟩
  go_wp2_with fail
  refine (h3 _).mono ?_
  rintro e w' ⟨rfl, rfl⟩
  go_wp2_with fail
  refine (h4 _).mono ?_
  rintro e w' ⟨rfl, rfl⟩
  go_wp2_with fail
  exact bodyPost_ret (v := .agg #[.int .u32 A, .int .u32 B, .int .u32 C, .int .u32 D]) (by simp [results, Try.results66, go_sem]) rfl ⟨rfl, (Below.refl _ _).alloc (Nat.le_refl _) _⟩
end Go.Proofs.Ytnpebabffnjmmaa
