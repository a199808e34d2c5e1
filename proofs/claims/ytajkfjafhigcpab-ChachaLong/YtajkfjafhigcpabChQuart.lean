/- What a quarter of a round answers, for every four words: the program's own, and the document's. -/
import Derived.Test.YtajkfjafhigcpabChPlain
import Derived.Test.YtajkfjafhigcpabBrow
import Derived.Test.YtajkfjafhigcpabTurn
namespace Go.Proofs.Ytajkfjafhigcpab
open Go.RowKit Go.PlainAid
set_option linter.unusedVariables false

theorem left_to (x : Int) (n : Nat) (hn : n < 32) (h : W32 x) (w : World) :
    Calls Try.prog 24 #[.int .u32 x, .int .i64 (n : Int)] w fun e w' => e = .returned (.int .u32 (turn n x)) ∧ w' = w := by
  refine (left_any x n h.1 h.2 w).mono ?_
  rintro e w' ⟨rfl, rfl⟩
  refine ⟨?_, rfl⟩
  rw [show ((n : Int) % 32).toNat = n by omega]
theorem meet_any (x y z : Int) (n : Nat) (hn : n < 32) (w : World) :
    Calls Try.prog 18 #[.int .u32 x, .int .u32 y, .int .u32 z, .int .i64 (n : Int)] w fun e w' => e = .returned (.tuple #[.int .u32 (ad x y), .int .u32 (xtr n z (ad x y))]) ∧ w' = w := by
  have hl := fun w => left_to (bits .xor .u32 z (ad x y)) n hn (xor_lo _ _) w
  rw [show turn n (bits .xor .u32 z (ad x y)) = xtr n z (ad x y) from rfl] at hl
  obtain ⟨s, hs⟩ : ∃ s, ad x y = s := ⟨_, rfl⟩
  have hs' : (x + y) % 4294967296 = s := hs
  rw [hs] at hl ⊢
  clear hs
  go_enter Try.func18, Try.ntmps18
  go_wp2_with (go_at_call 24; refine (hl _).mono ?_; rintro e w' ⟨rfl, rfl⟩)
  go_ret2
  exact ⟨rfl, rfl⟩
theorem quarter_any (a b c d : Int) (w : World) :
    Calls Try.prog 12 #[.int .u32 a, .int .u32 b, .int .u32 c, .int .u32 d] w fun e w' => e = .returned (.tuple #[.int .u32 (qa a b c d), .int .u32 (qb a b c d), .int .u32 (qc a b c d), .int .u32 (qd a b c d)]) ∧ w' = w := by
  have h1 := fun w => meet_any a b d 16 (by decide) w
  have h2 := fun w => meet_any c (q1d a b c d) b 12 (by decide) w
  have h3 := fun w => meet_any (q1a a b c d) (q1b a b c d) (q1d a b c d) 8 (by decide) w
  have h4 := fun w => meet_any (q1c a b c d) (qd a b c d) (q1b a b c d) 7 (by decide) w
  rw [show xtr 16 d (ad a b) = q1d a b c d from rfl, show ad a b = q1a a b c d from rfl] at h1
  rw [show xtr 12 b (ad c (q1d a b c d)) = q1b a b c d from rfl, show ad c (q1d a b c d) = q1c a b c d from rfl] at h2
  rw [show xtr 8 (q1d a b c d) (ad (q1a a b c d) (q1b a b c d)) = qd a b c d from rfl, show ad (q1a a b c d) (q1b a b c d) = qa a b c d from rfl] at h3
  rw [show xtr 7 (q1b a b c d) (ad (q1c a b c d) (qd a b c d)) = qb a b c d from rfl, show ad (q1c a b c d) (qd a b c d) = qc a b c d from rfl] at h4
  generalize q1a a b c d = a1 at h1 h3
  generalize q1b a b c d = b1 at h2 h3 h4
  generalize q1c a b c d = c1 at h2 h4
  generalize q1d a b c d = d1 at h1 h2 h3
  generalize qa a b c d = A at h3 ⊢
  generalize qb a b c d = B at h4 ⊢
  generalize qc a b c d = C at h4 ⊢
  generalize qd a b c d = D at h3 h4 ⊢
  go_enter Try.func12, Try.ntmps12
  go_wp2_with fail
  refine (h1 _).mono ?_
  rintro e w' ⟨rfl, rfl⟩
  go_wp2_with fail
  refine (h2 _).mono ?_
  rintro e w' ⟨rfl, rfl⟩
  go_wp2_with fail
  refine (h3 _).mono ?_
  rintro e w' ⟨rfl, rfl⟩
  go_wp2_with fail
  refine (h4 _).mono ?_
  rintro e w' ⟨rfl, rfl⟩
  go_wp2_with fail
  exact bodyPost_ret (v := .tuple #[.int .u32 A, .int .u32 B, .int .u32 C, .int .u32 D]) (by simp [results, Try.results12, go_sem]) rfl ⟨rfl, rfl⟩

end Go.Proofs.Ytajkfjafhigcpab
