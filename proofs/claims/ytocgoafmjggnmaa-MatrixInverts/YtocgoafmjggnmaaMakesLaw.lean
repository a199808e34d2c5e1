/- Which rows are a matrix, the unit matrix and the matrix of powers: the law's walk. -/
import Derived.Test.YtocgoafmjggnmaaMatRef
import Derived.Test.YtocgoafmjggnmaaMatOpen
namespace Go.Proofs.Ytocgoafmjggnmaa
open Go.RowKit Go.PlainAid
set_option linter.unusedVariables false

theorem MatAt.nilM (w : World) (L : Nat → Nat) (X : Mx) : MatAt w none 0 L X := ⟨fun _ => none, fun _ => 0, .inl rfl, fun r hr => by omega⟩
/-- What both answers are, where they are the same: a matrix of the call's own, or none. -/
def Pair (w : World) (v v' : Value) (n : Nat) : Prop := n ≤ maxLen ∧ ∃ a a' c c' L X, v = .slice a n c ∧ v' = .slice a' n c' ∧ MatAt w a n L X ∧ MatAt w a' n L X
theorem Pair.below {w w' : World} {v v' : Value} {n : Nat} (h : Pair w v v' n) (hb : Below w.heap.size w w') : Pair w' v v' n := by
  obtain ⟨hn, a, a', c, c', L, X, h1, h2, h3, h4⟩ := h
  exact ⟨hn, a, a', c, c', L, X, h1, h2, h3.below hb, h4.below hb⟩
theorem Pair.same {w : World} {v v' : Value} {n : Nat} (h : Pair w v v' n) : Calls Try.prog 16 #[v, v'] w fun e w' => e = .returned (.bool true) ∧ ∃ q, w' = w.drewN q := by
  obtain ⟨hn, a, a', c, c', L, X, rfl, rfl, h3, h4⟩ := h
  exact same_any a a' n c c' L L X X w hn h3 h4 (fun _ _ => rfl) (fun _ _ _ _ => rfl)

theorem identity_pair (n : Int) (w : World) (h0 : -9223372036854775808 ≤ n) (h1 : n ≤ 9223372036854775807) :
    Calls Try.prog 9 #[.int .i64 n] w fun e w' => Below w.heap.size w w' ∧ ∃ v er, e = .returned (.tuple #[v, .int .i64 er]) ∧
      ∀ w2, Below w'.heap.size w' w2 → Calls Try.prog 10 #[.int .i64 n] w2 fun e' w3 => Below w2.heap.size w2 w3 ∧ ∃ v' k, e' = .returned (.tuple #[v', .int .i64 er]) ∧ Pair w3 v v' k := by
  refine (identity_any n w h0 h1).mono ?_
  rintro e w' ⟨hb, ⟨hno, rfl⟩ | ⟨k, g, G, rfl, k1, k2, rfl, hO⟩⟩
  · refine ⟨hb, _, _, rfl, fun w2 hb2 => (refIdentity_any n w2 h0 h1).mono ?_⟩
    rintro e w3 ⟨hb3, ⟨_, rfl⟩ | ⟨k, _, rfl, k1, k2, _⟩⟩
    · exact ⟨hb3, _, 0, rfl, by decide, none, none, 0, 0, fun _ => 0, idM, rfl, rfl, MatAt.nilM _ _ _, MatAt.nilM _ _ _⟩
    · exact absurd ⟨by omega, by omega⟩ hno
  · refine ⟨hb, _, _, rfl, fun w2 hb2 => (refIdentity_any k w2 h0 h1).mono ?_⟩
    rintro e w3 ⟨hb3, ⟨hno, rfl⟩ | ⟨k', vo, hk, _, _, rfl, hA⟩⟩
    · exact absurd ⟨by omega, by omega⟩ hno
    · obtain rfl : k = k' := by omega
      obtain ⟨a', c', rfl, hk', hM⟩ := hA.mat
      exact ⟨hb3, _, k, rfl, hk', _, _, _, _, fun _ => k, idM, rfl, rfl, ((hO.mat (by unfold maxLen; omega)).below hb2).below hb3, hM⟩
theorem vander_pair (n m : Int) (w : World) (h0 : -9223372036854775808 ≤ n) (h1 : n ≤ 9223372036854775807) (h2 : -9223372036854775808 ≤ m) (h3 : m ≤ 9223372036854775807) :
    Calls Try.prog 11 #[.int .i64 n, .int .i64 m] w fun e w' => Below w.heap.size w w' ∧ ∃ v er, e = .returned (.tuple #[v, .int .i64 er]) ∧
      ∀ w2, Below w'.heap.size w' w2 → Calls Try.prog 12 #[.int .i64 n, .int .i64 m] w2 fun e' w3 => Below w2.heap.size w2 w3 ∧ ∃ v' k, e' = .returned (.tuple #[v', .int .i64 er]) ∧ Pair w3 v v' k := by
  refine (vander_any n m w h0 h1 h2 h3).mono ?_
  rintro e w' ⟨hb, ⟨hno, rfl⟩ | ⟨k, l, g, G, rfl, rfl, k1, k2, l1, l2, rfl, hO⟩⟩
  · refine ⟨hb, _, _, rfl, fun w2 hb2 => (refVander_any n m w2 h0 h1 h2 h3).mono ?_⟩
    rintro e w3 ⟨hb3, ⟨_, rfl⟩ | ⟨k, l, _, rfl, rfl, k1, k2, l1, l2, _⟩⟩
    · exact ⟨hb3, _, 0, rfl, by decide, none, none, 0, 0, fun _ => 0, idM, rfl, rfl, MatAt.nilM _ _ _, MatAt.nilM _ _ _⟩
    · exact absurd ⟨by omega, by omega, by omega, by omega⟩ hno
  · refine ⟨hb, _, _, rfl, fun w2 hb2 => (refVander_any k l w2 h0 h1 h2 h3).mono ?_⟩
    rintro e w3 ⟨hb3, ⟨hno, rfl⟩ | ⟨k', l', vo, hk, hl, _, _, _, _, rfl, hA⟩⟩
    · exact absurd ⟨by omega, by omega, by omega, by omega⟩ hno
    · obtain rfl : k = k' := by omega
      obtain rfl : l = l' := by omega
      obtain ⟨a', c', rfl, hk', hM⟩ := hA.mat
      exact ⟨hb3, _, k, rfl, hk', _, _, _, _, fun _ => l, powM, rfl, rfl, ((hO.mat (by unfold maxLen; omega)).below hb2).below hb3, hM⟩

set_option maxHeartbeats 1000000 in
theorem makesLaw_walk (a : Option Addr) (len cap : Nat) (L : Nat → Nat) (X : Mx) (n k : Int) (w : World) (hlen : len ≤ maxLen) (hX : MatAt w a len L X) (h0 : -9223372036854775808 ≤ n) (h1 : n ≤ 9223372036854775807) (h2 : -9223372036854775808 ≤ k) (h3 : k ≤ 9223372036854775807) :
    Calls Try.prog 3 #[.slice a len cap, .int .i64 n, .int .i64 k] w fun e w' => e = .returned (.bool true) ∧ Below w.heap.size w w' := by
  have hI := fun w => identity_pair n w h0 h1
  have hV := fun w => vander_pair n k w h0 h1 h2 h3
  obtain ⟨g, hg⟩ : ∃ g : Bool, g = true ↔ Gd len L := by
    by_cases h : Gd len L
    · exact ⟨true, good_yes h⟩
    · exact ⟨false, good_no h⟩
  have hG := fun w h => good_any a len cap L X w hlen h g hg
  have hR := fun w h => refGood_any a len cap L X w hlen h g hg
  have HX : Hid (MatAt w a len L X) := hX
  clear hg hX h0 h1 h2 h3 hlen
  go_enter Try.func3, Try.ntmps3
  go_wp2_with fail
  go_at_call 9
  refine (hI _).mono ?_
  rintro e w1 ⟨hb1, v1, e1, rfl, hI2⟩
  go_wp2_with fail
  go_at_call 10
  refine (hI2 _ (Below.refl _ _)).mono ?_
  rintro e w2 ⟨hb2, v2, k2, rfl, hP⟩
  have hb02 := hb1.trans (hb2.mono hb1.size)
  clear hI2 hI hb2
  go_wp2_with fail
  go_at_call 11
  refine (hV _).mono ?_
  rintro e w3 ⟨hb3, v3, e3, rfl, hV2⟩
  go_wp2_with fail
  go_at_call 12
  refine (hV2 _ (Below.refl _ _)).mono ?_
  rintro e w4 ⟨hb4, v4, k4, rfl, hP'⟩
  have hb24 := hb3.trans (hb4.mono hb3.size)
  have hP2 := hP.below hb24
  clear hV2 hV hP hb3 hb4
  go_wp2_with fail
  go_at_call 13
  refine (wakes_any _).mono ?_
  rintro e w5 ⟨rfl, hb5⟩
  have hb05 := (hb02.trans (hb24.mono hb02.size)).trans (hb5.mono (Nat.le_trans hb02.size hb24.size))
  have hP3 := hP2.below hb5
  have hP4 := hP'.below hb5
  go_wp2_with fail
  go_at_call 14
  refine (hG _ (HX.out.below hb05)).mono ?_
  rintro e w6 ⟨rfl, hb6⟩
  have hb06 := hb05.trans (hb6.mono hb05.size)
  have hP5 := hP3.below hb6
  have hP6 := hP4.below hb6
  go_wp2_with fail
  go_at_call 15
  refine (hR _ (HX.out.below hb06)).mono ?_
  rintro e w7 ⟨rfl, q, rfl⟩
  have hgg : (g == g) = true := by simp
  have s1 := Pair.same (w := w6.drewN q) (hP5.below (below_drewN (Below.refl _ _) q))
  have s2 := fun q' => Pair.same (w := w6.drewN q') (hP6.below (below_drewN (Below.refl _ _) q'))
  have t1 : (e1 == e1) = true := by simp
  have t2 : (e3 == e3) = true := by simp
  clear hP5 hP6 hP3 hP4 hP2 hP' hG hR
  go_wp2_with fail
  go_at_call 16
  refine s1.mono ?_
  rintro e w8 ⟨rfl, q2, rfl⟩
  rw [World.drewN_drewN]
  go_wp2_with fail
  go_at_call 16
  refine (s2 _).mono ?_
  rintro e w9 ⟨rfl, q3, rfl⟩
  go_wp2_with fail
  go_ret
  exact ⟨by simp, below_drewN hb06 _⟩
theorem makesLaw_arg (a : Option Addr) (len cap : Nat) (n k : Int) (w : World) (hX : RawArg w a len cap) (h1 : (Lit.int .i64 n).wf = true) (h2 : (Lit.int .i64 k).wf = true) :
    Calls Try.prog 3 #[.slice a len cap, .int .i64 n, .int .i64 k] w fun e w' => e = .returned (.bool true) ∧ Below w.heap.size w w' := by
  obtain ⟨L, X, AR, CR, hl, hM, _⟩ := hX
  have b1 := bounds_i64 h1
  have b2 := bounds_i64 h2
  exact makesLaw_walk a len cap L X n k w hl ⟨AR, CR, hM⟩ (by omega) (by omega) (by omega) (by omega)
end Go.Proofs.Ytocgoafmjggnmaa
