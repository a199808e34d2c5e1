/- What the Go function WordsRead answers: true, for every text. -/
import Derived.Test.YtngfmkkkgkedoaaRead
import Derived.Test.YtngfmkkkgkedoaaWakes
namespace Go.Proofs.Ytngfmkkkgkedoaa
open Go.RowKit Go.PlainAid
set_option linter.unusedVariables false

theorem read_cut (x : Nat) (c : Int) (h : 0 ≤ c) : ∃ n : Nat, (if c < (x : Int) then c else (x : Int)) = (n : Int) ∧ n ≤ x ∧ (n : Int) ≤ c :=
  ⟨min x c.toNat, by split <;> omega, by omega, by omega⟩

theorem At_slice {w : World} {base : Nat} {a : Option Addr} {cap n : Nat} {f : Nat → Int} (h : w.ownsRow base 22 1 (.slice a n cap) n ((List.range n).map fun i => .int .u32 (f i))) : At w a n f := by
  obtain ⟨a', c', hv, hat⟩ := At_owns h
  cases hv
  exact hat
theorem At_drew {w : World} {a : Option Addr} {n : Nat} {f : Nat → Int} (h : At w a n f) (m : Nat) : At (w.drewN m) a n f := h

set_option maxHeartbeats 400000 in
theorem readLaw_walk (a0 : ByteArray) (w0 : a0.size ≤ maxLen) (w : World) :
    Calls Try.prog 4 #[.string a0] w fun e w' => e = .returned (.bool true) ∧ Below w.heap.size w w' := by
  unfold maxLen at w0
  obtain ⟨n0, hn0, m0, m0'⟩ := read_cut a0.size 4000 (by decide)
  go_enter Try.func4, Try.ntmps4
  go_wp2_with fail
  have s0 : (a0.extract 0 n0).size ≤ 4000 := by rw [ByteArray.size_extract]; omega
  generalize a0.extract 0 n0 = S at s0 ⊢
  clear hn0 w0 m0
  have s0' : S.size ≤ maxLen := by unfold maxLen; omega
  by_cases h4 : S.size % 4 = 0
  · go_at_call 14
    refine (little_even _ _ (by omega) h4).mono ?_
    rintro e w1 ⟨rfl, o1, b1⟩
    go_wp2_with fail
    go_at_call 15
    refine (refWords_little _ _ (by omega) h4).mono ?_
    rintro e w2 ⟨v2, rfl, o2, b2⟩
    obtain ⟨a2, c2, hv2, _⟩ := At_owns o2
    subst hv2
    go_wp2_with fail
    go_at_call 16
    refine (big_even _ _ (by omega) h4).mono ?_
    rintro e w3 ⟨rfl, o3, b3⟩
    go_wp2_with fail
    go_at_call 15
    refine (refWords_big _ _ (by omega) h4).mono ?_
    rintro e w4 ⟨v4, rfl, o4, b4⟩
    obtain ⟨a4, c4, hv4, _⟩ := At_owns o4
    subst hv4
    go_wp2_with fail
    go_at_call 9
    refine (wakes_any _).mono ?_
    rintro e w5 ⟨rfl, b5⟩
    have hb : Below w.heap.size w w5 := (((b1.trans (b2.mono b1.size)).trans (b3.mono (Nat.le_trans b1.size b2.size))).trans (b4.mono (Nat.le_trans b1.size (Nat.le_trans b2.size b3.size)))).trans (b5.mono (Nat.le_trans b1.size (Nat.le_trans b2.size (Nat.le_trans b3.size b4.size))))
    have q4 := owns_below o4 b5
    have q3 := owns_below (owns_below o3 b4) b5
    have q2 := owns_below (owns_below (owns_below o2 b3) b4) b5
    have q1 := owns_below (owns_below (owns_below (owns_below o1 b2) b3) b4) b5
    have t1 := At_slice q1
    have t2 : At w5 a2 (S.size / 4) (wordsL le4 S) := At_slice q2
    have t3 := At_slice q3
    have t4 : At w5 a4 (S.size / 4) (wordsL be4 S) := At_slice q4
    clear q1 q2 q3 q4 o1 o2 o3 o4
    go_wp2_with fail
    go_at_call 17
    refine (equal_same _ _ _ _ _ _ _ (by omega) t1 t2).mono ?_
    rintro e w6 ⟨rfl, m6, rfl⟩
    go_wp2_with fail
    go_at_call 17
    refine (equal_same _ _ _ _ _ _ _ (by omega) (At_drew t3 m6) (At_drew t4 m6)).mono ?_
    rintro e w7 ⟨rfl, m7, rfl⟩
    go_wp2_with fail
    go_ret
    exact ⟨rfl, below_drewN hb _⟩
  · go_at_call 14
    refine (little_odd _ _ s0' h4).mono ?_
    rintro e w1 ⟨rfl, rfl⟩
    go_wp2_with fail
    go_at_call 15
    refine (refWords_odd _ _ _ s0' h4).mono ?_
    rintro e w2 ⟨rfl, rfl⟩
    go_wp2_with fail
    go_at_call 16
    refine (big_odd _ _ s0' h4).mono ?_
    rintro e w3 ⟨rfl, rfl⟩
    go_wp2_with fail
    go_at_call 15
    refine (refWords_odd _ _ _ s0' h4).mono ?_
    rintro e w4 ⟨rfl, rfl⟩
    go_wp2_with fail
    go_at_call 9
    refine (wakes_any _).mono ?_
    rintro e w5 ⟨rfl, b5⟩
    go_wp2_with fail
    go_at_call 17
    refine (equal_same _ _ _ _ 0 (fun _ => 0) _ (by omega) (.inl rfl) (.inl rfl)).mono ?_
    rintro e w6 ⟨rfl, m6, rfl⟩
    go_wp2_with fail
    go_at_call 17
    refine (equal_same _ _ _ _ 0 (fun _ => 0) _ (by omega) (.inl rfl) (.inl rfl)).mono ?_
    rintro e w7 ⟨rfl, m7, rfl⟩
    go_wp2_with fail
    go_ret
    exact ⟨rfl, below_drewN b5 _⟩
end Go.Proofs.Ytngfmkkkgkedoaa
