/- What the Go function PolyClamps answers: true, for every half of a key and every text. -/
import Derived.Test.YtlaafcnfadgkeaaPoWakes
import Derived.Test.YtlaafcnfadgkeaaPoConv
namespace Go.Proofs.Ytlaafcnfadgkeaa
open Go.RowKit Go.PlainAid
set_option linter.unusedVariables false

/-- What Clamp answers, whatever the text. -/
def clR (r : ByteArray) : ByteArray × Int := if r.size = 16 then (clB r, 0) else (⟨#[]⟩, 7)
theorem clamp_any (r : ByteArray) (hs : r.size ≤ maxLen) (w : World) :
    Calls Try.prog 9 #[.string r] w fun e w' => e = .returned (.tuple #[.string (clR r).1, .int .i64 (clR r).2]) ∧ Below w.heap.size w w' := by
  unfold clR
  by_cases h : r.size = 16
  · rw [if_pos h]; exact clamp_ok r h w
  · rw [if_neg h]
    refine (clamp_bad r hs h w).mono ?_
    rintro e w' ⟨rfl, rfl⟩
    exact ⟨rfl, Below.refl _ _⟩
theorem refClamp_any (r : ByteArray) (hs : r.size ≤ maxLen) (w : World) :
    Calls Try.prog 10 #[.string r] w fun e w' => e = .returned (.tuple #[.string (clR r).1, .int .i64 (clR r).2]) ∧ Below w.heap.size w w' := by
  unfold clR
  by_cases h : r.size = 16
  · rw [if_pos h]; exact refClamp_ok r h w
  · rw [if_neg h]
    refine (refClamp_bad r hs h w).mono ?_
    rintro e w' ⟨rfl, rfl⟩
    exact ⟨rfl, Below.refl _ _⟩

set_option maxHeartbeats 1000000 in
theorem polyClamps_walk (f : Nat → Nat) (s : ByteArray) (hf : ∀ i, f i < 256) (hs : s.size ≤ maxLen) (w : World) :
    Calls Try.prog 3 #[.agg (nr .u8 16 f).toArray, .string s] w fun e w' => e = .returned (.bool true) ∧ Below w.heap.size w w' := by
  have hk := tx_size 16 f
  have HC : Hid (∀ w' g, Blk w' g 22 (nr .u8 16 f) → (convert 26 9 (.slice (some ⟨g, 0, none⟩) 16 16)).run Try.prog w' = .ok (.string (tx 16 f)) w') := fun w' g h => conv_blk h 16 16 (by decide)
  generalize tx 16 f = K at *
  have c1 := fun w => clamp_any K (by unfold maxLen; omega) w
  have c2 := fun w => refClamp_any K (by unfold maxLen; omega) w
  have c3 := fun w => clamp_any s hs w
  have c4 := fun w => refClamp_any s hs w
  generalize (clR K).1 = X at *
  generalize (clR K).2 = x at *
  generalize (clR s).1 = Y at *
  generalize (clR s).2 = y at *
  obtain ⟨L, hL⟩ : ∃ L, nr .u8 16 f = L := ⟨_, rfl⟩
  rw [hL] at HC ⊢
  clear hL hk hf
  have hA0 : Blk (w.alloc (.cells L.toArray 22)) w.heap.size 22 L := Blk.box w 22 L
  have hl0 : Below w.heap.size w (w.alloc (.cells L.toArray 22)) := (Below.refl _ _).alloc (Nat.le_refl _) _
  have hv0 := HC.out _ _ hA0
  go_enter Try.func3, Try.ntmps3
  go_wp2_with fail
  generalize w.alloc (.cells L.toArray 22) = w0 at *
  refine (c1 w0).mono ?_
  rintro e w1 ⟨rfl, hb1⟩
  have hA1 := hA0.below hb1 hA0.lt
  have hl1 := hl0.trans (hb1.mono hl0.size)
  have hv1 := HC.out _ _ hA1
  clear hA0 hl0 hb1 hv0 c1
  go_wp2_with fail
  refine (c2 w1).mono ?_
  rintro e w2 ⟨rfl, hb2⟩
  have hl2 := hl1.trans (hb2.mono hl1.size)
  clear hA1 hl1 hb2 hv1 c2
  go_wp2_with fail
  refine (c3 w2).mono ?_
  rintro e w3 ⟨rfl, hb3⟩
  have hl3 := hl2.trans (hb3.mono hl2.size)
  clear hl2 hb3 c3
  go_wp2_with fail
  refine (c4 w3).mono ?_
  rintro e w4 ⟨rfl, hb4⟩
  have hl4 := hl3.trans (hb4.mono hl3.size)
  clear hl3 hb4 c4
  go_wp2_with fail
  refine (wakes_any w4).mono ?_
  rintro e w5 ⟨rfl, hb5⟩
  have hl5 := hl4.trans (hb5.mono hl4.size)
  clear hl4 hb5
  go_wp2_with fail
  go_ret
  exact ⟨rfl, hl5⟩
end Go.Proofs.Ytlaafcnfadgkeaa
