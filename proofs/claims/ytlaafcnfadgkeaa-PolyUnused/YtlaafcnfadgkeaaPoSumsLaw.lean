/- What the Go function PolySums answers: true, for every key, every text and every other key. -/
import Derived.Test.YtlaafcnfadgkeaaPoWakes
import Derived.Test.YtlaafcnfadgkeaaPoConv
import Derived.Test.YtlaafcnfadgkeaaPoRTag
namespace Go.Proofs.Ytlaafcnfadgkeaa
open Go.RowKit Go.PlainAid
set_option linter.unusedVariables false

/-- What Sum answers to a text that is not too long, whatever the key. -/
def smR (key s : ByteArray) : ByteArray × Int := if key.size = 32 then (tagB key s, 0) else (⟨#[]⟩, 7)
theorem sum_any (key s : ByteArray) (hk : key.size ≤ maxLen) (hs : s.size ≤ 65536) (w : World) :
    Calls Try.prog 12 #[.string key, .string s] w fun e w' => e = .returned (.tuple #[.string (smR key s).1, .int .i64 (smR key s).2]) ∧ Below w.heap.size w w' := by
  unfold smR
  by_cases h : key.size = 32
  · rw [if_pos h]; exact sum_ok key s h hs w
  · rw [if_neg h]
    refine (sum_shape key s hk h w).mono ?_
    rintro e w' ⟨rfl, rfl⟩
    exact ⟨rfl, Below.refl _ _⟩
theorem refSum_any (key s : ByteArray) (hk : key.size ≤ maxLen) (hs : s.size ≤ 65536) (w : World) :
    Calls Try.prog 13 #[.string key, .string s] w fun e w' => e = .returned (.tuple #[.string (smR key s).1, .int .i64 (smR key s).2]) ∧ Below w.heap.size w w' := by
  unfold smR
  by_cases h : key.size = 32
  · rw [if_pos h]; exact refSum_ok key s h hs w
  · rw [if_neg h]
    refine (refSum_shape key s hk h w).mono ?_
    rintro e w' ⟨rfl, rfl⟩
    exact ⟨rfl, Below.refl _ _⟩

set_option maxHeartbeats 1000000 in
theorem polySums_walk (f : Nat → Nat) (s other : ByteArray) (hf : ∀ i, f i < 256) (hs : s.size ≤ maxLen) (ho : other.size ≤ maxLen) (w : World) :
    Calls Try.prog 4 #[.agg (nr .u8 32 f).toArray, .string s, .string other] w fun e w' => e = .returned (.bool true) ∧ Below w.heap.size w w' := by
  unfold maxLen at hs
  have hk := tx_size 32 f
  have HC : Hid (∀ w' g, Blk w' g 31 (nr .u8 32 f) → (convert 26 9 (.slice (some ⟨g, 0, none⟩) 32 32)).run Try.prog w' = .ok (.string (tx 32 f)) w') := fun w' g h => conv_blk h 32 32 (by decide)
  generalize tx 32 f = K at *
  obtain ⟨m, hm⟩ : ∃ m, min s.size 200 = m := ⟨_, rfl⟩
  have hmI : min ((s.size : Nat) : Int) 200 = (m : Int) := by omega
  have hm1 : m ≤ s.size := by omega
  have hm2 : m ≤ 200 := by omega
  obtain ⟨C, hC⟩ : ∃ C, s.extract 0 m = C := ⟨_, rfl⟩
  have hCs : C.size ≤ 200 := by rw [← hC, ByteArray.size_extract]; omega
  have c1 := fun w => sum_any K C (by unfold maxLen; omega) (by omega) w
  have c2 := fun w => refSum_any K C (by unfold maxLen; omega) (by omega) w
  have c3 := fun w => sum_any other C ho (by omega) w
  have c4 := fun w => refSum_any other C ho (by omega) w
  generalize (smR K C).1 = X at *
  generalize (smR K C).2 = x at *
  generalize (smR other C).1 = Y at *
  generalize (smR other C).2 = y at *
  obtain ⟨L, hL⟩ : ∃ L, nr .u8 32 f = L := ⟨_, rfl⟩
  rw [hL] at HC ⊢
  clear hL hk hf hm ho
  have hA0 : Blk (w.alloc (.cells L.toArray 31)) w.heap.size 31 L := Blk.box w 31 L
  have hl0 : Below w.heap.size w (w.alloc (.cells L.toArray 31)) := (Below.refl _ _).alloc (Nat.le_refl _) _
  have hv0 := HC.out _ _ hA0
  go_enter Try.func4, Try.ntmps4
  go_wp2_with fail
  generalize w.alloc (.cells L.toArray 31) = w0 at *
  refine (c1 w0).mono ?_
  rintro e w1 ⟨rfl, hb1⟩
  have hA1 := hA0.below hb1 hA0.lt
  have hl1 := hl0.trans (hb1.mono hl0.size)
  have hv1 := HC.out _ _ hA1
  clear hA0 hl0 hb1 hv0 c1
  go_wp2_with fail
  refine (c2 w1).mono ?_
  rintro e w2 ⟨rfl, hb2⟩
  have hl2 := hl1.trans (hb2.mono hl1.size)
  clear hA1 hl1 hb2 hv1 c2
  go_wp2_with fail
  refine (c3 w2).mono ?_
  rintro e w3 ⟨rfl, hb3⟩
  have hl3 := hl2.trans (hb3.mono hl2.size)
  clear hl2 hb3 c3
  go_wp2_with fail
  refine (c4 w3).mono ?_
  rintro e w4 ⟨rfl, hb4⟩
  have hl4 := hl3.trans (hb4.mono hl3.size)
  clear hl3 hb4 c4
  go_wp2_with fail
  refine (wakes_any w4).mono ?_
  rintro e w5 ⟨rfl, hb5⟩
  have hl5 := hl4.trans (hb5.mono hl4.size)
  clear hl4 hb5
  go_wp2_with fail
  go_ret
  exact ⟨rfl, hl5⟩
end Go.Proofs.Ytlaafcnfadgkeaa
