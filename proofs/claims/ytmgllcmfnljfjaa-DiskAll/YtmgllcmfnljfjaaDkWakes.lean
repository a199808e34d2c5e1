/- What the document fixes: wakes. -/
import Derived.Test.YtmgllcmfnljfjaaDkOwn
namespace Go.Proofs.Ytmgllcmfnljfjaa
open Go.RowKit Go.PlainAid
set_option linter.unusedVariables false

abbrev ta : ByteArray := { data := #[97] }
abbrev tb : ByteArray := { data := #[98] }
abbrev tc : ByteArray := { data := #[99] }
/-- The first place alone. -/
def one1 (i : Nat) : Bool := decide (i = 0)
theorem bools_one (w : World) : BoolsAt (w.alloc (.cells #[.bool true] 4)) (.slice (some ⟨w.heap.size, 0, none⟩) 1 1) 1 one1 := by
  refine ⟨⟨_, _, rfl, .inr ⟨w.heap.size, 0, rfl, by simp, fun i hi => ?_⟩⟩, fun i hi => ?_⟩
  · obtain rfl : i = 0 := by omega
    exact (Blk.new w 4 #[.bool true]).cell rfl
  · unfold one1; exact decide_eq_false (by omega)
theorem apart_new (B N b o n c : Nat) (h : N ≤ b) : Apartv B N (.slice (some ⟨b, o, none⟩) n c) := fun a n c e _ => by cases e; exact .inr h
theorem apart_old (B N b o n c : Nat) (h : b < B) : Apartv B N (.slice (some ⟨b, o, none⟩) n c) := fun a n c e _ => by cases e; exact .inl h
theorem apart_none (B N n c : Nat) : Apartv B N (.slice none n c) := fun a n c e _ => by cases e
set_option maxRecDepth 20000 in
set_option maxHeartbeats 1000000 in
theorem wakes_any (w : World) : Calls Try.prog 10 #[] w fun e w' => e = .returned (.bool true) ∧ Below w.heap.size w w' := by
  have hnew := own_new w.heap.size w w 3 (Nat.le_refl _) (Below.refl _ _)
  rw [show newN 3 = 3 from rfl] at hnew
  go_enter Try.func10, Try.ntmps10
  go_wp2_with (first
    | (go_at_call 8; refine hnew.mono ?_; rintro e w1 ⟨g, rfl, h1⟩; clear hnew; have h1 : Hid _ := h1)
    | (go_at_call 21; refine (own_writeOk h1.out _ 0 _ rfl (by decide) (by decide) (by decide)).mono ?_; rintro e w2 ⟨rfl, h2⟩; clear h1; have h1 : Hid _ := h2; clear h2)
    | (go_at_call 22; refine (own_flushOk h1.out).mono ?_; rintro e w2 ⟨rfl, h2⟩; clear h1; have h1 : Hid _ := h2; clear h2)
    | (go_at_call 20; refine (own_readOk h1.out _ 0 tc rfl (by decide) rfl).mono ?_; rintro e w2 ⟨rfl, h2⟩; clear h1; have h1 : Hid _ := h2; clear h2)
    | (go_at_call 19; refine (own_crash h1.out ((Below.refl _ _).alloc (Nat.le_refl _) _) _ 1 one1 (bools_one _) (by decide) (by decide) (apart_new _ _ _ _ _ _ (Nat.le_refl _))).mono ?_; rintro e w2 ⟨rfl, h2⟩; clear h1; have h1 : Hid _ := h2; clear h2)
    | (go_at_call 20; refine (own_readOk h1.out _ 0 tb rfl (by decide) rfl).mono ?_; rintro e w2 ⟨rfl, h2⟩; clear h1; have h1 : Hid _ := h2; clear h2)
    | (go_at_call 11; refine (own_size h1.out).mono ?_; rintro e w2 ⟨rfl, h2⟩; clear h1; have h1 : Hid _ := h2; clear h2; rw [show ((3 : Nat) : Int) = 3 from rfl]))
  go_ret
  exact ⟨rfl, h1.out.2.1⟩
end Go.Proofs.Ytmgllcmfnljfjaa
