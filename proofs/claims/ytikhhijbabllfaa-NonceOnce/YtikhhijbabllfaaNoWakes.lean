/- What the document fixes of layer 16. -/
import Derived.Test.YtikhhijbabllfaaNoLow
namespace Go.Proofs.Ytikhhijbabllfaa
open Go.RowKit Go.PlainAid
set_option linter.unusedVariables false
set_option maxRecDepth 20000

theorem non_wakes : nonB 1 0 = ⟨#[0, 0, 0, 0, 0, 0, 0, 1, 0, 0, 0, 0]⟩ := by decide
theorem wakes16_any (w : World) : Calls Try.prog 8 #[] w fun x w' => x = .returned (.bool true) ∧ Below w.heap.size w w' := by
  have hnew := nnew_ok firm_nought (hold_nought w.heap.size w w (Nat.le_refl _) (Below.refl _ _)) 1 0 (by decide) (by decide) (by decide) (by decide) (by decide)
  have hW := non_wakes
  go_enter Try.func8, Try.ntmps8
  go_wp2_with (first
    | (go_at_call 7; refine hnew.mono ?_; rintro x w1 ⟨g, rfl, h1⟩; clear hnew; have H1 : Hid (Hold _ _ _ _) := h1; clear h1)
    | (go_at_call 10; refine (nnext_ok firm_nought H1.out (by decide) (by decide) (by decide) (by decide)).mono ?_; rw [hW]; rintro x w2 ⟨rfl, h2⟩; have H2 : Hid (Hold _ _ _ _) := h2; clear H1 h2)
    | (go_at_call 11; refine (nleft_any H2.out (by decide) (by decide)).mono ?_; rintro x w3 ⟨rfl, hw⟩; rw [hw]; clear hw w3))
  go_ret
  exact ⟨rfl, H2.out.low⟩
end Go.Proofs.Ytikhhijbabllfaa
