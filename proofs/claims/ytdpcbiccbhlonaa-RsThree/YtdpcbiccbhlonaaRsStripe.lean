/- The rows by which a stripe's chunks take its data chunks: the program's own answer. -/
import Derived.Test.YtdpcbiccbhlonaaRsKept
namespace Go.Proofs.Ytdpcbiccbhlonaa
open Go.RowKit Go.PlainAid
set_option linter.unusedVariables false

set_option maxHeartbeats 1000000 in
theorem stripeRows_any (k : Nat) (h1 : 1 ≤ k) (h8 : k ≤ 8) (w : World) :
    Calls Try.prog 35 #[.int .i64 (k : Int)] w fun e w' => Below w.heap.size w w' ∧ ∃ a c, e = .returned (.slice a (k + 2) c) ∧ MatAt w' a (k + 2) (fun _ => k) (stM k) := by
  have hid := identity_any (k : Int) w (by omega) (by omega)
  have hk2 : ¬ (1 ≤ (k : Int) ∧ (k : Int) ≤ 16) → False := fun h => h ⟨by omega, by omega⟩
  have hpr := fun x => parityRows_any k h1 h8 x
  obtain ⟨j0, hj, hy0, hy1, hy2⟩ := info_parts Try.info46
  go_enter Try.func35, Try.ntmps35
  go_wp2_with fail
  go_at_call 47
  refine hid.mono ?_
  rintro e w1 ⟨hb1, ⟨hno, -⟩ | ⟨n, g, G, en, -, -, rfl, hO⟩⟩
  · exact (hk2 hno).elim
  obtain rfl : n = k := by omega
  clear en hid hk2
  go_wp2_with fail
  go_at_call 22
  refine (hpr _).mono ?_
  rintro e w2 ⟨hb2, g2, G2, rfl, hO2⟩
  have hb02 := hb1.trans (hb2.mono hb1.size)
  have htop := owns_below hO.top hb2
  rw [filled_full] at htop
  have hc2 : ∀ j, j < 2 → w2.cell? ⟨g2, j, none⟩ = some (rowV n G2 j) := fun j hj => by
    have := hO2.top.cellAt j (by omega)
    rw [filled_full] at this
    rw [this]
    simp [hj]
  have hg1 := (owns_lt hO.top).2
  have HR : Hid (∀ r, r < n → g < G r ∧ w2.ownsRow w.heap.size 5 1 (.slice (some ⟨G r, 0, none⟩) n n) n (bytesL n (idM r))) := fun r hr => ⟨(hO.rows r hr).1, owns_below (hO.rows r hr).2 hb2⟩
  have HR2 : Hid (∀ r, r < 2 → g < G2 r ∧ w2.ownsRow w1.heap.size 5 1 (.slice (some ⟨G2 r, 0, none⟩) n n) n (bytesL n (powM r))) := fun r hr => ⟨by have := (owns_lt (hO2.rows r hr).2).1; omega, (hO2.rows r hr).2⟩
  clear hpr
  go_wp2_with (at_builtin; refine wpList_append_own _ rfl _ _ 50 rfl w.heap.size 46 j0 (.slice none 0 0) 1 24 Try.underlying50 hj hy0 hy1 hy2 rfl (by decide) _ n _ rfl htop ⟨g2, 0, none⟩ 2 2 [rowV n G2 0, rowV n G2 1] rfl rfl ?h1 ?h2 ?h3 ?h4 ?h5 ?_)
  case h1 =>
    intro j u hu
    match j, hu with
    | 0, hu => simp at hu; subst hu; exact hc2 0 (by decide)
    | 1, hu => simp at hu; subst hu; exact hc2 1 (by decide)
  case h2 => intro u hu; simp at hu; rcases hu with rfl | rfl <;> rfl
  case h3 => unfold maxLen; omega
  case h4 => omega
  case h5 => exact hb02.size
  intro v' w3 hown hgrow _
  have hb3 : Below w.heap.size w w3 := hb02.grown hgrow hb02.size (fun b hb => (htop.lt b hb).1)
  have hR3 : ∀ r, r < n → w3.ownsRow w.heap.size 5 1 (.slice (some ⟨G r, 0, none⟩) n n) n (bytesL n (idM r)) := fun r hr => (HR.out r hr).2.kept hgrow (.inr fun e => by have := (HR.out r hr).1; simp [Value.ownBlock] at e; omega)
  have hR4 : ∀ r, r < 2 → w3.ownsRow w1.heap.size 5 1 (.slice (some ⟨G2 r, 0, none⟩) n n) n (bytesL n (powM r)) := fun r hr => (HR2.out r hr).2.kept hgrow (.inr fun e => by have := (HR2.out r hr).1; simp [Value.ownBlock] at e; omega)
  have hM : ∃ a c, v' = .slice a (n + 2) c ∧ MatAt w3 a (n + 2) (fun _ => n) (stM n) := by
    obtain ⟨a, c, rfl, -, hv⟩ := owns_form hown (fun r => .slice (if r < n then some ⟨G r, 0, none⟩ else some ⟨G2 (r - n), 0, none⟩) n n) (fun i hi => by
      by_cases h : i < n
      · rw [List.getElem?_append_left (by simp; exact h)]
        simp [h, rowV]
      · rw [List.getElem?_append_right (by simp; omega)]
        simp only [List.length_map, List.length_range, if_neg h]
        have : i - n = 0 ∨ i - n = 1 := by omega
        rcases this with e | e <;> rw [e] <;> rfl)
    refine ⟨a, c, rfl, fun r => if r < n then some ⟨G r, 0, none⟩ else some ⟨G2 (r - n), 0, none⟩, fun _ => n, hv, fun r hr => ⟨by show n ≤ maxLen; unfold maxLen; omega, ?_⟩⟩
    by_cases h : r < n
    · simp only [if_pos h]
      refine .inr ⟨G r, 0, rfl, fun c hc => ?_⟩
      have hc' : c < n := hc
      rw [Nat.zero_add, (hR3 r h).cellAt c (by omega), bytesL_at _ _ _ hc']
      simp only [stM, if_pos h]
    · simp only [if_neg h]
      refine .inr ⟨G2 (r - n), 0, rfl, fun c hc => ?_⟩
      have hc' : c < n := hc
      rw [Nat.zero_add, (hR4 (r - n) (by omega)).cellAt c (by omega), bytesL_at _ _ _ hc']
      simp only [stM, if_neg h]
  obtain ⟨a, c, rfl, hM⟩ := hM
  clear hown hgrow htop
  go_wp2_with fail
  go_ret
  exact ⟨hb3, a, c, rfl, hM⟩
end Go.Proofs.Ytdpcbiccbhlonaa
