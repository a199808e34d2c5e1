/- Layouts, by the document: Wide, Seat, Chunk. -/
import Derived.Test.YtbekmjljcjgopabDoorLyFind
namespace Go.Proofs.YtbekmjljcjgopabDoor
open Go.RowKit Go.PlainAid
set_option linter.unusedVariables false
set_option maxRecDepth 20000

section
variable {D S M : Int} {G : Bool}
/-- The chunk on a seat is the one whose seat it is. -/
theorem ck_iff {t s : Int} (h : chN D S M G t ≠ 0) (c : Int) (h0 : 0 ≤ c) (h1 : c < chN D S M G t) : seV D S M G t c = s ↔ (ckB D S M G t s = true ∧ ckV D S M G t s = c) := by
  obtain ⟨hg, ht0, ht1, _, _⟩ := ch_in h
  have hl := (ch_le (D := D) (S := S) (M := M) (G := G) t).2
  have hE : seE D S M G t c = 0 := by unfold seE; rw [if_pos hg, if_neg (by omega)]
  have hs16 := hg.s16.2
  unfold seV ckV ckB
  rw [hE, if_pos rfl]
  clear hE
  generalize chN D S M G t = n at *
  have hn : 0 < n := by omega
  constructor
  · intro h
    have a1 := Int.emod_nonneg (c + t) (show n ≠ 0 by omega)
    have a2 := Int.emod_lt_of_pos (c + t) hn
    have hs : 0 ≤ s ∧ s < n := by omega
    refine ⟨decide_eq_true hs, ?_⟩
    rw [if_pos (decide_eq_true hs), ← h]
    have e : (c + t) % n + n - t = c + n * (1 - (c + t) / n) := by
      have := Int.emod_add_mul_ediv (c + t) n
      have e2 : n * (1 - (c + t) / n) = n - n * ((c + t) / n) := by rw [Int.mul_sub, Int.mul_one]
      omega
    rw [e, Int.add_mul_emod_self_left]
    exact Int.emod_eq_of_lt h0 h1
  · rintro ⟨h2, h3⟩
    rw [if_pos h2] at h3
    have hs := of_decide_eq_true h2
    rw [← h3]
    have e : (s + n - t) % n + t = s + n * (1 - (s + n - t) / n) := by
      have := Int.emod_add_mul_ediv (s + n - t) n
      have e2 : n * (1 - (s + n - t) / n) = n - n * ((s + n - t) / n) := by rw [Int.mul_sub, Int.mul_one]
      omega
    rw [e, Int.add_mul_emod_self_left]
    exact Int.emod_eq_of_lt hs.1 hs.2
theorem ck_lt {t s : Int} (h : ckB D S M G t s = true) : 0 ≤ ckV D S M G t s ∧ ckV D S M G t s < chN D S M G t := by
  unfold ckV
  rw [if_pos h]
  have hs := of_decide_eq_true h
  exact ⟨Int.emod_nonneg _ (by omega), Int.emod_lt_of_pos _ (by omega)⟩
end
end Go.Proofs.YtbekmjljcjgopabDoor
