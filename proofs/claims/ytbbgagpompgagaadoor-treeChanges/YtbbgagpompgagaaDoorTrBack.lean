/- The steps over a leaf, from the last one on. -/
import Derived.Test.YtbbgagpompgagaaDoorTrPut0
namespace Go.Proofs.YtbbgagpompgagaaDoor
open Go.RowKit Go.PlainAid Go.Shelf
set_option linter.unusedVariables false
attribute [local go_sem] Oper.semAt_some

set_option maxRecDepth 100000 in
set_option maxHeartbeats 2000000 in
theorem back_iter (n d s : Nat) (hd1 : 1 ≤ d) (hd : d ≤ 4) (w : World) (MM : Nat → Prop) (gb gr cap : Nat) (hgb : gb < w.heap.size) (hgr : gr < w.heap.size)
    (hcb : w.cell? ⟨gb, 0, none⟩ = some (.slice (some ⟨gr, 0, none⟩) d cap)) (hcr : ∀ i j v, i < d → j < 3 → (stepV d s i).toList[j]? = some v → w.cell? ⟨gr, i * 3 + j, none⟩ = some v)
    (hM : ∀ k, MM k → k ≠ gb ∧ k ≠ gr) :
    Iter Tryd.prog n 43 #[.pointer (some ⟨gb, 0, none⟩)] (fun j => #[.int .i64 ((d - 1 - j : Nat) : Int), .agg (stepV d s (d - 1 - j))]) d w 0 MM := by
  intro J Jx W hW hWs hJ hJx hY h0
  have hb0 : W.cell? ⟨gb, 0, none⟩ = some (.slice (some ⟨gr, 0, none⟩) d cap) := (hW.cell (p := ⟨gb, 0, none⟩) hgb).trans hcb
  have hr0 : Hid (∀ i j v, i < d → j < 3 → (stepV d s i).toList[j]? = some v → W.cell? ⟨gr, i * 3 + j, none⟩ = some v) := fun i j v hi hj hv => (hW.cell (p := ⟨gr, i * 3 + j, none⟩) hgr).trans (hcr i j v hi hj hv)
  refine callsIn_of_wp Tryd.func43 rfl trivial ?_ rfl
  simp only [Tryd.ntmps43, List.size_toArray, List.length_cons, List.length_nil, Nat.reduceAdd, Nat.reduceSub, Array.replicate_succ, Array.replicate_zero, List.push_toArray, List.append_toArray, List.nil_append, List.cons_append]
  clear hcb hcr
  gi_wp2
  gi_loopw [3] (fun p wr => ∃ j : Nat, j ≤ d ∧ p = .int .i64 ((d : Int) - 1 - (j : Int)) ∧ wr.cell? ⟨gb, 0, none⟩ = some (.slice (some ⟨gr, 0, none⟩) d cap) ∧ Hid (∀ i j v, i < d → j < 3 → (stepV d s i).toList[j]? = some v → wr.cell? ⟨gr, i * 3 + j, none⟩ = some v) ∧ J j wr ∧ w.heap.size + 2 ≤ wr.heap.size) (fun p _ => (intOf p + 1).toNat)
  case atStart => exact ⟨0, Nat.zero_le _, by simp, hb0, hr0, h0, by omega⟩
  case round =>
    clear hb0 hr0 h0
    obtain ⟨j, hj, rfl, hb, hr, hJk, hsz⟩ := hrel
    rcases Nat.lt_or_ge j d with hlt | hge
    · obtain ⟨m, hm⟩ : ∃ m, d - 1 - j = m := ⟨_, rfl⟩
      have hmd : m < d := by omega
      have hmi : (d : Int) - 1 - (j : Int) = (m : Int) := by omega
      have hmi2 : (m : Int) < (d : Int) := by omega
      have hy := hY j wr hlt hJk hsz
      rw [hm] at hy
      unfold stepV at hy
      have x0 := hr.out m 0 _ hmd (by decide) rfl
      have x1 := hr.out m 1 _ hmd (by decide) rfl
      have x2 := hr.out m 2 _ hmd (by decide) rfl
      rw [Nat.add_zero] at x0
      obtain ⟨fn, tmps, assign, body, hy, hR⟩ := hy
      rw [hmi]
      gi_wp2
      refine ⟨fun h => (by cases h), hR.mono ?_⟩
      rintro e W3 ⟨hk3, h3⟩
      have hz3 : w.heap.size + 2 ≤ W3.heap.size := Nat.le_trans hsz hk3.size
      have hb3 : W3.cell? ⟨gb, 0, none⟩ = some (.slice (some ⟨gr, 0, none⟩) d cap) := (hk3.cell (p := ⟨gb, 0, none⟩) (show gb < _ by omega) (fun h => by rcases h with h | h; exact absurd h (show gb ≠ _ by omega); exact (hM _ h).1 rfl)).trans hb
      have hr3 : Hid (∀ i j v, i < d → j < 3 → (stepV d s i).toList[j]? = some v → W3.cell? ⟨gr, i * 3 + j, none⟩ = some v) := fun i j v hi hj hv => (hk3.cell (p := ⟨gr, i * 3 + j, none⟩) (show gr < _ by omega) (fun h => by rcases h with h | h; exact absurd h (show gr ≠ _ by omega); exact (hM _ h).2 rfl)).trans (hr.out i j v hi hj hv)
      rcases h3 with ⟨rfl, hJ3⟩ | ⟨rfl, hJx3⟩
      · clear hb x0 x1 x2 hy hR
        gi_wp2
        go_roundw
        case rel => exact ⟨j + 1, hlt, by rw [show (d : Int) - 1 - ((j + 1 : Nat) : Int) = (m : Int) - 1 by omega], hb3, hr3, hJ3, hz3⟩
        case measure => simp [intOf]
      · gi_wp2
        refine bodyPost_ret (results_none rfl _ _ _) rfl ?_
        exact ⟨⟨_, rfl⟩, .inr ⟨j + 1, hlt, hJx3⟩⟩
    · have hjd : j = d := by omega
      subst hjd
      rw [show (j : Int) - 1 - (j : Int) = -1 by omega]
      gi_wp2
      go_end0
      exact ⟨⟨_, rfl⟩, .inl hJk⟩
end Go.Proofs.YtbbgagpompgagaaDoor
