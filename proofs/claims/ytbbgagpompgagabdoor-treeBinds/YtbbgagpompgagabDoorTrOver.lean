/- Which trees there are; the nodes over a leaf, one after the other. -/
import Derived.Test.YtbbgagpompgagabDoorTrMath
import Derived.Test.YtbbgagpompgagabDoorRng
namespace Go.Proofs.YtbbgagpompgagabDoor
open Go.RowKit Go.PlainAid Go.Shelf
set_option linter.unusedVariables false
attribute [local go_sem] Oper.semAt_some

/-- What 'has' tells. -/
def hasB (n s : Int) : Bool := decide ((n = 2 ∨ n = 4 ∨ n = 8 ∨ n = 16) ∧ 0 ≤ s ∧ s < n)
theorem and_pow (n : Int) (h1 : 2 ≤ n) (h2 : n ≤ 16) : bits .and .i64 n (wrap64 (n - 1)) = 0 ↔ (n = 2 ∨ n = 4 ∨ n = 8 ∨ n = 16) := by
  have : n = 2 ∨ n = 3 ∨ n = 4 ∨ n = 5 ∨ n = 6 ∨ n = 7 ∨ n = 8 ∨ n = 9 ∨ n = 10 ∨ n = 11 ∨ n = 12 ∨ n = 13 ∨ n = 14 ∨ n = 15 ∨ n = 16 := by omega
  rcases this with rfl | rfl | rfl | rfl | rfl | rfl | rfl | rfl | rfl | rfl | rfl | rfl | rfl | rfl | rfl <;> decide +kernel

theorem hasB_neg (n s : Int) (h : ¬ ((n = 2 ∨ n = 4 ∨ n = 8 ∨ n = 16) ∧ 0 ≤ s ∧ s < n)) : false = hasB n s := (decide_eq_false h).symm
set_option maxRecDepth 20000 in
theorem has_any (n s : Int) (w : World) : Calls Tryd.prog 15 #[.int .i64 n, .int .i64 s] w fun e w' => e = .returned (.bool (hasB n s)) ∧ w' = w := by
  go_enter Tryd.func15, Tryd.ntmps15
  go_wp2
  · rename_i h1 h2 h3 h4
    have h := (and_pow n h2 h3).1 h1
    have e : decide (s < n) = hasB n s := decide_eq_decide.2 ⟨fun h' => ⟨h, h4, h'⟩, fun h' => h'.2.2⟩
    go_ret
    exact ⟨congrArg (fun b => Ending.returned (.bool b)) e, rfl⟩
  · rename_i h1 h2 h3 h4
    have e := hasB_neg n s (by omega)
    go_ret
    exact ⟨congrArg (fun b => Ending.returned (.bool b)) e, rfl⟩
  · rename_i h1 h2 h3
    have e := hasB_neg n s (by omega)
    go_ret
    exact ⟨congrArg (fun b => Ending.returned (.bool b)) e, rfl⟩
  · rename_i h1 h2
    have e := hasB_neg n s (by omega)
    go_ret
    exact ⟨congrArg (fun b => Ending.returned (.bool b)) e, rfl⟩
  · rename_i h1
    have e := hasB_neg n s (fun h => h1 ((and_pow n (by omega) (by omega)).2 h.1))
    go_ret
    exact ⟨congrArg (fun b => Ending.returned (.bool b)) e, rfl⟩
theorem hasB_yes (d : Nat) (s : Int) (h : okS d s) : hasB ((2 ^ d : Nat) : Int) s = true := by
  obtain ⟨h1, h2, h3, h4⟩ := h
  unfold hasB
  have : d = 1 ∨ d = 2 ∨ d = 3 ∨ d = 4 := by omega
  rcases this with rfl | rfl | rfl | rfl <;> exact decide_eq_true ⟨by decide, h3, h4⟩
theorem hasB_no (d : Nat) (s : Int) (h : ¬ okS d s) : hasB ((2 ^ d : Nat) : Int) s = false := by
  unfold hasB
  refine decide_eq_false (fun h' => h ?_)
  obtain ⟨h1, h2, h3⟩ := h'
  refine ⟨?_, ?_, h2, h3⟩
  · rcases Nat.eq_zero_or_pos d with rfl | h
    · rw [Nat.pow_zero] at h1; omega
    · exact h
  · rcases Nat.lt_or_ge 4 d with h | h
    · have : 2 ^ 5 ≤ 2 ^ d := pow_mono h
      omega
    · exact h

set_option maxRecDepth 20000 in
theorem under_any (a : Option Addr) (n cap : Nat) (hn : n ≤ 62) (w : World) : Calls Tryd.prog 20 #[.slice a n cap] w fun e w' => e = .returned (.int .i64 ((2 ^ n : Nat) : Int)) ∧ w' = w := by
  have h63 : (2 : Nat) ^ n < 2 ^ 63 := Nat.pow_lt_pow_right (by decide) (by omega)
  have e : wrap64 ((2 : Int) ^ n) = ((2 ^ n : Nat) : Int) := by
    rw [show ((2 : Int) ^ n) = ((2 ^ n : Nat) : Int) by simp]
    generalize 2 ^ n = q at h63 ⊢
    unfold wrap64
    omega
  go_enter Tryd.func20, Tryd.ntmps20
  go_wp2
  go_ret
  exact ⟨congrArg (fun b => Ending.returned (.int .i64 b)) e, rfl⟩

theorem wrap64_small {x : Int} (h0 : 0 ≤ x) (h1 : x < 9223372036854775808) : wrap64 x = x := by unfold wrap64; omega
theorem side_facts (s H U S : Nat) (hs : s < 16) (hU : s / H = U) (hS : U % 2 = S) : wrap64 ((s : Int) / (H : Int)) = (U : Int) ∧ (U : Int) % 2 = (S : Int) ∧ (U : Int).tmod 2 = (S : Int) := by
  have h : U ≤ s := by rw [← hU]; exact Nat.div_le_self s H
  have h2 : (U : Int) % 2 = (S : Int) := by omega
  refine ⟨?_, h2, ?_⟩
  · rw [← Int.natCast_ediv, hU]; exact wrap64_small (by omega) (by omega)
  · rw [Int.tmod_eq_emod_of_nonneg (by omega)]; exact h2
theorem td_nat (a b : Nat) (ha : a < 9223372036854775808) : wrap64 ((a : Int).tdiv (b : Int)) = ((a / b : Nat) : Int) := by
  rw [← Int.ofNat_tdiv]
  have := Nat.div_le_self a b
  generalize a / b = q at *
  unfold wrap64
  omega
theorem tm_nat (a b : Nat) (ha : a < 9223372036854775808) : wrap64 ((a : Int).tmod (b : Int)) = ((a % b : Nat) : Int) := by
  rw [← Int.ofNat_tmod]
  have := Nat.mod_le a b
  generalize a % b = q at *
  unfold wrap64
  omega

/-- The step on level k. -/
def stepV (d s k : Nat) : Array Value := #[.int .i64 (k : Int), .int .i64 (nd d s k : Int), .int .i64 (sd d s k : Int)]
set_option maxRecDepth 20000 in
theorem over_any (n s : Int) (w : World) : Calls Tryd.prog 16 #[.int .i64 n, .int .i64 s] w fun e w' =>
    e = .returned (.func (.func 22) #[] #[.pointer (some ⟨w.heap.size, 0, none⟩), .pointer (some ⟨w.heap.size + 1, 0, none⟩)]) ∧ w' = (w.alloc (.cells #[.int .i64 n] 3)).alloc (.cells #[.int .i64 s] 3) := by
  go_enter Tryd.func16, Tryd.ntmps16
  go_wp2
  go_ret
  exact ⟨rfl, rfl⟩

set_option maxRecDepth 100000 in
set_option maxHeartbeats 2000000 in
/-- The function that 'over' answers: the steps over a leaf, from the top on. -/
theorem over_iter (n : Nat) (d s : Nat) (hd : d ≤ 4) (hs : s < 2 ^ d) (w : World) (MM : Nat → Prop) (gl gs : Nat) (hgl : gl < w.heap.size) (hgs : gs < w.heap.size)
    (hcl : w.cell? ⟨gl, 0, none⟩ = some (.int .i64 ((2 ^ d : Nat) : Int))) (hcs : w.cell? ⟨gs, 0, none⟩ = some (.int .i64 (s : Int)))
    (hM : ∀ k, MM k → k ≠ gl ∧ k ≠ gs ∧ k ≠ w.heap.size + 2) :
    Iter Tryd.prog n 22 #[.pointer (some ⟨gl, 0, none⟩), .pointer (some ⟨gs, 0, none⟩)] (fun k => #[.agg (stepV d s k)]) d w 1 MM := by
  intro J Jx W hW hWs hJ hJx hY h0
  have hl : W.cell? ⟨gl, 0, none⟩ = some (.int .i64 ((2 ^ d : Nat) : Int)) := (hW.cell (p := ⟨gl, 0, none⟩) hgl).trans hcl
  have hsl : W.cell? ⟨gs, 0, none⟩ = some (.int .i64 (s : Int)) := (hW.cell (p := ⟨gs, 0, none⟩) hgs).trans hcs
  refine callsIn_of_wp Tryd.func22 rfl trivial ?_ rfl
  simp only [Tryd.ntmps22, List.size_toArray, List.length_cons, List.length_nil, Nat.reduceAdd, Nat.reduceSub, Array.replicate_succ, Array.replicate_zero, List.push_toArray, List.append_toArray, List.nil_append, List.cons_append]
  have hl0 : (W.alloc (.cells #[.int .i64 0, .int .i64 1, .int .i64 0] 44)).cell? ⟨gl, 0, none⟩ = some (.int .i64 ((2 ^ d : Nat) : Int)) := by rw [World.cell?_alloc_some _ _ _ (by rw [hl]; rfl)]; exact hl
  have hs0 : (W.alloc (.cells #[.int .i64 0, .int .i64 1, .int .i64 0] 44)).cell? ⟨gs, 0, none⟩ = some (.int .i64 (s : Int)) := by rw [World.cell?_alloc_some _ _ _ (by rw [hsl]; rfl)]; exact hsl
  have hb0 : Blk (W.alloc (.cells #[.int .i64 0, .int .i64 1, .int .i64 0] 44)) (w.heap.size + 2) 44 [.int .i64 0, .int .i64 1, .int .i64 0] := by
    have := Blk.new W 44 #[.int .i64 0, .int .i64 1, .int .i64 0]
    rwa [hWs] at this
  have hJ0 : J 0 (W.alloc (.cells #[.int .i64 0, .int .i64 1, .int .i64 0] 44)) := hJ _ _ _ h0 ((Kept.refl _ _).alloc _)
  have hz0 : w.heap.size + 2 + 1 ≤ (W.alloc (.cells #[.int .i64 0, .int .i64 1, .int .i64 0] 44)).heap.size := by rw [World.size_alloc]; omega
  have h16 := pow_le16 d hd
  have hq := td_nat (2 ^ d) 2 (by omega)
  generalize hP : ((2 ^ d : Nat) : Int) = P2 at hl0 hq hl
  generalize hQ : ((2 ^ d / 2 : Nat) : Int) = Q2 at hq
  have HQ : Hid (((2 ^ d / 2 : Nat) : Int) = Q2) := hQ
  have HP : Hid (((2 ^ d : Nat) : Int) = P2) := hP
  clear hP hQ hl hsl h0 hcl hcs
  gi_wp2
  rw [show wrap64 (P2.tdiv 2) = Q2 from hq]
  have hgl2 : gl ≠ w.heap.size + 2 := by omega
  have hgs2 : gs ≠ w.heap.size + 2 := by omega
  generalize W.alloc (.cells #[.int .i64 0, .int .i64 1, .int .i64 0] 44) = W0 at hl0 hs0 hb0 hJ0 hz0 ⊢
  clear hq hWs hW W
  gi_loopw [5] (fun p wr => ∃ k : Nat, k ≤ d ∧ p = .int .i64 ((2 ^ (d - k) / 2 : Nat) : Int) ∧ Blk wr (w.heap.size + 2) 44 [.int .i64 (k : Int), .int .i64 (nd d s k : Int), .int .i64 0] ∧ wr.cell? ⟨gl, 0, none⟩ = some (.int .i64 P2) ∧ wr.cell? ⟨gs, 0, none⟩ = some (.int .i64 (s : Int)) ∧ J k wr ∧ w.heap.size + 2 + 1 ≤ wr.heap.size) (fun p _ => (intOf p).toNat)
  case atStart => exact ⟨0, Nat.zero_le _, by rw [Nat.sub_zero, HQ.out], by rw [nd_zero d s hs]; exact hb0, hl0, hs0, hJ0, hz0⟩
  case round =>
    obtain ⟨k, hk, rfl, hb, hcl, hcs, hJk, hsz⟩ := hrel
    have c0 := hb.cell (i := 0) rfl
    have c1 := hb.cell (i := 1) rfl
    have c2 := hb.cell (i := 2) rfl
    have f2 := hb.frozen 2
    rcases Nat.lt_or_ge k d with hlt | hge
    · have hin := nd_inner d s k hlt hs
      have hm : 1 ≤ 2 ^ (d - k) / 2 := by rw [half_pow d k hlt]; exact pow_pos' _
      have hm2 : 2 ^ (d - k) / 2 ≤ 16 := by rw [half_pow d k hlt]; exact pow_le16 _ (by omega)
      have hside : s / (2 ^ (d - k) / 2) % 2 = sd d s k := rfl
      have hnext : 2 ^ (d - k) / 2 / 2 = 2 ^ (d - (k + 1)) / 2 := by rw [half_pow d k hlt]
      have hlev := nd_succ d s k hlt
      have hsd := sd_lt d s k
      obtain ⟨S, hS⟩ : ∃ S, sd d s k = S := ⟨_, rfl⟩
      obtain ⟨M, hM'⟩ : ∃ M, nd d s k = M := ⟨_, rfl⟩
      obtain ⟨H, hH⟩ : ∃ H, 2 ^ (d - k) / 2 = H := ⟨_, rfl⟩
      have hy := hY k (wr.setCell ⟨w.heap.size + 2, 2, none⟩ (.int .i64 (S : Int))) hlt (hJ _ _ _ hJk ((Kept.refl _ wr).setCell (.inl ⟨by omega, by omega⟩) 2 _)) (by simpa using hsz)
      unfold stepV at hy
      rw [hS, hM'] at hy
      rw [hS] at hside hlev hsd
      rw [hM'] at hlev hin hb c1
      rw [hH] at hm hm2 hside hnext ⊢
      have hs16 : s < 16 := Nat.lt_of_lt_of_le hs h16
      have hU16 : s / H ≤ s := Nat.div_le_self s H
      obtain ⟨U, hU⟩ : ∃ U, s / H = U := ⟨_, rfl⟩
      rw [hU] at hside hU16
      obtain ⟨e1, e2, e3⟩ := side_facts s H U S hs16 hU hside
      clear hside hU16 hU hS hM'
      obtain ⟨fn, tmps, assign, body, hy, hR⟩ := hy
      gi_wp2
      refine ⟨fun h => (by cases h), hR.mono ?_⟩
      rintro e W3 ⟨hk3, h3⟩
      have hb3 : Blk W3 (w.heap.size + 2) 44 [.int .i64 (k : Int), .int .i64 (M : Int), .int .i64 (S : Int)] := (hb.setCell 2 (.int .i64 (S : Int))).kept hk3 (fun h => by
        rcases h with h | h
        · omega
        · exact (hM _ h).2.2 rfl)
      have hz3 : w.heap.size + 2 + 1 ≤ W3.heap.size := Nat.le_trans hsz (by have := hk3.size; simpa using this)
      have hcl3 : W3.cell? ⟨gl, 0, none⟩ = some (.int .i64 P2) := by
        rw [hk3.cell (p := ⟨gl, 0, none⟩) (by simp; omega) (fun h => by rcases h with h | h; exact absurd h (by show gl ≠ _; omega); exact (hM _ h).1 rfl)]
        rw [World.cell?_setCell_far _ _ _ _ (by show w.heap.size + 2 ≠ gl; omega)]; exact hcl
      have hcs3 : W3.cell? ⟨gs, 0, none⟩ = some (.int .i64 (s : Int)) := by
        rw [hk3.cell (p := ⟨gs, 0, none⟩) (by simp; omega) (fun h => by rcases h with h | h; exact absurd h (by show gs ≠ _; omega); exact (hM _ h).2.1 rfl)]
        rw [World.cell?_setCell_far _ _ _ _ (by show w.heap.size + 2 ≠ gs; omega)]; exact hcs
      rcases h3 with ⟨rfl, hJ3⟩ | ⟨rfl, hJx3⟩
      · have d0 := hb3.cell (i := 0) rfl
        have d1 := hb3.cell (i := 1) rfl
        have d2 := hb3.cell (i := 2) rfl
        have g0 := hb3.frozen 0
        have g1 := hb3.frozen 1
        have g2 := hb3.frozen 2
        have hb4 := ((hb3.setCell 0 (.int .i64 ((k : Int) + 1))).setCell 1 (.int .i64 (2 * (M : Int) + (S : Int)))).setCell 2 (.int .i64 0)
        have hk4 : Kept (fun k => w.heap.size + 2 ≤ k ∧ k < w.heap.size + 2 + 1) W3 (((W3.setCell ⟨w.heap.size + 2, 0, none⟩ (.int .i64 ((k : Int) + 1))).setCell ⟨w.heap.size + 2, 1, none⟩ (.int .i64 (2 * (M : Int) + (S : Int)))).setCell ⟨w.heap.size + 2, 2, none⟩ (.int .i64 0)) :=
          (((Kept.refl _ W3).setCell (.inl ⟨by omega, by omega⟩) _ _).setCell (.inl ⟨by omega, by omega⟩) _ _).setCell (.inl ⟨by omega, by omega⟩) _ _
        gi_wp2
        generalize ((W3.setCell ⟨w.heap.size + 2, 0, none⟩ (.int .i64 ((k : Int) + 1))).setCell ⟨w.heap.size + 2, 1, none⟩ (.int .i64 (2 * (M : Int) + (S : Int)))).setCell ⟨w.heap.size + 2, 2, none⟩ (.int .i64 0) = W4 at hb4 hk4 ⊢
        refine ⟨⟨k + 1, hlt, ?_, ?_, ?_, ?_, hJ _ _ _ hJ3 hk4, Nat.le_trans hz3 hk4.size⟩, ?_⟩
        · rw [← hnext]; rfl
        · rw [hlev]; exact hb4
        · rw [hk4.cell (p := ⟨gl, 0, none⟩) (show gl < _ by omega) (show ¬ (w.heap.size + 2 ≤ gl ∧ _) by omega)]; exact hcl3
        · rw [hk4.cell (p := ⟨gs, 0, none⟩) (show gs < _ by omega) (show ¬ (w.heap.size + 2 ≤ gs ∧ _) by omega)]; exact hcs3
        · simp only [intOf]; omega
      · gi_wp2
        refine bodyPost_ret (results_none rfl _ _ _) rfl ?_
        exact ⟨⟨_, rfl⟩, .inr ⟨k + 1, hlt, hJx3⟩⟩
    · have hkd : k = d := by omega
      subst hkd
      rw [Nat.sub_self, show (2 ^ 0 / 2 : Nat) = 0 from rfl]
      gi_wp2
      go_end0
      exact ⟨⟨_, rfl⟩, .inl hJk⟩
end Go.Proofs.YtbbgagpompgagabDoor
