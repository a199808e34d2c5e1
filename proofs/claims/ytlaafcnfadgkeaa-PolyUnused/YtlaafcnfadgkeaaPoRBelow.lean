/- Which numbers the document takes for less than the modulus, and what taking it away leaves. -/
import Derived.Test.YtlaafcnfadgkeaaPoRow
import Derived.Test.YtlaafcnfadgkeaaPoText
namespace Go.Proofs.Ytlaafcnfadgkeaa
open Go.RowKit Go.PlainAid
set_option linter.unusedVariables false

theorem index48 (w : World) (S : Nat → Nat) (i : Nat) (hi : i < 17) : (Instr.index 48 (.agg (nr .i64 17 S).toArray) (.int .i64 (i : Int))).run Try.prog w = .ok (.int .i64 ((S i : Nat) : Int)) w :=
  run_index_agg w 48 3 17 _ i _ Try.underlying48 hi (nr_at _ _ _ i hi) Try.isAgg3 Try.sizeOf3

set_option maxHeartbeats 1000000 in
theorem below_any (N : Nat) (hN : N < 2 ^ 136) (w : World) :
    Calls Try.prog 37 #[.agg (nr .i64 17 (dg 8 N)).toArray] w fun e w' => e = .returned (.bool (decide (N < pP))) ∧ Below w.heap.size w w' := by
  obtain ⟨Y, hY⟩ : ∃ Y, nr .i64 17 (dg 8 N) = Y := ⟨_, rfl⟩
  have HC : Hid (∀ i, i < 17 → (w.alloc (.cells Y.toArray 48)).cell? ⟨w.heap.size, i, none⟩ = some (.int .i64 ((dg 8 N i : Nat) : Int))) := fun i hi => by
    refine (Blk.box w 48 Y).cell ?_
    rw [← hY]; exact nr_at _ _ _ i hi
  rw [hY]
  clear hY
  have hl0 : Below w.heap.size w (w.alloc (.cells Y.toArray 48)) := (Below.refl _ w).alloc (Nat.le_refl _) _
  have c16 := HC.out 16 (by decide)
  have t0 : N / 2 ^ (8 * 17) = pP / 2 ^ (8 * 17) := by rw [pP_top, Nat.div_eq_of_lt (by simpa using hN)]
  have e16 := pP_hi
  have k16 := dg_lt 8 N 16
  have H16 : Hid (dg 8 N 16 < 3 → N < pP) := fun h => below_at N pP 16 t0 (by rw [e16]; exact h)
  have H16' : Hid (3 < dg 8 N 16 → ¬ N < pP) := fun h hlt => by
    have := below_at pP N 16 t0.symm (by rw [e16]; exact h)
    omega
  have HS : Hid (dg 8 N 16 = 3 → N / 2 ^ (8 * 16) = pP / 2 ^ (8 * 16)) := fun h => same_at N pP 16 t0 (by rw [e16]; exact h)
  clear t0 e16 hN
  obtain ⟨x, hx⟩ : ∃ x, dg 8 N 16 = x := ⟨_, rfl⟩
  rw [hx] at c16 k16 H16 H16' HS
  clear hx
  rw [show (2 : Nat) ^ 8 = 256 from rfl] at k16
  by_cases h3 : x = 3
  · subst h3
    have HT := HS.out rfl
    have HT : Hid (N / 2 ^ (8 * 16) = pP / 2 ^ (8 * 16)) := HT
    rw [show ((3 : Nat) : Int) = 3 from rfl] at c16
    clear H16 H16' HS
    go_enter Try.func37, Try.ntmps37
    go_wp2_with fail
    generalize w.alloc (.cells Y.toArray 48) = w0 at *
    obtain ⟨g, hgd⟩ : ∃ g, w.heap.size = g := ⟨_, rfl⟩
    rw [hgd] at HC hl0 ⊢
    have HG : Hid (w.heap.size = g) := hgd
    clear hgd c16
    go_loopw [3] (fun v wr => ∃ k : Nat, k ≤ 15 ∧ v = .int .i64 k ∧ N / 2 ^ (8 * (k + 1)) = pP / 2 ^ (8 * (k + 1)) ∧ wr = w0) (fun v _ => (intOf v).toNat)
    case atStart => exact ⟨15, by omega, rfl, HT.out, rfl⟩
    case round =>
      clear HT
      obtain ⟨k, hk, rfl, hT, rfl⟩ := hrel
      by_cases hlt : 1 ≤ k
      · have hlt' : (1 : Int) ≤ (k : Int) := by omega
        have hk17 : (k : Int) < 17 := by omega
        have ck := HC.out k (by omega)
        have ek := pP_mid k hlt hk
        have kk := dg_lt 8 N k
        have H1 : Hid (dg 8 N k < 255 → N < pP) := fun h => below_at N pP k hT (by rw [ek]; exact h)
        have H2 : Hid (dg 8 N k = 255 → N / 2 ^ (8 * k) = pP / 2 ^ (8 * k)) := fun h => same_at N pP k hT (by rw [ek]; exact h)
        clear hT ek
        rw [show (2 : Nat) ^ 8 = 256 from rfl] at kk
        generalize dg 8 N k = y at *
        by_cases h5 : y = 255
        · have h2 := H2.out h5
          subst h5
          rw [show ((255 : Nat) : Int) = 255 from rfl] at ck
          have H3 : Hid (N / 2 ^ (8 * k) = pP / 2 ^ (8 * k)) := h2
          clear h2 H1 H2
          go_wp2_with fail
          refine ⟨⟨k - 1, by omega, ?_, by rw [show k - 1 + 1 = k by omega]; exact H3.out, trivial⟩, by simp [intOf]; omega⟩
          congr 1; omega
        · have h1 := H1.out (by omega)
          have hd : decide (N < pP) = true := decide_eq_true h1
          have h5' : ((y : Int) != 255) = true := by simp; omega
          clear H1 H2 h1
          go_wp2_with fail
          go_ret
          refine ⟨by rw [hd]; rfl, ?_⟩
          rw [HG.out]; exact hl0
      · have hk0 : k = 0 := by omega
        subst hk0
        have c0 := HC.out 0 (by decide)
        have e0 := pP_lo
        have hD : decide (N < pP) = decide (((dg 8 N 0 : Nat) : Int) < 251) := by
          by_cases hc : dg 8 N 0 < 251
          · have := below_at N pP 0 hT (by rw [e0]; exact hc)
            rw [decide_eq_true this, decide_eq_true (by omega)]
          · have : ¬ N < pP := by
              intro hlt
              by_cases h1 : dg 8 N 0 = 251
              · have := same_at N pP 0 hT (by rw [e0]; exact h1)
                simp at this; omega
              · have := below_at pP N 0 hT.symm (by rw [e0]; omega)
                omega
            rw [decide_eq_false this, decide_eq_false (by omega)]
        have HD : Hid (decide (N < pP) = decide (((dg 8 N 0 : Nat) : Int) < 251)) := hD
        clear hT e0 hD
        generalize dg 8 N 0 = y at *
        rw [show ((0 : Nat) : Int) = 0 from rfl]
        go_wp2_with fail
        go_ret
        refine ⟨by rw [HD.out]; rfl, ?_⟩
        rw [HG.out]; exact hl0
  · have h3' : ((x : Int) != 3) = true := by simp; omega
    have hD : decide (N < pP) = decide ((x : Int) < 3) := by
      by_cases hc : x < 3
      · rw [decide_eq_true (H16.out hc), decide_eq_true (by omega)]
      · rw [decide_eq_false (H16'.out (by omega)), decide_eq_false (by omega)]
    have HD : Hid (decide (N < pP) = decide ((x : Int) < 3)) := hD
    clear H16 H16' HS hD HC
    go_enter Try.func37, Try.ntmps37
    go_wp2_with fail
    go_ret
    exact ⟨by rw [HD.out]; rfl, hl0⟩
end Go.Proofs.Ytlaafcnfadgkeaa
