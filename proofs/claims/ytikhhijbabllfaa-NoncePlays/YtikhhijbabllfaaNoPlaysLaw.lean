/- The law NoncePlays, walked. -/
import Derived.Test.YtikhhijbabllfaaNoWakes
import Derived.Test.YtikhhijbabllfaaNoRef
namespace Go.Proofs.Ytikhhijbabllfaa
open Go.RowKit Go.PlainAid
set_option linter.unusedVariables false
set_option maxRecDepth 20000

theorem rem_of (n k : Int) (hk : 0 < k) : ∃ X M : Nat, (if (0 : Int) < n then n else 0) = (X : Int) ∧ Int.tmod (X : Int) k = (M : Int) ∧ (X : Int) % k = (M : Int) ∧ (M : Int) < k := by
  have h0 : (0 : Int) ≤ (if (0 : Int) < n then n else 0) := by split <;> omega
  generalize (if (0 : Int) < n then n else 0) = m at *
  obtain ⟨X, rfl⟩ : ∃ X : Nat, m = (X : Int) := ⟨m.toNat, by omega⟩
  have h1 := Int.emod_nonneg (X : Int) (show k ≠ 0 by omega)
  have h2 := Int.emod_lt_of_pos (X : Int) hk
  refine ⟨X, ((X : Int) % k).toNat, rfl, ?_, ?_, ?_⟩
  · rw [Int.tmod_eq_emod_of_nonneg h0, Int.toNat_of_nonneg h1]
  · rw [Int.toNat_of_nonneg h1]
  · rw [Int.toNat_of_nonneg h1]; exact h2
/-- The program's source and the document's, at the same number. -/
def Ps (W w : World) (g r : Nat) (e : Int) : Prop := ∃ n : Int, 0 ≤ n ∧ n ≤ 4294967296 ∧ Hold W.heap.size W w (star (src g e n) (star (rsrc r e n) nought))
set_option maxHeartbeats 1000000 in
theorem noncePlays_law (e n m : Int) (W : World) (he : 0 ≤ e ∧ e ≤ 18446744073709551615) (hn : 0 ≤ n ∧ n ≤ 18446744073709551615) (hm : -9223372036854775808 ≤ m ∧ m ≤ 9223372036854775807) : Calls Try.prog 3 #[.int .u64 e, .int .u64 n, .int .i64 m] W fun x w' => x = .returned (.bool true) ∧ Below W.heap.size W w' := by
  obtain ⟨e0, e1⟩ := he
  obtain ⟨n0, n1⟩ := hn
  have hmay := r16may_any e n e0 e1 n0 n1
  by_cases hc : mayE e = true ∧ n < 4294967296
  · rw [(mayS_iff e n).2 hc] at hmay
    have hnew := nnew_ok firm_nought (hold_nought W.heap.size W W (Nat.le_refl _) (Below.refl _ _)) e n e0 e1 n0 hc.1 hc.2
    obtain ⟨X, M, hX, hM1, hM2, hM3⟩ := rem_of m 50 (by decide)
    have hlt := hc.2
    clear hc
    go_enter Try.func3, Try.ntmps3
    go_wp2_with (first
      | (go_at_call 7; refine hnew.mono ?_; rintro x w1 ⟨g, rfl, h1⟩; clear hnew; have H1 : Hid (Hold _ _ _ _) := h1; clear h1)
      | (go_at_call 8; refine (wakes16_any _).mono ?_; rintro x w2 ⟨rfl, hb2⟩; have H2 : Hid (Hold _ _ _ _) := (H1.out.below ((firm_src _ _ _).star firm_nought) hb2).newBlk ((firm_src _ _ _).star firm_nought) 34 #[.int .u64 e, .int .u64 n]; clear H1 hb2)
      | (go_at_call 9; refine (hmay _).mono ?_; rintro x w3 ⟨rfl, hw⟩; rw [hw]; clear hw w3 hmay))
    have HP : Hid (Ps W _ g w2.heap.size e) := ⟨n, n0, by omega, H2.out.swap⟩
    clear H2 hX hM1 hM2 n0 n1 hlt
    generalize w2.heap.size = r at *
    go_loopw [65] (fun i wr => ∃ k : Nat, k ≤ M ∧ i = .int .i64 (k : Int) ∧ Hid (Ps W wr g r e)) (fun i _ => M - (intOf i).toNat)
    case atStart => exact ⟨0, Nat.zero_le _, rfl, HP.out⟩
    case round =>
      clear HP
      obtain ⟨k, hk, rfl, hr⟩ := hrel
      by_cases hlt : k < M
      · have hk' : (k : Int) < (M : Int) := by omega
        obtain ⟨q, q0, q1, hh⟩ := hr.out
        have hnx := nnext_any ((firm_rsrc r e q).star firm_nought) hh e0 e1 q0 q1
        obtain ⟨x0, x1⟩ := nxN_range q0 q1
        have HX : Hid (0 ≤ nxN q ∧ nxN q ≤ 4294967296) := ⟨x0, x1⟩
        have z1 : IntKind.u64.wrap (4294967296 - nxN q) = 4294967296 - nxN q := IntWalk.u64_in _ ⟨by omega, by omega⟩
        have HQ : Hid (0 ≤ q ∧ q ≤ 4294967296) := ⟨q0, q1⟩
        clear hr hh q0 q1
        go_wp2_with (first
          | (go_at_call 10; refine hnx.mono ?_; rintro x wa ⟨rfl, ha⟩; clear hnx; have HA : Hid (Hold _ _ _ _) := ha; clear ha)
          | (go_at_call 12; refine (r16next_any ((firm_src _ _ _).star firm_nought) HA.out.swap e0 e1 HQ.out.1 HQ.out.2).mono ?_; rintro x wb ⟨rfl, hb⟩; have HB : Hid (Hold _ _ _ _) := hb.swap.drew ((firm_src _ _ _).star ((firm_rsrc _ _ _).star firm_nought)); clear HA hb))
        have hS : Hid (∀ z, Hold W.heap.size W z (star (src g e (nxN q)) (star (rsrc r e (nxN q)) nought)) → z.cell? ⟨r, 1, none⟩ = some (.int .u64 (nxN q))) := fun z hz => hz.swap.blk.cell (i := 1) rfl
        have hlf := nleft_any HB.out x0 x1
        generalize nxN q = v at *
        generalize nxT e q = T at *
        generalize nxE q = E at *
        refine wp_region_noPanic ?_
        refine wp_region_held_drew (S := fun z : World => z.cell? ⟨r, 1, none⟩ = some (.int .u64 v)) (by kernel_rfl) (hS.out _ HB.out) (fun hHeld => ?_)
        refine wpAnyH_take (i := 0) (v := ?_) rfl (by kernel_rfl) (by kernel_rfl) (by kernel_rfl) (fun _ _ _ h => h) (Or.inl ⟨by rfl, ?_⟩) (by assumption) ?_
        rotate_left
        · intro w hSw; go_simp; try with_reducible rfl
        go_simp
        refine wpAnyH_take (i := 1) (v := ?_) rfl (by kernel_rfl) (by kernel_rfl) (by kernel_rfl) (fun _ _ _ h => h) (Or.inl ⟨by rfl, ?_⟩) (by assumption) ?_
        rotate_left
        · intro w hSw; go_simp; try with_reducible rfl
        go_simp
        refine wpAnyH_take (i := 2) (v := ?_) rfl (by kernel_rfl) (by kernel_rfl) (by kernel_rfl) (fun _ _ _ h => h) (Or.inl ⟨by rfl, ?_⟩) (by assumption) ?_
        rotate_left
        · intro w hSw; go_simp; try with_reducible rfl
        go_simp
        refine wpAnyH_take (i := 3) (v := ?_) rfl (by kernel_rfl) (by kernel_rfl) (by kernel_rfl) (fun _ _ _ h => h) (Or.inl ⟨by rfl, ?_⟩) (by assumption) ?_
        rotate_left
        · intro w hSw; go_simp; try with_reducible rfl
        go_simp
        refine wpAnyH_take (i := 4) (v := ?_) rfl (by kernel_rfl) (by kernel_rfl) (by kernel_rfl) (fun _ _ _ h => h) (Or.inl ⟨by rfl, ?_⟩) (by assumption) ?_
        rotate_left
        · intro w hSw; go_simp; try with_reducible rfl
        go_simp
        refine wpAnyH_take (i := 5) (v := ?_) rfl (by kernel_rfl) (by kernel_rfl) (by kernel_rfl) (fun _ _ _ h => h) (Or.inl ⟨by rfl, ?_⟩) (by assumption) ?_
        rotate_left
        · intro w hSw; go_simp; try with_reducible rfl
        go_simp
        refine wpAnyH_take (i := 6) (v := ?_) rfl (by kernel_rfl) (by kernel_rfl) (by kernel_rfl) (fun _ _ _ h => h) (Or.inl ⟨by rfl, ?_⟩) (by assumption) ?_
        rotate_left
        · intro w hSw; go_simp; try with_reducible rfl
        go_simp
        refine wpAnyH_take (i := 7) (v := ?_) rfl (by kernel_rfl) (by kernel_rfl) (by kernel_rfl) (fun _ _ _ h => h) (Or.inl ⟨by rfl, ?_⟩) (by assumption) ?_
        rotate_left
        · intro w hSw; go_simp; try with_reducible rfl
        go_simp
        refine wpAnyH_take (i := 8) (v := ?_) rfl (by kernel_rfl) (by kernel_rfl) (by kernel_rfl) (fun _ _ _ h => h) (Or.inl ⟨by rfl, ?_⟩) (by assumption) ?_
        rotate_left
        · intro w hSw; go_simp; try with_reducible rfl
        go_simp
        refine wpAnyH_take (i := 9) (v := ?_) rfl (by kernel_rfl) (by kernel_rfl) (by kernel_rfl) (fun _ _ _ h => h) (Or.inl ⟨by rfl, ?_⟩) (by assumption) ?_
        rotate_left
        · intro w hSw; go_simp; try with_reducible rfl
        go_simp
        refine wpAnyH_take (i := 11) (v := ?_) rfl (by kernel_rfl) (by kernel_rfl) (by kernel_rfl) (fun _ _ _ h => h) (Or.inl ⟨by rfl, ?_⟩) (by assumption) ?_
        rotate_left
        · intro w hSw; go_simp; try with_reducible rfl
        go_simp
        refine wpAnyH_take (i := 12) (v := ?_) rfl (by kernel_rfl) (by kernel_rfl) (by kernel_rfl) (fun _ _ _ h => h) (Or.inl ⟨by rfl, ?_⟩) (by assumption) ?_
        rotate_left
        · intro w hSw; go_simp; try with_reducible rfl
        go_simp
        refine wpAnyH_take (i := 13) (v := ?_) rfl (by kernel_rfl) (by kernel_rfl) (by kernel_rfl) (fun _ _ _ h => h) (Or.inl ⟨by rfl, ?_⟩) (by assumption) ?_
        rotate_left
        · intro w hSw; go_simp; try with_reducible rfl
        go_simp
        refine wpAnyH_take (i := 14) (v := ?_) rfl (by kernel_rfl) (by kernel_rfl) (by kernel_rfl) (fun _ _ _ h => h) (Or.inl ⟨by rfl, ?_⟩) (by assumption) ?_
        rotate_left
        · intro w hSw; go_simp; try with_reducible rfl
        go_simp
        refine wpAnyH_take (i := 15) (v := ?_) rfl (by kernel_rfl) (by kernel_rfl) (by kernel_rfl) (fun _ _ _ h => h) (Or.inl ⟨by rfl, ?_⟩) (by assumption) ?_
        rotate_left
        · intro w hSw; go_simp; try with_reducible rfl
        go_simp
        refine wpAnyH_ready (rs := [10]) (by kernel_rfl) (by simp) (AllReadyH.cons rfl (fun K hK => ?_) AllReadyH.nil)
        go_simp
        go_at_call 11
        refine hlf.mono ?_
        rintro x wc ⟨rfl, hw⟩
        rw [hw]
        clear hw wc hlf
        refine hK.out _ _ (hS.out _ HB.out) (fun hHeld => ?_)
        clear hK K
        refine wpAnyH_take (i := 16) (v := ?_) rfl (by kernel_rfl) (by kernel_rfl) (by kernel_rfl) (fun _ _ _ h => h) (Or.inl ⟨by rfl, ?_⟩) (by assumption) ?_
        rotate_left
        · intro w hSw; go_simp; try with_reducible rfl
        go_simp
        refine wpAnyH_take (i := 17) (v := ?_) rfl (by kernel_rfl) (by kernel_rfl) (by kernel_rfl) (fun _ _ _ h => h) (Or.inl ⟨by rfl, ?_⟩) (by assumption) ?_
        rotate_left
        · intro w hSw; go_simp; try with_reducible rfl
        go_simp
        refine wpAnyH_done (by kernel_rfl) ?_ _
        refine NoPanic.normal ?_
        have HR : Hid (Ps W wb.drew g r e) := ⟨v, HX.out.1, HX.out.2, HB.out⟩
        clear hS HB hHeld
        go_wp2_with fail
        go_roundw
        case rel => exact ⟨k + 1, by omega, by go_num, HR.out⟩
        case measure => simp [intOf]; omega
      · have hk' : ¬ (k : Int) < (M : Int) := by omega
        obtain ⟨q, -, -, hh⟩ := hr.out
        have HL : Hid (Below _ _ _) := hh.low
        clear hh
        go_wp2_with fail
        go_ret
        exact ⟨rfl, HL.out⟩
  · have hS : mayS e n = false := by rw [Bool.eq_false_iff]; exact fun h => hc ((mayS_iff e n).1 h)
    rw [hS] at hmay
    have hnew := nnew_bad e n e0 e1 n0 n1 hc W
    clear hc hS
    go_enter Try.func3, Try.ntmps3
    go_wp2_with (first
      | (go_at_call 7; refine hnew.mono ?_; rintro x w1 ⟨rfl, hw⟩; rw [hw]; clear hnew hw w1)
      | (go_at_call 8; refine (wakes16_any _).mono ?_; rintro x w2 ⟨rfl, hb2⟩; have H2 : Hid (Below _ _ _) := hb2; clear hb2)
      | (go_at_call 9; refine (hmay _).mono ?_; rintro x w3 ⟨rfl, hw⟩; rw [hw]; clear hw w3 hmay)
      | (go_at_call 10; refine (nnext_nil _).mono ?_; rintro x w4 ⟨rfl, hw⟩; rw [hw]; clear hw w4)
      | (go_at_call 11; refine (nleft_nil _).mono ?_; rintro x w5 ⟨rfl, hw⟩; rw [hw]; clear hw w5))
    go_ret
    exact ⟨rfl, H2.out⟩
end Go.Proofs.Ytikhhijbabllfaa
