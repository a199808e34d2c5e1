/- The determinant of a matrix by its first row: the document's answer. -/
import Derived.Test.YthcbnffhkbbkpaaMatMinor
namespace Go.Proofs.Ythcbnffhkbbkpaa
open Go.RowKit Go.PlainAid
set_option linter.unusedVariables false

def detT (N : Nat) (X : Mx) (c : Nat) : E := X 0 c * D N (minorM X 0 c)
theorem det_sum (N : Nat) (X : Mx) : D (N + 1) X = S (N + 1) (detT N X) := by
  rw [D_succ]
  rfl

set_option maxHeartbeats 2000000 in
theorem det_any : ∀ (n : Nat) (a : Option Addr) (ca : Nat) (X : Mx) (w : World), n ≤ 16 → MatAt w a n (fun _ => n) X →
    Calls Try.prog 33 #[.slice a n ca] w fun e w' => e = .returned (.int .u8 ((D n X).v : Int)) ∧ Below w.heap.size w w' := by
  intro n
  induction n with
  | zero =>
    intro a ca X w hn hA
    go_enter Try.func33, Try.ntmps33
    go_wp2_with fail
    go_ret
    exact ⟨rfl, Below.refl _ _⟩
  | succ N ih =>
    intro a ca X w hn0 hA
    rw [det_sum]
    obtain ⟨n, hn⟩ : ∃ n, N + 1 = n := ⟨_, rfl⟩
    rw [hn] at hA hn0 ⊢
    have hN : N ≤ 15 := by omega
    have hwo := fun x (h : Below w.heap.size w x) col hc => without_any a n N ca 0 col X x hn.symm hN (hA.below h) (by omega) hc
    obtain ⟨ba, oa, rfl, hR⟩ := rows_in hA ⟨by omega, by omega, by show 1 ≤ n; omega, by show n ≤ 16; omega, fun _ _ => rfl⟩
    have HR : Hid (RowsIn w ba oa n n X) := hR
    have n0 : (0 : Int) < (n : Int) := by omega
    have n0' : 0 < n := by omega
    have t0 : ((n : Int) == 0) = false := by simp; omega
    have IH : Hid (∀ (a : Option Addr) (ca : Nat) (X : Mx) (w : World), N ≤ 16 → MatAt w a N (fun _ => N) X →
      Calls Try.prog 33 #[.slice a N ca] w fun e w' => e = .returned (.int .u8 ((D N X).v : Int)) ∧ Below w.heap.size w w') := ih
    clear hR hA hn ih
    go_enter Try.func33, Try.ntmps33
    go_wp2_with fail
    go_loopw [3, 4] (fun s i wr => ∃ k : Nat, k ≤ n ∧ i = .int .i64 k ∧ s = .int .u8 ((S k (detT N X)).v : Int) ∧ Below w.heap.size w wr) (fun _ i _ => (n : Nat) - (intOf i).toNat)
    case atStart => exact ⟨0, Nat.zero_le _, rfl, rfl, Below.refl _ _⟩
    case round =>
      obtain ⟨k, hk, rfl, rfl, hbk⟩ := hrel
      by_cases hlt : k < n
      · obtain ⟨b1, o1, c1, e1, f1⟩ := HR.out wr hbk 0 n0'
        have f1' := f1 k hlt
        rw [Nat.add_zero] at e1
        have kn : (k : Int) < (n : Int) := by omega
        by_cases hz : X 0 k = 0
        · have HS : Hid (S (k + 1) (detT N X) = S k (detT N X)) := (by
            show S k (detT N X) + detT N X k = _
            unfold detT
            rw [hz, E.zero_mul, E.add_zero] : S (k + 1) (detT N X) = S k (detT N X))
          rw [hz, E.zero_v] at f1'
          clear f1 hz hwo
          go_wp2_with fail
          go_roundw
          case rel => exact ⟨k + 1, by omega, by go_num, by rw [HS.out], hbk⟩
          case measure => simp [intOf]; omega
        · have hnz : (((X 0 k).v : Int) != 0) = true := by simp; exact E.ne_v hz
          have hw := hwo wr hbk k hlt
          have HC : Hid (∀ x, Below wr.heap.size wr x → x.cell? ⟨ba, oa, none⟩ = some (.slice (some ⟨b1, o1, none⟩) n c1) ∧ x.cell? ⟨b1, o1 + k, none⟩ = some (.int .u8 ((X 0 k).v : Int))) := fun x hx =>
            ⟨(hx.cell (p := ⟨ba, oa, none⟩) (cell_lt e1)).trans e1, (hx.cell (p := ⟨b1, o1 + k, none⟩) (cell_lt f1')).trans f1'⟩
          have hmul := fun x => refMul_E (X 0 k) (D N (minorM X 0 k)) x
          have hadd := fun x => refAdd_E (S k (detT N X)) (detT N X k) x
          have HD : Hid (X 0 k * D N (minorM X 0 k) = detT N X k) := (rfl : X 0 k * D N (minorM X 0 k) = detT N X k)
          rw [HD.out] at hmul
          clear f1 hwo
          generalize (X 0 k).v = x1 at f1' hmul HC hnz
          go_wp2_with fail
          go_at_call 35
          refine hw.mono ?_
          rintro e w2 ⟨hb2, vo, rfl, hA2⟩
          obtain ⟨a2, c2, rfl, _, hM2⟩ := hA2.mat
          have hd := IH.out a2 c2 _ w2 (by omega) hM2
          generalize (D N (minorM X 0 k)).v = x2 at hd hmul
          clear hA2 hM2 e1 f1'
          go_wp2_with fail
          go_at_call 33
          refine hd.mono ?_
          rintro e w3 ⟨rfl, hb3⟩
          have hb13 := hb2.trans (hb3.mono hb2.size)
          obtain ⟨g1, g2⟩ := HC.out w3 hb13
          go_wp2_with fail
          go_at_call 26
          refine (hmul _).mono ?_
          rintro e w4 ⟨rfl, hb4⟩
          go_wp2_with fail
          go_at_call 38
          refine (hadd _).mono ?_
          rintro e w5 ⟨rfl, hb5⟩
          have hb14 := hb13.trans (hb4.mono hb13.size)
          have hb15 := hb14.trans (hb5.mono hb14.size)
          go_wp2_with fail
          go_roundw
          case rel => exact ⟨k + 1, by omega, by go_num, rfl, hbk.trans (hb15.mono hbk.size)⟩
          case measure => simp [intOf]; omega
      · have hkn : k = n := by omega
        subst hkn
        go_wp2_with fail
        go_ret
        exact ⟨rfl, hbk⟩
end Go.Proofs.Ythcbnffhkbbkpaa
