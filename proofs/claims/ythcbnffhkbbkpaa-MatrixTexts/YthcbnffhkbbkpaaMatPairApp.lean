/- A matrix times texts: the program's answer and the document's are alike. -/
import Derived.Test.YthcbnffhkbbkpaaMatRefApp
namespace Go.Proofs.Ythcbnffhkbbkpaa
open Go.RowKit Go.PlainAid
set_option linter.unusedVariables false

set_option maxHeartbeats 1000000 in
theorem refApply_form (a l : Option Addr) (n k ca cl : Nat) (L : Nat → Nat) (A : Mx) (w : World) (hn : n ≤ maxLen) (hA : MatAt w a n L A) (gA : ¬ Gd n L) :
    Calls Try.prog 19 #[.slice a n ca, .slice l k cl] w fun e w' => Below w.heap.size w w' ∧ e = .returned (.tuple #[.slice none 0 0, .int .i64 4]) := by
  have hg := refGood_any a n ca L A w hn hA false (good_no gA)
  clear gA
  go_enter Try.func19, Try.ntmps19
  go_wp2_with fail
  go_at_call 32
  refine hg.mono ?_
  rintro e w1 ⟨rfl, q1, rfl⟩
  have hb1 : Below w.heap.size w (w.drewN q1) := below_drewN (Below.refl _ _) _
  generalize w.drewN q1 = w1 at hb1 ⊢
  go_wp2_with fail
  go_ret2
  exact ⟨hb1, rfl⟩

set_option maxHeartbeats 1000000 in
theorem refApply_shape (a l : Option Addr) (n k ca cl : Nat) (L : Nat → Nat) (A : Mx) (w : World) (hn : n ≤ maxLen) (hA : MatAt w a n L A) (gA : Gd n L) (hk : k ≠ L 0) (hkm : k ≤ 9223372036854775807) :
    Calls Try.prog 19 #[.slice a n ca, .slice l k cl] w fun e w' => Below w.heap.size w w' ∧ e = .returned (.tuple #[.slice none 0 0, .int .i64 7]) := by
  have hg := refGood_any a n ca L A w hn hA true (good_yes gA)
  have n0' : 0 < n := by have := gA.1; omega
  have n0 : (0 : Int) < (n : Int) := by omega
  obtain ⟨ba, oa, rfl, hR⟩ := rows_in hA gA
  have l16 : L 0 ≤ 16 := gA.2.2.2.1
  obtain ⟨l0, hl0⟩ : ∃ l0, L 0 = l0 := ⟨_, rfl⟩
  rw [hl0] at hR l16
  have t0 : ((k : Int) != (l0 : Int)) = true := by rw [← hl0]; simp; omega
  have HR : Hid (RowsIn w ba oa n l0 A) := hR
  clear hR gA hk hn hA hl0
  go_enter Try.func19, Try.ntmps19
  go_wp2_with fail
  go_at_call 32
  refine hg.mono ?_
  rintro e w1 ⟨rfl, q1, rfl⟩
  have hb1 : Below w.heap.size w (w.drewN q1) := below_drewN (Below.refl _ _) _
  generalize w.drewN q1 = w1 at hb1 ⊢
  obtain ⟨b', o', cr, e1, -⟩ := HR.out w1 hb1 0 n0'
  rw [Nat.add_zero] at e1
  clear hg
  go_wp2_with fail
  go_ret2
  exact ⟨hb1, rfl⟩

set_option maxHeartbeats 1000000 in
theorem refApply_alike (a l : Option Addr) (n k ca cl : Nat) (L M : Nat → Nat) (A Y : Mx) (w : World) (hn : n ≤ maxLen) (hA : MatAt w a n L A) (hT : TxtAt w l k M Y) (gA : Gd n L) (hk : k = L 0) (hM : ¬ ∀ c, c < k → M c = M 0) :
    Calls Try.prog 19 #[.slice a n ca, .slice l k cl] w fun e w' => Below w.heap.size w w' ∧ e = .returned (.tuple #[.slice none 0 0, .int .i64 7]) := by
  have hg := refGood_any a n ca L A w hn hA true (good_yes gA)
  have n0' : 0 < n := by have := gA.1; omega
  have n0 : (0 : Int) < (n : Int) := by omega
  obtain ⟨ba, oa, rfl, hR⟩ := rows_in hA gA
  rw [← hk] at hR
  have k1 : 1 ≤ k := by rw [hk]; exact gA.2.2.1
  have k16 : k ≤ 16 := by rw [hk]; exact gA.2.2.2.1
  obtain ⟨bl, ol, rfl, hcl0⟩ := hT.cell k1
  have HR : Hid (RowsIn w ba oa n k A) := hR
  have HM : Hid (¬ ∀ c, c < k → M c = M 0) := hM
  have HT : Hid (∀ x, Below w.heap.size w x → ∀ c, c < k → ∃ s : ByteArray, s.size = M c ∧ x.cell? ⟨bl, ol + c, none⟩ = some (.string s) ∧ M c ≤ 9223372036854775807) := fun x hx c hc => by
    have h := hcl0 c hc
    exact ⟨_, strE_size (M c) (Y c), (hx.cell (p := ⟨bl, ol + c, none⟩) (cell_lt h)).trans h, hT.2 c hc⟩
  have k0 : (0 : Int) < (k : Int) := by omega
  have k0' : 0 < k := by omega
  have t0 : ((k : Int) != (k : Int)) = false := by simp
  clear hR gA hk hM hcl0 hn hA hT
  go_enter Try.func19, Try.ntmps19
  go_wp2_with fail
  go_at_call 32
  refine hg.mono ?_
  rintro e w1 ⟨rfl, q1, rfl⟩
  have hb1 : Below w.heap.size w (w.drewN q1) := below_drewN (Below.refl _ _) _
  generalize w.drewN q1 = w1 at hb1 ⊢
  obtain ⟨xb, xo, xc, hc0, -⟩ := HR.out _ hb1 0 n0'
  rw [Nat.add_zero] at hc0
  clear hg
  go_wp2_with fail
  go_loopw [7] (fun i wr => ∃ c : Nat, c ≤ k ∧ i = .int .i64 c ∧ Below w.heap.size w wr ∧ ∀ j, j < c → M j = M 0) (fun i _ => (k : Nat) - (intOf i).toNat)
  case atStart => exact ⟨0, Nat.zero_le _, rfl, hb1, fun j hj => by omega⟩
  case round =>
    obtain ⟨c, hc, rfl, hbc, hbefore⟩ := hrel
    have HB : Hid (∀ j, j < c → M j = M 0) := hbefore
    clear hbefore
    by_cases hlt : c < k
    · obtain ⟨s, hs, e1, hs9⟩ := HT.out wr hbc c hlt
      obtain ⟨s', hs', e2, hs9'⟩ := HT.out wr hbc 0 k0'
      rw [Nat.add_zero] at e2
      have ck : (c : Int) < (k : Int) := by omega
      clear hc0 hb1
      obtain ⟨mc, hmc⟩ : ∃ mc, M c = mc := ⟨_, rfl⟩
      obtain ⟨m0, hm0⟩ : ∃ m0, M 0 = m0 := ⟨_, rfl⟩
      rw [hmc] at hs hs9
      rw [hm0] at hs' hs9'
      by_cases e : mc = m0
      · have HE : Hid (M c = M 0) := (by rw [hmc, hm0, e] : M c = M 0)
        subst e
        have t1 : ((mc : Int) != (mc : Int)) = false := by simp
        clear hmc hm0
        go_wp2_with fail
        go_quiet (fail)
        go_wp2_with fail
        go_roundw
        case rel => exact ⟨c + 1, by omega, by go_num, below_drewN hbc _, fun j hj => by
          by_cases e : j = c
          · rw [e]; exact HE.out
          · exact HB.out j (by omega)⟩
        case measure => simp [intOf]; omega
      · have t1 : ((mc : Int) != (m0 : Int)) = true := by simp; omega
        clear hmc hm0 e
        go_wp2_with fail
        go_quiet (fail)
        go_wp2_with fail
        go_ret2
        exact ⟨below_drewN hbc _, rfl⟩
    · exact absurd (fun c' hc' => HB.out c' (by omega)) HM.out

/-- Two slices of texts that are alike. -/
def TPair (w : World) (v v' : Value) (n : Nat) : Prop := n ≤ 16 ∧ ∃ a a' c c' M Y, v = .slice a n c ∧ v' = .slice a' n c' ∧ TxtAt w a n M Y ∧ TxtAt w a' n M Y
theorem TPair.below {w w' : World} {v v' : Value} {n : Nat} (h : TPair w v v' n) (hb : Below w.heap.size w w') : TPair w' v v' n := by
  obtain ⟨hn, a, a', c, c', M, Y, h1, h2, h3, h4⟩ := h
  exact ⟨hn, a, a', c, c', M, Y, h1, h2, h3.below hb, h4.below hb⟩
theorem TPair.nil (w : World) : TPair w (.slice none 0 0) (.slice none 0 0) 0 :=
  ⟨by decide, none, none, 0, 0, fun _ => 0, fun _ _ => 0, rfl, rfl, ⟨.inl rfl, fun c hc => by omega⟩, ⟨.inl rfl, fun c hc => by omega⟩⟩

theorem apply_pair (a l : Option Addr) (n k ca cl : Nat) (L M : Nat → Nat) (A Y : Mx) (w : World) (hn : n ≤ maxLen) (hA : MatAt w a n L A) (hcl : k ≤ cl) (hclm : cl ≤ 9223372036854775807) (hT : TxtAt w l k M Y) (h5 : ∀ c, c < k → M c ≤ 65536) :
    Calls Try.prog 18 #[.slice a n ca, .slice l k cl] w fun e w' => Below w.heap.size w w' ∧ ∃ v er, e = .returned (.tuple #[v, .int .i64 er]) ∧
      ∀ w2, Below w'.heap.size w' w2 → Calls Try.prog 19 #[.slice a n ca, .slice l k cl] w2 fun e' w3 => Below w2.heap.size w2 w3 ∧ ∃ v' q, e' = .returned (.tuple #[v', .int .i64 er]) ∧ TPair w3 v v' q := by
  refine (apply_any a l n k ca cl L M A Y w hn hA hcl hclm hT).mono ?_
  rintro e w' ⟨hb, v, er, rfl, ⟨hno, rfl, rfl⟩ | ⟨gA, hs, rfl, rfl⟩ | ⟨gA, ⟨hk, hM⟩, h65, rfl, rfl⟩ | ⟨gA, ⟨hk, hM⟩, h65, rfl, a', c', rfl, _, _, hT'⟩⟩
  · refine ⟨hb, _, _, rfl, fun w2 hb2 => (refApply_form a l n k ca cl L A w2 hn ((hA.below hb).below hb2) hno).mono ?_⟩
    rintro e w3 ⟨hb3, rfl⟩
    exact ⟨hb3, _, 0, rfl, TPair.nil _⟩
  · by_cases hk : k = L 0
    · refine ⟨hb, _, _, rfl, fun w2 hb2 => (refApply_alike a l n k ca cl L M A Y w2 hn ((hA.below hb).below hb2) ((hT.below hb).below hb2) gA hk (fun h => hs ⟨hk, h⟩)).mono ?_⟩
      rintro e w3 ⟨hb3, rfl⟩
      exact ⟨hb3, _, 0, rfl, TPair.nil _⟩
    · refine ⟨hb, _, _, rfl, fun w2 hb2 => (refApply_shape a l n k ca cl L A w2 hn ((hA.below hb).below hb2) gA hk (by omega)).mono ?_⟩
      rintro e w3 ⟨hb3, rfl⟩
      exact ⟨hb3, _, 0, rfl, TPair.nil _⟩
  · have := h5 0 (by have := gA.2.2.1; omega)
    omega
  · refine ⟨hb, _, _, rfl, fun w2 hb2 => (refApply_ok a l n k ca cl L M A Y w2 hn ((hA.below hb).below hb2) ((hT.below hb).below hb2) gA hk hM h65).mono ?_⟩
    rintro e w3 ⟨hb3, vo, rfl, ho⟩
    obtain ⟨a2, c2, rfl, _, _, hT2⟩ := txt_of_owns ho h65
    exact ⟨hb3, _, n, rfl, gA.2.1, _, _, _, _, fun _ => M 0, mulM k A Y, rfl, rfl, (hT'.below hb2).below hb3, hT2⟩
end Go.Proofs.Ythcbnffhkbbkpaa
