/- A matrix times texts: the program's own answer. -/
import Derived.Test.YthcbnffhkbbkpaaMatComb
import Derived.Test.YthcbnffhkbbkpaaMatRefMul
namespace Go.Proofs.Ythcbnffhkbbkpaa
open Go.RowKit Go.PlainAid
set_option linter.unusedVariables false

theorem Try.info9 : (Try.prog.info? 9).map (fun i => (i.zero, i.size, i.bytes)) = some (some (.string ⟨#[]⟩), 1, 16) := by kernel_rfl
/-- What Apply answers of rows and texts. -/
def AppPost (n k : Nat) (L M : Nat → Nat) (A Y : Mx) (v : Value) (er : Int) (w' : World) : Prop :=
  (¬ Gd n L ∧ v = .slice none 0 0 ∧ er = 4) ∨
  (Gd n L ∧ ¬ (k = L 0 ∧ ∀ c, c < k → M c = M 0) ∧ v = .slice none 0 0 ∧ er = 7) ∨
  (Gd n L ∧ (k = L 0 ∧ ∀ c, c < k → M c = M 0) ∧ 65536 < M 0 ∧ v = .slice none 0 0 ∧ er = 5) ∨
  (Gd n L ∧ (k = L 0 ∧ ∀ c, c < k → M c = M 0) ∧ M 0 ≤ 65536 ∧ er = 0 ∧ ∃ a' c', v = .slice a' n c' ∧ n ≤ c' ∧ c' ≤ 9223372036854775807 ∧ TxtAt w' a' n (fun _ => M 0) (mulM k A Y))

set_option maxHeartbeats 1000000 in
theorem apply_ok (a l : Option Addr) (n k ca cl : Nat) (L M : Nat → Nat) (A Y : Mx) (w : World) (hn : n ≤ maxLen) (hA : MatAt w a n L A) (hcl : k ≤ cl) (hclm : cl ≤ 9223372036854775807) (hT : TxtAt w l k M Y)
    (gA : Gd n L) (hk : k = L 0) (hM : ∀ c, c < k → M c = M 0) (h5 : M 0 ≤ 65536) :
    Calls Try.prog 18 #[.slice a n ca, .slice l k cl] w fun e w' => Below w.heap.size w w' ∧ ∃ a', e = .returned (.tuple #[.slice a' n n, .int .i64 0]) ∧ TxtAt w' a' n (fun _ => M 0) (mulM k A Y) := by
  obtain ⟨i0, hi, hz0, hz1, hz2⟩ := info_parts Try.info9
  have hg := good_any a n ca L A w hn hA true (good_yes gA)
  have hal := fun x (h : Below w.heap.size w x) => alike_any l k cl M Y x (by unfold maxLen; omega) (hT.below h) true ⟨fun _ => hM, fun _ => rfl⟩
  have hT0 : ∀ x, Below w.heap.size w x → Vals x l k (fun c => .string (strE (M 0) (Y c))) := fun x hx => by
    rcases (hT.below hx).1 with h0 | ⟨b, o, rfl, h⟩
    · exact .inl h0
    · exact .inr ⟨b, o, rfl, fun i hi => by show _ = some (Value.string (strE (M 0) (Y i))); rw [← hM i hi]; exact h i hi⟩
  obtain ⟨ba, oa, rfl, hR⟩ := rows_in hA gA
  rw [← hk] at hR
  have k1 : 1 ≤ k := by rw [hk]; exact gA.2.2.1
  have k16 : k ≤ 16 := by rw [hk]; exact gA.2.2.2.1
  have n1 : 1 ≤ n := gA.1
  have n16 : n ≤ 16 := gA.2.1
  obtain ⟨bl, ol, rfl, hcl0⟩ := hT.cell k1
  obtain ⟨m, hm⟩ : ∃ m, M 0 = m := ⟨_, rfl⟩
  rw [hm] at hT0 h5 ⊢
  have HC0 : Hid (∀ x, Below w.heap.size w x → ∃ s : ByteArray, s.size = m ∧ x.cell? ⟨bl, ol, none⟩ = some (.string s)) := fun x hx => by
    have h := hcl0 0 (by omega)
    rw [Nat.add_zero] at h
    exact ⟨_, by rw [strE_size, hm], (hx.cell (p := ⟨bl, ol, none⟩) (cell_lt h)).trans h⟩
  have HC : Hid (∀ x, Below w.heap.size w x → ∀ r, r < n → ∃ b' o' cr, x.cell? ⟨ba, oa + r, none⟩ = some (.slice (some ⟨b', o', none⟩) k cr) ∧ Calls Try.prog 37 #[.slice (some ⟨b', o', none⟩) k cr, .slice (some ⟨bl, ol, none⟩) k cl] x fun e w' => e = .returned (.string (rowTxt m (A r) Y k)) ∧ Below x.heap.size x w') := fun x hx r hr => by
    obtain ⟨b', o', cr, e1, f1⟩ := hR x hx r hr
    exact ⟨b', o', cr, e1, combine_any _ _ k cr cl m (A r) Y x k1 k16 hcl hclm h5 (.inr ⟨b', o', rfl, f1⟩) (hT0 x hx)⟩
  have n0 : (0 : Int) < (n : Int) := by omega
  have n0' : 0 < n := by omega
  have k0 : (0 : Int) < (k : Int) := by omega
  have k0' : 0 < k := by omega
  have t0 : ((k : Int) != (k : Int)) = false := by simp
  clear hR gA hk hM hm hcl0 hT0 hn hA hT
  go_enter Try.func18, Try.ntmps18
  go_wp2_with fail
  go_at_call 27
  refine hg.mono ?_
  rintro e w1 ⟨rfl, hb1⟩
  obtain ⟨b', o', cr, e1, -⟩ := HC.out w1 hb1 0 n0'
  rw [Nat.add_zero] at e1
  have hal1 := hal w1 hb1
  clear hal hg
  go_wp2_with fail
  go_at_call 36
  refine hal1.mono ?_
  rintro e w2 ⟨rfl, hb2⟩
  have hb02 := hb1.trans (hb2.mono hb1.size)
  obtain ⟨s0, hs0, e2⟩ := HC0.out w2 hb02
  have hs5 : ¬ (65536 : Int) < (m : Int) := by omega
  clear hal1 e1 hb1 hb2
  go_wp2_with (at_make; refine wpList_make_full _ rfl _ _ 37 rfl w2.heap.size 9 i0 (.string ⟨#[]⟩) 1 Try.underlying37 hi hz0 hz1 _ _ _ _ n rfl rfl ?c0 ?c1 ?c2 ?c3 ?c4 ?_)
  case c0 => rfl
  case c1 => rfl
  case c2 => rw [hz2]; omega
  case c3 => unfold maxLen; omega
  case c4 => exact Nat.le_refl _
  intro w3 hown hgrow
  have hbel : Below w2.heap.size w2 w3 := (Below.refl _ _).grown hgrow (Nat.le_refl _) (fun k h => by cases h)
  rw [toList_madeCells_one, ← filled_zero n (fun r => .string (rowTxt m (A r) Y k))] at hown
  clear e2 hs0
  go_wp2_with fail
  go_loopw [34] (fun i wr => ∃ r : Nat, r ≤ n ∧ i = .int .i64 r ∧ Below w2.heap.size w2 wr ∧ wr.ownsRow w2.heap.size 9 1 (.slice (some ⟨w2.heap.size, 0, none⟩) n n) n (filled n r (fun r => .string (rowTxt m (A r) Y k)) (.string ⟨#[]⟩))) (fun i _ => (n : Nat) - (intOf i).toNat)
  case atStart => exact ⟨0, Nat.zero_le _, rfl, hbel, hown⟩
  case round =>
    obtain ⟨r, hr, rfl, hbr, hor⟩ := hrel
    by_cases hlt : r < n
    · obtain ⟨b', o', cr, e1, hcomb⟩ := HC.out wr (hb02.trans (hbr.mono hb02.size)) r hlt
      go_wp2_with fail
      go_at_call 37
      refine hcomb.mono ?_
      rintro e w4 ⟨rfl, hb4⟩
      have ho4 := owns_below hor hb4
      obtain ⟨v0, hcell⟩ : ∃ v0, w4.cell? ⟨w2.heap.size, r, none⟩ = some v0 := by
        rw [ho4.cellAt r (by omega)]; exact ⟨_, List.getElem?_eq_getElem (by simp [filled]; exact hlt)⟩
      have hfr := ho4.frozenAt r
      have hst := (ho4.stored r (.string (rowTxt m (A r) Y k))).1
      rw [filled_set n r (fun r => .string (rowTxt m (A r) Y k)) _ hlt] at hst
      have hb5 := hbr.trans (hb4.mono hbr.size)
      have rn : (r : Int) < (n : Int) := by omega
      clear hcomb e1 ho4
      go_wp2_with fail
      go_roundw
      case rel => exact ⟨r + 1, by omega, by go_num, hb5.setCell (Nat.le_refl _) _, hst⟩
      case measure => simp [intOf]; omega
    · have hrn : r = n := by omega
      subst hrn
      go_wp2_with fail
      go_ret2
      rw [filled_full] at hor
      refine ⟨hb02.trans (hbr.mono hb02.size), _, rfl, .inr ⟨w2.heap.size, 0, rfl, fun i hi => ?_⟩, fun c hc => by show m ≤ _; omega⟩
      rw [Nat.zero_add, hor.cellAt i (by omega)]
      simp [hi, rowTxt]
      rfl

set_option maxHeartbeats 1000000 in
theorem apply_any (a l : Option Addr) (n k ca cl : Nat) (L M : Nat → Nat) (A Y : Mx) (w : World) (hn : n ≤ maxLen) (hA : MatAt w a n L A) (hcl : k ≤ cl) (hclm : cl ≤ 9223372036854775807) (hT : TxtAt w l k M Y) :
    Calls Try.prog 18 #[.slice a n ca, .slice l k cl] w fun e w' => Below w.heap.size w w' ∧ ∃ v er, e = .returned (.tuple #[v, .int .i64 er]) ∧ AppPost n k L M A Y v er w' := by
  by_cases gA : Gd n L
  · have hg := good_any a n ca L A w hn hA true (good_yes gA)
    have n0' : 0 < n := by have := gA.1; omega
    have n0 : (0 : Int) < (n : Int) := by omega
    by_cases hk : k = L 0
    · by_cases hM : ∀ c, c < k → M c = M 0
      · by_cases h5 : M 0 ≤ 65536
        · refine (apply_ok a l n k ca cl L M A Y w hn hA hcl hclm hT gA hk hM h5).mono ?_
          rintro e w' ⟨hb, a', rfl, hT'⟩
          exact ⟨hb, _, _, rfl, .inr (.inr (.inr ⟨gA, ⟨hk, hM⟩, h5, rfl, a', n, rfl, Nat.le_refl _, by unfold maxLen at hn; omega, hT'⟩))⟩
        · have hal := fun x (h : Below w.heap.size w x) => alike_any l k cl M Y x (by unfold maxLen; omega) (hT.below h) true ⟨fun _ => hM, fun _ => rfl⟩
          obtain ⟨ba, oa, rfl, hR⟩ := rows_in hA gA
          rw [← hk] at hR
          have k1 : 1 ≤ k := by rw [hk]; exact gA.2.2.1
          have k16 : k ≤ 16 := by rw [hk]; exact gA.2.2.2.1
          obtain ⟨bl, ol, rfl, hcl0⟩ := hT.cell k1
          have HP : Hid (Gd n L ∧ (k = L 0 ∧ ∀ c, c < k → M c = M 0) ∧ 65536 < M 0) := ⟨gA, ⟨hk, hM⟩, by omega⟩
          obtain ⟨m, hm⟩ : ∃ m, M 0 = m := ⟨_, rfl⟩
          have hmm : m ≤ 9223372036854775807 := by rw [← hm]; exact hT.2 0 (by omega)
          have HC0 : Hid (∀ x, Below w.heap.size w x → ∃ s : ByteArray, s.size = m ∧ x.cell? ⟨bl, ol, none⟩ = some (.string s)) := fun x hx => by
            have h := hcl0 0 (by omega)
            rw [Nat.add_zero] at h
            exact ⟨_, by rw [strE_size, hm], (hx.cell (p := ⟨bl, ol, none⟩) (cell_lt h)).trans h⟩
          have HR : Hid (RowsIn w ba oa n k A) := hR
          have k0 : (0 : Int) < (k : Int) := by omega
          have k0' : 0 < k := by omega
          have t0 : ((k : Int) != (k : Int)) = false := by simp
          have hs5 : (65536 : Int) < (m : Int) := by omega
          clear hR gA hk hM hm hcl0 hn hA hT h5
          go_enter Try.func18, Try.ntmps18
          go_wp2_with fail
          go_at_call 27
          refine hg.mono ?_
          rintro e w1 ⟨rfl, hb1⟩
          obtain ⟨b', o', cr, e1, -⟩ := HR.out w1 hb1 0 n0'
          rw [Nat.add_zero] at e1
          have hal1 := hal w1 hb1
          clear hal hg
          go_wp2_with fail
          go_at_call 36
          refine hal1.mono ?_
          rintro e w2 ⟨rfl, hb2⟩
          have hb02 := hb1.trans (hb2.mono hb1.size)
          obtain ⟨s0, hs0, e2⟩ := HC0.out w2 hb02
          clear hal1 e1 hb1 hb2
          go_wp2_with fail
          go_ret2
          exact ⟨hb02, _, _, rfl, .inr (.inr (.inl ⟨HP.out.1, HP.out.2.1, HP.out.2.2, rfl, rfl⟩))⟩
      · have hal := fun x (h : Below w.heap.size w x) => alike_any l k cl M Y x (by unfold maxLen; omega) (hT.below h) false ⟨fun h => Bool.noConfusion h, fun h => absurd h hM⟩
        obtain ⟨ba, oa, rfl, hR⟩ := rows_in hA gA
        rw [← hk] at hR
        have HP : Hid (Gd n L ∧ ¬ (k = L 0 ∧ ∀ c, c < k → M c = M 0)) := ⟨gA, fun h => hM h.2⟩
        have HR : Hid (RowsIn w ba oa n k A) := hR
        have t0 : ((k : Int) != (k : Int)) = false := by simp
        have k16 : k ≤ 16 := by rw [hk]; exact gA.2.2.2.1
        clear hR gA hk hM hn hA hT
        go_enter Try.func18, Try.ntmps18
        go_wp2_with fail
        go_at_call 27
        refine hg.mono ?_
        rintro e w1 ⟨rfl, hb1⟩
        obtain ⟨b', o', cr, e1, -⟩ := HR.out w1 hb1 0 n0'
        rw [Nat.add_zero] at e1
        have hal1 := hal w1 hb1
        clear hal hg
        go_wp2_with fail
        go_at_call 36
        refine hal1.mono ?_
        rintro e w2 ⟨rfl, hb2⟩
        have hb02 := hb1.trans (hb2.mono hb1.size)
        clear hal1 e1 hb1 hb2
        go_wp2_with fail
        go_ret2
        exact ⟨hb02, _, _, rfl, .inr (.inl ⟨HP.out.1, HP.out.2, rfl, rfl⟩)⟩
    · obtain ⟨ba, oa, rfl, hR⟩ := rows_in hA gA
      have HP : Hid (Gd n L ∧ ¬ (k = L 0 ∧ ∀ c, c < k → M c = M 0)) := ⟨gA, fun h => hk h.1⟩
      have l16 : L 0 ≤ 16 := gA.2.2.2.1
      obtain ⟨l0, hl0⟩ : ∃ l0, L 0 = l0 := ⟨_, rfl⟩
      rw [hl0] at hR l16
      have t0 : ((k : Int) != (l0 : Int)) = true := by rw [← hl0]; simp; omega
      have HR : Hid (RowsIn w ba oa n l0 A) := hR
      have k16 : k ≤ 9223372036854775807 := by omega
      clear hR gA hk hn hA hT hl0
      go_enter Try.func18, Try.ntmps18
      go_wp2_with fail
      go_at_call 27
      refine hg.mono ?_
      rintro e w1 ⟨rfl, hb1⟩
      obtain ⟨b', o', cr, e1, -⟩ := HR.out w1 hb1 0 n0'
      rw [Nat.add_zero] at e1
      clear hg
      go_wp2_with fail
      go_ret2
      exact ⟨hb1, _, _, rfl, .inr (.inl ⟨HP.out.1, HP.out.2, rfl, rfl⟩)⟩
  · have hg := good_any a n ca L A w hn hA false (good_no gA)
    have GA : Hid (¬ Gd n L) := gA
    clear gA
    go_enter Try.func18, Try.ntmps18
    go_wp2_with fail
    go_at_call 27
    refine hg.mono ?_
    rintro e w1 ⟨rfl, hb1⟩
    go_wp2_with fail
    go_ret2
    exact ⟨hb1, _, _, rfl, .inl ⟨GA.out, rfl, rfl⟩⟩
end Go.Proofs.Ythcbnffhkbbkpaa
