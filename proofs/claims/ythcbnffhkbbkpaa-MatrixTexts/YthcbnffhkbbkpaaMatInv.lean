/- The inverse of a matrix: the program's own answer. -/
import Derived.Test.YthcbnffhkbbkpaaMatWiden
namespace Go.Proofs.Ythcbnffhkbbkpaa
open Go.RowKit Go.PlainAid
set_option linter.unusedVariables false

set_option maxHeartbeats 1000000 in
theorem rightHalves_any (base g n m : Nat) (G : Nat → Nat) (X : Mx) (w : World) (h1 : 1 ≤ n) (h2 : n ≤ 16) (hm : m = 2 * n) (hO : OwnW w base g n m G X) :
    Calls Try.prog 31 #[.slice (some ⟨g, 0, none⟩) n n] w fun e w' => ∃ a, e = .returned (.slice a n n) ∧ MatAt w' a n (fun _ => n) (rightM n X) ∧ Below w.heap.size w w' := by
  obtain ⟨j0, hj, hy0, hy1, hy2⟩ := info_parts Try.info48
  have hm1 : m ≤ 32 := by omega
  have hm2 : (2 : Int) * (n : Int) = (m : Int) := by omega
  have hmn : m - n = n := by omega
  have hnm : (n : Int) ≤ (m : Int) := by omega
  have hnm' : (n : Int) < (m : Int) := by omega
  have HM : Hid (m = 2 * n) := hm
  have HO : Hid (OwnW w base g n m G X) := hO
  have hgl := (owns_lt hO.top).2
  clear hm hO
  go_enter Try.func31, Try.ntmps31
  go_wp2_with (at_make; refine wpList_make_full _ rfl _ _ 27 rfl w.heap.size 48 j0 (.slice none 0 0) 1 Try.underlying27 hj hy0 hy1 _ _ _ _ n rfl rfl ?c0 ?c1 ?c2 ?c3 ?c4 ?_)
  case c0 => rfl
  case c1 => rfl
  case c2 => rw [hy2]; omega
  case c3 => unfold maxLen; omega
  case c4 => exact Nat.le_refl _
  intro w1 hown hgrow
  have hbel : Below w.heap.size w w1 := (Below.refl _ _).grown hgrow (Nat.le_refl _) (fun k h => by cases h)
  rw [toList_madeCells_one, ← filled_zero n (fun r => .slice (some ⟨G r, n, none⟩) n n)] at hown
  go_wp2_with fail
  go_loopw [13] (fun i wr => ∃ k : Nat, k ≤ n ∧ i = .int .i64 k ∧ Below w.heap.size w wr ∧ wr.ownsRow w.heap.size 48 1 (.slice (some ⟨w.heap.size, 0, none⟩) n n) n (filled n k (fun r => .slice (some ⟨G r, n, none⟩) n n) (.slice none 0 0))) (fun i _ => (n : Nat) - (intOf i).toNat)
  case atStart => exact ⟨0, Nat.zero_le _, rfl, hbel, hown⟩
  case round =>
    obtain ⟨k, hk, rfl, hbel', hown'⟩ := hrel
    by_cases hlt : k < n
    · obtain ⟨v0, hcell⟩ : ∃ v0, wr.cell? ⟨w.heap.size, k, none⟩ = some v0 := by
        rw [hown'.cellAt k (by omega)]; exact ⟨_, List.getElem?_eq_getElem (by simp [filled]; exact hlt)⟩
      have hfr := hown'.frozenAt k
      have hst := (hown'.stored k (.slice (some ⟨G k, n, none⟩) n n)).1
      rw [filled_set n k (fun r => .slice (some ⟨G r, n, none⟩) n n) _ hlt] at hst
      have hrow : wr.cell? ⟨g, k, none⟩ = some (.slice (some ⟨G k, 0, none⟩) m m) := (hbel'.cell (p := ⟨g, k, none⟩) hgl).trans (HO.out.cellTop k hlt)
      go_wp2_with fail
      go_roundw
      case rel => exact ⟨k + 1, by omega, by go_num, hbel'.setCell (Nat.le_refl _) _, hst⟩
      case measure => simp [intOf]; omega
    · have hkn : k = n := by omega
      subst hkn
      go_wp2_with fail
      go_ret
      refine ⟨_, rfl, ⟨fun r => some ⟨G r, k, none⟩, fun _ => k, .inr ⟨w.heap.size, 0, rfl, fun r hr => ?_⟩, fun r hr => ⟨by show k ≤ maxLen; unfold maxLen; omega, .inr ⟨G r, k, rfl, fun c hc => ?_⟩⟩⟩, hbel'⟩
      · rw [filled_full] at hown'
        rw [Nat.zero_add, hown'.cellAt r (by omega)]
        simp [hr]
      · have hc' : c < k := hc
        have hr0 := HO.out.rows r hr
        have e := HO.out.cell r (k + c) hr (by have := HM.out; omega)
        exact (hbel'.cell (p := ⟨G r, k + c, none⟩) (owns_lt hr0).2).trans e

theorem square_any (a : Option Addr) (n ca : Nat) (L : Nat → Nat) (X : Mx) (w : World) (ha : MatAt w a n L X) (g : Gd n L) (q : Bool) (hq : q = true ↔ n = L 0) :
    Calls Try.prog 28 #[.slice a n ca] w fun e w' => e = .returned (.bool q) ∧ w' = w := by
  obtain ⟨AR, CR, hA⟩ := ha
  obtain ⟨b, o, b', o', rfl, _, hc, _⟩ := hA.cell 0 0 (by have := g.1; omega) (by have := g.2.2.1; omega)
  rw [Nat.add_zero] at hc
  have g1 := g.1
  have g2 := g.2.1
  have g3 := g.2.2.1
  have g4 := g.2.2.2.1
  generalize L 0 = l at hc hq g3 g4
  generalize CR 0 = cr at hc
  have h0 : (0 : Int) < (n : Int) := by omega
  have hq' : ((n : Int) == (l : Int)) = q := by
    by_cases e : n = l
    · rw [hq.2 e, e]; simp
    · have : q = false := by
        cases q with
        | false => rfl
        | true => exact absurd (hq.1 rfl) e
      rw [this]
      simp
      omega
  clear hq hA g
  go_enter Try.func28, Try.ntmps28
  go_wp2
  go_ret
  exact ⟨by rw [← hq']; rfl, rfl⟩

/-- What Invert answers of rows. -/
def InvPost (n : Nat) (L : Nat → Nat) (A : Mx) (e : Ending) (w' : World) : Prop :=
  (¬ Gd n L ∧ e = .returned (.tuple #[.slice none 0 0, .int .i64 4])) ∨
  (Gd n L ∧ n ≠ L 0 ∧ e = .returned (.tuple #[.slice none 0 0, .int .i64 7])) ∨
  (Gd n L ∧ n = L 0 ∧ e = .returned (.tuple #[.slice none 0 0, .int .i64 6]) ∧ ∃ c U, c < n ∧ Reach n (2 * n) (wideM n A) U ∧ (∀ r, r < n → ∀ j, j < c → U r j = idM r j) ∧ ∀ r, c ≤ r → r < n → U r c = 0) ∨
  (Gd n L ∧ n = L 0 ∧ ∃ a' U, e = .returned (.tuple #[.slice a' n n, .int .i64 0]) ∧ MatAt w' a' n (fun _ => n) (rightM n U) ∧ Reach n (2 * n) (wideM n A) U ∧ ∀ r, r < n → ∀ j, j < n → U r j = idM r j)

set_option maxHeartbeats 1000000 in
theorem invert_any (a : Option Addr) (n ca : Nat) (L : Nat → Nat) (A : Mx) (w : World) (hn : n ≤ maxLen) (hA : MatAt w a n L A) :
    Calls Try.prog 13 #[.slice a n ca] w fun e w' => Below w.heap.size w w' ∧ InvPost n L A e w' := by
  by_cases gA : Gd n L
  · have hg := good_any a n ca L A w hn hA true (good_yes gA)
    by_cases hs : n = L 0
    · have hsq := fun w1 h => square_any a n ca L A w1 h gA true (by simp [hs])
      have hwid := fun w1 h => widen_any a n ca (2 * n) L A w1 gA.1 gA.2.1 rfl h (fun r hr => by rw [gA.2.2.2.2 r hr, ← hs])
      have hset := fun base g c G X w1 hc hO hb hcol => settle_any base g n (2 * n) c G X w1 gA.1 gA.2.1 rfl hc hO hb hcol
      have hrh := fun base g G X w1 hO => rightHalves_any base g n (2 * n) G X w1 gA.1 gA.2.1 rfl hO
      have g1 := gA.1
      have g2 := gA.2.1
      have GA : Hid (Gd n L) := gA
      have HS : Hid (n = L 0) := hs
      clear gA hs hn
      go_enter Try.func13, Try.ntmps13
      go_wp2_with fail
      go_at_call 27
      refine hg.mono ?_
      rintro e w1 ⟨rfl, hb1⟩
      go_wp2_with fail
      go_at_call 28
      refine (hsq _ (hA.below hb1)).mono ?_
      rintro e w1' ⟨rfl, rfl⟩
      go_wp2_with fail
      go_at_call 29
      refine (hwid _ (hA.below hb1)).mono ?_
      rintro e w2 ⟨g, G, rfl, hO, hb2⟩
      have hW := hO.wide
      clear hO hg hsq hwid
      have hbb : Below w.heap.size w w2 := hb1.trans (hb2.mono hb1.size)
      obtain ⟨base, hbs⟩ : ∃ base, w1'.heap.size = base := ⟨_, rfl⟩
      rw [hbs] at hW
      have hbl : w.heap.size ≤ base := by rw [← hbs]; exact hb1.size
      have hbl2 : base ≤ w2.heap.size := by rw [← hbs]; exact hb2.size
      clear hbs
      go_wp2_with fail
      go_loopw [16] (fun i wr => ∃ k : Nat, k ≤ n ∧ i = .int .i64 k ∧ Below w.heap.size w wr ∧ base ≤ wr.heap.size ∧ ∃ G U, OwnW wr base g n (2 * n) G U ∧ Reach n (2 * n) (wideM n A) U ∧ ∀ r, r < n → ∀ j, j < k → U r j = idM r j) (fun i _ => (n : Nat) - (intOf i).toNat)
      case atStart => exact ⟨0, Nat.zero_le _, rfl, hbb, hbl2, G, _, hW, .refl, fun r _ j hj => by omega⟩
      case round =>
        obtain ⟨k, hk, rfl, hbk, hbk', G', U, hOk, hRk, hck⟩ := hrel
        have HR : Hid (Reach n (2 * n) (wideM n A) U) := hRk
        have HC : Hid (∀ r, r < n → ∀ j, j < k → U r j = idM r j) := hck
        clear hRk hck
        by_cases hlt : k < n
        · have hst := hset base g k G' U wr hlt hOk hbk' HC.out
          clear hW
          go_wp2_with fail
          go_at_call 30
          refine hst.mono ?_
          rintro e w3 ⟨hb3, ⟨rfl, hz⟩ | ⟨rfl, G2, U2, hO2, hR2, hc2⟩⟩
          · have HZ : Hid (∀ r, k ≤ r → r < n → U r k = 0) := hz
            clear hz
            go_wp2_with fail
            go_ret2
            exact ⟨hbk.trans (hb3.mono hbl), .inr (.inr (.inl ⟨GA.out, HS.out, rfl, k, U, hlt, HR.out, HC.out, HZ.out⟩))⟩
          · have HC2 : Hid (∀ r, r < n → ∀ j, j < k + 1 → U2 r j = idM r j) := hc2
            have HR2 : Hid (Reach n (2 * n) U U2) := hR2
            clear hc2 hR2
            go_wp2_with fail
            go_roundw
            case rel => exact ⟨k + 1, by omega, by go_num, hbk.trans (hb3.mono hbl), Nat.le_trans hbk' hb3.size, G2, U2, hO2, HR.out.trans HR2.out, HC2.out⟩
            case measure => simp [intOf]; omega
        · have hkn : k = n := by omega
          subst hkn
          have hr := hrh base g G' U wr hOk
          clear hW
          go_wp2_with fail
          go_at_call 31
          refine hr.mono ?_
          rintro e w3 ⟨a', rfl, hM, hb3⟩
          go_wp2_with fail
          go_ret2
          exact ⟨hbk.trans (hb3.mono hbk.size), .inr (.inr (.inr ⟨GA.out, HS.out, a', U, rfl, hM, HR.out, HC.out⟩))⟩
    · have hsq := fun w1 h => square_any a n ca L A w1 h gA false (by simp [hs])
      have GA : Hid (Gd n L) := gA
      have HS : Hid (n ≠ L 0) := hs
      clear gA hs hn
      go_enter Try.func13, Try.ntmps13
      go_wp2_with fail
      go_at_call 27
      refine hg.mono ?_
      rintro e w1 ⟨rfl, hb1⟩
      go_wp2_with fail
      go_at_call 28
      refine (hsq _ (hA.below hb1)).mono ?_
      rintro e w1' ⟨rfl, rfl⟩
      go_wp2_with fail
      go_ret2
      exact ⟨hb1, .inr (.inl ⟨GA.out, HS.out, rfl⟩)⟩
  · have hg := good_any a n ca L A w hn hA false (good_no gA)
    have GA : Hid (¬ Gd n L) := gA
    clear gA
    go_enter Try.func13, Try.ntmps13
    go_wp2_with fail
    go_at_call 27
    refine hg.mono ?_
    rintro e w1 ⟨rfl, hb1⟩
    go_wp2_with fail
    go_ret2
    exact ⟨hb1, .inl ⟨GA.out, rfl⟩⟩
end Go.Proofs.Ythcbnffhkbbkpaa
