/- 36 texts in one. -/
import Derived.Test.YtdpcbiccbhlonaaMatSettle
import Derived.Deep.RegionHeld3
import Derived.Test.YtdpcbiccbhlonaaGf
import Derived.Test.YtdpcbiccbhlonaaGfMul
import Derived.Below
import Derived.OneCell
import Derived.OwnWalk
import Derived.Laws.OwnMore
import Derived.Test.YtdpcbiccbhlonaaGfPow
import Derived.Test.YtdpcbiccbhlonaaXor
import Derived.Deep.QuietTactic
import Derived.BigQuiet
import Derived.Lib.AppendZeros
import Derived.Test.YtdpcbiccbhlonaaMatAt
import Derived.Deep.Matrix
import Derived.SliceStrings
import Derived.Test.YtdpcbiccbhlonaaMatMake
import Derived.Maps.AppendAt
import Derived.BigRegion
import Derived.Laws.StructEq
import Derived.ChangeKeysEq
/- A matrix with the unit matrix to its right, laid in memory of the call's own; the right halves of its rows. -/
namespace Go.Proofs.Ytdpcbiccbhlonaa
open Go.RowKit Go.PlainAid
set_option linter.unusedVariables false

def halfL (m n : Nat) (f : Nat → E) : List Value := filled m n (fun j => byteV (f j)) (.int .u8 0)
theorem halfL_length (m n : Nat) (f : Nat → E) : (halfL m n f).length = m := by simp [halfL, filled]
theorem run_copy_half (w : World) (g m n ca : Nat) (a : Addr) (f : Nat → E) (cur : Array Value) (ty : TypeId) (hg : w.heap[g]? = some (.cells cur 5 (0, 0))) (hc : cur.toList = List.replicate m (.int .u8 0)) (hn : n ≤ m)
    (hs : ∀ j v, (bytesL n f)[j]? = some v → w.cell? (a.add j) = some v) :
    (Builtin.copy_ #[46, 46] ty #[.slice (some ⟨g, 0, none⟩) m m, .slice (some a) n ca]).run Try.prog w = .ok (goInt n) (w.setRow g (halfL m n f).toArray) := by
  have hsz : cur.size = m := by rw [← Array.length_toList, hc]; simp
  have h := run_copy_row (P := Try.prog) w 46 46 ty 5 g 0 m m a n ca cur 5 (bytesL n f) Try.underlying46 (by obtain ⟨i0, hi, hz0, hz1, hz2⟩ := info_parts Try.info5; rw [hi]; simp [hz1]) hg
    (by rw [bytesL_length]; exact (Nat.min_eq_left hn).symm) hs (by rw [bytesL_length]; omega) (fun v hv => by
      obtain ⟨i, _, rfl⟩ := List.mem_map.1 hv
      rfl)
  rw [bytesL_length] at h
  rw [h]
  congr 3
  rw [hc]
  unfold halfL filled bytesL
  apply List.ext_getElem
  · simp; omega
  · intro i h1 h2
    simp only [List.getElem_map, List.getElem_range]
    by_cases e : i < n
    · rw [if_pos e]
      simp [e]
    · rw [if_neg e]
      simp only [List.take_zero, List.nil_append]
      rw [List.getElem_append_right (by simp; omega)]
      simp
theorem half_set (m n k : Nat) (A : Mx) (hm : m = 2 * n) (hk : k < n) : (halfL m n (A k)).set (n + k) (.int .u8 1) = bytesL m (wideM n A k) := by
  unfold halfL filled bytesL
  apply List.ext_getElem
  · simp
  · intro i h1 h2
    rw [List.getElem_set]
    simp only [List.getElem_map, List.getElem_range, wideM]
    by_cases e : n + k = i
    · subst e
      rw [if_pos rfl, if_neg (by omega)]
      simp [idM, byteV, E.one_v]
    · rw [if_neg e]
      by_cases e' : i < n
      · rw [if_pos e', if_pos e']
      · rw [if_neg e', if_neg e']
        have : ¬ k = i - n := by omega
        simp [idM, this, byteV, E.zero_v]
theorem owns_setRow_list {w : World} {base g m : Nat} {xs ys : List Value} (h : w.ownsRow base 5 1 (.slice (some ⟨g, 0, none⟩) m m) m xs) (hl : ys.length = m) : (w.setRow g ys.toArray).ownsRow base 5 1 (.slice (some ⟨g, 0, none⟩) m m) m ys := by
  obtain ⟨cur, h1, h2, h3, h4, h5⟩ := owns_heap h
  exact owns_of (setRow_heap w g _ _ 5 _ h1) h4 hl h5

set_option maxHeartbeats 1000000 in
theorem widen_any (a : Option Addr) (n ca m : Nat) (L : Nat → Nat) (A : Mx) (w : World) (h1 : 1 ≤ n) (h2 : n ≤ 16) (hm : m = 2 * n) (hA : MatAt w a n L A) (hL : ∀ r, r < n → L r = n) :
    Calls Try.prog 61 #[.slice a n ca] w fun e w' => ∃ g G, e = .returned (.slice (some ⟨g, 0, none⟩) n n) ∧ OwnM w' w.heap.size g n m n G (wideM n A) ∧ Below w.heap.size w w' := by
  obtain ⟨i0, hi, hz0, hz1, hz2⟩ := info_parts Try.info5
  obtain ⟨j0, hj, hy0, hy1, hy2⟩ := info_parts Try.info46
  have hm1 : m ≤ 32 := by omega
  have hm2 : (2 : Int) * (n : Int) = (m : Int) := by omega
  have HM : Hid (m = 2 * n) := hm
  clear hm
  obtain ⟨AR, CR, hA⟩ := hA
  obtain ⟨ba, oa, _, _, rfl, _, _, _⟩ := hA.cell 0 0 (by omega) (by rw [hL 0 (by omega)]; omega)
  have HA : Hid (∀ k, k < n → ∃ b' o' cr, w.cell? ⟨ba, oa + k, none⟩ = some (.slice (some ⟨b', o', none⟩) n cr) ∧ ∀ c, c < n → w.cell? ⟨b', o' + c, none⟩ = some (byteV (A k c))) := fun k hk => by
    obtain ⟨b, o, b', o', e1, e2, e3, _⟩ := hA.cell k 0 hk (by rw [hL k hk]; omega)
    cases e1
    rw [hL k hk] at e3
    refine ⟨b', o', _, e3, fun c hc => ?_⟩
    obtain ⟨_, _, b2, o2, _, f2, _, f4⟩ := hA.cell k c hk (by rw [hL k hk]; exact hc)
    rw [e2] at f2
    cases f2
    exact f4
  clear hA hL
  go_enter Try.func61, Try.ntmps61
  go_wp2_with (at_make; refine wpList_make_full _ rfl _ _ 50 rfl w.heap.size 46 j0 (.slice none 0 0) 1 Try.underlying50 hj hy0 hy1 _ _ _ _ n rfl rfl ?c0 ?c1 ?c2 ?c3 ?c4 ?_)
  case c0 => rfl
  case c1 => rfl
  case c2 => rw [hy2]; omega
  case c3 => unfold maxLen; omega
  case c4 => exact Nat.le_refl _
  intro w1 hown hgrow
  have hbel : Below w.heap.size w w1 := (Below.refl _ _).grown hgrow (Nat.le_refl _) (fun k h => by cases h)
  rw [toList_madeCells_one, ← filled_zero n (rowV m fun _ => 0)] at hown
  go_wp2_with fail
  go_loopw [12] (fun i wr => ∃ k : Nat, k ≤ n ∧ i = .int .i64 k ∧ Below w.heap.size w wr ∧ ∃ G, OwnM wr w.heap.size w.heap.size n m k G (wideM n A)) (fun i _ => (n : Nat) - (intOf i).toNat)
  case atStart => exact ⟨0, Nat.zero_le _, rfl, hbel, fun _ => 0, ⟨hown, fun r hr => by omega, fun i j _ _ => by omega⟩⟩
  case round =>
    obtain ⟨k, hk, rfl, hbel', G, hO⟩ := hrel
    by_cases hlt : k < n
    · obtain ⟨v0, hcell⟩ : ∃ v0, wr.cell? ⟨w.heap.size, k, none⟩ = some v0 := by
        rw [hO.top.cellAt k (by omega)]; exact ⟨_, List.getElem?_eq_getElem (by simp [filled]; exact hlt)⟩
      have hfr := hO.top.frozenAt k
      obtain ⟨g', hg'⟩ : ∃ g', wr.heap.size = g' := ⟨_, rfl⟩
      have hbl : w.heap.size < g' := by rw [← hg']; exact (owns_lt hO.top).2
      go_wp2_with (at_make; refine wpList_make_full _ rfl _ _ 46 rfl w.heap.size 5 i0 (.int .u8 0) 1 Try.underlying46 hi hz0 hz1 _ _ _ _ m rfl rfl ?c0 ?c1 ?c2 ?c3 ?c4 ?_)
      case c0 => rfl
      case c1 => rfl
      case c2 => rw [hz2]; omega
      case c3 => unfold maxLen; omega
      case c4 => exact hbel'.size
      intro w2 hown2 hgrow2
      have hbel2 : Below g' wr w2 := by rw [← hg']; exact (Below.refl _ _).grown hgrow2 (Nat.le_refl _) (fun k h => by cases h)
      rw [toList_madeCells_one, ← filled_zero m (fun c => byteV (A k c))] at hown2
      have htop2 := owns_at hO.top hbel2 hbl
      have hc2 : w2.cell? ⟨w.heap.size, k, none⟩ = some v0 := (hbel2.cell (p := ⟨w.heap.size, k, none⟩) hbl).trans hcell
      have hf2 := htop2.frozenAt k
      have hst2 := htop2.stored k (.slice (some ⟨g', 0, none⟩) m m)
      go_wp2_with fail
      obtain ⟨w3, hw3⟩ : ∃ w3, w3 = w2.setCell ⟨w.heap.size, k, none⟩ (.slice (some ⟨g', 0, none⟩) m m) := ⟨_, rfl⟩
      rw [← hw3] at hst2 ⊢
      have hbel3 : Below w.heap.size w w3 := by rw [hw3]; exact (hbel'.trans (hbel2.mono (by rw [← hg']; exact hbel'.size))).setCell (Nat.le_refl _) _
      have hown3 : w3.ownsRow w.heap.size 5 1 (.slice (some ⟨g', 0, none⟩) m m) m (List.replicate m (.int .u8 0)) := by
        rw [hw3]
        rw [filled_zero] at hown2
        exact ownsRow_setCell_other hown2 (by simp [Value.ownBlock]; omega) _
      have hbel23 : ∀ r, r < k → w3.ownsRow w.heap.size 5 1 (.slice (some ⟨G r, 0, none⟩) m m) m (bytesL m (wideM n A r)) := fun r hr => by
        have h0 := hO.rows r hr
        rw [hw3]; exact ownsRow_setCell_other (owns_at h0.2 hbel2 (by rw [← hg']; exact (owns_lt h0.2).2)) (by simp [Value.ownBlock]; omega) _
      have hc3 := hst2.1.cellAt k (by omega)
      rw [List.getElem?_set_self (by simp [filled]; exact hlt)] at hc3
      obtain ⟨b', o', cr, e3, hsrc⟩ := HA.out k hlt
      have ha3 : w3.cell? ⟨ba, oa + k, none⟩ = some (.slice (some ⟨b', o', none⟩) n cr) := (hbel3.cell (p := ⟨ba, oa + k, none⟩) (cell_lt e3)).trans e3
      obtain ⟨cur, u1, u2, u3, u4, u5⟩ := owns_heap hown3
      have hcp : ∀ ty, (Builtin.copy_ #[46, 46] ty #[.slice (some ⟨g', 0, none⟩) m m, .slice (some ⟨b', o', none⟩) n cr]).run Try.prog w3.drew = .ok (goInt n) (w3.drew.setRow g' (halfL m n (A k)).toArray) := fun ty =>
        run_copy_half w3.drew g' m n cr ⟨b', o', none⟩ (A k) cur ty u1 u3 (by have := HM.out; omega) (fun j v hv => by
          have hj : j < n := by
            rcases Nat.lt_or_ge j n with h | h
            · exact h
            · rw [List.getElem?_eq_none (by rw [bytesL_length]; exact h)] at hv; cases hv
          rw [bytesL_at n _ j hj] at hv
          cases hv
          have q := hsrc j hj
          rw [show ((⟨b', o', none⟩ : Addr).add j) = ⟨b', o' + j, none⟩ from by simp [Addr.add]]
          exact (hbel3.cell (p := ⟨b', o' + j, none⟩) (cell_lt q)).trans q)
      have hbal : ba < w.heap.size := cell_lt e3
      have hk1 : (w3.drew.setRow g' (halfL m n (A k)).toArray).cell? ⟨w.heap.size, k, none⟩ = some (.slice (some ⟨g', 0, none⟩) m m) := by
        rw [cell_setRow_other _ _ _ _ (by simp; omega)]; exact hc3
      have hk2 : (w3.drew.setRow g' (halfL m n (A k)).toArray).cell? ⟨ba, oa + k, none⟩ = some (.slice (some ⟨b', o', none⟩) n cr) := by
        rw [cell_setRow_other _ _ _ _ (by simp; omega)]; exact ha3
      have hown4 : (w3.drew.setRow g' (halfL m n (A k)).toArray).ownsRow w.heap.size 5 1 (.slice (some ⟨g', 0, none⟩) m m) m (halfL m n (A k)) :=
        owns_setRow_list (w := w3.drew) hown3.drew (halfL_length _ _ _)
      have hb34 : Below g' w3 (w3.drew.setRow g' (halfL m n (A k)).toArray) := below_setRow (Below.refl _ _).drew (Nat.le_refl _) _
      generalize w3.drew.setRow g' (halfL m n (A k)).toArray = w4 at hcp hk1 hk2 hown4 hb34
      clear hw3 hc2 hf2 htop2 hown2 hown hcell hfr u1 u2 u3 u5 hown3 hsrc e3
      have p1 : (n : Int) + (k : Int) = ((n + k : Nat) : Int) := by omega
      have hnk : n + k < m := by have := HM.out; omega
      have hnk' : ((n + k : Nat) : Int) < (m : Int) := by omega
      obtain ⟨q, hq⟩ : ∃ q, n + k = q := ⟨_, rfl⟩
      rw [hq] at p1 hnk hnk'
      obtain ⟨v1, hv1⟩ : ∃ v1, w4.cell? ⟨g', q, none⟩ = some v1 := by
        rw [hown4.cellAt q (by omega)]; exact ⟨_, List.getElem?_eq_getElem (by rw [halfL_length]; exact hnk)⟩
      have hf4 := hown4.frozenAt q
      have hst4 := (hown4.stored q (.int .u8 1)).1
      rw [← hq, half_set m n k A HM.out hlt] at hst4
      rw [hq] at hst4
      have HQ : Hid (n + k = q) := hq
      clear hq
      go_wp2_with fail
      go_region_held3 (fun x => x.cell? ⟨w.heap.size, k, none⟩ = some (.slice (some ⟨g', 0, none⟩) m m) ∧ x.cell? ⟨ba, oa + k, none⟩ = some (.slice (some ⟨b', o', none⟩) n cr)) (first | exact ⟨hc3, ha3⟩ | exact ⟨hk1, hk2⟩) (fail)
      go_wp2_with fail
      go_roundw
      case rel =>
        have hb35 : Below g' w3 (w4.setCell ⟨g', q, none⟩ (.int .u8 1)) := hb34.setCell (Nat.le_refl _) _
        refine ⟨k + 1, by omega, by go_num, hbel3.trans (hb35.mono (by omega)), fun r => if r < k then G r else g', ?_, ?_, ?_⟩
        · have h5 : filled n (k + 1) (rowV m fun r => if r < k then G r else g') (.slice none 0 0) = (filled n k (rowV m G) (.slice none 0 0)).set k (.slice (some ⟨g', 0, none⟩) m m) := by
            have h6 : filled n k (rowV m G) (.slice none 0 0) = filled n k (rowV m fun r => if r < k then G r else g') (.slice none 0 0) := by
              unfold filled
              refine List.map_congr_left fun i _ => ?_
              by_cases e : i < k
              · simp [e, rowV]
              · simp [e]
            rw [h6, ← filled_set n k _ _ hlt]
            simp [rowV]
          rw [h5]
          exact owns_at hst2.1 hb35 hbl
        · intro r hr
          by_cases e : r < k
          · simp only [if_pos e]
            have h0 := hO.rows r e
            exact ⟨h0.1, owns_at (hbel23 r e) hb35 (by rw [← hg']; exact (owns_lt h0.2).2)⟩
          · obtain rfl : r = k := by omega
            simp only [if_neg e]
            exact ⟨hbl, hst4⟩
        · intro i l h5 h6
          by_cases e : l < k
          · simp only [if_pos e, if_pos (show i < k by omega)]
            exact hO.up i l h5 e
          · simp only [if_neg e, if_pos (show i < k by omega)]
            rw [← hg']
            exact (owns_lt (hO.rows i (by omega)).2).2
      case measure => simp [intOf]; omega
    · have hkn : k = n := by omega
      subst hkn
      go_wp2_with fail
      go_ret
      exact ⟨_, G, rfl, hO, hbel'⟩
end Go.Proofs.Ytdpcbiccbhlonaa
/- The inverse of a matrix: the program's own answer. -/
namespace Go.Proofs.Ytdpcbiccbhlonaa
open Go.RowKit Go.PlainAid
set_option linter.unusedVariables false

set_option maxHeartbeats 1000000 in
theorem rightHalves_any (base g n m : Nat) (G : Nat → Nat) (X : Mx) (w : World) (h1 : 1 ≤ n) (h2 : n ≤ 16) (hm : m = 2 * n) (hO : OwnW w base g n m G X) :
    Calls Try.prog 63 #[.slice (some ⟨g, 0, none⟩) n n] w fun e w' => ∃ a, e = .returned (.slice a n n) ∧ MatAt w' a n (fun _ => n) (rightM n X) ∧ Below w.heap.size w w' := by
  obtain ⟨j0, hj, hy0, hy1, hy2⟩ := info_parts Try.info46
  have hm1 : m ≤ 32 := by omega
  have hm2 : (2 : Int) * (n : Int) = (m : Int) := by omega
  have hmn : m - n = n := by omega
  have hnm : (n : Int) ≤ (m : Int) := by omega
  have hnm' : (n : Int) < (m : Int) := by omega
  have HM : Hid (m = 2 * n) := hm
  have HO : Hid (OwnW w base g n m G X) := hO
  have hgl := (owns_lt hO.top).2
  clear hm hO
  go_enter Try.func63, Try.ntmps63
  go_wp2_with (at_make; refine wpList_make_full _ rfl _ _ 50 rfl w.heap.size 46 j0 (.slice none 0 0) 1 Try.underlying50 hj hy0 hy1 _ _ _ _ n rfl rfl ?c0 ?c1 ?c2 ?c3 ?c4 ?_)
  case c0 => rfl
  case c1 => rfl
  case c2 => rw [hy2]; omega
  case c3 => unfold maxLen; omega
  case c4 => exact Nat.le_refl _
  intro w1 hown hgrow
  have hbel : Below w.heap.size w w1 := (Below.refl _ _).grown hgrow (Nat.le_refl _) (fun k h => by cases h)
  rw [toList_madeCells_one, ← filled_zero n (fun r => .slice (some ⟨G r, n, none⟩) n n)] at hown
  go_wp2_with fail
  go_loopw [13] (fun i wr => ∃ k : Nat, k ≤ n ∧ i = .int .i64 k ∧ Below w.heap.size w wr ∧ wr.ownsRow w.heap.size 46 1 (.slice (some ⟨w.heap.size, 0, none⟩) n n) n (filled n k (fun r => .slice (some ⟨G r, n, none⟩) n n) (.slice none 0 0))) (fun i _ => (n : Nat) - (intOf i).toNat)
  case atStart => exact ⟨0, Nat.zero_le _, rfl, hbel, hown⟩
  case round =>
    obtain ⟨k, hk, rfl, hbel', hown'⟩ := hrel
    by_cases hlt : k < n
    · obtain ⟨v0, hcell⟩ : ∃ v0, wr.cell? ⟨w.heap.size, k, none⟩ = some v0 := by
        rw [hown'.cellAt k (by omega)]; exact ⟨_, List.getElem?_eq_getElem (by simp [filled]; exact hlt)⟩
      have hfr := hown'.frozenAt k
      have hst := (hown'.stored k (.slice (some ⟨G k, n, none⟩) n n)).1
      rw [filled_set n k (fun r => .slice (some ⟨G r, n, none⟩) n n) _ hlt] at hst
      have hrow : wr.cell? ⟨g, k, none⟩ = some (.slice (some ⟨G k, 0, none⟩) m m) := (hbel'.cell (p := ⟨g, k, none⟩) hgl).trans (HO.out.cellTop k hlt)
      go_wp2_with fail
      go_roundw
      case rel => exact ⟨k + 1, by omega, by go_num, hbel'.setCell (Nat.le_refl _) _, hst⟩
      case measure => simp [intOf]; omega
    · have hkn : k = n := by omega
      subst hkn
      go_wp2_with fail
      go_ret
      refine ⟨_, rfl, ⟨fun r => some ⟨G r, k, none⟩, fun _ => k, .inr ⟨w.heap.size, 0, rfl, fun r hr => ?_⟩, fun r hr => ⟨by show k ≤ maxLen; unfold maxLen; omega, .inr ⟨G r, k, rfl, fun c hc => ?_⟩⟩⟩, hbel'⟩
      · rw [filled_full] at hown'
        rw [Nat.zero_add, hown'.cellAt r (by omega)]
        simp [hr]
      · have hc' : c < k := hc
        have hr0 := HO.out.rows r hr
        have e := HO.out.cell r (k + c) hr (by have := HM.out; omega)
        exact (hbel'.cell (p := ⟨G r, k + c, none⟩) (owns_lt hr0).2).trans e

theorem square_any (a : Option Addr) (n ca : Nat) (L : Nat → Nat) (X : Mx) (w : World) (ha : MatAt w a n L X) (g : Gd n L) (q : Bool) (hq : q = true ↔ n = L 0) :
    Calls Try.prog 60 #[.slice a n ca] w fun e w' => e = .returned (.bool q) ∧ w' = w := by
  obtain ⟨AR, CR, hA⟩ := ha
  obtain ⟨b, o, b', o', rfl, _, hc, _⟩ := hA.cell 0 0 (by have := g.1; omega) (by have := g.2.2.1; omega)
  rw [Nat.add_zero] at hc
  have g1 := g.1
  have g2 := g.2.1
  have g3 := g.2.2.1
  have g4 := g.2.2.2.1
  generalize L 0 = l at hc hq g3 g4
  generalize CR 0 = cr at hc
  have h0 : (0 : Int) < (n : Int) := by omega
  have hq' : ((n : Int) == (l : Int)) = q := by
    by_cases e : n = l
    · rw [hq.2 e, e]; simp
    · have : q = false := by
        cases q with
        | false => rfl
        | true => exact absurd (hq.1 rfl) e
      rw [this]
      simp
      omega
  clear hq hA g
  go_enter Try.func60, Try.ntmps60
  go_wp2
  go_ret
  exact ⟨by rw [← hq']; rfl, rfl⟩

/-- What Invert answers of rows. -/
def InvPost (n : Nat) (L : Nat → Nat) (A : Mx) (e : Ending) (w' : World) : Prop :=
  (¬ Gd n L ∧ e = .returned (.tuple #[.slice none 0 0, .int .i64 4])) ∨
  (Gd n L ∧ n ≠ L 0 ∧ e = .returned (.tuple #[.slice none 0 0, .int .i64 7])) ∨
  (Gd n L ∧ n = L 0 ∧ e = .returned (.tuple #[.slice none 0 0, .int .i64 6]) ∧ ∃ c U, c < n ∧ Reach n (2 * n) (wideM n A) U ∧ (∀ r, r < n → ∀ j, j < c → U r j = idM r j) ∧ ∀ r, c ≤ r → r < n → U r c = 0) ∨
  (Gd n L ∧ n = L 0 ∧ ∃ a' U, e = .returned (.tuple #[.slice a' n n, .int .i64 0]) ∧ MatAt w' a' n (fun _ => n) (rightM n U) ∧ Reach n (2 * n) (wideM n A) U ∧ ∀ r, r < n → ∀ j, j < n → U r j = idM r j)

set_option maxHeartbeats 1000000 in
theorem invert_any (a : Option Addr) (n ca : Nat) (L : Nat → Nat) (A : Mx) (w : World) (hn : n ≤ maxLen) (hA : MatAt w a n L A) :
    Calls Try.prog 46 #[.slice a n ca] w fun e w' => Below w.heap.size w w' ∧ InvPost n L A e w' := by
  by_cases gA : Gd n L
  · have hg := good_any a n ca L A w hn hA true (good_yes gA)
    by_cases hs : n = L 0
    · have hsq := fun w1 h => square_any a n ca L A w1 h gA true (by simp [hs])
      have hwid := fun w1 h => widen_any a n ca (2 * n) L A w1 gA.1 gA.2.1 rfl h (fun r hr => by rw [gA.2.2.2.2 r hr, ← hs])
      have hset := fun base g c G X w1 hc hO hb hcol => settle_any base g n (2 * n) c G X w1 gA.1 gA.2.1 rfl hc hO hb hcol
      have hrh := fun base g G X w1 hO => rightHalves_any base g n (2 * n) G X w1 gA.1 gA.2.1 rfl hO
      have g1 := gA.1
      have g2 := gA.2.1
      have GA : Hid (Gd n L) := gA
      have HS : Hid (n = L 0) := hs
      clear gA hs hn
      go_enter Try.func46, Try.ntmps46
      go_wp2_with fail
      go_at_call 37
      refine hg.mono ?_
      rintro e w1 ⟨rfl, hb1⟩
      go_wp2_with fail
      go_at_call 60
      refine (hsq _ (hA.below hb1)).mono ?_
      rintro e w1' ⟨rfl, rfl⟩
      go_wp2_with fail
      go_at_call 61
      refine (hwid _ (hA.below hb1)).mono ?_
      rintro e w2 ⟨g, G, rfl, hO, hb2⟩
      have hW := hO.wide
      clear hO hg hsq hwid
      have hbb : Below w.heap.size w w2 := hb1.trans (hb2.mono hb1.size)
      obtain ⟨base, hbs⟩ : ∃ base, w1'.heap.size = base := ⟨_, rfl⟩
      rw [hbs] at hW
      have hbl : w.heap.size ≤ base := by rw [← hbs]; exact hb1.size
      have hbl2 : base ≤ w2.heap.size := by rw [← hbs]; exact hb2.size
      clear hbs
      go_wp2_with fail
      go_loopw [16] (fun i wr => ∃ k : Nat, k ≤ n ∧ i = .int .i64 k ∧ Below w.heap.size w wr ∧ base ≤ wr.heap.size ∧ ∃ G U, OwnW wr base g n (2 * n) G U ∧ Reach n (2 * n) (wideM n A) U ∧ ∀ r, r < n → ∀ j, j < k → U r j = idM r j) (fun i _ => (n : Nat) - (intOf i).toNat)
      case atStart => exact ⟨0, Nat.zero_le _, rfl, hbb, hbl2, G, _, hW, .refl, fun r _ j hj => by omega⟩
      case round =>
        obtain ⟨k, hk, rfl, hbk, hbk', G', U, hOk, hRk, hck⟩ := hrel
        have HR : Hid (Reach n (2 * n) (wideM n A) U) := hRk
        have HC : Hid (∀ r, r < n → ∀ j, j < k → U r j = idM r j) := hck
        clear hRk hck
        by_cases hlt : k < n
        · have hst := hset base g k G' U wr hlt hOk hbk' HC.out
          clear hW
          go_wp2_with fail
          go_at_call 62
          refine hst.mono ?_
          rintro e w3 ⟨hb3, ⟨rfl, hz⟩ | ⟨rfl, G2, U2, hO2, hR2, hc2⟩⟩
          · have HZ : Hid (∀ r, k ≤ r → r < n → U r k = 0) := hz
            clear hz
            go_wp2_with fail
            go_ret2
            exact ⟨hbk.trans (hb3.mono hbl), .inr (.inr (.inl ⟨GA.out, HS.out, rfl, k, U, hlt, HR.out, HC.out, HZ.out⟩))⟩
          · have HC2 : Hid (∀ r, r < n → ∀ j, j < k + 1 → U2 r j = idM r j) := hc2
            have HR2 : Hid (Reach n (2 * n) U U2) := hR2
            clear hc2 hR2
            go_wp2_with fail
            go_roundw
            case rel => exact ⟨k + 1, by omega, by go_num, hbk.trans (hb3.mono hbl), Nat.le_trans hbk' hb3.size, G2, U2, hO2, HR.out.trans HR2.out, HC2.out⟩
            case measure => simp [intOf]; omega
        · have hkn : k = n := by omega
          subst hkn
          have hr := hrh base g G' U wr hOk
          clear hW
          go_wp2_with fail
          go_at_call 63
          refine hr.mono ?_
          rintro e w3 ⟨a', rfl, hM, hb3⟩
          go_wp2_with fail
          go_ret2
          exact ⟨hbk.trans (hb3.mono hbk.size), .inr (.inr (.inr ⟨GA.out, HS.out, a', U, rfl, hM, HR.out, HC.out⟩))⟩
    · have hsq := fun w1 h => square_any a n ca L A w1 h gA false (by simp [hs])
      have GA : Hid (Gd n L) := gA
      have HS : Hid (n ≠ L 0) := hs
      clear gA hs hn
      go_enter Try.func46, Try.ntmps46
      go_wp2_with fail
      go_at_call 37
      refine hg.mono ?_
      rintro e w1 ⟨rfl, hb1⟩
      go_wp2_with fail
      go_at_call 60
      refine (hsq _ (hA.below hb1)).mono ?_
      rintro e w1' ⟨rfl, rfl⟩
      go_wp2_with fail
      go_ret2
      exact ⟨hb1, .inr (.inl ⟨GA.out, HS.out, rfl⟩)⟩
  · have hg := good_any a n ca L A w hn hA false (good_no gA)
    have GA : Hid (¬ Gd n L) := gA
    clear gA
    go_enter Try.func46, Try.ntmps46
    go_wp2_with fail
    go_at_call 37
    refine hg.mono ?_
    rintro e w1 ⟨rfl, hb1⟩
    go_wp2_with fail
    go_ret2
    exact ⟨hb1, .inl ⟨GA.out, rfl⟩⟩
end Go.Proofs.Ytdpcbiccbhlonaa
/- Two matrices compared; what the document fixes. -/
namespace Go.Proofs.Ytdpcbiccbhlonaa
open Go.RowKit Go.PlainAid
set_option linter.unusedVariables false

theorem conv_at {w : World} {a : Option Addr} {n cap : Nat} {f : Nat → E} (h : RowAt w a n f) : (convert 46 9 (.slice a n cap)).run Try.prog w = .ok (.string (strE n f)) w := by
  rcases h with h0 | ⟨b, o, rfl, h⟩
  · subst h0
    have e : strE 0 f = strOfNums [] := rfl
    rw [e]
    cases a with
    | none => exact run_convert_bytes_nil w 46 5 Try.underlying46 Try.underlying5 0 cap 9 Try.underlying9
    | some ad =>
      have hl : (loadCells ad 0).run Try.prog w = .ok (([] : List Int).map (Value.int .u8)).toArray w := run_loadCells_list (P := Try.prog) w ad [] (fun j v hj => by simp at hj)
      rw [run_convert_bytes_string w 46 9 5 _ 0 cap Try.underlying46 Try.underlying5 Try.underlying9, run_bytesToString w _ 0 cap [] hl]
      rfl
  · exact run_convert_bytes_arg (P := Try.prog) w 46 5 Try.underlying46 Try.underlying5 b o n cap (numsE n f) (numsE_length n f) (fun i hi => by
      rw [h i hi]
      simp [numsE, List.getD, hi, byteV]) 9 Try.underlying9

def wkA : Mx := fun r c => if r = 1 ∧ c = 1 then ⟨2, by decide⟩ else 1
def wkB : Mx := fun r c => if r = 0 ∧ c = 0 then ⟨245, by decide⟩ else ⟨244, by decide⟩
theorem wk_right : ∀ r, r < 2 → ∀ c, c < 2 → mulM 2 wkA wkB r c = idM r c := by
  intro r hr c hc
  have h1 : r = 0 ∨ r = 1 := by omega
  have h2 : c = 0 ∨ c = 1 := by omega
  rcases h1 with rfl | rfl <;> rcases h2 with rfl | rfl <;> exact E.same (by decide +kernel)
theorem wk_left : ∀ r, r < 2 → ∀ c, c < 2 → mulM 2 wkB wkA r c = idM r c := by
  intro r hr c hc
  have h1 : r = 0 ∨ r = 1 := by omega
  have h2 : c = 0 ∨ c = 1 := by omega
  rcases h1 with rfl | rfl <;> rcases h2 with rfl | rfl <;> exact E.same (by decide +kernel)
/-- Two rows of two, laid one by one. -/
theorem mat_two (w : World) (t : TypeId) (x00 x01 x10 x11 : Int) (X : Mx) (h00 : x00 = (X 0 0).v) (h01 : x01 = (X 0 1).v) (h10 : x10 = (X 1 0).v) (h11 : x11 = (X 1 1).v) :
    MatAt (((w.alloc (.cells #[.int .u8 x00, .int .u8 x01] 5 (0, 0))).alloc (.cells #[.int .u8 x10, .int .u8 x11] 5 (0, 0))).alloc (.cells #[.slice (some ⟨w.heap.size, 0, none⟩) 2 2, .slice (some ⟨w.heap.size + 1, 0, none⟩) 2 2] t (0, 0)))
      (some ⟨w.heap.size + 2, 0, none⟩) 2 (fun _ => 2) X := by
  have two : ∀ k, k < 2 → k = 0 ∨ k = 1 := fun k hk => by omega
  refine ⟨fun r => some ⟨w.heap.size + r, 0, none⟩, fun _ => 2, .inr ⟨_, 0, rfl, fun r hr => ?_⟩, fun r hr => ⟨by show 2 ≤ maxLen; decide, .inr ⟨_, 0, rfl, fun c hc => ?_⟩⟩⟩
  · rcases two r hr with rfl | rfl
    · go_simp
    · go_simp
  · have hc' : c < 2 := hc
    rcases two r hr with rfl | rfl <;> rcases two c hc' with rfl | rfl
    · rw [h00]; go_simp; rfl
    · rw [h01]; go_simp; rfl
    · rw [h10]; go_simp; rfl
    · rw [h11]; go_simp; rfl
theorem gd_two : Gd 2 (fun _ => 2) := ⟨by decide, by decide, by decide, by decide, fun _ _ => rfl⟩

end Go.Proofs.Ytdpcbiccbhlonaa
/- Texts in memory as rows of elements; of one length or not; a row times texts: the program's own answers. -/
namespace Go.Proofs.Ytdpcbiccbhlonaa
open Go.RowKit Go.PlainAid
set_option linter.unusedVariables false

/-- n texts, of M's lengths, one behind the other. -/
def TxtAt (w : World) (a : Option Addr) (n : Nat) (M : Nat → Nat) (Y : Mx) : Prop := Vals w a n (fun c => .string (strE (M c) (Y c))) ∧ ∀ c, c < n → M c ≤ 9223372036854775807
theorem TxtAt.below {w w' : World} {a : Option Addr} {n : Nat} {M : Nat → Nat} {Y : Mx} (h : TxtAt w a n M Y) (hb : Below w.heap.size w w') : TxtAt w' a n M Y := ⟨h.1.below hb (Nat.le_refl _), h.2⟩
theorem TxtAt.cell {w : World} {a : Option Addr} {n : Nat} {M : Nat → Nat} {Y : Mx} (h : TxtAt w a n M Y) (h1 : 1 ≤ n) : ∃ b o, a = some ⟨b, o, none⟩ ∧ ∀ i, i < n → w.cell? ⟨b, o + i, none⟩ = some (.string (strE (M i) (Y i))) := by
  rcases h.1 with h0 | h
  · omega
  · exact h

set_option maxHeartbeats 400000 in
theorem indexStr_any (K : Nat) (hK : K = 53 ∨ K = 42) (cap : Array Value) (a : Option Addr) (n ca : Nat) (V : Nat → Value) (p : Nat → Bool) (w : World) (hn : n ≤ maxLen) (ha : Vals w a n V)
    (hp : ∀ r, r < n → Calls Try.prog K (#[V r] ++ cap) w fun e w' => e = .returned (.bool (p r)) ∧ w' = w) :
    Calls Try.prog 56 #[.slice a n ca, .func (.func K) #[] cap] w fun e w' => e = .returned (.int .i64 (first p n)) ∧ w' = w := by
  unfold maxLen at hn
  have hs := first_spec p n
  generalize first p n = z at hs
  rcases hK with rfl | rfl
  all_goals
   go_enter Try.func56, Try.ntmps56
   go_wp2_with fail
   go_loop [8] (fun i => ∃ k : Nat, k ≤ n ∧ i = .int .i64 k ∧ ∀ j, j < k → p j = false) (fun i => (n : Nat) - (intOf i).toNat)
   case atStart => exact ⟨0, Nat.zero_le _, rfl, fun j hj => by omega⟩
   case round =>
     obtain ⟨k, hk, rfl, hbefore⟩ := hrel
     by_cases hlt : k < n
     · rcases ha with h0 | ⟨b, o, rfl, ha⟩
       · omega
       have hcell := ha k hlt
       go_wp2_with fail
       refine (hp k hlt).mono ?_
       rintro e w' ⟨rfl, rfl⟩
       cases hpk : p k
       · go_wp2_with fail
         go_round
         case rel => exact ⟨k + 1, by omega, by go_num, fun j hj => by
           by_cases e : j = k
           · rw [e]; exact hpk
           · exact hbefore j (by omega)⟩
         case measure => simp [intOf]; omega
       · have hz : z = (k : Int) := by
           rcases hs with ⟨_, h2⟩ | ⟨i, h1, h2, h3, h4⟩
           · rw [h2 k hlt] at hpk; cases hpk
           · rw [h1]
             rcases Nat.lt_trichotomy i k with h | h | h
             · rw [hbefore i h] at h3; cases h3
             · rw [h]
             · rw [h4 k h] at hpk; cases hpk
         subst hz
         go_wp2_with fail
         go_ret
         exact ⟨rfl, rfl⟩
     · have hz : z = -1 := by
         rcases hs with ⟨h1, _⟩ | ⟨i, h1, h2, h3, h4⟩
         · exact h1
         · rw [hbefore i (by omega)] at h3; cases h3
       subst hz
       go_wp2_with fail
       go_ret
       exact ⟨rfl, rfl⟩

theorem alike1_any (s t : ByteArray) (m b o n ca : Nat) (w : World) (hs : s.size ≤ 9223372036854775807) (ht : t.size ≤ 9223372036854775807) (hn : 0 < n) (hm : w.cell? ⟨m, 0, none⟩ = some (.slice (some ⟨b, o, none⟩) n ca)) (h0 : w.cell? ⟨b, o, none⟩ = some (.string t)) :
    Calls Try.prog 53 #[.string s, .pointer (some ⟨m, 0, none⟩)] w fun e w' => e = .returned (.bool (s.size != t.size)) ∧ w' = w := by
  obtain ⟨q, hq⟩ : ∃ q, (s.size != t.size) = q := ⟨_, rfl⟩
  have hq' : ((s.size : Int) != (t.size : Int)) = q := by
    rw [← hq]
    by_cases h : s.size = t.size
    · rw [h]; simp
    · have h1 : (s.size != t.size) = true := by simpa using h
      have h2 : ((s.size : Int) != (t.size : Int)) = true := by simp; omega
      rw [h1, h2]
  rw [hq]
  have hn' : (0 : Int) < (n : Int) := by omega
  clear hq
  go_enter Try.func53, Try.ntmps53
  go_wp2
  go_ret
  exact ⟨by rw [← hq']; rfl, rfl⟩

theorem containsStr_any (K : Nat) (hK : K = 53 ∨ K = 42) (cap : Array Value) (a : Option Addr) (n ca : Nat) (V : Nat → Value) (p : Nat → Bool) (w : World) (hn : n ≤ maxLen) (ha : Vals w a n V)
    (hp : ∀ r, r < n → Calls Try.prog K (#[V r] ++ cap) w fun e w' => e = .returned (.bool (p r)) ∧ w' = w) (g : Bool) (hg : g = true ↔ ∃ r, r < n ∧ p r = true) :
    Calls Try.prog 41 #[.slice a n ca, .func (.func K) #[] cap] w fun e w' => e = .returned (.bool g) ∧ w' = w := by
  have hi := indexStr_any K hK cap a n ca V p w hn ha hp
  have hs := first_spec p n
  generalize first p n = z at hs hi
  have hz : decide ((0 : Int) ≤ z) = g := by
    rcases hs with ⟨h1, h2⟩ | ⟨i, h1, h2, h3, h4⟩
    · cases g with
      | false => rw [h1]; decide
      | true =>
        obtain ⟨r, hr, h⟩ := hg.1 rfl
        rw [h2 r hr] at h; cases h
    · rw [hg.2 ⟨i, h2, h3⟩, h1]
      exact decide_eq_true (by omega)
  clear hs hg hp ha
  rcases hK with rfl | rfl
  all_goals
   go_enter Try.func41, Try.ntmps41
   go_wp2_with fail
   go_at_call 56
   refine hi.mono ?_
   rintro e w' ⟨rfl, rfl⟩
   go_wp2_with fail
   go_ret
   exact ⟨by rw [← hz]; rfl, rfl⟩

set_option maxHeartbeats 400000 in
theorem alike_any (a : Option Addr) (n ca : Nat) (M : Nat → Nat) (Y : Mx) (w : World) (hn : n ≤ maxLen) (ha : TxtAt w a n M Y) (g : Bool) (hg : g = true ↔ ∀ c, c < n → M c = M 0) :
    Calls Try.prog 38 #[.slice a n ca] w fun e w' => e = .returned (.bool g) ∧ Below w.heap.size w w' := by
  have hmf : ∀ (fn : Fn) (first cap : Array Value) (w : World), (Instr.makeFunc fn first cap).run Try.prog w = .ok (.func fn first cap) w := fun _ _ _ _ => rfl
  have hbel : Below w.heap.size w (w.alloc (.cells #[.slice a n ca] 22 (0, 0))) := (Below.refl _ _).alloc (Nat.le_refl _) _
  have hcont := fun (w1 : World) (h : Below w.heap.size w w1) (hm : w1.cell? ⟨w.heap.size, 0, none⟩ = some (.slice a n ca)) =>
    containsStr_any 53 (by decide) #[.pointer (some ⟨w.heap.size, 0, none⟩)] a n ca (fun c => .string (strE (M c) (Y c))) (fun c => M c != M 0) w1 hn (ha.1.below h (Nat.le_refl _)) (fun r hr => by
      obtain ⟨b, o, rfl, hc⟩ := (ha.below h).cell (by omega)
      have h0 := hc 0 (by omega)
      rw [Nat.add_zero] at h0
      have := alike1_any (strE (M r) (Y r)) (strE (M 0) (Y 0)) w.heap.size b o n ca w1 (by rw [strE_size]; exact ha.2 r hr) (by rw [strE_size]; exact ha.2 0 (by omega)) (by omega) hm h0
      rw [strE_size, strE_size] at this
      exact this) (!g) (by
        cases g with
        | true =>
          have h' := hg.1 rfl
          simp only [Bool.not_true, Bool.false_eq_true, false_iff, not_exists, not_and]
          intro r h hh
          rw [h' r h] at hh
          simp at hh
        | false =>
          simp only [Bool.not_false, true_iff]
          apply Classical.byContradiction
          intro hh
          have : (false : Bool) = true := hg.2 fun r h => by
            apply Classical.byContradiction
            intro h3
            exact hh ⟨r, h, by simpa using h3⟩
          cases this)
  clear hg ha
  go_enter Try.func38, Try.ntmps38
  go_wp2_with fail
  go_at_call 41
  refine (hcont _ hbel (by go_simp)).mono ?_
  rintro e w' ⟨rfl, rfl⟩
  go_wp2_with fail
  go_ret
  exact ⟨by simp, hbel⟩
end Go.Proofs.Ytdpcbiccbhlonaa
/- A row times texts; a matrix times texts: the program's own answers. -/
namespace Go.Proofs.Ytdpcbiccbhlonaa
open Go.RowKit Go.PlainAid
set_option linter.unusedVariables false

/-- A row times the first k texts. -/
def rowTxt (m : Nat) (f : Nat → E) (Y : Mx) (k : Nat) : ByteArray := strE m fun i => S k fun c => f c * Y c i
theorem scale_E (x : E) (m : Nat) (y : Nat → E) (w : World) (hm : m ≤ 65536) :
    Calls Try.prog 27 #[.int .u8 (x.v : Int), .string (strE m y)] w fun e w' => e = .returned (.string (strE m fun i => x * y i)) ∧ Below w.heap.size w w' := by
  have := gfScale_any x.v x.h (strE m y) w (by rw [strE_size]; unfold maxLen; omega) (by rw [strE_size]; omega)
  rw [scaleB_strE] at this
  exact this
theorem xor_E (m : Nat) (x y : Nat → E) (w : World) (hm : m ≤ 65536) :
    Calls Try.prog 26 #[.string (strE m x), .string (strE m y)] w fun e w' => e = .returned (.string (strE m fun i => x i + y i)) ∧ Below w.heap.size w w' := by
  have := xor_any (strE m x) (strE m y) w (by rw [strE_size]; unfold maxLen; omega) (by rw [strE_size]; unfold maxLen; omega) (by rw [strE_size]; omega)
  rw [xorB_strE] at this
  exact this

set_option maxHeartbeats 1000000 in
theorem combine_any (ar lt : Option Addr) (n cr cl m : Nat) (f : Nat → E) (Y : Mx) (w : World) (h1 : 1 ≤ n) (hn : n ≤ 16) (hcl : n ≤ cl) (hclm : cl ≤ 9223372036854775807) (hm : m ≤ 65536) (hR : RowAt w ar n f) (hT : Vals w lt n (fun c => .string (strE m (Y c)))) :
    Calls Try.prog 39 #[.slice ar n cr, .slice lt n cl] w fun e w' => e = .returned (.string (rowTxt m f Y n)) ∧ Below w.heap.size w w' := by
  rcases hR with h0 | ⟨br, orr, rfl, hR⟩
  · omega
  rcases hT with h0 | ⟨bt', ot, rfl, hT⟩
  · omega
  have HR : Hid (∀ x, Below w.heap.size w x → ∀ i, i < n → x.cell? ⟨br, orr + i, none⟩ = some (.int .u8 ((f i).v : Int))) := fun x hx i hi => (hx.cell (p := ⟨br, orr + i, none⟩) (cell_lt (hR i hi))).trans (hR i hi)
  have HT : Hid (∀ x, Below w.heap.size w x → ∀ i, i < n → x.cell? ⟨bt', ot + i, none⟩ = some (.string (strE m (Y i)))) := fun x hx i hi => (hx.cell (p := ⟨bt', ot + i, none⟩) (cell_lt (hT i hi))).trans (hT i hi)
  have hsc := fun x => scale_E (f 0) m (Y 0) x hm
  have e0 : (strE m fun i => f 0 * Y 0 i) = rowTxt m f Y 1 := strE_congr fun i _ => by show _ = S 0 _ + _; show _ = (0 : E) + _; rw [E.zero_add]
  rw [e0] at hsc
  have HS : Hid (∀ x, Below w.heap.size w x → x.cell? ⟨br, orr, none⟩ = some (.int .u8 ((f 0).v : Int)) ∧ x.cell? ⟨bt', ot, none⟩ = some (.string (strE m (Y 0)))) := fun x hx => ⟨by have := HR.out x hx 0 (by omega); rwa [Nat.add_zero] at this, by have := HT.out x hx 0 (by omega); rwa [Nat.add_zero] at this⟩
  have hd : Below w.heap.size w w.drew := (Below.refl _ _).drew
  have n0 : (0 : Int) < (n : Int) := by omega
  have n0' : 0 < n := by omega
  have n1 : (1 : Int) ≤ (n : Int) := by omega
  clear hR hT e0
  generalize (f 0).v = x0 at hsc HS
  generalize strE m (Y 0) = s0 at hsc HS
  by_cases hc1 : cl = 1
  · subst hc1
    obtain rfl : n = 1 := by omega
    go_enter Try.func39, Try.ntmps39
    go_wp2_with fail
    go_region_held3 (fun x => x.cell? ⟨br, orr, none⟩ = some (.int .u8 (x0 : Int)) ∧ x.cell? ⟨bt', ot, none⟩ = some (.string s0)) (first | exact HS.out _ hd | exact HS.out _ (Below.refl _ _) | exact HS.out _ (by assumption)) (first | (go_at_call 27; refine (hsc _).mono ?_; rintro e w5 ⟨rfl, hb5⟩; have hx5 : Below w.heap.size w w5 := hd.trans hb5))
    clear HS hsc
    go_wp2_with fail
    go_loop [5, 18] (fun s i => i = .int .i64 0 ∧ s = .string (rowTxt m f Y 1)) (fun _ _ => 0)
    case atStart => exact ⟨rfl, rfl⟩
    case round =>
      obtain ⟨rfl, rfl⟩ := hrel
      go_wp2_with fail
      go_ret
      exact ⟨rfl, hx5⟩
  · have hc2 : 1 < cl := by omega
    have hc3 : ¬ cl = 1 := hc1
    go_enter Try.func39, Try.ntmps39
    go_wp2_with fail
    go_region_held3 (fun x => x.cell? ⟨br, orr, none⟩ = some (.int .u8 (x0 : Int)) ∧ x.cell? ⟨bt', ot, none⟩ = some (.string s0)) (first | exact HS.out _ hd | exact HS.out _ (Below.refl _ _) | exact HS.out _ (by assumption)) (first | (go_at_call 27; refine (hsc _).mono ?_; rintro e w5 ⟨rfl, hb5⟩; have hx5 : Below w.heap.size w w5 := hd.trans hb5))
    clear HS hsc
    go_wp2_with fail
    obtain ⟨N, hN⟩ : ∃ N, n - 1 = N := ⟨_, rfl⟩
    rw [hN]
    have HN : Hid (n = N + 1) := (by omega : n = N + 1)
    have hN16 : N ≤ 15 := by omega
    clear hN
    go_loopw [5, 18] (fun s i wr => ∃ k : Nat, k ≤ N ∧ i = .int .i64 k ∧ s = .string (rowTxt m f Y (k + 1)) ∧ Below w.heap.size w wr) (fun _ i _ => (N : Nat) - (intOf i).toNat)
    case atStart => exact ⟨0, Nat.zero_le _, rfl, rfl, hx5⟩
    case round =>
      obtain ⟨k, hk, rfl, rfl, hbk⟩ := hrel
      by_cases hlt : k < N
      · have hk1 : k + 1 < n := by have := HN.out; omega
        have hk1' : (k : Int) + 1 < (n : Int) := by omega
        have c1 := HR.out wr hbk (k + 1) hk1
        have c2 := HT.out wr hbk (k + 1) hk1
        have e1 : ot + (k + 1) = ot + 1 + k := by omega
        rw [e1] at c2
        have hs1 := fun x => scale_E (f (k + 1)) m (Y (k + 1)) x hm
        have hs2 := fun x => xor_E m (fun i => S (k + 1) fun c => f c * Y c i) (fun i => f (k + 1) * Y (k + 1) i) x hm
        have hs3 : ∀ x, Calls Try.prog 26 #[.string (rowTxt m f Y (k + 1)), .string (strE m fun i => f (k + 1) * Y (k + 1) i)] x fun e w' => e = .returned (.string (rowTxt m f Y (k + 1 + 1))) ∧ Below x.heap.size x w' := hs2
        clear hs2 e1
        generalize (f (k + 1)).v = x1 at c1 hs1
        generalize (strE m fun i => f (k + 1) * Y (k + 1) i) = s2 at hs1 hs3
        generalize strE m (Y (k + 1)) = s1 at c2 hs1
        have hkN : (k : Int) < (N : Int) := by omega
        go_wp2_with fail
        go_at_call 27
        refine (hs1 _).mono ?_
        rintro e w6 ⟨rfl, hb6⟩
        go_wp2_with fail
        go_at_call 26
        refine (hs3 _).mono ?_
        rintro e w7 ⟨rfl, hb7⟩
        go_wp2_with fail
        go_roundw
        case rel => exact ⟨k + 1, by omega, by go_num, rfl, hbk.trans ((hb6.mono hbk.size).trans (hb7.mono (Nat.le_trans hbk.size hb6.size)))⟩
        case measure => simp [intOf]; omega
      · have hkn : k = N := by omega
        subst hkn
        go_wp2_with fail
        go_ret
        exact ⟨by rw [HN.out]; rfl, hbk⟩
end Go.Proofs.Ytdpcbiccbhlonaa
/- The document's product, as plain arithmetic: coefficients as the bits of a number; it is the product by doubling. No Go text is named here. -/
namespace Go.Proofs.Ytdpcbiccbhlonaa
open Go.RowKit

/-- The coefficient of a number at a place. -/
def co (N j : Nat) : Nat := N / 2 ^ j % 2
theorem co_lt (N j : Nat) : co N j < 2 := Nat.mod_lt _ (by omega)
theorem co_xor (a b j : Nat) : co (a ^^^ b) j = co a j ^^^ co b j := by
  unfold co; rw [Nat.xor_div_two_pow, xor_odd]
theorem co_pow (b j i : Nat) (hb : b < 2) : co (b * 2 ^ j) i = if i = j then b else 0 := by
  have hb' : b = 0 ∨ b = 1 := by omega
  unfold co
  rcases hb' with rfl | rfl
  · simp
  · rw [Nat.one_mul]
    rcases Nat.lt_trichotomy i j with h | h | h
    · rw [if_neg (by omega), show 2 ^ j = 2 * 2 ^ (j - i - 1) * 2 ^ i by rw [Nat.mul_comm 2, ← Nat.pow_succ, ← Nat.pow_add]; congr 1; omega, Nat.mul_div_cancel _ (Nat.pow_pos (by omega))]
      omega
    · subst h; rw [if_pos rfl, Nat.div_self (Nat.pow_pos (by omega))]
    · rw [if_neg (by omega), Nat.div_eq_of_lt (Nat.pow_lt_pow_right (by omega) h)]
theorem xor_bit (p q : Nat) (hp : p < 2) (hq : q < 2) : p ^^^ q = (p + q) % 2 := by
  have hp' : p = 0 ∨ p = 1 := by omega
  have hq' : q = 0 ∨ q = 1 := by omega
  rcases hp' with rfl | rfl <;> rcases hq' with rfl | rfl <;> rfl
theorem bit_mul (p q : Nat) (hp : p < 2) (hq : q < 2) : p * q < 2 := by
  have hp' : p = 0 ∨ p = 1 := by omega
  rcases hp' with rfl | rfl <;> omega
theorem mul_pow_xor (a b s : Nat) : (a ^^^ b) * 2 ^ s = (a * 2 ^ s) ^^^ (b * 2 ^ s) := by
  have := Nat.shiftLeft_xor_distrib (a := a) (b := b) (i := s)
  simpa [Nat.shiftLeft_eq] using this

/-- One row of the products of coefficients. -/
def cin (a b i N : Nat) : Nat → Nat
  | 0 => N
  | k + 1 => cin a b i N k ^^^ (co a i * co b k) * 2 ^ (i + k)
/-- All products of coefficients. -/
def cout (a b : Nat) : Nat → Nat
  | 0 => 0
  | i + 1 => cin a b i (cout a b i) 8
/-- The modulus taken away, coefficient by coefficient. -/
def rin (s N : Nat) : Nat → Nat
  | 0 => N
  | k + 1 => rin s N k ^^^ co 285 k * 2 ^ (s + k)
/-- The remainder behind t rounds. -/
def rout (N : Nat) : Nat → Nat
  | 0 => N
  | t + 1 => rout N t ^^^ co (rout N t) (15 - t) * (285 * 2 ^ (7 - t))
theorem mod_bits : ∀ k, k < 9 → 285 % 2 ^ (k + 1) = (285 % 2 ^ k) ^^^ (co 285 k * 2 ^ k) := by decide
theorem rin_is (s N k : Nat) (hk : k ≤ 9) : rin s N k = N ^^^ (285 % 2 ^ k) * 2 ^ s := by
  induction k with
  | zero => simp [rin, Nat.mod_one]
  | succ k ih =>
    rw [rin, ih (by omega), mod_bits k (by omega), mul_pow_xor, Nat.xor_assoc, Nat.mul_assoc, ← Nat.pow_add, Nat.add_comm k s]
theorem rin_9 (s N : Nat) : rin s N 9 = N ^^^ 285 * 2 ^ s := rin_is s N 9 (by omega)
theorem cinL (a a' b i N M k : Nat) : cin (a ^^^ a') b i (N ^^^ M) k = cin a b i N k ^^^ cin a' b i M k := by
  induction k with
  | zero => rfl
  | succ k ih =>
    simp only [cin]
    rw [ih, co_xor, bit_times_xor _ _ _ (co_lt a i) (co_lt a' i), mul_pow_xor, xor_four]
theorem cinR (a b b' i N M k : Nat) : cin a (b ^^^ b') i (N ^^^ M) k = cin a b i N k ^^^ cin a b' i M k := by
  induction k with
  | zero => rfl
  | succ k ih =>
    simp only [cin]
    rw [ih, co_xor, Nat.mul_comm (co a i), bit_times_xor _ _ _ (co_lt b k) (co_lt b' k), Nat.mul_comm _ (co a i), Nat.mul_comm _ (co a i), mul_pow_xor, xor_four]
theorem coutL (a a' b i : Nat) : cout (a ^^^ a') b i = cout a b i ^^^ cout a' b i := by
  induction i with
  | zero => simp [cout]
  | succ i ih => simp only [cout]; rw [ih, cinL]
theorem coutR (a b b' i : Nat) : cout a (b ^^^ b') i = cout a b i ^^^ cout a b' i := by
  induction i with
  | zero => simp [cout]
  | succ i ih => simp only [cout]; rw [ih, cinR]
theorem rout_xor (N M t : Nat) : rout (N ^^^ M) t = rout N t ^^^ rout M t := by
  induction t with
  | zero => rfl
  | succ t ih => simp only [rout]; rw [ih, co_xor, bit_times_xor _ _ _ (co_lt _ _) (co_lt _ _), xor_four]
/-- The document's product. -/
def dm (a b : Nat) : Nat := rout (cout a b 8) 8 % 256
theorem mod_xor (a b : Nat) : (a ^^^ b) % 256 = (a % 256) ^^^ (b % 256) := Nat.xor_mod_two_pow (a := a) (b := b) (n := 8)
theorem dmL (a a' b : Nat) : dm (a ^^^ a') b = dm a b ^^^ dm a' b := by unfold dm; rw [coutL, rout_xor, mod_xor]
theorem dmR (a b b' : Nat) : dm a (b ^^^ b') = dm a b ^^^ dm a b' := by unfold dm; rw [coutR, rout_xor, mod_xor]
theorem dm_bits : ∀ i, i < 8 → ∀ j, j < 8 → dm (2 ^ i) (2 ^ j) = gm (2 ^ i) (2 ^ j) := by decide +kernel
theorem dm_gm (a b : Nat) (ha : a < 256) (hb : b < 256) : dm a b = gm a b := by
  refine lin_ext (fun a => dm a b) (fun a => gm a b) (fun x y => dmL x y b) (fun x y => gm_xorL x y b) (fun i hi => ?_) a ha
  exact lin_ext (fun b => dm (2 ^ i) b) (fun b => gm (2 ^ i) b) (fun x y => dmR _ x y) (fun x y => gm_xorR _ x y) (fun j hj => dm_bits i hi j hj) b hb

/-- The row of coefficients, as values. -/
def rowOf (N : Nat) : List Value := (List.range 16).map fun j => .int .i64 (co N j : Int)
theorem rowOf_length (N : Nat) : (rowOf N).length = 16 := by simp [rowOf]
theorem rowOf_get (N j : Nat) (h : j < 16) : (rowOf N)[j]? = some (.int .i64 (co N j : Int)) := by simp [rowOf, h]
theorem rowOf_set (N j b : Nat) (hb : b < 2) : (rowOf N).set j (.int .i64 (((co N j + b) % 2 : Nat) : Int)) = rowOf (N ^^^ b * 2 ^ j) := by
  unfold rowOf
  apply List.ext_getElem
  · simp
  · intro i h1 h2
    simp only [List.length_set, List.length_map, List.length_range] at h1
    rw [List.getElem_set, List.getElem_map, List.getElem_map, List.getElem_range]
    rw [co_xor, co_pow b j i hb]
    by_cases e : j = i
    · subst e; rw [if_pos rfl, if_pos rfl, xor_bit _ _ (co_lt N j) hb]
    · rw [if_neg e, if_neg (by omega), Nat.xor_zero]
theorem rowOf_zero : rowOf 0 = List.replicate 16 (.int .i64 0) := by
  unfold rowOf; exact List.eq_replicate_iff.2 ⟨by simp, by simp [co]⟩
end Go.Proofs.Ytdpcbiccbhlonaa
/- What the document's own product answers, for every two elements: the product by doubling. -/
namespace Go.Proofs.Ytdpcbiccbhlonaa
open Go.RowKit
set_option linter.unusedVariables false

/-- The coefficients lie in the block g. -/
def OwnsC (w : World) (base g N : Nat) : Prop := w.ownsRow base 72 1 (.slice (some ⟨g, 0, none⟩) 16 16) 16 (rowOf N)
theorem OwnsC.cell {w : World} {base g N : Nat} (h : OwnsC w base g N) (j : Nat) (hj : j < 16) : w.cell? ⟨g, j, none⟩ = some (.int .i64 (co N j : Int)) := by
  rw [World.ownsRow.cellAt h j (by omega), rowOf_get N j hj]
theorem OwnsC.frozen {w : World} {base g N : Nat} (h : OwnsC w base g N) (j : Nat) : w.frozen? ⟨g, j, none⟩ = false := World.ownsRow.frozenAt h j
theorem OwnsC.stored {w : World} {base g N : Nat} (h : OwnsC w base g N) (j b : Nat) (hb : b < 2) :
    OwnsC (w.setCell ⟨g, j, none⟩ (.int .i64 (((co N j : Int) + (b : Int)) % 2))) base g (N ^^^ b * 2 ^ j) := by
  have := (World.ownsRow.stored h j (.int .i64 (((co N j + b) % 2 : Nat) : Int))).1
  rw [rowOf_set N j b hb] at this
  have e : (((co N j + b) % 2 : Nat) : Int) = ((co N j : Int) + (b : Int)) % 2 := by omega
  rw [e] at this
  exact this
/-- The modulus lies in the block g. -/
def rowM : List Value := (List.range 9).map fun j => .int .i64 (co 285 j : Int)
theorem rowM_is : rowM = [.int .i64 1, .int .i64 0, .int .i64 1, .int .i64 1, .int .i64 1, .int .i64 0, .int .i64 0, .int .i64 0, .int .i64 1] := by rfl
def OwnsM (w : World) (base g : Nat) : Prop := w.ownsRow base 73 1 (.slice (some ⟨g, 0, none⟩) 9 9) 9 rowM
theorem OwnsM.cell {w : World} {base g : Nat} (h : OwnsM w base g) (j : Nat) (hj : j < 9) : w.cell? ⟨g, j, none⟩ = some (.int .i64 (co 285 j : Int)) := by
  rw [World.ownsRow.cellAt h j (by omega)]; simp [rowM, hj]
theorem OwnsM.other {w : World} {base g : Nat} (h : OwnsM w base g) {a : Addr} (ha : a.block ≠ g) (u : Value) : OwnsM (w.setCell a u) base g :=
  ownsRow_setCell_other h (by simp [Value.ownBlock]; exact fun e => ha e.symm) u
theorem half_nat (a k : Nat) : a / 2 ^ k / 2 = a / 2 ^ (k + 1) := by rw [Nat.div_div_eq_div_mul, ← Nat.pow_succ]

theorem low_bits (M v : Nat) (h : v < 8) : 2 * (M % 256 / 2 ^ (v + 1)) + co M v = M % 256 / 2 ^ v := by
  unfold co
  have : v = 0 ∨ v = 1 ∨ v = 2 ∨ v = 3 ∨ v = 4 ∨ v = 5 ∨ v = 6 ∨ v = 7 := by omega
  rcases this with rfl | rfl | rfl | rfl | rfl | rfl | rfl | rfl <;> simp only [Nat.reducePow, Nat.reduceAdd] <;> omega
theorem rout_one (N t s : Nat) (hs : s + t = 7) (h : co (rout N t) (s + 8) = 1) : rout N (t + 1) = rin s (rout N t) 9 := by
  rw [rin_9, rout, show 15 - t = s + 8 by omega, h, show 7 - t = s by omega, Nat.one_mul]
theorem rout_none (N t s : Nat) (hs : s + t = 7) (h : co (rout N t) (s + 8) = 0) : rout N (t + 1) = rout N t := by
  rw [rout, show 15 - t = s + 8 by omega, h, Nat.zero_mul, Nat.xor_zero]

set_option maxHeartbeats 1000000 in
theorem refMul_any (a b : Nat) (ha : a < 256) (hb : b < 256) (w : World) :
    Calls Try.prog 31 #[.int .u8 (a : Int), .int .u8 (b : Int)] w fun e w' => e = .returned (.int .u8 (gm a b : Int)) ∧ Below w.heap.size w w' := by
  go_enter Try.func31, Try.ntmps31
  go_wp2_with fail
  have hown0 : OwnsC (w.alloc (.cells #[.int .i64 0, .int .i64 0, .int .i64 0, .int .i64 0, .int .i64 0, .int .i64 0, .int .i64 0, .int .i64 0, .int .i64 0, .int .i64 0, .int .i64 0, .int .i64 0, .int .i64 0, .int .i64 0, .int .i64 0, .int .i64 0] 72)) w.heap.size w.heap.size 0 :=
    ⟨by rw [rowOf_length], .inr ⟨w.heap.size, 16, _, rfl, Nat.le_refl _, heap_alloc_new w _, Nat.le_refl _, by unfold maxLen; omega, rfl, by rw [rowOf_zero]; rfl⟩⟩
  have hbel0 : Below w.heap.size w (w.alloc (.cells #[.int .i64 0, .int .i64 0, .int .i64 0, .int .i64 0, .int .i64 0, .int .i64 0, .int .i64 0, .int .i64 0, .int .i64 0, .int .i64 0, .int .i64 0, .int .i64 0, .int .i64 0, .int .i64 0, .int .i64 0, .int .i64 0] 72)) := (Below.refl _ _).alloc (Nat.le_refl _) _
  generalize w.alloc (.cells #[.int .i64 0, .int .i64 0, .int .i64 0, .int .i64 0, .int .i64 0, .int .i64 0, .int .i64 0, .int .i64 0, .int .i64 0, .int .i64 0, .int .i64 0, .int .i64 0, .int .i64 0, .int .i64 0, .int .i64 0, .int .i64 0] 72) = ws at hown0 hbel0 ⊢
  go_loopw [6, 7] (fun x i wr => ∃ k : Nat, k ≤ 8 ∧ x = .int .i64 ((a / 2 ^ k : Nat) : Int) ∧ i = .int .i64 (k : Int) ∧ OwnsC wr w.heap.size w.heap.size (cout a b k) ∧ Below w.heap.size w wr) (fun _ i _ => 8 - (intOf i).toNat)
  case atStart => exact ⟨0, by omega, by simp, rfl, hown0, hbel0⟩
  case round =>
    obtain ⟨k, hk, rfl, rfl, hown, hbel⟩ := hrel
    have HX : Hid (a / 2 ^ k / 2 = a / 2 ^ (k + 1)) := half_nat a k
    have hXle : a / 2 ^ k ≤ a := Nat.div_le_self _ _
    obtain ⟨P, hP⟩ : ∃ P, co a k = P := ⟨_, rfl⟩
    have hP2 : P < 2 := by rw [← hP]; exact co_lt a k
    have HP : Hid (co a k = P) := hP
    have hx2 : ((a / 2 ^ k : Nat) : Int) % 2 = (P : Int) := by rw [← hP]; unfold co; omega
    clear hP
    generalize a / 2 ^ k = X at HX hXle hx2 ⊢
    by_cases hlt : k < 8
    · rename World => wo
      go_wp2_with fail
      go_loopw [8, 9] (fun y j wi => ∃ q : Nat, q ≤ 8 ∧ y = .int .i64 ((b / 2 ^ q : Nat) : Int) ∧ j = .int .i64 (q : Int) ∧ OwnsC wi w.heap.size w.heap.size (cin a b k (cout a b k) q) ∧ Below w.heap.size w wi) (fun _ j _ => 8 - (intOf j).toNat)
      case atStart => exact ⟨0, by omega, by simp, rfl, hown, hbel⟩
      case round =>
        obtain ⟨q, hq, rfl, rfl, hownq, hbelq⟩ := hrel
        have HY : Hid (b / 2 ^ q / 2 = b / 2 ^ (q + 1)) := half_nat b q
        have hYle : b / 2 ^ q ≤ b := Nat.div_le_self _ _
        obtain ⟨Q, hQ⟩ : ∃ Q, co b q = Q := ⟨_, rfl⟩
        have hQ2 : Q < 2 := by rw [← hQ]; exact co_lt b q
        have HQ : Hid (co b q = Q) := hQ
        have hy2 : ((b / 2 ^ q : Nat) : Int) % 2 = (Q : Int) := by rw [← hQ]; unfold co; omega
        clear hQ
        generalize b / 2 ^ q = Y at HY hYle hy2 ⊢
        by_cases hqlt : q < 8
        · obtain ⟨R, hR⟩ : ∃ R, P * Q = R := ⟨_, rfl⟩
          have hR2 : R < 2 := by rw [← hR]; exact bit_mul P Q hP2 hQ2
          have hm : (P : Int) * (Q : Int) = (R : Int) := by rw [← hR]; simp
          obtain ⟨M, hM⟩ : ∃ M, cin a b k (cout a b k) q = M := ⟨_, rfl⟩
          rw [hM] at hownq
          have hcell := hownq.cell (k + q) (by omega)
          have hfr := hownq.frozen (k + q)
          have hst := hownq.stored (k + q) R hR2
          have hC := co_lt M (k + q)
          have hS : cin a b k (cout a b k) (q + 1) = M ^^^ R * 2 ^ (k + q) := by rw [cin, hM, HP.out, HQ.out, hR]
          rw [← hS] at hst
          clear hR hS hM
          generalize co M (k + q) = C at hcell hst hC
          go_wp2_with fail
          go_roundw
          case rel => exact ⟨q + 1, by omega, by rw [← HY.out]; go_num, by go_num, hst, hbelq.setCell (Nat.le_refl _) _⟩
          case measure => simp [intOf]; omega
        · have hq8 : q = 8 := by omega
          subst hq8
          go_wp2_with fail
          go_roundw
          case rel => exact ⟨k + 1, by omega, by rw [← HX.out]; go_num, by go_num, hownq, hbelq⟩
          case measure => simp [intOf]; omega
    · have hk8 : k = 8 := by omega
      subst hk8
      go_wp2_with fail
      have hlt0 : w.heap.size < wr.heap.size := (World.ownsRow.lt hown w.heap.size rfl).2
      have hownm : OwnsM (wr.alloc (.cells #[.int .i64 1, .int .i64 0, .int .i64 1, .int .i64 1, .int .i64 1, .int .i64 0, .int .i64 0, .int .i64 0, .int .i64 1] 73)) w.heap.size wr.heap.size :=
        ⟨rfl, .inr ⟨wr.heap.size, 9, _, rfl, hbel.size, heap_alloc_new wr _, Nat.le_refl _, by unfold maxLen; omega, rfl, by rw [rowM_is]; rfl⟩⟩
      have hownc : OwnsC (wr.alloc (.cells #[.int .i64 1, .int .i64 0, .int .i64 1, .int .i64 1, .int .i64 1, .int .i64 0, .int .i64 0, .int .i64 0, .int .i64 1] 73)) w.heap.size w.heap.size (cout a b 8) := World.ownsRow.alloc hown _
      have hbelm := hbel.alloc hbel.size (.cells #[.int .i64 1, .int .i64 0, .int .i64 1, .int .i64 1, .int .i64 1, .int .i64 0, .int .i64 0, .int .i64 0, .int .i64 1] 73)
      generalize wr.alloc (.cells #[.int .i64 1, .int .i64 0, .int .i64 1, .int .i64 1, .int .i64 1, .int .i64 0, .int .i64 0, .int .i64 0, .int .i64 1] 73) = wm at hownm hownc hbelm ⊢
      generalize wr.heap.size = G at hownm hlt0 ⊢
      clear hown hbel
      go_loopw [11] (fun i wx => ∃ t : Nat, t ≤ 8 ∧ i = .int .i64 (15 - (t : Int)) ∧ OwnsC wx w.heap.size w.heap.size (rout (cout a b 8) t) ∧ OwnsM wx w.heap.size G ∧ Below w.heap.size w wx) (fun i _ => (intOf i - 7).toNat)
      case atStart => exact ⟨0, by omega, rfl, hownc, hownm, hbelm⟩
      case round =>
        obtain ⟨t, ht, rfl, hown, hom, hbel⟩ := hrel
        by_cases hlt : t < 8
        · obtain ⟨s, hs⟩ : ∃ s, s + t = 7 := ⟨7 - t, by omega⟩
          have hi : (15 - (t : Int)) = ((s + 8 : Nat) : Int) := by omega
          rw [hi]
          have hcell := hown.cell (s + 8) (by omega)
          have hC := co_lt (rout (cout a b 8) t) (s + 8)
          by_cases hc0 : co (rout (cout a b 8) t) (s + 8) = 0
          · have hS := rout_none (cout a b 8) t s hs hc0
            rw [hc0] at hcell
            rw [← hS] at hown
            clear hC hc0 hS
            go_wp2_with fail
            go_roundw
            case rel => exact ⟨t + 1, by omega, by go_num, hown, hom, hbel⟩
            case measure => simp [intOf]; omega
          · have hc1 : co (rout (cout a b 8) t) (s + 8) = 1 := by omega
            have hS := rout_one (cout a b 8) t s hs hc1
            rw [hc1] at hcell
            obtain ⟨M, hM⟩ : ∃ M, rout (cout a b 8) t = M := ⟨_, rfl⟩
            rw [hM] at hS hown
            have HS : Hid (rout (cout a b 8) (t + 1) = rin s M 9) := hS
            clear hC hc0 hS hc1 hM
            rename World => wo
            go_wp2_with fail
            go_loopw [12] (fun j wi => ∃ q : Nat, q ≤ 9 ∧ j = .int .i64 (q : Int) ∧ OwnsC wi w.heap.size w.heap.size (rin s M q) ∧ OwnsM wi w.heap.size G ∧ Below w.heap.size w wi) (fun j _ => 9 - (intOf j).toNat)
            case atStart => exact ⟨0, by omega, rfl, hown, hom, hbel⟩
            case round =>
              obtain ⟨q, hq, rfl, hownq, homq, hbelq⟩ := hrel
              by_cases hqlt : q < 9
              · have hcq := hownq.cell (s + q) (by omega)
                have hfr := hownq.frozen (s + q)
                have hmq := homq.cell q hqlt
                have hst := hownq.stored (s + q) (co 285 q) (co_lt _ _)
                have hC := co_lt (rin s M q) (s + q)
                have hD := co_lt 285 q
                have hS : rin s M (q + 1) = rin s M q ^^^ co 285 q * 2 ^ (s + q) := rfl
                rw [← hS] at hst
                clear hS hcell
                generalize co (rin s M q) (s + q) = C at hcq hst hC
                generalize co 285 q = D at hmq hst hD
                go_wp2_with fail
                go_region
                all_goals
                  go_wp2_with fail
                  go_roundw
                  case rel => exact ⟨q + 1, by omega, by go_num, hst, homq.other (by simp; omega) _, (hbelq.setCell (Nat.le_refl _) _).drew⟩
                  case measure => simp [intOf]; omega
              · have hq9 : q = 9 := by omega
                subst hq9
                rw [← HS.out] at hownq
                go_wp2_with fail
                go_roundw
                case rel => exact ⟨t + 1, by omega, by go_num, hownq, homq, hbelq⟩
                case measure => simp [intOf]; omega
        · have ht8 : t = 8 := by omega
          subst ht8
          go_wp2_with fail
          obtain ⟨M, hM⟩ : ∃ M, rout (cout a b 8) 8 = M := ⟨_, rfl⟩
          have HR : Hid (M % 256 = gm a b) := by rw [← hM]; exact dm_gm a b ha hb
          rw [hM] at hown
          clear hM
          go_loop [13, 14] (fun n i => ∃ u : Nat, u ≤ 8 ∧ n = .int .i64 ((M % 256 / 2 ^ (8 - u) : Nat) : Int) ∧ i = .int .i64 (7 - (u : Int))) (fun _ i => (intOf i + 1).toNat)
          case atStart => exact ⟨0, by omega, by rw [Nat.div_eq_of_lt (Nat.mod_lt _ (by omega))]; rfl, rfl⟩
          case round =>
            obtain ⟨u, hu, rfl, rfl⟩ := hrel
            by_cases hlt : u < 8
            · obtain ⟨v, hv⟩ : ∃ v, v + u = 7 := ⟨7 - u, by omega⟩
              have hi : (7 - (u : Int)) = (v : Int) := by omega
              have hcell := hown.cell v (by omega)
              have HL : Hid (2 * (M % 256 / 2 ^ (v + 1)) + co M v = M % 256 / 2 ^ (8 - (u + 1))) := by
                rw [show 8 - (u + 1) = v by omega]; exact low_bits M v (by omega)
              have hC := co_lt M v
              rw [hi, show 8 - u = v + 1 by omega]
              have hle : M % 256 / 2 ^ (v + 1) ≤ M % 256 := Nat.div_le_self _ _
              have hle2 : M % 256 < 256 := Nat.mod_lt _ (by omega)
              generalize M % 256 / 2 ^ (v + 1) = n at hle HL ⊢
              generalize co M v = C at hcell hC HL
              go_wp2_with fail
              go_round
              case rel => exact ⟨u + 1, by omega, by rw [← HL.out]; go_num, by go_num⟩
              case measure => simp [intOf]
            · have hu8 : u = 8 := by omega
              subst hu8
              rw [Nat.sub_self, Nat.pow_zero, Nat.div_one, HR.out]
              have hg := gm_lt a b ha
              go_wp2_with fail
              go_ret
              exact ⟨rfl, hbel⟩
end Go.Proofs.Ytdpcbiccbhlonaa
/- What the document's own powers, inverses and logarithms of elements answer. -/
namespace Go.Proofs.Ytdpcbiccbhlonaa
open Go.RowKit
set_option linter.unusedVariables false

theorem tmod255 (n : Int) : ∃ K : Nat, n % 255 = (K : Int) ∧ K < 255 ∧ (n.tmod 255 = (K : Int) ∨ n.tmod 255 = (K : Int) - 255 ∧ 0 < K) := by
  refine ⟨(n % 255).toNat, by omega, by omega, ?_⟩
  have e := Int.tmod_eq_emod (a := n) (b := 255)
  have : (255 : Int).natAbs = 255 := rfl
  split at e <;> omega

theorem refPow_any (a : Nat) (ha : a < 256) (n : Int) (h0 : -9223372036854775808 ≤ n) (h1 : n ≤ 9223372036854775807) (w : World) :
    Calls Try.prog 29 #[.int .u8 (a : Int), .int .i64 n] w fun e w' => e = .returned (.int .u8 (gpow a n : Int)) ∧ Below w.heap.size w w' := by
  by_cases hn : n = 0
  · subst hn
    have hr : gpow a 0 = 1 := by unfold gpow; rw [if_neg (by omega)]; rfl
    rw [hr]
    go_enter Try.func29, Try.ntmps29
    go_wp2_with fail
    go_ret
    exact ⟨rfl, Below.refl _ _⟩
  · have hnb : (n == 0) = false := by simpa using hn
    by_cases hz : a = 0
    · subst hz
      have hr : gpow 0 n = 0 := by unfold gpow; rw [if_pos ⟨rfl, hn⟩]
      rw [hr]
      go_enter Try.func29, Try.ntmps29
      go_wp2_with fail
      go_ret
      exact ⟨rfl, Below.refl _ _⟩
    · have hzb : ((a : Int) == 0) = false := by simp; omega
      rw [gpow_ne a n hz]
      obtain ⟨K, hK, hK255, hT⟩ := tmod255 n
      rw [hK, Int.toNat_natCast]
      clear hK
      rcases hT with hT | ⟨hT, hK0⟩
      · go_enter Try.func29, Try.ntmps29
        go_wp2_with fail
        go_loopw [6, 7] (fun p i wr => ∃ k : Nat, k ≤ K ∧ p = .int .u8 (gp a k : Int) ∧ i = .int .i64 (k : Int) ∧ Below w.heap.size w wr) (fun _ i _ => K - (intOf i).toNat)
        case atStart => exact ⟨0, by omega, rfl, rfl, Below.refl _ _⟩
        case round =>
          obtain ⟨k, hk, rfl, rfl, hbel⟩ := hrel
          by_cases hlt : k < K
          · go_wp2_with fail
            go_at_call 31
            refine (refMul_any (gp a k) a (gp_lt a k ha) ha _).mono ?_
            rintro e w' ⟨rfl, hb⟩
            go_wp2_with fail
            go_roundw
            case rel => exact ⟨k + 1, by omega, rfl, by go_num, hbel.trans (hb.mono hbel.size)⟩
            case measure => simp [intOf]; omega
          · have hkK : k = K := by omega
            subst hkK
            go_wp2_with fail
            go_ret
            exact ⟨rfl, hbel⟩
      · have hneg : (K : Int) - 255 < 0 := by omega
        go_enter Try.func29, Try.ntmps29
        go_wp2_with fail
        go_loopw [6, 7] (fun p i wr => ∃ k : Nat, k ≤ K ∧ p = .int .u8 (gp a k : Int) ∧ i = .int .i64 (k : Int) ∧ Below w.heap.size w wr) (fun _ i _ => K - (intOf i).toNat)
        case atStart => exact ⟨0, by omega, rfl, rfl, Below.refl _ _⟩
        case round =>
          obtain ⟨k, hk, rfl, rfl, hbel⟩ := hrel
          by_cases hlt : k < K
          · go_wp2_with fail
            go_at_call 31
            refine (refMul_any (gp a k) a (gp_lt a k ha) ha _).mono ?_
            rintro e w' ⟨rfl, hb⟩
            go_wp2_with fail
            go_roundw
            case rel => exact ⟨k + 1, by omega, rfl, by go_num, hbel.trans (hb.mono hbel.size)⟩
            case measure => simp [intOf]; omega
          · have hkK : k = K := by omega
            subst hkK
            go_wp2_with fail
            go_ret
            exact ⟨rfl, hbel⟩

/-- The document's inverse: 0 of 0. -/
def gi0 (a : Nat) : Nat := if a = 0 then 0 else gi a
set_option maxRecDepth 20000 in
theorem refInv_any (a : Nat) (ha : a < 256) (w : World) :
    Calls Try.prog 49 #[.int .u8 (a : Int)] w fun e w' => e = .returned (.int .u8 (gi0 a : Int)) ∧ Below w.heap.size w w' := by
  obtain ⟨R, hR⟩ : ∃ R, gi0 a = R := ⟨_, rfl⟩
  rw [hR]
  have HR : Hid (gi0 a = R) := hR
  clear hR
  go_enter Try.func49, Try.ntmps49
  go_wp2_with fail
  go_loopw [3] (fun i wr => ∃ k : Nat, 1 ≤ k ∧ k ≤ 256 ∧ i = .int .i64 (k : Int) ∧ (∀ j, 1 ≤ j → j < k → gm a j ≠ 1) ∧ Below w.heap.size w wr) (fun i _ => (256 - intOf i).toNat)
  case atStart => exact ⟨1, by omega, by omega, rfl, fun j h1 h2 => by omega, Below.refl _ _⟩
  case round =>
    obtain ⟨k, hk1, hk, rfl, hno, hbel⟩ := hrel
    have HN : Hid (∀ j, 1 ≤ j → j < k → gm a j ≠ 1) := hno
    clear hno
    by_cases hlt : k < 256
    · go_wp2_with fail
      go_at_call 31
      refine (refMul_any a k ha hlt _).mono ?_
      rintro e w' ⟨rfl, hb⟩
      have hb' := hbel.trans (hb.mono hbel.size)
      by_cases h1 : gm a k = 1
      · have hr : gi0 a = k := by
          unfold gi0
          rw [if_neg (by rintro rfl; rw [zero_gm k hlt] at h1; omega)]
          exact (gi_unique a k ha hlt h1).symm
        rw [h1]
        go_wp2_with fail
        go_ret
        exact ⟨ret_of (by rw [← HR.out, hr]), hb'⟩
      · have h1b : (((gm a k : Nat) : Int) == 1) = false := by simp; omega
        go_wp2_with fail
        go_roundw
        case rel =>
          refine ⟨k + 1, by omega, by omega, by go_num, fun j hj hj2 => ?_, hb'⟩
          by_cases e : j = k
          · rw [e]; exact h1
          · exact HN.out j hj (by omega)
        case measure => simp [intOf]; omega
    · have hk256 : k = 256 := by omega
      subst hk256
      have hr : gi0 a = 0 := by
        unfold gi0
        by_cases hz : a = 0
        · rw [if_pos hz]
        · exact absurd (gm_gi a ha hz) (HN.out (gi a) (by have := gi_pos a ha hz; omega) (gi_lt a ha))
      go_wp2_with fail
      go_ret
      exact ⟨ret_of (by rw [← HR.out, hr]; rfl), hbel⟩

end Go.Proofs.Ytdpcbiccbhlonaa
/- What the document's own combination of two texts answers, for every two texts: bit by bit it is the exclusive or of the bytes. -/
namespace Go.Proofs.Ytdpcbiccbhlonaa
open Go.RowKit Go.PlainAid
set_option linter.unusedVariables false

/-- What has been gathered behind k rounds. -/
def ulN (a b : Int) : Nat → Int
  | 0 => 0
  | k + 1 => if (a / 2 ^ k) % 2 = (b / 2 ^ k) % 2 then ulN a b k else (ulN a b k + 2 ^ k % 256) % 256

theorem ulN_nat (A B k : Nat) (hk : k ≤ 8) : ulN (A : Int) (B : Int) k = (((A ^^^ B) % 2 ^ k : Nat) : Int) := by
  induction k with
  | zero => simp [ulN, Nat.mod_one]
  | succ k ih =>
    have ih := ih (by omega)
    have hlt : (A ^^^ B) % 2 ^ k < 2 ^ k := Nat.mod_lt _ (Nat.pow_pos (by omega))
    have hz := Nat.mod_pow_succ (x := A ^^^ B) (b := 2) (k := k)
    have hx : (A ^^^ B) / 2 ^ k % 2 = (A / 2 ^ k + B / 2 ^ k) % 2 := by
      rw [Nat.xor_div_two_pow]
      have := Nat.xor_mod_two_eq_one (a := A / 2 ^ k) (b := B / 2 ^ k)
      omega
    have hp : 2 ^ k ≤ 128 := Nat.pow_le_pow_right (n := 2) (by omega) (show k ≤ 7 by omega)
    have e1 : ((A : Int) / 2 ^ k) % 2 = ((A / 2 ^ k % 2 : Nat) : Int) := by simp
    have e2 : ((B : Int) / 2 ^ k) % 2 = ((B / 2 ^ k % 2 : Nat) : Int) := by simp
    have e3 : (2 : Int) ^ k = ((2 ^ k : Nat) : Int) := by simp
    unfold ulN
    rw [ih, e1, e2, e3, hz, hx]
    split
    · rename_i h
      have : (A / 2 ^ k + B / 2 ^ k) % 2 = 0 := by omega
      rw [this]; simp
    · rename_i h
      have : (A / 2 ^ k + B / 2 ^ k) % 2 = 1 := by omega
      rw [this]; omega

theorem ulN_range (a b : Int) (k : Nat) : 0 ≤ ulN a b k ∧ ulN a b k ≤ 255 := by
  induction k with
  | zero => simp [ulN]
  | succ k ih => unfold ulN; split <;> omega

theorem ulN_xor (a b : Int) (h1 : 0 ≤ a) (h2 : a ≤ 255) (h3 : 0 ≤ b) (h4 : b ≤ 255) : ulN a b 8 = bits .xor .u8 a b := by
  rw [u8_xor a b h1 (by omega) h3 (by omega)]
  obtain ⟨A, rfl⟩ := Int.eq_ofNat_of_zero_le h1
  obtain ⟨B, rfl⟩ := Int.eq_ofNat_of_zero_le h3
  rw [ulN_nat A B 8 (by omega)]
  have hx : A ^^^ B < 2 ^ 8 := Nat.xor_lt_two_pow (by omega) (by omega)
  rw [Nat.mod_eq_of_lt hx]
  simp

theorem half_on (a : Int) (k : Nat) : a / 2 ^ k / 2 = a / 2 ^ (k + 1) := by
  rw [Int.ediv_ediv_of_nonneg (by exact Int.pow_nonneg (by omega)), ← Int.pow_succ]
theorem pow_on (k : Nat) : 2 * ((2 : Int) ^ k % 256) % 256 = 2 ^ (k + 1) % 256 := by
  rw [Int.pow_succ]; omega
theorem pow_range (k : Nat) : 0 ≤ (2 : Int) ^ k % 256 ∧ (2 : Int) ^ k % 256 ≤ 255 := by omega
theorem div_range (a : Int) (k : Nat) (h1 : 0 ≤ a) (h2 : a ≤ 255) : 0 ≤ a / 2 ^ k ∧ a / 2 ^ k ≤ 255 := by
  obtain ⟨A, rfl⟩ := Int.eq_ofNat_of_zero_le h1
  have e1 : ((A : Int) / 2 ^ k) = ((A / 2 ^ k : Nat) : Int) := by simp
  have : A / 2 ^ k ≤ A := Nat.div_le_self _ _
  rw [e1]
  generalize A / 2 ^ k = q at this
  omega

theorem unlike_any (a b : Int) (h1 : 0 ≤ a) (h2 : a ≤ 255) (h3 : 0 ≤ b) (h4 : b ≤ 255) (w : World) :
    Calls Try.prog 59 #[.int .u8 a, .int .u8 b] w fun e w' => e = .returned (.int .u8 (bits .xor .u8 a b)) ∧ w' = w := by
  go_enter Try.func59, Try.ntmps59
  go_wp2
  go_loop [0, 1, 5, 6, 7] (fun x y n p i => ∃ k : Nat, k ≤ 8 ∧ i = .int .i64 k ∧ x = .int .u8 (a / 2 ^ k) ∧ y = .int .u8 (b / 2 ^ k) ∧ n = .int .u8 (ulN a b k) ∧ p = .int .u8 (2 ^ k % 256)) (fun _ _ _ _ i => 8 - (intOf i).toNat)
  case atStart => exact ⟨0, by omega, rfl, by simp, by simp, rfl, by simp⟩
  case round =>
    obtain ⟨k, hk, rfl, rfl, rfl, rfl, rfl⟩ := hrel
    have da := div_range a k h1 h2
    have db := div_range b k h3 h4
    have dp := pow_range k
    have dn := ulN_range a b k
    have HA : Hid (a / 2 ^ k / 2 = a / 2 ^ (k + 1)) := half_on a k
    have HB : Hid (b / 2 ^ k / 2 = b / 2 ^ (k + 1)) := half_on b k
    have HP : Hid (2 * ((2 : Int) ^ k % 256) % 256 = 2 ^ (k + 1) % 256) := pow_on k
    have HN : Hid (ulN a b (k + 1) = if (a / 2 ^ k) % 2 = (b / 2 ^ k) % 2 then ulN a b k else (ulN a b k + 2 ^ k % 256) % 256) := rfl
    obtain ⟨P, hP⟩ : ∃ P, P = (2 : Int) ^ k % 256 := ⟨_, rfl⟩
    rw [← hP] at dp HP HN ⊢
    clear hP
    generalize a / 2 ^ k = X at da HA HN ⊢
    generalize b / 2 ^ k = Y at db HB HN ⊢
    by_cases hlt : k < 8
    · go_wp2
      · have ht : (X % 2 != Y % 2) = true := by assumption
        have ht' : ¬ X % 2 = Y % 2 := by simpa using ht
        go_round
        case rel => exact ⟨k + 1, by omega, by go_num, by rw [HA.out], by rw [HB.out], by rw [HN.out, if_neg ht'], by rw [HP.out]⟩
        case measure => simp [intOf]; omega
      · have ht : (X % 2 != Y % 2) = false := by assumption
        have ht' : X % 2 = Y % 2 := by simpa using ht
        go_round
        case rel => exact ⟨k + 1, by omega, by go_num, by rw [HA.out], by rw [HB.out], by rw [HN.out, if_pos ht'], by rw [HP.out]⟩
        case measure => simp [intOf]; omega
    · have hk8 : k = 8 := by omega
      subst hk8
      go_wp2
      go_ret
      exact ⟨ret_int (ulN_xor a b h1 h2 h3 h4), rfl⟩
/-- Bytes that the call itself gathered, as a text. -/
theorem convert_owned {w : World} {base : Nat} {v : Value} {n : Nat} {xs : List Int} (h : w.ownsRow base 5 1 v n (xs.map (Value.int .u8))) (hn : xs.length = n) :
    (convert 46 9 v).run Try.prog w = .ok (.string (strOfNums xs)) w := by
  have hc := h
  rcases h.2 with ⟨rfl, h0⟩ | ⟨g, cap, cur, rfl, hb, hg, _⟩
  · have : xs = [] := List.eq_nil_of_length_eq_zero (by omega)
    subst this
    rw [run_convert_bytes_nil w 46 5 Try.underlying46 Try.underlying5 0 0 9 Try.underlying9]
    rfl
  · refine run_convert_bytes_arg w 46 5 Try.underlying46 Try.underlying5 g 0 n cap xs hn (fun i hi => ?_) 9 Try.underlying9
    rw [Nat.zero_add, hc.cellAt i (by omega)]
    have : i < xs.length := by omega
    simp [List.getD, this]

def xorF (a b : ByteArray) (k : Nat) : List Int := (List.range k).map fun i => bits .xor .u8 (bt a i) (bt b i)
theorem xorF_succ (a b : ByteArray) (k : Nat) : xorF a b (k + 1) = xorF a b k ++ [bits .xor .u8 (bt a k) (bt b k)] := by
  unfold xorF; rw [List.range_succ, List.map_append]; rfl
theorem xorF_length (a b : ByteArray) (k : Nat) : (xorF a b k).length = k := by simp [xorF]

set_option maxHeartbeats 400000 in
theorem refXor_any (a b : ByteArray) (w : World) (ha : a.size ≤ 4000) (hb : b.size ≤ 4000) :
    Calls Try.prog 45 #[.string a, .string b] w fun e w' => e = .returned (.string (xorB a b)) ∧ Below w.heap.size w w' := by
  obtain ⟨i0, hi, hz0, hz1, hz2⟩ := info_parts Try.info5
  obtain ⟨n, hn⟩ : ∃ n : Nat, min a.size b.size = n := ⟨_, rfl⟩
  have hna : n ≤ a.size := by omega
  have hnb : n ≤ b.size := by omega
  have HN : Hid (min a.size b.size = n) := hn
  have hba := get_bt a
  have hbb := get_bt b
  clear hn
  go_enter Try.func45, Try.ntmps45
  go_wp2
  go_loopw [5, 6] (fun v i wr => ∃ k : Nat, k ≤ n ∧ i = .int .i64 k ∧ wr.ownsRow w.heap.size 5 1 v k ((xorF a b k).map (Value.int .u8)) ∧ Below w.heap.size w wr) (fun _ i _ => n - (intOf i).toNat)
  case atStart => exact ⟨0, Nat.zero_le _, rfl, World.ownsRow_nil _ _ _ _, Below.refl _ _⟩
  case round =>
    obtain ⟨k, hk, rfl, hown, hbel⟩ := hrel
    by_cases hlt : k < n
    · have ra := bt_nonneg a k
      have ra' := bt_le a k
      have rb := bt_nonneg b k
      have rb' := bt_le b k
      have hka : k < a.size := by omega
      have hkb : k < b.size := by omega
      go_wp2_with fail
      go_quiet ((go_at_call 59; exact Calls.quiet_of_same (unlike_any _ _ ra ra' rb rb' _)))
      go_wp2_with (at_builtin; refine wpList_append_own _ rfl _ _ 46 rfl w.heap.size 5 i0 (.int .u8 0) 1 1 Try.underlying46 hi hz0 hz1 hz2 rfl (by decide) _ _ _ rfl (World.ownsRow.alloc (w := wr.drewN nq) hown _) ⟨wr.heap.size, 0, none⟩ 1 1 [.int .u8 (bits .xor .u8 (bt a k) (bt b k))] rfl rfl ?c1 ?c2 ?c3 ?c4 ?c5 ?_)
      case c1 =>
        intro j u hj
        match j, hj with
        | 0, hj => simp at hj; subst hj; simp [Addr.add, World.drewN]
      case c2 => intro u hu; simp at hu; subst hu; rfl
      case c3 => unfold maxLen; omega
      case c4 => omega
      case c5 => have := hbel.size; simp [World.drewN]; omega
      · intro v' w1 hown' hgrow _
        have hbel' : Below w.heap.size w w1 := by
          refine Below.grown ((below_drewN hbel nq).alloc (by simp [World.drewN]; exact hbel.size) _) hgrow ?_ ?_
          · have := hbel.size; simp [World.drewN]; omega
          · intro g hg; exact (hown.lt g hg).1
        have R : w1.ownsRow w.heap.size 5 1 v' (k + 1) ((xorF a b (k + 1)).map (Value.int .u8)) := by
          rw [xorF_succ, List.map_append]; exact hown'
        clear hown' hgrow hown hbel
        go_wp2
        go_roundw
        case rel => exact ⟨k + 1, by omega, by go_num, R, hbel'⟩
        case measure => simp [intOf]; omega
    · have hkn : k = n := by omega
      subst hkn
      have hconv := convert_owned hown (xorF_length a b k)
      have hres : strOfNums (xorF a b k) = xorB a b := by unfold xorB xorL xorF; rw [HN.out]
      rw [hres] at hconv
      have hend : (a.size : Int) ≤ (k : Int) ∨ (b.size : Int) ≤ (k : Int) := by have := HN.out; omega
      clear hres
      by_cases hka : k < a.size
      · have hkb : ¬ k < b.size := by omega
        go_wp2
        go_ret
        exact ⟨rfl, hbel⟩
      · go_wp2
        go_ret
        exact ⟨rfl, hbel⟩
end Go.Proofs.Ytdpcbiccbhlonaa
/- What the document's own sum of two elements answers. -/
namespace Go.Proofs.Ytdpcbiccbhlonaa
open Go.RowKit Go.PlainAid
set_option linter.unusedVariables false

/-- One byte as a text. -/
def oneB (a : Nat) : ByteArray := strOfNums [(a : Int)]
theorem oneB_size (a : Nat) : (oneB a).size = 1 := by unfold oneB; rw [strOfNums_size]; rfl
theorem oneB_get (a : Nat) (ha : a < 256) : bt (oneB a) 0 = (a : Int) := by
  unfold oneB
  rw [bt_str _ _ 0 (by simp)]
  · rfl
  · intro x hx; simp at hx; omega
theorem oneB_conv (w : World) (a : Nat) :
    (convert 46 9 (.slice (some ⟨w.heap.size, 0, none⟩) 1 1)).run Try.prog (w.alloc (.cells #[.int .u8 (a : Int)] 5)) = .ok (.string (oneB a)) (w.alloc (.cells #[.int .u8 (a : Int)] 5)) :=
  convert_owned (base := w.heap.size) (n := 1) (xs := [(a : Int)]) ⟨rfl, .inr ⟨w.heap.size, 1, _, rfl, Nat.le_refl _, heap_alloc_new w _, Nat.le_refl _, by unfold maxLen; omega, rfl, rfl⟩⟩ rfl

theorem refAdd_any (a b : Nat) (ha : a < 256) (hb : b < 256) (w : World) :
    Calls Try.prog 30 #[.int .u8 (a : Int), .int .u8 (b : Int)] w fun e w' => e = .returned (.int .u8 ((a ^^^ b : Nat) : Int)) ∧ Below w.heap.size w w' := by
  have c1 := oneB_conv w a
  have c2 := oneB_conv (w.alloc (.cells #[.int .u8 (a : Int)] 5)) b
  rw [show (w.alloc (.cells #[.int .u8 (a : Int)] 5)).heap.size = w.heap.size + 1 by simp] at c2
  have sa := oneB_size a
  have sb := oneB_size b
  have hx : bt (xorB (oneB a) (oneB b)) 0 = ((a ^^^ b : Nat) : Int) := by
    rw [bt_xorB _ _ 0 (by rw [sa, sb]; decide), oneB_get a ha, oneB_get b hb]; rfl
  have hsz : (xorB (oneB a) (oneB b)).size = 1 := by rw [xorB_size, sa, sb]; rfl
  have hg := get_bt (xorB (oneB a) (oneB b))
  go_enter Try.func30, Try.ntmps30
  go_wp2_with fail
  go_at_call 45
  refine (refXor_any (oneB a) (oneB b) _ (by omega) (by omega)).mono ?_
  rintro e w1 ⟨rfl, hbel⟩
  generalize xorB (oneB a) (oneB b) = S at hx hsz hg ⊢
  go_wp2_with fail
  go_ret
  refine ⟨ret_of ?_, ?_⟩
  · rfl
  · refine Below.trans ?_ (hbel.mono ?_)
    · exact ((Below.refl _ _).alloc (Nat.le_refl _) _).alloc (by simp) _
    · simp; omega
end Go.Proofs.Ytdpcbiccbhlonaa
/- The document's unit matrix, its matrix of powers and its product. -/
namespace Go.Proofs.Ytdpcbiccbhlonaa
open Go.RowKit Go.PlainAid
set_option linter.unusedVariables false

section
variable {ops : Array Oper} {rest : List Oper} {o : Oper} {a : Act} {Q : Exit → Act → World → Prop}
theorem push_row_at (hgd : o.guard = none) (s x : Operand) (t : TypeId) (ho : o.op = .call { callee := .builtin .append, args := #[s, x], argTypes := #[t, t] }) (ht : Try.prog.underlying t = some (.slice 46))
    (w0 : World) (base : Nat) (vo v : Value) (k : Nat) (L : Nat → Nat) (X : Mx) (hA : AccM w0 base vo k L X) (hv : w0.ownsRow base 5 1 v (L k) (bytesL (L k) (X k))) (hs : a.eval s = vo)
    (sz : Nat) (hx : a.eval x = .slice (some ⟨sz, 0, none⟩) 1 1) (hsz : sz = w0.heap.size) (hk : k < 1000) (hbase : base ≤ w0.heap.size)
    (h : ∀ vo' w', AccM w' base vo' (k + 1) L X → Below base w0 w' → wpList Try.prog ops Q rest (a.put o.dst vo') w') :
    wpList Try.prog ops Q (o :: rest) a (w0.alloc (.cells #[v] 46 (0, 0))) := by
  subst hsz
  exact push_row hgd s x t ho ht w0 base vo v k L X hs hA hv hx hk hbase h
theorem push_byte_at (hgd : o.guard = none) (s x : Operand) (ho : o.op = .call { callee := .builtin .append, args := #[s, x], argTypes := #[46, 46] })
    (w0 : World) (base : Nat) (v : Value) (k : Nat) (f : Nat → E) (hA : w0.ownsRow base 5 1 v k (bytesL k f)) (hs : a.eval s = v) (b : Value) (hbv : b = byteV (f k))
    (sz : Nat) (hx : a.eval x = .slice (some ⟨sz, 0, none⟩) 1 1) (hsz : sz = w0.heap.size) (hk : k < 1000000000) (hbase : base ≤ w0.heap.size)
    (h : ∀ v' w', w'.ownsRow base 5 1 v' (k + 1) (bytesL (k + 1) f) → Below base w0 w' → wpList Try.prog ops Q rest (a.put o.dst v') w') :
    wpList Try.prog ops Q (o :: rest) a (w0.alloc (.cells #[b] 5 (0, 0))) := by
  subst hsz
  subst hbv
  exact push_byte hgd s x ho w0 base v k f hs hA hx hk hbase h
end
theorem id_row (n r : Nat) (hr : r < n) : (List.replicate n (Value.int .u8 0)).set r (.int .u8 1) = bytesL n (idM r) := by
  unfold bytesL
  apply List.ext_getElem
  · simp
  · intro i h1 h2
    rw [List.getElem_set]
    simp only [List.getElem_replicate, List.getElem_map, List.getElem_range, idM]
    by_cases e : r = i
    · subst e; simp [byteV, E.one_v]
    · simp [e, byteV, E.zero_v]

theorem owns_mono {w : World} {base base' : Nat} {e : TypeId} {size : Nat} {v : Value} {n : Nat} {xs : List Value} (h : w.ownsRow base e size v n xs) (hb : base' ≤ base) : w.ownsRow base' e size v n xs := by
  refine ⟨h.1, ?_⟩
  rcases h.2 with hn | ⟨g, cap, cur, rfl, hg0, rest⟩
  · exact .inl hn
  · exact .inr ⟨g, cap, cur, rfl, Nat.le_trans hb hg0, rest⟩

end Go.Proofs.Ytdpcbiccbhlonaa
/- The document's product of two matrices. -/
namespace Go.Proofs.Ytdpcbiccbhlonaa
open Go.RowKit Go.PlainAid
set_option linter.unusedVariables false

theorem refMul_E (a b : E) (w : World) : Calls Try.prog 31 #[.int .u8 (a.v : Int), .int .u8 (b.v : Int)] w fun e w' => e = .returned (.int .u8 ((a * b).v : Int)) ∧ Below w.heap.size w w' := refMul_any a.v b.v a.h b.h w
theorem refAdd_E (a b : E) (w : World) : Calls Try.prog 30 #[.int .u8 (a.v : Int), .int .u8 (b.v : Int)] w fun e w' => e = .returned (.int .u8 ((a + b).v : Int)) ∧ Below w.heap.size w w' := refAdd_any a.v b.v a.h b.h w

/-- The rows of a matrix that lies in older memory, whatever has been laid since. -/
def RowsIn (w : World) (b o n l : Nat) (X : Mx) : Prop := ∀ x, Below w.heap.size w x → ∀ r, r < n → ∃ b' o' cr, x.cell? ⟨b, o + r, none⟩ = some (.slice (some ⟨b', o', none⟩) l cr) ∧ ∀ k, k < l → x.cell? ⟨b', o' + k, none⟩ = some (.int .u8 ((X r k).v : Int))
theorem rows_in {w : World} {a : Option Addr} {n : Nat} {L : Nat → Nat} {X : Mx} (h : MatAt w a n L X) (g : Gd n L) : ∃ b o, a = some ⟨b, o, none⟩ ∧ RowsIn w b o n (L 0) X := by
  obtain ⟨AR, CR, hi⟩ := h
  obtain ⟨b, o, _, _, rfl, _, _, _⟩ := hi.cell 0 0 (by have := g.1; omega) (by have := g.2.2.1; omega)
  refine ⟨b, o, rfl, fun x hx r hr => ?_⟩
  have hl := g.2.2.2.2 r hr
  obtain ⟨b1, o1, b', o', e1, e2, e3, _⟩ := (hi.below hx).cell r 0 hr (by rw [hl]; have := g.2.2.1; omega)
  cases e1
  rw [hl] at e3
  refine ⟨b', o', _, e3, fun k hk => ?_⟩
  obtain ⟨_, _, b2, o2, _, f2, _, f4⟩ := (hi.below hx).cell r k hr (by rw [hl]; exact hk)
  rw [e2] at f2
  cases f2
  exact f4

end Go.Proofs.Ytdpcbiccbhlonaa
/- A matrix times texts: the program's own answer. -/
namespace Go.Proofs.Ytdpcbiccbhlonaa
open Go.RowKit Go.PlainAid
set_option linter.unusedVariables false

theorem Try.info9 : (Try.prog.info? 9).map (fun i => (i.zero, i.size, i.bytes)) = some (some (.string ⟨#[]⟩), 1, 16) := by kernel_rfl
/-- What Apply answers of rows and texts. -/
def AppPost (n k : Nat) (L M : Nat → Nat) (A Y : Mx) (v : Value) (er : Int) (w' : World) : Prop :=
  (¬ Gd n L ∧ v = .slice none 0 0 ∧ er = 4) ∨
  (Gd n L ∧ ¬ (k = L 0 ∧ ∀ c, c < k → M c = M 0) ∧ v = .slice none 0 0 ∧ er = 7) ∨
  (Gd n L ∧ (k = L 0 ∧ ∀ c, c < k → M c = M 0) ∧ 65536 < M 0 ∧ v = .slice none 0 0 ∧ er = 5) ∨
  (Gd n L ∧ (k = L 0 ∧ ∀ c, c < k → M c = M 0) ∧ M 0 ≤ 65536 ∧ er = 0 ∧ ∃ a' c', v = .slice a' n c' ∧ n ≤ c' ∧ c' ≤ 9223372036854775807 ∧ TxtAt w' a' n (fun _ => M 0) (mulM k A Y))

set_option maxHeartbeats 1000000 in
theorem apply_ok (a l : Option Addr) (n k ca cl : Nat) (L M : Nat → Nat) (A Y : Mx) (w : World) (hn : n ≤ maxLen) (hA : MatAt w a n L A) (hcl : k ≤ cl) (hclm : cl ≤ 9223372036854775807) (hT : TxtAt w l k M Y)
    (gA : Gd n L) (hk : k = L 0) (hM : ∀ c, c < k → M c = M 0) (h5 : M 0 ≤ 65536) :
    Calls Try.prog 21 #[.slice a n ca, .slice l k cl] w fun e w' => Below w.heap.size w w' ∧ ∃ a', e = .returned (.tuple #[.slice a' n n, .int .i64 0]) ∧ TxtAt w' a' n (fun _ => M 0) (mulM k A Y) := by
  obtain ⟨i0, hi, hz0, hz1, hz2⟩ := info_parts Try.info9
  have hg := good_any a n ca L A w hn hA true (good_yes gA)
  have hal := fun x (h : Below w.heap.size w x) => alike_any l k cl M Y x (by unfold maxLen; omega) (hT.below h) true ⟨fun _ => hM, fun _ => rfl⟩
  have hT0 : ∀ x, Below w.heap.size w x → Vals x l k (fun c => .string (strE (M 0) (Y c))) := fun x hx => by
    rcases (hT.below hx).1 with h0 | ⟨b, o, rfl, h⟩
    · exact .inl h0
    · exact .inr ⟨b, o, rfl, fun i hi => by show _ = some (Value.string (strE (M 0) (Y i))); rw [← hM i hi]; exact h i hi⟩
  obtain ⟨ba, oa, rfl, hR⟩ := rows_in hA gA
  rw [← hk] at hR
  have k1 : 1 ≤ k := by rw [hk]; exact gA.2.2.1
  have k16 : k ≤ 16 := by rw [hk]; exact gA.2.2.2.1
  have n1 : 1 ≤ n := gA.1
  have n16 : n ≤ 16 := gA.2.1
  obtain ⟨bl, ol, rfl, hcl0⟩ := hT.cell k1
  obtain ⟨m, hm⟩ : ∃ m, M 0 = m := ⟨_, rfl⟩
  rw [hm] at hT0 h5 ⊢
  have HC0 : Hid (∀ x, Below w.heap.size w x → ∃ s : ByteArray, s.size = m ∧ x.cell? ⟨bl, ol, none⟩ = some (.string s)) := fun x hx => by
    have h := hcl0 0 (by omega)
    rw [Nat.add_zero] at h
    exact ⟨_, by rw [strE_size, hm], (hx.cell (p := ⟨bl, ol, none⟩) (cell_lt h)).trans h⟩
  have HC : Hid (∀ x, Below w.heap.size w x → ∀ r, r < n → ∃ b' o' cr, x.cell? ⟨ba, oa + r, none⟩ = some (.slice (some ⟨b', o', none⟩) k cr) ∧ Calls Try.prog 39 #[.slice (some ⟨b', o', none⟩) k cr, .slice (some ⟨bl, ol, none⟩) k cl] x fun e w' => e = .returned (.string (rowTxt m (A r) Y k)) ∧ Below x.heap.size x w') := fun x hx r hr => by
    obtain ⟨b', o', cr, e1, f1⟩ := hR x hx r hr
    exact ⟨b', o', cr, e1, combine_any _ _ k cr cl m (A r) Y x k1 k16 hcl hclm h5 (.inr ⟨b', o', rfl, f1⟩) (hT0 x hx)⟩
  have n0 : (0 : Int) < (n : Int) := by omega
  have n0' : 0 < n := by omega
  have k0 : (0 : Int) < (k : Int) := by omega
  have k0' : 0 < k := by omega
  have t0 : ((k : Int) != (k : Int)) = false := by simp
  clear hR gA hk hM hm hcl0 hT0 hn hA hT
  go_enter Try.func21, Try.ntmps21
  go_wp2_with fail
  go_at_call 37
  refine hg.mono ?_
  rintro e w1 ⟨rfl, hb1⟩
  obtain ⟨b', o', cr, e1, -⟩ := HC.out w1 hb1 0 n0'
  rw [Nat.add_zero] at e1
  have hal1 := hal w1 hb1
  clear hal hg
  go_wp2_with fail
  go_at_call 38
  refine hal1.mono ?_
  rintro e w2 ⟨rfl, hb2⟩
  have hb02 := hb1.trans (hb2.mono hb1.size)
  obtain ⟨s0, hs0, e2⟩ := HC0.out w2 hb02
  have hs5 : ¬ (65536 : Int) < (m : Int) := by omega
  clear hal1 e1 hb1 hb2
  go_wp2_with (at_make; refine wpList_make_full _ rfl _ _ 22 rfl w2.heap.size 9 i0 (.string ⟨#[]⟩) 1 Try.underlying22 hi hz0 hz1 _ _ _ _ n rfl rfl ?c0 ?c1 ?c2 ?c3 ?c4 ?_)
  case c0 => rfl
  case c1 => rfl
  case c2 => rw [hz2]; omega
  case c3 => unfold maxLen; omega
  case c4 => exact Nat.le_refl _
  intro w3 hown hgrow
  have hbel : Below w2.heap.size w2 w3 := (Below.refl _ _).grown hgrow (Nat.le_refl _) (fun k h => by cases h)
  rw [toList_madeCells_one, ← filled_zero n (fun r => .string (rowTxt m (A r) Y k))] at hown
  clear e2 hs0
  go_wp2_with fail
  go_loopw [34] (fun i wr => ∃ r : Nat, r ≤ n ∧ i = .int .i64 r ∧ Below w2.heap.size w2 wr ∧ wr.ownsRow w2.heap.size 9 1 (.slice (some ⟨w2.heap.size, 0, none⟩) n n) n (filled n r (fun r => .string (rowTxt m (A r) Y k)) (.string ⟨#[]⟩))) (fun i _ => (n : Nat) - (intOf i).toNat)
  case atStart => exact ⟨0, Nat.zero_le _, rfl, hbel, hown⟩
  case round =>
    obtain ⟨r, hr, rfl, hbr, hor⟩ := hrel
    by_cases hlt : r < n
    · obtain ⟨b', o', cr, e1, hcomb⟩ := HC.out wr (hb02.trans (hbr.mono hb02.size)) r hlt
      go_wp2_with fail
      go_at_call 39
      refine hcomb.mono ?_
      rintro e w4 ⟨rfl, hb4⟩
      have ho4 := owns_below hor hb4
      obtain ⟨v0, hcell⟩ : ∃ v0, w4.cell? ⟨w2.heap.size, r, none⟩ = some v0 := by
        rw [ho4.cellAt r (by omega)]; exact ⟨_, List.getElem?_eq_getElem (by simp [filled]; exact hlt)⟩
      have hfr := ho4.frozenAt r
      have hst := (ho4.stored r (.string (rowTxt m (A r) Y k))).1
      rw [filled_set n r (fun r => .string (rowTxt m (A r) Y k)) _ hlt] at hst
      have hb5 := hbr.trans (hb4.mono hbr.size)
      have rn : (r : Int) < (n : Int) := by omega
      clear hcomb e1 ho4
      go_wp2_with fail
      go_roundw
      case rel => exact ⟨r + 1, by omega, by go_num, hb5.setCell (Nat.le_refl _) _, hst⟩
      case measure => simp [intOf]; omega
    · have hrn : r = n := by omega
      subst hrn
      go_wp2_with fail
      go_ret2
      rw [filled_full] at hor
      refine ⟨hb02.trans (hbr.mono hb02.size), _, rfl, .inr ⟨w2.heap.size, 0, rfl, fun i hi => ?_⟩, fun c hc => by show m ≤ _; omega⟩
      rw [Nat.zero_add, hor.cellAt i (by omega)]
      simp [hi, rowTxt]
      rfl

set_option maxHeartbeats 1000000 in
theorem apply_any (a l : Option Addr) (n k ca cl : Nat) (L M : Nat → Nat) (A Y : Mx) (w : World) (hn : n ≤ maxLen) (hA : MatAt w a n L A) (hcl : k ≤ cl) (hclm : cl ≤ 9223372036854775807) (hT : TxtAt w l k M Y) :
    Calls Try.prog 21 #[.slice a n ca, .slice l k cl] w fun e w' => Below w.heap.size w w' ∧ ∃ v er, e = .returned (.tuple #[v, .int .i64 er]) ∧ AppPost n k L M A Y v er w' := by
  by_cases gA : Gd n L
  · have hg := good_any a n ca L A w hn hA true (good_yes gA)
    have n0' : 0 < n := by have := gA.1; omega
    have n0 : (0 : Int) < (n : Int) := by omega
    by_cases hk : k = L 0
    · by_cases hM : ∀ c, c < k → M c = M 0
      · by_cases h5 : M 0 ≤ 65536
        · refine (apply_ok a l n k ca cl L M A Y w hn hA hcl hclm hT gA hk hM h5).mono ?_
          rintro e w' ⟨hb, a', rfl, hT'⟩
          exact ⟨hb, _, _, rfl, .inr (.inr (.inr ⟨gA, ⟨hk, hM⟩, h5, rfl, a', n, rfl, Nat.le_refl _, by unfold maxLen at hn; omega, hT'⟩))⟩
        · have hal := fun x (h : Below w.heap.size w x) => alike_any l k cl M Y x (by unfold maxLen; omega) (hT.below h) true ⟨fun _ => hM, fun _ => rfl⟩
          obtain ⟨ba, oa, rfl, hR⟩ := rows_in hA gA
          rw [← hk] at hR
          have k1 : 1 ≤ k := by rw [hk]; exact gA.2.2.1
          have k16 : k ≤ 16 := by rw [hk]; exact gA.2.2.2.1
          obtain ⟨bl, ol, rfl, hcl0⟩ := hT.cell k1
          have HP : Hid (Gd n L ∧ (k = L 0 ∧ ∀ c, c < k → M c = M 0) ∧ 65536 < M 0) := ⟨gA, ⟨hk, hM⟩, by omega⟩
          obtain ⟨m, hm⟩ : ∃ m, M 0 = m := ⟨_, rfl⟩
          have hmm : m ≤ 9223372036854775807 := by rw [← hm]; exact hT.2 0 (by omega)
          have HC0 : Hid (∀ x, Below w.heap.size w x → ∃ s : ByteArray, s.size = m ∧ x.cell? ⟨bl, ol, none⟩ = some (.string s)) := fun x hx => by
            have h := hcl0 0 (by omega)
            rw [Nat.add_zero] at h
            exact ⟨_, by rw [strE_size, hm], (hx.cell (p := ⟨bl, ol, none⟩) (cell_lt h)).trans h⟩
          have HR : Hid (RowsIn w ba oa n k A) := hR
          have k0 : (0 : Int) < (k : Int) := by omega
          have k0' : 0 < k := by omega
          have t0 : ((k : Int) != (k : Int)) = false := by simp
          have hs5 : (65536 : Int) < (m : Int) := by omega
          clear hR gA hk hM hm hcl0 hn hA hT h5
          go_enter Try.func21, Try.ntmps21
          go_wp2_with fail
          go_at_call 37
          refine hg.mono ?_
          rintro e w1 ⟨rfl, hb1⟩
          obtain ⟨b', o', cr, e1, -⟩ := HR.out w1 hb1 0 n0'
          rw [Nat.add_zero] at e1
          have hal1 := hal w1 hb1
          clear hal hg
          go_wp2_with fail
          go_at_call 38
          refine hal1.mono ?_
          rintro e w2 ⟨rfl, hb2⟩
          have hb02 := hb1.trans (hb2.mono hb1.size)
          obtain ⟨s0, hs0, e2⟩ := HC0.out w2 hb02
          clear hal1 e1 hb1 hb2
          go_wp2_with fail
          go_ret2
          exact ⟨hb02, _, _, rfl, .inr (.inr (.inl ⟨HP.out.1, HP.out.2.1, HP.out.2.2, rfl, rfl⟩))⟩
      · have hal := fun x (h : Below w.heap.size w x) => alike_any l k cl M Y x (by unfold maxLen; omega) (hT.below h) false ⟨fun h => Bool.noConfusion h, fun h => absurd h hM⟩
        obtain ⟨ba, oa, rfl, hR⟩ := rows_in hA gA
        rw [← hk] at hR
        have HP : Hid (Gd n L ∧ ¬ (k = L 0 ∧ ∀ c, c < k → M c = M 0)) := ⟨gA, fun h => hM h.2⟩
        have HR : Hid (RowsIn w ba oa n k A) := hR
        have t0 : ((k : Int) != (k : Int)) = false := by simp
        have k16 : k ≤ 16 := by rw [hk]; exact gA.2.2.2.1
        clear hR gA hk hM hn hA hT
        go_enter Try.func21, Try.ntmps21
        go_wp2_with fail
        go_at_call 37
        refine hg.mono ?_
        rintro e w1 ⟨rfl, hb1⟩
        obtain ⟨b', o', cr, e1, -⟩ := HR.out w1 hb1 0 n0'
        rw [Nat.add_zero] at e1
        have hal1 := hal w1 hb1
        clear hal hg
        go_wp2_with fail
        go_at_call 38
        refine hal1.mono ?_
        rintro e w2 ⟨rfl, hb2⟩
        have hb02 := hb1.trans (hb2.mono hb1.size)
        clear hal1 e1 hb1 hb2
        go_wp2_with fail
        go_ret2
        exact ⟨hb02, _, _, rfl, .inr (.inl ⟨HP.out.1, HP.out.2, rfl, rfl⟩)⟩
    · obtain ⟨ba, oa, rfl, hR⟩ := rows_in hA gA
      have HP : Hid (Gd n L ∧ ¬ (k = L 0 ∧ ∀ c, c < k → M c = M 0)) := ⟨gA, fun h => hk h.1⟩
      have l16 : L 0 ≤ 16 := gA.2.2.2.1
      obtain ⟨l0, hl0⟩ : ∃ l0, L 0 = l0 := ⟨_, rfl⟩
      rw [hl0] at hR l16
      have t0 : ((k : Int) != (l0 : Int)) = true := by rw [← hl0]; simp; omega
      have HR : Hid (RowsIn w ba oa n l0 A) := hR
      have k16 : k ≤ 9223372036854775807 := by omega
      clear hR gA hk hn hA hT hl0
      go_enter Try.func21, Try.ntmps21
      go_wp2_with fail
      go_at_call 37
      refine hg.mono ?_
      rintro e w1 ⟨rfl, hb1⟩
      obtain ⟨b', o', cr, e1, -⟩ := HR.out w1 hb1 0 n0'
      rw [Nat.add_zero] at e1
      clear hg
      go_wp2_with fail
      go_ret2
      exact ⟨hb1, _, _, rfl, .inr (.inl ⟨HP.out.1, HP.out.2, rfl, rfl⟩)⟩
  · have hg := good_any a n ca L A w hn hA false (good_no gA)
    have GA : Hid (¬ Gd n L) := gA
    clear gA
    go_enter Try.func21, Try.ntmps21
    go_wp2_with fail
    go_at_call 37
    refine hg.mono ?_
    rintro e w1 ⟨rfl, hb1⟩
    go_wp2_with fail
    go_ret2
    exact ⟨hb1, _, _, rfl, .inl ⟨GA.out, rfl, rfl⟩⟩
end Go.Proofs.Ytdpcbiccbhlonaa
/- A matrix times texts: the document's answer. -/
namespace Go.Proofs.Ytdpcbiccbhlonaa
open Go.RowKit Go.PlainAid
set_option linter.unusedVariables false

/-- Texts, one behind the other. -/
def strsL (k : Nat) (f : Nat → ByteArray) : List Value := (List.range k).map fun i => .string (f i)
theorem strsL_length (k : Nat) (f : Nat → ByteArray) : (strsL k f).length = k := by simp [strsL]
theorem strsL_at (k : Nat) (f : Nat → ByteArray) (i : Nat) (h : i < k) : (strsL k f)[i]? = some (.string (f i)) := by simp [strsL, h]
theorem strsL_succ (k : Nat) (f : Nat → ByteArray) : strsL (k + 1) f = strsL k f ++ [.string (f k)] := by
  unfold strsL; rw [List.range_succ, List.map_append]; rfl

section
variable {ops : Array Oper} {rest : List Oper} {o : Oper} {a : Act} {Q : Exit → Act → World → Prop}
/-- A text appended to texts. -/
theorem push_str_at (hgd : o.guard = none) (s x : Operand) (ho : o.op = .call { callee := .builtin .append, args := #[s, x], argTypes := #[22, 22] })
    (w0 : World) (base : Nat) (v : Value) (k : Nat) (f : Nat → ByteArray) (hA : w0.ownsRow base 9 1 v k (strsL k f)) (hs : a.eval s = v) (b : Value) (hbv : b = .string (f k))
    (sz : Nat) (hx : a.eval x = .slice (some ⟨sz, 0, none⟩) 1 1) (hsz : sz = w0.heap.size) (hk : k < 1000000000) (hbase : base ≤ w0.heap.size)
    (h : ∀ v' w', w'.ownsRow base 9 1 v' (k + 1) (strsL (k + 1) f) → Below base w0 w' → wpList Try.prog ops Q rest (a.put o.dst v') w') :
    wpList Try.prog ops Q (o :: rest) a (w0.alloc (.cells #[b] 9 (0, 0))) := by
  subst hsz
  subst hbv
  obtain ⟨i0, hi, hz0, hz1, hz2⟩ := info_parts Try.info9
  refine wpList_append_own _ hgd s x 22 ho base 9 i0 (.string ⟨#[]⟩) 1 16 Try.underlying22 hi hz0 hz1 hz2 rfl (by decide) v k _ hs (hA.alloc _) ⟨w0.heap.size, 0, none⟩ 1 1 [.string (f k)] hx rfl ?_ ?_ ?_ ?_ ?_ ?_
  · intro j u hu
    match j, hu with
    | 0, hu => simp at hu; subst hu; simp [Addr.add]
  · intro u hu; simp at hu; subst hu; rfl
  · unfold maxLen; omega
  · omega
  · simp; omega
  · intro v' w' hown hgrow _
    have hb0 : Below w0.heap.size w0 (w0.alloc (.cells #[.string (f k)] 9 (0, 0))) := (Below.refl _ _).alloc (Nat.le_refl _) _
    refine h v' w' (by rw [strsL_succ]; exact hown) ?_
    exact (hb0.mono hbase).grown hgrow (by simp; omega) (fun g hg => (hA.lt g hg).1)
end
theorem txt_of_owns {w : World} {base n : Nat} {v : Value} {m : Nat} {X : Mx} (h : w.ownsRow base 9 1 v n (strsL n fun r => strE m (X r))) (hm : m ≤ 65536) : ∃ a c, v = .slice a n c ∧ n ≤ c ∧ c ≤ 9223372036854775807 ∧ TxtAt w a n (fun _ => m) X := by
  obtain ⟨a, c, rfl, _, hv⟩ := owns_form h _ (fun i hi => strsL_at _ _ i hi)
  refine ⟨a, c, rfl, ?_, ?_, hv, fun _ _ => by show m ≤ _; omega⟩
  · rcases h.2 with ⟨h0, h1⟩ | ⟨g, cap, cur, e, _, _, h1, _⟩
    · omega
    · cases e; exact h1
  · rcases h.2 with ⟨h0, h1⟩ | ⟨g, cap, cur, e, _, _, _, h1, _⟩
    · cases h0; omega
    · cases e; unfold maxLen at h1; omega

end Go.Proofs.Ytdpcbiccbhlonaa
/- A matrix times texts: the program's answer and the document's are alike. -/
namespace Go.Proofs.Ytdpcbiccbhlonaa
open Go.RowKit Go.PlainAid
set_option linter.unusedVariables false

/-- Two slices of texts that are alike. -/
def TPair (w : World) (v v' : Value) (n : Nat) : Prop := n ≤ 16 ∧ ∃ a a' c c' M Y, v = .slice a n c ∧ v' = .slice a' n c' ∧ TxtAt w a n M Y ∧ TxtAt w a' n M Y
theorem TPair.below {w w' : World} {v v' : Value} {n : Nat} (h : TPair w v v' n) (hb : Below w.heap.size w w') : TPair w' v v' n := by
  obtain ⟨hn, a, a', c, c', M, Y, h1, h2, h3, h4⟩ := h
  exact ⟨hn, a, a', c, c', M, Y, h1, h2, h3.below hb, h4.below hb⟩
theorem TPair.nil (w : World) : TPair w (.slice none 0 0) (.slice none 0 0) 0 :=
  ⟨by decide, none, none, 0, 0, fun _ => 0, fun _ _ => 0, rfl, rfl, ⟨.inl rfl, fun c hc => by omega⟩, ⟨.inl rfl, fun c hc => by omega⟩⟩

end Go.Proofs.Ytdpcbiccbhlonaa
/- Rows copied and filled up by append. -/
namespace Go.Proofs.Ytdpcbiccbhlonaa
open Go.RowKit Go.PlainAid
set_option linter.unusedVariables false

def zeros8 (n : Nat) : List Value := List.replicate n (.int .u8 0)
theorem zeroCells8 (n : Nat) : Builtin.zeroCells (Value.int .u8 0).cells n = (zeros8 n).toArray := by
  have h : (Value.int .u8 0).cells = #[Value.int .u8 0] := rfl
  rw [h]
  unfold Builtin.zeroCells zeros8
  apply Array.ext
  · simp
  · intro i h1 h2
    simp [Nat.mod_one]

theorem run_append_zeros (w : World) (base : Nat) (v : Value) (l n : Nat) (xs : List Value) (hown : w.ownsRow base 5 1 v l xs) (hn : 1 ≤ n) (hl : l + n ≤ 1000) (hb : base ≤ w.heap.size) (ty : TypeId) :
    ∃ v' w', (Builtin.append_ #[46, 3] ty #[v, .int .i64 (n : Int)]).run Try.prog w = .ok v' w' ∧ w'.ownsRow base 5 1 v' (l + n) (xs ++ zeros8 n) ∧ w.grownBy w' v.ownBlock := by
  obtain ⟨i, hi, hz0, hz1, hz2⟩ := info_parts Try.info5
  have hxl := hown.1
  have hw : IntKind.i64.wrap (n : Int) = n := by rw [IntKind.wrap_i64]; omega
  have hneg : ¬ ((n : Int) < 0) := by omega
  have hn0 : n ≠ 0 := by omega
  rcases hown.2 with ⟨rfl, rfl⟩ | ⟨g, cap, cur, rfl, hbg, hg, hnc, hcm, hcs, htake⟩
  · have hx : xs = [] := List.eq_nil_of_length_eq_zero (by simpa using hxl)
    subst hx
    have hr := Lib.run_append_nil_zeros (P := Try.prog) w 46 3 ty 5 i (.int .u8 0) .i64 .i64 Try.underlying46 Try.underlying3 hi hz0 n (by omega) (by omega) (by omega) (by rw [hz2]; omega)
    refine ⟨_, _, hr, ?_, ⟨rfl, rfl, rfl, by simp, fun k hk _ => Below.heap_alloc w.drew _ k hk⟩⟩
    have hge := grownCap_ge w n 0 5
    have hcm : grownCap w n 0 5 ≤ maxLen := grownCap_le_maxLen w n 0 5 (by unfold maxLen; omega)
    rw [Nat.zero_add, List.nil_append]
    refine ⟨by simp [zeros8], .inr ⟨w.heap.size, _, _, rfl, hb, heap_alloc_new w.drew _, hge, hcm, ?_, ?_⟩⟩
    · simp only [Array.size_append, size_zeroCells]
      have : (Value.int .u8 0).cells.size = 1 := rfl
      rw [this]
      omega
    · rw [zeroCells8]
      simp only [Array.toList_append]
      rw [List.take_left' (by simp [zeros8])]
  · have hcs' : cur.size = cap := by omega
    by_cases hroom : l + n ≤ cap
    · have hst := run_storeCells_at Try.prog g l 5 (zeros8 n) 0 cur w hg (by simp [zeros8]; omega) (fun v hv => by
        rw [List.eq_of_mem_replicate hv]; rfl)
      simp only [Nat.add_zero] at hst
      have hz8 := zeroCells8 n
      have h48i : ¬ (281474976710656 < (n : Int) * (i.bytes : Int)) := by rw [hz2]; omega
      have hr : (Builtin.append_ #[46, 3] ty #[.slice (some ⟨g, 0, none⟩) l cap, .int .i64 (n : Int)]).run Try.prog w = .ok (.slice (some ⟨g, 0, none⟩) (l + n) cap) (w.setRow g (cur.toList.take l ++ zeros8 n ++ cur.toList.drop (l + (zeros8 n).length)).toArray) := by
        simp [Builtin.append_, run_underlying Try.underlying46, run_underlying Try.underlying3, sizeOf, typeInfo, zeroValue, hi, hz0, hz1, asInt, asIntOf, hw, hneg, hn0, h48i, hroom, hz8, Addr.add_lit, hst]
      refine ⟨_, _, hr, ⟨by simp [zeros8]; omega, .inr ⟨g, cap, _, rfl, hbg, setRow_heap w g cur _ 5 _ hg, hroom, hcm, ?_, ?_⟩⟩, ?_⟩
      · simp [zeros8]; omega
      · have e1 : cur.toList.take l = xs := by rw [← htake]; simp
        rw [e1]
        show List.take ((l + n) * 1) (xs ++ zeros8 n ++ _) = _
        rw [List.take_left' (by simp [zeros8]; omega)]
      · exact ⟨rfl, rfl, rfl, by simp, fun k _ hk => setRow_other w g k _ (fun e => hk (by simp [Value.ownBlock, e]))⟩
    · have holds : ∀ j u, xs[j]? = some u → w.cell? ((⟨g, 0, none⟩ : Addr).add j) = some u := hown.cells (g := g) rfl
      have hfo := run_firstCells_some (P := Try.prog) w.drew 1 l ⟨g, 0, none⟩ l cap xs hxl (by simpa using holds)
      have h63' : ¬ (9223372036854775807 < ((l : Int) + (n : Int))) := by omega
      have h48' : ¬ (281474976710656 < Builtin.nextslicecap (l + n) cap) := by
        have := growslice_fits (need := l + n) (old := cap) (bytes := 1) (by omega) (by omega)
        omega
      have h48i : ¬ (281474976710656 < (n : Int)) := by omega
      have hr : (Builtin.append_ #[46, 3] ty #[.slice (some ⟨g, 0, none⟩) l cap, .int .i64 (n : Int)]).run Try.prog w = .ok (.slice (some ⟨w.heap.size, 0, none⟩) (l + n) (grownCap w (l + n) cap 5))
          (w.drew.alloc (.cells (xs.toArray ++ Builtin.zeroCells (Value.int .u8 0).cells n ++ Builtin.zeroCells (Value.int .u8 0).cells (grownCap w (l + n) cap 5 - (l + n))) 5)) := by
        simp [Builtin.append_, run_underlying Try.underlying46, run_underlying Try.underlying3, sizeOf, typeInfo, zeroValue, hi, hz0, hz1, hz2, asInt, asIntOf, hw, hneg, hn0, h48i, hroom, h63', h48', Question.forced, hfo, newRow, grownCap]
      refine ⟨_, _, hr, ?_, ⟨rfl, rfl, rfl, by simp, fun k hk _ => Below.heap_alloc w.drew _ k hk⟩⟩
      have hge := grownCap_ge w (l + n) cap 5
      have hcm' : grownCap w (l + n) cap 5 ≤ maxLen := grownCap_le_maxLen w (l + n) cap 5 (by unfold maxLen; omega)
      refine ⟨by simp [zeros8]; omega, .inr ⟨w.heap.size, _, _, rfl, hb, heap_alloc_new w.drew _, hge, hcm', ?_, ?_⟩⟩
      · simp only [Array.size_append, size_zeroCells]
        have : (Value.int .u8 0).cells.size = 1 := rfl
        rw [this]
        simp
        omega
      · rw [zeroCells8]
        simp only [Array.toList_append]
        rw [List.take_left' (by simp [zeros8]; omega)]
end Go.Proofs.Ytdpcbiccbhlonaa
/- A matrix copied, row by row. -/
namespace Go.Proofs.Ytdpcbiccbhlonaa
open Go.RowKit Go.PlainAid
set_option linter.unusedVariables false

theorem app_src (x : World) (ar : Option Addr) (k cr : Nat) (f : Nat → E) (h : RowAt x ar k f) (hn : ar = none → cr = 0 ∧ k = 0) (hk : k ≤ 1000) :
    ∃ v' w', (∀ ty, (Builtin.append_ #[46, 46] ty #[.slice none 0 0, .slice ar k cr]).run Try.prog x = .ok v' w') ∧ w'.ownsRow x.heap.size 5 1 v' k (bytesL k f) ∧ Below x.heap.size x w' := by
  obtain ⟨i, hi, hz0, hz1, hz2⟩ := info_parts Try.info5
  cases ar with
  | none =>
    obtain ⟨rfl, rfl⟩ := hn rfl
    exact ⟨.slice none 0 0, x, fun ty => run_append_owned_none (P := Try.prog) (w := x) x.heap.size 46 ty 5 i 1 Try.underlying46 hi _ 0 [] (World.ownsRow_nil _ _ _ _), World.ownsRow_nil _ _ _ _, Below.refl _ _⟩
  | some a =>
    have hnews : ∀ j u, (bytesL k f)[j]? = some u → x.cell? (a.add j) = some u := fun j u hu => by
      have hj : j < k := by
        rcases Nat.lt_or_ge j k with h | h
        · exact h
        · rw [List.getElem?_eq_none (by rw [bytesL_length]; exact h)] at hu; cases hu
      rcases h with h0 | ⟨b, o, e, h⟩
      · omega
      · cases e
        rw [bytesL_at k f j hj] at hu
        rw [show ((⟨b, o, none⟩ : Addr).add j) = ⟨b, o + j, none⟩ from by simp [Addr.add], h j hj]
        exact hu
    have h1 : ∀ u ∈ bytesL k f, u.oneCell' = true := fun v hv => by
      obtain ⟨i, _, rfl⟩ := List.mem_map.1 hv
      rfl
    have key : ∀ ty, ∃ v' w', (Builtin.append_ #[46, 46] ty #[.slice none 0 0, .slice (some a) k cr]).run Try.prog x = .ok v' w' ∧ w'.ownsRow x.heap.size 5 1 v' (0 + k) ([] ++ bytesL k f) ∧ x.grownBy w' none := fun ty => by
      obtain ⟨v', w', e1, e2, e3, _⟩ := run_append_own (P := Try.prog) x x.heap.size 46 ty 5 i (.int .u8 0) 1 1 Try.underlying46 hi hz0 hz1 hz2 rfl (by decide) (.slice none 0 0) 0 [] (World.ownsRow_nil _ _ _ _) a k cr (bytesL k f) (by rw [bytesL_length]; omega) hnews h1 (by unfold maxLen; omega) (by omega) (Nat.le_refl _)
      exact ⟨v', w', e1, e2, e3⟩
    obtain ⟨v', w', e1, e2, e3⟩ := key 46
    refine ⟨v', w', fun ty => ?_, by simpa using e2, (Below.refl _ _).grown e3 (Nat.le_refl _) (fun k h => by cases h)⟩
    exact e1
theorem step_append_run {ops : Array Oper} {o : Oper} {a : Act} {w : World} {K : Act → World → Prop} {Q : Exit → Act → World → Prop} {E' : Prop} (hgd : o.guard = none) (s x : Operand) (t tn : TypeId)
    (ho : o.op = .call { callee := .builtin .append, args := #[s, x], argTypes := #[t, tn] }) (vs vx : Value) (hs : a.eval s = vs) (hx : a.eval x = vx)
    (v' : Value) (w' : World) (hr : ∀ ty, (Builtin.append_ #[t, tn] ty #[vs, vx]).run Try.prog w = .ok v' w') (h : K (a.put o.dst v') w') :
    if Region.wanted o (yielded ops a.tmps) = true then Oper.wp Try.prog o a w K Q else E' := by
  have hw : Region.wanted o (yielded ops a.tmps) = true := by simp [Region.wanted, hgd]
  rw [if_pos hw]
  exact Lib.wp_append_run w s x t tn ho vs vx hs hx v' w' (hr _) h
theorem acc_empty (w : World) (base : Nat) (L : Nat → Nat) (X : Mx) (hb : base ≤ w.heap.size) : AccM (w.alloc (.cells #[] 46 (0, 0))) base (.slice (some ⟨w.heap.size, 0, none⟩) 0 0) 0 L X :=
  ⟨fun _ => undef, ⟨by simp, .inr ⟨w.heap.size, 0, #[], rfl, hb, heap_alloc_new w _, Nat.le_refl _, Nat.zero_le _, by simp, by simp⟩⟩, fun r hr => by omega⟩

end Go.Proofs.Ytdpcbiccbhlonaa
/- Rows that came in, read. -/
namespace Go.Proofs.Ytdpcbiccbhlonaa
open Go.ChangeShapes Go.WideShapes Go.RowKit
set_option linter.unusedVariables false

theorem Try.cells46 : Try.prog.cellsOf 46 = 1 := by kernel_rfl
theorem Try.cells5 : Try.prog.cellsOf 5 = 1 := by kernel_rfl
/-- What is told of rows that came in. -/
def RawArg (W : World) (a : Option Addr) (len cap : Nat) : Prop :=
  ∃ L X AR CR, len ≤ maxLen ∧ MatIn W a len L X AR CR ∧ ∀ r, r < len → L r ≤ CR r ∧ CR r ≤ maxLen ∧ (AR r = none → CR r = 0)
end Go.Proofs.Ytdpcbiccbhlonaa
/- Texts that came in; a copy of the first few. -/
namespace Go.Proofs.Ytdpcbiccbhlonaa
open Go.ChangeShapes Go.WideShapes Go.RowKit Go.PlainAid
set_option linter.unusedVariables false

theorem Try.cells9 : Try.prog.cellsOf 9 = 1 := by kernel_rfl
/-- What is told of texts that came in. -/
def StrsArg (W : World) (a : Option Addr) (len cap : Nat) : Prop :=
  ∃ T : Nat → ByteArray, len ≤ cap ∧ cap ≤ maxLen ∧ (a = none → cap = 0) ∧ Vals W a len (fun i => .string (T i)) ∧ ∀ i, i < len → (T i).size ≤ maxLen
theorem strs_arg {H : Type} {enc : TypeId × Value → H} {W : World} {a : Option Addr} {len cap : Nat} {d : DataW H} {p : List MemPlace}
    (h : DataW.Trod enc Try.prog W 0 (fun _ => true) true 22 (.slice a len cap) d p) : StrsArg W a len cap := by
  obtain ⟨fuel, hf⟩ := h
  rcases open_strings Try.underlying22 Try.underlying9 Try.cells9 hf with ⟨hcs, _⟩ | ⟨x, l, c, ss, hcs, _, hl, hm, hz, _, hcell, hws⟩
  · simp [Value.cells] at hcs
    obtain ⟨rfl, rfl, rfl⟩ := hcs
    exact ⟨fun _ => ByteArray.empty, Nat.le_refl _, Nat.zero_le _, fun _ => rfl, .inl rfl, fun i hi => by omega⟩
  · simp [Value.cells] at hcs
    obtain ⟨rfl, rfl, rfl⟩ := hcs
    simp at hz
    refine ⟨fun i => ss.getD i ByteArray.empty, hl, hm, (fun h => by cases h), ?_, fun i hi => ?_⟩
    · by_cases h0 : len = 0
      · exact .inl h0
      · obtain ⟨b, off, spot⟩ := x
        have hspot : spot = none := by simpa [Addr.add] using World.cell?_spot (hcell 0 (by omega))
        subst hspot
        exact .inr ⟨b, off, rfl, fun r hr => by rw [← Go.WideShapes.add_plain]; exact hcell r (by omega)⟩
    · apply hws
      show ss.getD i ByteArray.empty ∈ ss
      rw [List.getD_eq_getElem?_getD, List.getElem?_eq_getElem (show i < ss.length by omega)]
      exact List.getElem_mem _

/-- The bytes of a text, as elements. -/
def teE (s : ByteArray) (i : Nat) : E := ⟨(bt s i).toNat % 256, Nat.mod_lt _ (by decide)⟩
theorem strE_te (s : ByteArray) : strE s.size (teE s) = s := by
  apply bt_ext
  · rw [strE_size]
  · intro i hi
    rw [strE_size] at hi
    rw [bt_strE _ _ i hi]
    have h0 := bt_nonneg s i
    have h1 := bt_le s i
    show (((bt s i).toNat % 256 : Nat) : Int) = _
    omega
theorem txt_of_strs {w : World} {base n : Nat} {v : Value} {f : Nat → ByteArray} (h : w.ownsRow base 9 1 v n (strsL n f)) (hs : ∀ i, i < n → (f i).size ≤ 65536) : ∃ a c, v = .slice a n c ∧ n ≤ c ∧ c ≤ 9223372036854775807 ∧ TxtAt w a n (fun i => (f i).size) (fun i => teE (f i)) := by
  obtain ⟨a, c, rfl, _, hv⟩ := owns_form h _ (fun i hi => strsL_at _ _ i hi)
  refine ⟨a, c, rfl, ?_, ?_, ?_, fun i hi => by have := hs i hi; show (f i).size ≤ _; omega⟩
  · rcases h.2 with ⟨h0, h1⟩ | ⟨g, cap, cur, e, _, _, h1, _⟩
    · omega
    · cases e; exact h1
  · rcases h.2 with ⟨h0, h1⟩ | ⟨g, cap, cur, e, _, _, _, h1, _⟩
    · cases h0; omega
    · cases e; unfold maxLen at h1; omega
  · rcases hv with h0 | ⟨b, o, e, hv⟩
    · exact .inl h0
    · exact .inr ⟨b, o, e, fun i hi => by show _ = some (Value.string (strE (f i).size (teE (f i)))); rw [strE_te]; exact hv i hi⟩

theorem app_strs (x : World) (ar : Option Addr) (k cr : Nat) (f : Nat → ByteArray) (h : Vals x ar k fun i => .string (f i)) (hn : ar = none → cr = 0 ∧ k = 0) (hk : k ≤ 1000) :
    ∃ v' w', (∀ ty, (Builtin.append_ #[22, 22] ty #[.slice none 0 0, .slice ar k cr]).run Try.prog x = .ok v' w') ∧ w'.ownsRow x.heap.size 9 1 v' k (strsL k f) ∧ Below x.heap.size x w' := by
  obtain ⟨i, hi, hz0, hz1, hz2⟩ := info_parts Try.info9
  cases ar with
  | none =>
    obtain ⟨rfl, rfl⟩ := hn rfl
    exact ⟨.slice none 0 0, x, fun ty => run_append_owned_none (P := Try.prog) (w := x) x.heap.size 22 ty 9 i 1 Try.underlying22 hi _ 0 [] (World.ownsRow_nil _ _ _ _), World.ownsRow_nil _ _ _ _, Below.refl _ _⟩
  | some a =>
    have hnews : ∀ j u, (strsL k f)[j]? = some u → x.cell? (a.add j) = some u := fun j u hu => by
      have hj : j < k := by
        rcases Nat.lt_or_ge j k with h | h
        · exact h
        · rw [List.getElem?_eq_none (by rw [strsL_length]; exact h)] at hu; cases hu
      rcases h with h0 | ⟨b, o, e, h⟩
      · omega
      · cases e
        rw [strsL_at k f j hj] at hu
        rw [show ((⟨b, o, none⟩ : Addr).add j) = ⟨b, o + j, none⟩ from by simp [Addr.add], h j hj]
        exact hu
    have h1 : ∀ u ∈ strsL k f, u.oneCell' = true := fun v hv => by
      obtain ⟨i, _, rfl⟩ := List.mem_map.1 hv
      rfl
    have key : ∀ ty, ∃ v' w', (Builtin.append_ #[22, 22] ty #[.slice none 0 0, .slice (some a) k cr]).run Try.prog x = .ok v' w' ∧ w'.ownsRow x.heap.size 9 1 v' (0 + k) ([] ++ strsL k f) ∧ x.grownBy w' none := fun ty => by
      obtain ⟨v', w', e1, e2, e3, _⟩ := run_append_own (P := Try.prog) x x.heap.size 22 ty 9 i (.string ⟨#[]⟩) 1 16 Try.underlying22 hi hz0 hz1 hz2 rfl (by decide) (.slice none 0 0) 0 [] (World.ownsRow_nil _ _ _ _) a k cr (strsL k f) (by rw [strsL_length]; omega) hnews h1 (by unfold maxLen; omega) (by omega) (Nat.le_refl _)
      exact ⟨v', w', e1, e2, e3⟩
    obtain ⟨v', w', e1, e2, e3⟩ := key 22
    refine ⟨v', w', fun ty => ?_, by simpa using e2, (Below.refl _ _).grown e3 (Nat.le_refl _) (fun k h => by cases h)⟩
    exact e1
theorem strsL_set (k : Nat) (f : Nat → ByteArray) (i : Nat) (s : ByteArray) (h : i < k) : (strsL k f).set i (.string s) = strsL k (fun j => if j = i then s else f j) := by
  apply List.ext_getElem
  · simp [strsL]
  · intro j h1 h2
    rw [List.getElem_set]
    by_cases e : i = j
    · subst e; simp [strsL]
    · have e' : ¬ j = i := fun h => e h.symm
      simp [strsL, e, e']
theorem cut_at (x : Nat) (c : Int) (h : 0 ≤ c) : ∃ n : Nat, (if c < (x : Int) then c else (x : Int)) = (n : Int) ∧ n ≤ x ∧ (n : Int) ≤ c :=
  ⟨min x c.toNat, by split <;> omega, by omega, by omega⟩
end Go.Proofs.Ytdpcbiccbhlonaa
/- Stripes with double parity, as sums of products: any two chunks are told by the others. -/
namespace Go.Proofs.Ytdpcbiccbhlonaa
set_option linter.unusedVariables false

/-- How many of the first n are set. -/
def cnt (p : Nat → Bool) : Nat → Nat
  | 0 => 0
  | n + 1 => cnt p n + if p n then 1 else 0
theorem cnt_mono (p : Nat → Bool) {n m : Nat} (h : n ≤ m) : cnt p n ≤ cnt p m := by
  induction m with
  | zero => obtain rfl : n = 0 := by omega
            exact Nat.le_refl _
  | succ m ih =>
    by_cases e : n = m + 1
    · rw [e]; exact Nat.le_refl _
    · have := ih (by omega)
      simp only [cnt]; omega
theorem cnt_step (p : Nat → Bool) {x m : Nat} (h : x < m) (hp : p x = true) : cnt p x + 1 ≤ cnt p m := by
  have := cnt_mono p (show x + 1 ≤ m by omega)
  simp only [cnt, hp] at this
  simpa using this
theorem cnt_le (p : Nat → Bool) (n : Nat) : cnt p n ≤ n := by
  induction n with
  | zero => exact Nat.le_refl _
  | succ n ih => simp only [cnt]; split <;> omega
theorem cnt_not (p : Nat → Bool) (n : Nat) : cnt p n + cnt (fun i => !p i) n = n := by
  induction n with
  | zero => rfl
  | succ n ih => simp only [cnt]; by_cases h : p n = true <;> simp [h] <;> omega
/-- What is used: the first k that are set. -/
def used (T : Nat → Bool) (k : Nat) (i : Nat) : Bool := T i && decide (cnt T i < k)
theorem cnt_used (T : Nat → Bool) (k n : Nat) : cnt (used T k) n = min (cnt T n) k := by
  induction n with
  | zero => simp [cnt]
  | succ n ih =>
    simp only [cnt, ih, used]
    by_cases e : T n = true
    · by_cases h : cnt T n < k
      · simp [e, h]; omega
      · simp [e, h]; omega
    · simp [e]
theorem lost_two {T : Nat → Bool} {k : Nat} (h : k ≤ cnt T (k + 2)) : cnt (fun i => !used T k i) (k + 2) = 2 := by
  have h1 := cnt_not (used T k) (k + 2)
  rw [cnt_used] at h1
  omega
theorem three_lost (q : Nat → Bool) {n x y z : Nat} (hxy : x < y) (hyz : y < z) (hz : z < n) (qx : q x = true) (qy : q y = true) (qz : q z = true) : 3 ≤ cnt q n := by
  have h1 := cnt_step q hxy qx
  have h2 := cnt_step q hyz qy
  have h3 := cnt_step q hz qz
  omega

/-- The rows by which a stripe's chunks take its data chunks. -/
def stM (k : Nat) : Mx := fun i j => if i < k then idM i j else powM (i - k) j
def St (k : Nat) (D : Mx) : Mx := mulM k (stM k) D
theorem St_data {k i : Nat} (h : i < k) (D : Mx) (c : Nat) : St k D i c = D i c := by
  show S k (fun j => stM k i j * D j c) = _
  rw [S_congr (g := fun j => idM i j * D j c) fun j hj => by unfold stM; rw [if_pos h], S_idL h]
theorem St_parity (k r : Nat) (D : Mx) (c : Nat) : St k D (k + r) c = mulM k powM D r c := by
  show S k (fun j => stM k (k + r) j * D j c) = _
  exact S_congr fun j hj => by unfold stM; rw [if_neg (by omega), Nat.add_sub_cancel_left]
theorem S_two {n x y : Nat} {f : Nat → E} (hx : x < n) (hy : y < n) (hxy : x ≠ y) (h : ∀ k, k < n → k ≠ x → k ≠ y → f k = 0) : S n f = f x + f y := by
  have e : S n f = S n (fun k => (if k = x then f x else 0) + (if k = y then f y else 0)) := S_congr fun k hk => by
    by_cases h1 : k = x
    · subst h1; rw [if_pos rfl, if_neg hxy, E.add_zero]
    · rw [if_neg h1, E.zero_add]
      by_cases h2 : k = y
      · subst h2; rw [if_pos rfl]
      · rw [if_neg h2]; exact h k hk h1 h2
  rw [e, S_add]
  congr 1
  · rw [S_one hx (fun k hk hne => if_neg hne), if_pos rfl]
  · rw [S_one hy (fun k hk hne => if_neg hne), if_pos rfl]
theorem pw_ne (i : Nat) : pw two i ≠ 0 := fun e => gp_ne 2 i (by decide) (by decide) (congrArg E.v e)
theorem pw_two_inj {i j : Nat} (hi : i < 255) (hj : j < 255) (h : pw two i = pw two j) : i = j := by
  have h' : gp 2 i = gp 2 j := congrArg E.v h
  rw [← lg_ex i hi, ← lg_ex j hj, h']
theorem powM_zero (j : Nat) : powM 0 j = 1 := by
  show pw two (0 * j) = 1
  rw [Nat.zero_mul]; rfl
theorem powM_one (j : Nat) : powM 1 j = pw two j := by
  show pw two (1 * j) = _
  rw [Nat.one_mul]

theorem no_kernel {k : Nat} (hk : k ≤ 255) {T : Nat → Bool} (hT : k ≤ cnt T (k + 2)) {v : Nat → E} (h : ∀ i, i < k + 2 → used T k i = true → S k (fun j => stM k i j * v j) = 0) : ∀ j, j < k → v j = 0 := by
  have h2 := lost_two hT
  have hd : ∀ i, i < k → v i ≠ 0 → (!used T k i) = true := fun i hi hv => by
    cases e : used T k i with
    | false => rfl
    | true =>
      exfalso
      have h1 := h i (by omega) e
      rw [S_congr (g := fun j => idM i j * v j) fun j hj => by unfold stM; rw [if_pos hi], S_idL hi] at h1
      exact hv h1
  have hp : ∀ r, r < 2 → used T k (k + r) = true → S k (fun j => powM r j * v j) = 0 := fun r hr hu => by
    have h1 := h (k + r) (by omega) hu
    rw [← h1]
    exact S_congr fun j hj => by unfold stM; rw [if_neg (by omega), Nat.add_sub_cancel_left]
  have three : ∀ x y z, x < y → y < z → z < k + 2 → (!used T k x) = true → (!used T k y) = true → (!used T k z) = true → False := fun x y z h1 h3 h4 a b c => by
    have := three_lost (fun i => !used T k i) h1 h3 h4 a b c
    omega
  intro x hx
  apply Classical.byContradiction
  intro hv
  by_cases hy : ∃ y, y < k ∧ y ≠ x ∧ v y ≠ 0
  · obtain ⟨y, hy, hyx, hvy⟩ := hy
    have hu : ∀ r, r < 2 → used T k (k + r) = true := fun r hr => by
      cases e : used T k (k + r) with
      | true => rfl
      | false =>
        exfalso
        have e' : (!used T k (k + r)) = true := by rw [e]; rfl
        rcases Nat.lt_or_ge x y with hlt | hge
        · exact three x y (k + r) hlt (by omega) (by omega) (hd x hx hv) (hd y hy hvy) e'
        · exact three y x (k + r) (by omega) (by omega) (by omega) (hd y hy hvy) (hd x hx hv) e'
    have hz : ∀ j, j < k → j ≠ x → j ≠ y → v j = 0 := fun j hj h1 h3 => by
      apply Classical.byContradiction
      intro hvj
      have a := hd x hx hv
      have b := hd y hy hvy
      have c := hd j hj hvj
      rcases Nat.lt_or_ge x y with q1 | q1 <;> rcases Nat.lt_or_ge x j with q2 | q2 <;> rcases Nat.lt_or_ge y j with q3 | q3
      · exact three x y j q1 q3 (by omega) a b c
      · exact three x j y q2 (by omega) (by omega) a c b
      · omega
      · exact three j x y (by omega) q1 (by omega) c a b
      · exact three y x j (by omega) q2 (by omega) b a c
      · omega
      · exact three y j x q3 (by omega) (by omega) b c a
      · exact three j y x (by omega) (by omega) (by omega) c b a
    have hs : ∀ r, r < 2 → powM r x * v x + powM r y * v y = 0 := fun r hr => by
      rw [← S_two (f := fun j => powM r j * v j) hx hy (fun e => hyx e.symm) (fun j hj h1 h3 => by rw [hz j hj h1 h3, E.mul_zero])]
      exact hp r hr (hu r hr)
    have e0 := hs 0 (by decide)
    have e1 := hs 1 (by decide)
    rw [powM_zero, powM_zero, E.one_mul, E.one_mul] at e0
    rw [powM_one, powM_one, E.of_add e0, ← E.add_mul] at e1
    rcases Classical.em (pw two x + pw two y = 0) with e | e
    · exact hyx (pw_two_inj (by omega) (by omega) (E.of_add e)).symm
    · exact E.mul_ne _ _ e hvy e1
  · have hz : ∀ j, j < k → j ≠ x → v j = 0 := fun j hj h1 => by
      apply Classical.byContradiction
      intro hvj
      exact hy ⟨j, hj, h1, hvj⟩
    have hs : ∀ r, r < 2 → used T k (k + r) = true → powM r x * v x = 0 := fun r hr hu => by
      rw [← S_one (f := fun j => powM r j * v j) hx (fun j hj h1 => by rw [hz j hj h1, E.mul_zero])]
      exact hp r hr hu
    have hno : ∀ r, r < 2 → (!used T k (k + r)) = true := fun r hr => by
      cases e : used T k (k + r) with
      | false => rfl
      | true => exact absurd (hs r hr e) (E.mul_ne _ _ (pw_ne _) hv)
    exact three x (k + 0) (k + 1) (by omega) (by omega) (by omega) (hd x hx hv) (hno 0 (by decide)) (hno 1 (by decide))

/-- The stripe of D has what stands at the places that are used. -/
def Fits (k : Nat) (T : Nat → Bool) (m : Nat) (Y D : Mx) : Prop := ∀ i, i < k + 2 → used T k i = true → ∀ c, c < m → St k D i c = Y i c
theorem fits_one {k : Nat} (hk : k ≤ 255) {T : Nat → Bool} (hT : k ≤ cnt T (k + 2)) {m : Nat} {Y D D' : Mx} (h : Fits k T m Y D) (h' : Fits k T m Y D') : ∀ i, i < k → ∀ c, c < m → D i c = D' i c := by
  intro i hi c hc
  have := no_kernel hk hT (v := fun j => D j c + D' j c) (fun i hi hu => by
    rw [S_congr (g := fun j => stM k i j * D j c + stM k i j * D' j c) fun j hj => E.mul_add _ _ _, S_add]
    show St k D i c + St k D' i c = 0
    rw [h i hi hu c hc, h' i hi hu c hc, E.add_self]) i hi
  exact E.of_add this
theorem St_congr {k : Nat} {D D' : Mx} {c : Nat} (h : ∀ j, j < k → D j c = D' j c) (i : Nat) : St k D i c = St k D' i c :=
  S_congr fun j hj => by rw [h j hj]
theorem fits_all {k : Nat} (hk : k ≤ 255) {T : Nat → Bool} (hT : k ≤ cnt T (k + 2)) {m : Nat} {Y D D' : Mx} (h : Fits k T m Y D) (h' : Fits k T m Y D') (i : Nat) (c : Nat) (hc : c < m) : St k D i c = St k D' i c :=
  St_congr (fun j hj => fits_one hk hT h h' j hj c hc) i

/-- Those that are set, in order. -/
def keptL (T : Nat → Bool) (n : Nat) : List Nat := (List.range n).filter T
theorem keptL_succ (T : Nat → Bool) (n : Nat) : keptL T (n + 1) = keptL T n ++ if T n then [n] else [] := by
  unfold keptL; rw [List.range_succ, List.filter_append]; cases h : T n <;> simp [h]
theorem keptL_length (T : Nat → Bool) (n : Nat) : (keptL T n).length = cnt T n := by
  induction n with
  | zero => rfl
  | succ n ih => rw [keptL_succ, List.length_append, ih]; simp only [cnt]; cases T n <;> simp
theorem keptL_at (T : Nat → Bool) {n i : Nat} (hi : i < n) (hT : T i = true) : (keptL T n)[cnt T i]? = some i := by
  induction n with
  | zero => omega
  | succ n ih =>
    rw [keptL_succ]
    by_cases e : i = n
    · subst e
      rw [List.getElem?_append_right (by rw [keptL_length]; exact Nat.le_refl _), keptL_length, Nat.sub_self, if_pos hT]; rfl
    · rw [List.getElem?_append_left (by rw [keptL_length]; have := cnt_step T (show i < n by omega) hT; omega)]
      exact ih (by omega)
theorem keptL_get (T : Nat → Bool) {n r : Nat} (h : r < cnt T n) : ∃ i, (keptL T n)[r]? = some i ∧ i < n ∧ T i = true ∧ cnt T i = r := by
  induction n with
  | zero => simp [cnt] at h
  | succ n ih =>
    rw [keptL_succ]
    by_cases h' : r < cnt T n
    · obtain ⟨i, h1, h2, h3, h4⟩ := ih h'
      exact ⟨i, by rw [List.getElem?_append_left (by rw [keptL_length]; exact h')]; exact h1, by omega, h3, h4⟩
    · have hT : T n = true := by
        cases e : T n with
        | true => rfl
        | false => rw [cnt, e] at h; simp at h; omega
      have hr : r = cnt T n := by rw [cnt, hT] at h; simp at h; omega
      exact ⟨n, by rw [List.getElem?_append_right (by rw [keptL_length]; omega), keptL_length, hr, Nat.sub_self, if_pos hT]; rfl, by omega, hT, hr.symm⟩
def kidx (T : Nat → Bool) (n r : Nat) : Nat := (keptL T n).getD r 0
theorem kidx_spec (T : Nat → Bool) {n r : Nat} (h : r < cnt T n) : kidx T n r < n ∧ T (kidx T n r) = true ∧ cnt T (kidx T n r) = r := by
  obtain ⟨i, h1, h2, h3, h4⟩ := keptL_get T h
  have : kidx T n r = i := by unfold kidx; rw [List.getD_eq_getElem?_getD, h1]; rfl
  rw [this]; exact ⟨h2, h3, h4⟩
theorem kidx_cnt (T : Nat → Bool) {n i : Nat} (hi : i < n) (hT : T i = true) : kidx T n (cnt T i) = i := by
  unfold kidx; rw [List.getD_eq_getElem?_getD, keptL_at T hi hT]; rfl

/-- The rows of the chunks that are used can be undone. -/
theorem kept_kernel {k : Nat} (hk : k ≤ 255) {T : Nat → Bool} (hT : k ≤ cnt T (k + 2)) {v : Nat → E} (h : ∀ r, r < k → S k (fun j => stM k (kidx T (k + 2) r) j * v j) = 0) : ∀ j, j < k → v j = 0 := by
  refine no_kernel hk hT fun i hi hu => ?_
  have hu' : T i = true ∧ cnt T i < k := by simpa [used] using hu
  have := h (cnt T i) hu'.2
  rw [kidx_cnt T hi hu'.1] at this
  exact this
/-- What the inverse of these rows makes of the chunks fits them. -/
theorem kept_fits {k : Nat} {T : Nat → Bool} {m : Nat} {Y B : Mx} (hB : ∀ r, r < k → ∀ c, c < k → mulM k (fun r j => stM k (kidx T (k + 2) r) j) B r c = idM r c) :
    Fits k T m Y (mulM k B fun r c => Y (kidx T (k + 2) r) c) := by
  intro i hi hu c hc
  have hu' : T i = true ∧ cnt T i < k := by simpa [used] using hu
  have e : St k (mulM k B fun r c => Y (kidx T (k + 2) r) c) i c = mulM k (fun r j => stM k (kidx T (k + 2) r) j) (mulM k B fun r c => Y (kidx T (k + 2) r) c) (cnt T i) c := by
    show S k _ = S k _
    exact S_congr fun j hj => by simp only []; rw [kidx_cnt T hi hu'.1]
  rw [e, ← mulM_assoc]
  show S k (fun j => mulM k (fun r j => stM k (kidx T (k + 2) r) j) B (cnt T i) j * Y (kidx T (k + 2) j) c) = _
  rw [S_congr (g := fun j => idM (cnt T i) j * Y (kidx T (k + 2) j) c) fun j hj => by rw [hB _ hu'.2 j hj], S_idL hu'.2, kidx_cnt T hi hu'.1]
end Go.Proofs.Ytdpcbiccbhlonaa
/- The parity chunks of data chunks: the program's own answer. -/
namespace Go.Proofs.Ytdpcbiccbhlonaa
open Go.RowKit Go.PlainAid
set_option linter.unusedVariables false

theorem inData_any (n : Int) (g : Bool) (hg : g = true ↔ (1 ≤ n ∧ n ≤ 8)) (w : World) : Calls Try.prog 20 #[.int .i64 n] w fun e w' => e = .returned (.bool g) ∧ w' = w := by
  by_cases h1 : 1 ≤ n
  · by_cases h2 : n ≤ 8
    · obtain rfl : g = true := hg.2 ⟨h1, h2⟩
      clear hg
      go_enter Try.func20, Try.ntmps20
      go_wp2
      go_ret
      exact ⟨rfl, rfl⟩
    · obtain rfl : g = false := by
        cases g with
        | false => rfl
        | true => exact absurd (hg.1 rfl).2 h2
      clear hg
      go_enter Try.func20, Try.ntmps20
      go_wp2
      go_ret
      exact ⟨rfl, rfl⟩
  · obtain rfl : g = false := by
      cases g with
      | false => rfl
      | true => exact absurd (hg.1 rfl).1 h1
    clear hg
    go_enter Try.func20, Try.ntmps20
    go_wp2
    go_ret
    exact ⟨rfl, rfl⟩

theorem parityRows_any (k : Nat) (h1 : 1 ≤ k) (h8 : k ≤ 8) (w : World) :
    Calls Try.prog 22 #[.int .i64 (k : Int)] w fun e w' => Below w.heap.size w w' ∧ ∃ g G, e = .returned (.slice (some ⟨g, 0, none⟩) 2 2) ∧ OwnM w' w.heap.size g 2 k 2 G powM := by
  have hv := vander_any 2 (k : Int) w (by decide) (by decide) (by omega) (by omega)
  have hk2 : ¬ (1 ≤ (2 : Int) ∧ (2 : Int) ≤ 16 ∧ 1 ≤ (k : Int) ∧ (k : Int) ≤ 16) → False := fun h => h ⟨by decide, by decide, by omega, by omega⟩
  go_enter Try.func22, Try.ntmps22
  go_wp2_with fail
  go_at_call 40
  refine hv.mono ?_
  rintro e w1 ⟨hb, ⟨hno, -⟩ | ⟨n, l, g, G, en, el, -, -, -, -, rfl, hO⟩⟩
  · exact (hk2 hno).elim
  · obtain rfl : n = 2 := by omega
    obtain rfl : l = k := by omega
    clear en el
    go_wp2_with fail
    go_ret
    exact ⟨hb, g, G, rfl, hO⟩

/-- What Encode answers: its number, and the text of row r. -/
def encE (k : Nat) (M : Nat → Nat) : Int := if 1 ≤ k ∧ k ≤ 8 then (if ∀ c, c < k → M c = M 0 then (if 65536 < M 0 then 5 else 0) else 7) else 2
def encS (k : Nat) (M : Nat → Nat) (Y : Mx) (r : Nat) : ByteArray := if encE k M = 0 then strE (M 0) (mulM k powM Y r) else ⟨#[]⟩
theorem encE_zero {k : Nat} {M : Nat → Nat} : encE k M = 0 ↔ (1 ≤ k ∧ k ≤ 8) ∧ (∀ c, c < k → M c = M 0) ∧ M 0 ≤ 65536 := by
  unfold encE
  split
  · split
    · split
      · constructor
        · intro h; exact absurd h (by decide)
        · intro h; omega
      · rename_i h1 h2 h3; exact ⟨fun _ => ⟨h1, h2, by omega⟩, fun _ => rfl⟩
    · rename_i h1 h2; exact ⟨fun h => absurd h (by decide), fun h => absurd h.2.1 h2⟩
  · rename_i h1; exact ⟨fun h => absurd h (by decide), fun h => absurd h.1 h1⟩

set_option maxHeartbeats 1000000 in
theorem encode_any (a : Option Addr) (k ca : Nat) (M : Nat → Nat) (Y : Mx) (w : World) (hca : k ≤ ca) (hcm : ca ≤ 9223372036854775807) (hT : TxtAt w a k M Y) :
    Calls Try.prog 10 #[.slice a k ca] w fun e w' => Below w.heap.size w w' ∧ e = .returned (.tuple #[.string (encS k M Y 0), .string (encS k M Y 1), .int .i64 (encE k M)]) := by
  by_cases hk : 1 ≤ k ∧ k ≤ 8
  · have hin := fun x => inData_any (k : Int) true ⟨fun _ => by omega, fun _ => rfl⟩ x
    have hpr := fun x => parityRows_any k hk.1 hk.2 x
    have hap := fun g G (x : World) (hb : Below w.heap.size w x) (b : Nat) (hO : OwnM x b g 2 k 2 G powM) => apply_any (some ⟨g, 0, none⟩) a 2 k 2 ca (fun _ => k) M powM Y x (by decide) (hO.mat (by unfold maxLen; omega)) hca hcm (hT.below hb)
    have gd : Gd 2 (fun _ => k) := ⟨by decide, by decide, by show 1 ≤ k; omega, by show k ≤ 16; omega, fun _ _ => rfl⟩
    have HK : Hid (1 ≤ k ∧ k ≤ 8) := hk
    have hk9 : (k : Int) ≤ 9223372036854775807 := by omega
    have HG : Hid (Gd 2 (fun _ => k)) := gd
    clear hk hT gd
    go_enter Try.func10, Try.ntmps10
    go_wp2_with fail
    go_at_call 20
    refine (hin _).mono ?_
    rintro e w' ⟨rfl, rfl⟩
    go_wp2_with fail
    go_at_call 22
    refine (hpr _).mono ?_
    rintro e w1 ⟨hb1, g, G, rfl, hO⟩
    have hap1 := hap g G w1 hb1 _ hO
    clear hap hpr hin
    go_wp2_with fail
    go_at_call 21
    refine hap1.mono ?_
    rintro e w2 ⟨hb2, v, er, rfl, hpost⟩
    have hb02 := hb1.trans (hb2.mono hb1.size)
    rcases hpost with ⟨hno, rfl, rfl⟩ | ⟨-, hno, rfl, rfl⟩ | ⟨-, hyes, h5, rfl, rfl⟩ | ⟨-, hyes, h5, rfl, a', c', rfl, hc1, hc2, hT'⟩
    · exact absurd HG.out hno
    · have HE : Hid (encE k M = 7) := by
        show encE k M = 7
        unfold encE; rw [if_pos HK.out, if_neg (fun h => hno ⟨rfl, h⟩)]
      clear hno hap1
      go_wp2_with fail
      go_ret3
      refine ⟨hb02, ?_⟩
      unfold encS
      rw [HE.out]; rfl
    · have HE : Hid (encE k M = 5) := by
        show encE k M = 5
        unfold encE; rw [if_pos HK.out, if_pos hyes.2, if_pos h5]
      clear hyes h5 hap1
      go_wp2_with fail
      go_ret3
      refine ⟨hb02, ?_⟩
      unfold encS
      rw [HE.out]; rfl
    · have HE : Hid (encE k M = 0) := encE_zero.2 ⟨HK.out, hyes.2, h5⟩
      obtain ⟨b, o, rfl, hc⟩ := hT'.cell (by decide)
      have e0 := hc 0 (by decide)
      have e1 := hc 1 (by decide)
      rw [Nat.add_zero] at e0
      generalize hs0 : strE (M 0) (mulM k powM Y 0) = s0 at e0
      generalize hs1 : strE (M 0) (mulM k powM Y 1) = s1 at e1
      have HS : Hid (s0 = encS k M Y 0 ∧ s1 = encS k M Y 1) := by
        show s0 = encS k M Y 0 ∧ s1 = encS k M Y 1
        unfold encS; rw [if_pos HE.out, if_pos HE.out, hs0, hs1]; exact ⟨rfl, rfl⟩
      clear hyes h5 hap1 hc hT' hs0 hs1
      go_wp2_with fail
      go_quiet (fail)
      go_wp2_with fail
      go_ret3
      refine ⟨below_drewN hb02 _, ?_⟩
      rw [← HS.out.1, ← HS.out.2, HE.out]; rfl
  · have hin := fun x => inData_any (k : Int) false ⟨fun h => Bool.noConfusion h, fun h => absurd (by omega) hk⟩ x
    have hk9 : (k : Int) ≤ 9223372036854775807 := by omega
    have HE : Hid (encE k M = 2) := if_neg hk
    clear hk hT
    go_enter Try.func10, Try.ntmps10
    go_wp2_with fail
    go_at_call 20
    refine (hin _).mono ?_
    rintro e w' ⟨rfl, rfl⟩
    go_wp2_with fail
    go_ret3
    refine ⟨Below.refl _ _, ?_⟩
    unfold encS
    rw [HE.out]; rfl
end Go.Proofs.Ytdpcbiccbhlonaa
/- The lengths of texts; the parity chunks behind a change: the program's own answers. -/
namespace Go.Proofs.Ytdpcbiccbhlonaa
open Go.RowKit Go.PlainAid
set_option linter.unusedVariables false

theorem measure1_any (s : ByteArray) (m l : Nat) (w : World) (hs : s.size ≤ 9223372036854775807) (hl : l ≤ 9223372036854775807) (hm : w.cell? ⟨m, 0, none⟩ = some (.int .i64 (l : Int))) :
    Calls Try.prog 42 #[.string s, .pointer (some ⟨m, 0, none⟩)] w fun e w' => e = .returned (.bool (s.size != l)) ∧ w' = w := by
  obtain ⟨q, hq⟩ : ∃ q, (s.size != l) = q := ⟨_, rfl⟩
  have hq' : ((s.size : Int) != (l : Int)) = q := by
    rw [← hq]
    by_cases h : s.size = l
    · rw [h]; simp
    · have h1 : (s.size != l) = true := by simpa using h
      have h2 : ((s.size : Int) != (l : Int)) = true := by simp; omega
      rw [h1, h2]
  rw [hq]
  clear hq
  go_enter Try.func42, Try.ntmps42
  go_wp2
  go_ret
  exact ⟨by rw [← hq']; rfl, rfl⟩

/-- What is wrong with the lengths of texts. -/
def meaE (k : Nat) (M : Nat → Nat) : Int := if ∀ c, c < k → M c = M 0 then (if 65536 < M 0 then 5 else 0) else 7

set_option maxHeartbeats 400000 in
theorem measure_any (a : Option Addr) (n ca : Nat) (M : Nat → Nat) (Y : Mx) (w : World) (h1 : 1 ≤ n) (hn : n ≤ maxLen) (ha : TxtAt w a n M Y) :
    Calls Try.prog 25 #[.slice a n ca] w fun e w' => Below w.heap.size w w' ∧ e = .returned (.int .i64 (meaE n M)) := by
  have hmf : ∀ (fn : Fn) (first cap : Array Value) (w : World), (Instr.makeFunc fn first cap).run Try.prog w = .ok (.func fn first cap) w := fun _ _ _ _ => rfl
  obtain ⟨l, hl⟩ : ∃ l, M 0 = l := ⟨_, rfl⟩
  have hl9 : l ≤ 9223372036854775807 := by rw [← hl]; exact ha.2 0 (by omega)
  have hcont := fun (m : Nat) (w1 : World) (h : Below w.heap.size w w1) (hm : w1.cell? ⟨m, 0, none⟩ = some (.int .i64 (l : Int))) (g : Bool) (hg : g = true ↔ ¬ ∀ c, c < n → M c = M 0) =>
    containsStr_any 42 (by decide) #[.pointer (some ⟨m, 0, none⟩)] a n ca (fun c => .string (strE (M c) (Y c))) (fun c => M c != l) w1 hn (ha.1.below h (Nat.le_refl _)) (fun r hr => by
      have := measure1_any (strE (M r) (Y r)) m l w1 (by rw [strE_size]; exact ha.2 r hr) hl9 hm
      rw [strE_size] at this
      exact this) g (by
        rw [hg]
        constructor
        · intro h
          apply Classical.byContradiction
          intro hh
          exact h fun c hc => by
            apply Classical.byContradiction
            intro h3
            exact hh ⟨c, hc, by rw [← hl]; simpa using h3⟩
        · rintro ⟨r, hr, h⟩ hh
          rw [hh r hr, hl] at h
          simp at h)
  obtain ⟨b, o, rfl, hc⟩ := ha.cell h1
  have h0 := hc 0 (by omega)
  rw [Nat.add_zero] at h0
  obtain ⟨s, hs⟩ : ∃ s, strE (M 0) (Y 0) = s := ⟨_, rfl⟩
  have hss : s.size = l := by rw [← hs, strE_size, hl]
  rw [hs] at h0
  have hn' : (0 : Int) < (n : Int) := by omega
  have hbel : Below w.heap.size w (w.alloc (.cells #[.int .i64 (l : Int)] 3 (0, 0))) := (Below.refl _ _).alloc (Nat.le_refl _) _
  by_cases hM : ∀ c, c < n → M c = M 0
  · have hcont' := fun m w1 h hm => hcont m w1 h hm false ⟨fun h => Bool.noConfusion h, fun h => absurd hM h⟩
    by_cases h5 : 65536 < l
    · have h5' : (65536 : Int) < (l : Int) := by omega
      have HE : Hid (meaE n M = 5) := by show meaE n M = 5; unfold meaE; rw [if_pos hM, if_pos (by omega)]
      clear hcont hM hl hc ha hs
      go_enter Try.func25, Try.ntmps25
      go_wp2_with fail
      go_at_call 41
      refine (hcont' _ _ hbel (by go_simp)).mono ?_
      rintro e w' ⟨rfl, rfl⟩
      go_wp2_with fail
      go_ret
      rw [HE.out]
      exact ⟨hbel, rfl⟩
    · have h5' : ¬ (65536 : Int) < (l : Int) := by omega
      have HE : Hid (meaE n M = 0) := by show meaE n M = 0; unfold meaE; rw [if_pos hM, if_neg (by omega)]
      clear hcont hM hl hc ha hs
      go_enter Try.func25, Try.ntmps25
      go_wp2_with fail
      go_at_call 41
      refine (hcont' _ _ hbel (by go_simp)).mono ?_
      rintro e w' ⟨rfl, rfl⟩
      go_wp2_with fail
      go_ret
      rw [HE.out]
      exact ⟨hbel, rfl⟩
  · have hcont' := fun m w1 h hm => hcont m w1 h hm true ⟨fun _ => hM, fun _ => rfl⟩
    have HE : Hid (meaE n M = 7) := by show meaE n M = 7; unfold meaE; rw [if_neg hM]
    clear hcont hM hl hc ha hs
    go_enter Try.func25, Try.ntmps25
    go_wp2_with fail
    go_at_call 41
    refine (hcont' _ _ hbel (by go_simp)).mono ?_
    rintro e w' ⟨rfl, rfl⟩
    go_wp2_with fail
    go_ret
    rw [HE.out]
    exact ⟨hbel, rfl⟩
end Go.Proofs.Ytdpcbiccbhlonaa
/- The parity chunks behind a change: the program's own answer. -/
namespace Go.Proofs.Ytdpcbiccbhlonaa
open Go.RowKit Go.PlainAid
set_option linter.unusedVariables false

def four {α : Type} (a b c d : α) : Nat → α
  | 0 => a
  | 1 => b
  | 2 => c
  | _ => d
/-- What Update answers: its number; the texts. -/
def updE (i : Int) (M : Nat → Nat) : Int := if 0 ≤ i ∧ i < 8 then meaE 4 M else 2
def updP (i : Int) (M : Nat → Nat) (Y : Mx) : ByteArray := if updE i M = 0 then strE (M 0) (fun c => Y 0 c + (Y 2 c + Y 3 c)) else ⟨#[]⟩
def updQ (i : Int) (M : Nat → Nat) (Y : Mx) : ByteArray := if updE i M = 0 then strE (M 0) (fun c => Y 1 c + pw two i.toNat * (Y 2 c + Y 3 c)) else ⟨#[]⟩
theorem txt_four (w : World) (M : Nat → Nat) (Y : Mx) (s0 s1 s2 s3 : ByteArray) (h0 : s0 = strE (M 0) (Y 0)) (h1 : s1 = strE (M 1) (Y 1)) (h2 : s2 = strE (M 2) (Y 2)) (h3 : s3 = strE (M 3) (Y 3)) (hM : ∀ c, c < 4 → M c ≤ 9223372036854775807) :
    TxtAt (w.alloc (.cells #[.string s0, .string s1, .string s2, .string s3] 9 (0, 0))) (some ⟨w.heap.size, 0, none⟩) 4 M Y := by
  refine ⟨.inr ⟨w.heap.size, 0, rfl, fun i hi => ?_⟩, hM⟩
  match i, hi with
  | 0, _ => show _ = some (Value.string (strE (M 0) (Y 0))); rw [← h0]; go_simp
  | 1, _ => show _ = some (Value.string (strE (M 1) (Y 1))); rw [← h1]; go_simp
  | 2, _ => show _ = some (Value.string (strE (M 2) (Y 2))); rw [← h2]; go_simp
  | 3, _ => show _ = some (Value.string (strE (M 3) (Y 3))); rw [← h3]; go_simp
theorem mea_zero {k : Nat} {M : Nat → Nat} : meaE k M = 0 ↔ (∀ c, c < k → M c = M 0) ∧ M 0 ≤ 65536 := by
  unfold meaE
  split
  · split
    · exact ⟨fun h => absurd h (by decide), fun h => by omega⟩
    · rename_i h1 h2; exact ⟨fun _ => ⟨h1, by omega⟩, fun _ => rfl⟩
  · rename_i h; exact ⟨fun h => absurd h (by decide), fun h' => absurd h'.1 h⟩

set_option maxHeartbeats 1000000 in
theorem update_any (i : Int) (M : Nat → Nat) (Y : Mx) (w : World) (hM : ∀ c, c < 4 → M c ≤ 9223372036854775807) (hi0 : -9223372036854775808 ≤ i) (hi1 : i ≤ 9223372036854775807) :
    Calls Try.prog 13 #[.string (strE (M 0) (Y 0)), .string (strE (M 1) (Y 1)), .int .i64 i, .string (strE (M 2) (Y 2)), .string (strE (M 3) (Y 3))] w fun e w' => Below w.heap.size w w' ∧ e = .returned (.tuple #[.string (updP i M Y), .string (updQ i M Y), .int .i64 (updE i M)]) := by
  by_cases hi : 0 ≤ i ∧ i < 8
  · obtain ⟨k, rfl⟩ : ∃ k : Nat, i = (k : Int) := ⟨i.toNat, by omega⟩
    have hmea := fun s0 s1 s2 s3 h0 h1 h2 h3 => measure_any (some ⟨w.heap.size, 0, none⟩) 4 4 M Y _ (by decide) (by decide) (txt_four w M Y s0 s1 s2 s3 h0 h1 h2 h3 hM)
    by_cases hz : meaE 4 M = 0
    · obtain ⟨hall, h5⟩ := mea_zero.1 hz
      have hE : updE (k : Int) M = 0 := by unfold updE; rw [if_pos hi]; exact hz
      have eP : updP (k : Int) M Y = strE (M 0) (fun c => Y 0 c + (Y 2 c + Y 3 c)) := if_pos hE
      have eQ : updQ (k : Int) M Y = strE (M 0) (fun c => Y 1 c + pw two k * (Y 2 c + Y 3 c)) := by unfold updQ; rw [if_pos hE, Int.toNat_natCast]
      rw [eP, eQ, hE]
      obtain ⟨m, hm⟩ : ∃ m, M 0 = m := ⟨_, rfl⟩
      rw [hm] at h5
      have m1 : M 1 = m := by rw [hall 1 (by decide), hm]
      have m2 : M 2 = m := by rw [hall 2 (by decide), hm]
      have m3 : M 3 = m := by rw [hall 3 (by decide), hm]
      rw [hm, m1, m2, m3] at hmea
      rw [hm, m1, m2, m3]
      rw [hz] at hmea
      have x1 := fun x => xor_E m (Y 2) (Y 3) x h5
      have x2 := fun x => xor_E m (Y 0) (fun c => Y 2 c + Y 3 c) x h5
      have x3 := fun x => scale_E (pw two k) m (fun c => Y 2 c + Y 3 c) x h5
      have x4 := fun x => xor_E m (Y 1) (fun c => pw two k * (Y 2 c + Y 3 c)) x h5
      have x5 : ∀ x, Calls Try.prog 28 #[.int .u8 2, .int .i64 (k : Int)] x fun e w' => e = .returned (.int .u8 ((pw two k).v : Int)) ∧ w' = x := fun x => by
        have := gfPow_any 2 (by decide) (k : Int) hi0 hi1 x
        rw [gpow_nat 2 k (by decide)] at this
        exact this
      have k8 : (k : Int) < 8 := hi.2
      generalize strE m (Y 0) = s0 at *
      generalize strE m (Y 1) = s1 at *
      generalize strE m (Y 2) = s2 at *
      generalize strE m (Y 3) = s3 at *
      generalize strE m (fun c => Y 2 c + Y 3 c) = s4 at *
      generalize strE m (fun c => Y 0 c + (Y 2 c + Y 3 c)) = s5 at *
      generalize strE m (fun c => pw two k * (Y 2 c + Y 3 c)) = s6 at *
      generalize strE m (fun c => Y 1 c + pw two k * (Y 2 c + Y 3 c)) = s7 at *
      have hmea' := hmea s0 s1 s2 s3 rfl rfl rfl rfl
      clear hmea hM hz hall hE eP eQ hm m1 m2 m3 h5 hi
      go_enter Try.func13, Try.ntmps13
      go_wp2_with fail
      go_at_call 25
      refine hmea'.mono ?_
      rintro e w1 ⟨hb1, rfl⟩
      have hb01 : Below w.heap.size w w1 := ((Below.refl _ _).alloc (Nat.le_refl _) _).trans (hb1.mono (by simp))
      clear hmea'
      go_wp2_with fail
      go_at_call 26
      refine (x1 _).mono ?_
      rintro e w2 ⟨rfl, hb2⟩
      have hb02 := hb01.trans (hb2.mono hb01.size)
      go_wp2_with fail
      go_at_call 26
      refine (x2 _).mono ?_
      rintro e w3 ⟨rfl, hb3⟩
      have hb03 := hb02.trans (hb3.mono hb02.size)
      go_wp2_with fail
      go_at_call 28
      refine (x5 _).mono ?_
      rintro e w3' ⟨rfl, rfl⟩
      go_wp2_with fail
      go_at_call 27
      refine (x3 _).mono ?_
      rintro e w4 ⟨rfl, hb4⟩
      have hb04 := hb03.trans (hb4.mono hb03.size)
      go_wp2_with fail
      go_at_call 26
      refine (x4 _).mono ?_
      rintro e w5 ⟨rfl, hb5⟩
      have hb05 := hb04.trans (hb5.mono hb04.size)
      go_wp2_with fail
      go_ret3
      exact ⟨hb05, rfl⟩
    · have hE : updE (k : Int) M = meaE 4 M := if_pos hi
      have eP : updP (k : Int) M Y = ⟨#[]⟩ := if_neg (by rw [hE]; exact hz)
      have eQ : updQ (k : Int) M Y = ⟨#[]⟩ := if_neg (by rw [hE]; exact hz)
      rw [eP, eQ, hE]
      have k8 : (k : Int) < 8 := hi.2
      generalize strE (M 0) (Y 0) = s0 at *
      generalize strE (M 1) (Y 1) = s1 at *
      generalize strE (M 2) (Y 2) = s2 at *
      generalize strE (M 3) (Y 3) = s3 at *
      have hmea' := hmea s0 s1 s2 s3 rfl rfl rfl rfl
      generalize meaE 4 M = er at *
      have t0 : (er != 0) = true := by simpa using hz
      clear hmea hM hz hE eP eQ hi
      go_enter Try.func13, Try.ntmps13
      go_wp2_with fail
      go_at_call 25
      refine hmea'.mono ?_
      rintro e w1 ⟨hb1, rfl⟩
      have hb01 : Below w.heap.size w w1 := ((Below.refl _ _).alloc (Nat.le_refl _) _).trans (hb1.mono (by simp))
      clear hmea'
      go_wp2_with fail
      go_ret3
      exact ⟨hb01, rfl⟩
  · have hE : updE i M = 2 := if_neg hi
    have eP : updP i M Y = ⟨#[]⟩ := if_neg (by rw [hE]; decide)
    have eQ : updQ i M Y = ⟨#[]⟩ := if_neg (by rw [hE]; decide)
    rw [eP, eQ, hE]
    clear hE eP eQ
    generalize strE (M 0) (Y 0) = s0
    generalize strE (M 1) (Y 1) = s1
    generalize strE (M 2) (Y 2) = s2
    generalize strE (M 3) (Y 3) = s3
    by_cases h0 : i < 0
    · clear hi
      go_enter Try.func13, Try.ntmps13
      go_wp2_with fail
      go_ret3
      exact ⟨Below.refl _ _, rfl⟩
    · have h8 : 8 ≤ i := by omega
      clear hi
      go_enter Try.func13, Try.ntmps13
      go_wp2_with fail
      go_ret3
      exact ⟨Below.refl _ _, rfl⟩
end Go.Proofs.Ytdpcbiccbhlonaa
/- Two rows of bytes side by side, each growing. -/
namespace Go.Proofs.Ytdpcbiccbhlonaa
open Go.RowKit
set_option linter.unusedVariables false

def Apart (v u : Value) : Prop := v.ownBlock = none ∨ v.ownBlock ≠ u.ownBlock
theorem Apart.symm {v u : Value} (h : Apart v u) : Apart u v := by
  rcases h with h | h
  · cases e : u.ownBlock with
    | none => exact .inl e
    | some g => exact .inr (by rw [h]; simp [e])
  · exact .inr (fun e => h e.symm)
theorem apart_nil (u : Value) : Apart (.slice none 0 0) u := .inl rfl
section
variable {ops : Array Oper} {rest : List Oper} {o : Oper} {a : Act} {Q : Exit → Act → World → Prop}
/-- A byte appended to a row, other rows of bytes staying as they are. -/
theorem push_byte_two (hgd : o.guard = none) (s x : Operand) (ho : o.op = .call { callee := .builtin .append, args := #[s, x], argTypes := #[46, 46] })
    (w0 : World) (base : Nat) (v : Value) (k : Nat) (f : Nat → E) (hA : w0.ownsRow base 5 1 v k (bytesL k f)) (hs : a.eval s = v) (b : Value) (hbv : b = byteV (f k))
    (sz : Nat) (hx : a.eval x = .slice (some ⟨sz, 0, none⟩) 1 1) (hsz : sz = w0.heap.size) (hk : k < 1000000000) (hbase : base ≤ w0.heap.size)
    (h : ∀ v' w', w'.ownsRow base 5 1 v' (k + 1) (bytesL (k + 1) f) → (∀ u e n xs, w0.ownsRow base e 1 u n xs → Apart v u → w'.ownsRow base e 1 u n xs ∧ Apart v' u) → Below base w0 w' → wpList Try.prog ops Q rest (a.put o.dst v') w') :
    wpList Try.prog ops Q (o :: rest) a (w0.alloc (.cells #[b] 5 (0, 0))) := by
  subst hsz
  subst hbv
  obtain ⟨i0, hi, hz0, hz1, hz2⟩ := info_parts Try.info5
  refine wpList_append_own_at _ hgd s x 46 ho base 5 i0 (.int .u8 0) 1 1 Try.underlying46 hi hz0 hz1 hz2 rfl (by decide) v k _ hs (hA.alloc _) ⟨w0.heap.size, 0, none⟩ 1 1 [byteV (f k)] hx rfl ?_ ?_ ?_ ?_ ?_ ?_
  · intro j u hu
    match j, hu with
    | 0, hu => simp at hu; subst hu; simp [Addr.add]
  · intro u hu; simp at hu; subst hu; rfl
  · unfold maxLen; omega
  · omega
  · simp; omega
  · intro v' w' hown hgrow _ hat
    have hb0 : Below w0.heap.size w0 (w0.alloc (.cells #[byteV (f k)] 5 (0, 0))) := (Below.refl _ _).alloc (Nat.le_refl _) _
    refine h v' w' (by rw [bytesL_succ]; exact hown) (fun u e n xs hu hap => ⟨(hu.alloc _).kept hgrow ?_, ?_⟩) ?_
    · rcases hap.symm with h | h
      · exact .inl h
      · exact .inr h
    · rcases hat with hat | hat
      · unfold Apart; rw [hat]; exact hap
      · refine .inr fun e => ?_
        rw [hat] at e
        have := (hu.lt _ e.symm).2
        have := hb0.size
        omega
    · exact (hb0.mono hbase).grown hgrow (by simp; omega) (fun g hg => (hA.lt g hg).1)
end
end Go.Proofs.Ytdpcbiccbhlonaa
/- The document's parity chunks. -/
namespace Go.Proofs.Ytdpcbiccbhlonaa
open Go.RowKit Go.PlainAid
set_option linter.unusedVariables false

/-- Texts that lie there, as they are read. -/
def Txts (w : World) (b o n : Nat) (M : Nat → Nat) (Y : Mx) : Prop := ∀ x, Below w.heap.size w x → ∀ c, c < n → ∃ s : ByteArray, s.size = M c ∧ M c ≤ 9223372036854775807 ∧ x.cell? ⟨b, o + c, none⟩ = some (.string s) ∧ ∀ i, i < M c → bt s i = ((Y c i).v : Int)
theorem TxtAt.txts {w : World} {a : Option Addr} {n : Nat} {M : Nat → Nat} {Y : Mx} (h : TxtAt w a n M Y) (h1 : 1 ≤ n) : ∃ b o, a = some ⟨b, o, none⟩ ∧ Txts w b o n M Y := by
  obtain ⟨b, o, e, hc⟩ := h.cell h1
  refine ⟨b, o, e, fun x hx c hcn => ?_⟩
  have h' := hc c hcn
  exact ⟨_, strE_size (M c) (Y c), h.2 c hcn, (hx.cell (p := ⟨b, o + c, none⟩) (cell_lt h')).trans h', fun i hi => bt_strE (M c) (Y c) i hi⟩

set_option maxHeartbeats 1000000 in
theorem refShape_any (l : Option Addr) (k cl : Nat) (M : Nat → Nat) (Y : Mx) (w : World) (k1 : 1 ≤ k) (hkm : k ≤ maxLen) (hT : TxtAt w l k M Y) :
    Calls Try.prog 23 #[.slice l k cl] w fun e w' => Below w.heap.size w w' ∧ e = .returned (.int .i64 (meaE k M)) := by
  obtain ⟨bl, ol, rfl, hTx⟩ := hT.txts k1
  have HT : Hid (Txts w bl ol k M Y) := hTx
  have k0 : (0 : Int) < (k : Int) := by omega
  have k0' : 0 < k := by omega
  unfold maxLen at hkm
  obtain ⟨R, hR⟩ : ∃ R, meaE k M = R := ⟨_, rfl⟩
  have HR : Hid (meaE k M = R) := hR
  rw [hR]
  clear hT hTx hR
  go_enter Try.func23, Try.ntmps23
  go_wp2_with fail
  go_loopw [3] (fun i wr => ∃ c : Nat, c ≤ k ∧ i = .int .i64 c ∧ Below w.heap.size w wr ∧ ∀ j, j < c → M j = M 0) (fun i _ => (k : Nat) - (intOf i).toNat)
  case atStart => exact ⟨0, Nat.zero_le _, rfl, Below.refl _ _, fun j hj => by omega⟩
  case round =>
    obtain ⟨c, hc, rfl, hbc, hbefore⟩ := hrel
    have HB : Hid (∀ j, j < c → M j = M 0) := hbefore
    clear hbefore
    obtain ⟨s', hs', hs9', e2, -⟩ := HT.out wr hbc 0 k0'
    rw [Nat.add_zero] at e2
    obtain ⟨m0, hm0⟩ : ∃ m0, M 0 = m0 := ⟨_, rfl⟩
    rw [hm0] at hs' hs9'
    by_cases hlt : c < k
    · obtain ⟨s, hs, hs9, e1, -⟩ := HT.out wr hbc c hlt
      have ck : (c : Int) < (k : Int) := by omega
      obtain ⟨mc, hmc⟩ : ∃ mc, M c = mc := ⟨_, rfl⟩
      rw [hmc] at hs hs9
      by_cases e : mc = m0
      · have HE : Hid (M c = M 0) := (by rw [hmc, hm0, e] : M c = M 0)
        subst e
        have t1 : ((mc : Int) != (mc : Int)) = false := by simp
        clear hmc hm0
        go_wp2_with fail
        go_quiet (fail)
        go_wp2_with fail
        go_roundw
        case rel => exact ⟨c + 1, by omega, by go_num, below_drewN hbc _, fun j hj => by
          by_cases e : j = c
          · rw [e]; exact HE.out
          · exact HB.out j (by omega)⟩
        case measure => simp [intOf]; omega
      · have t1 : ((mc : Int) != (m0 : Int)) = true := by simp; omega
        have hr7 : R = 7 := by
          rw [← HR.out]; unfold meaE
          exact if_neg fun h => e (by rw [← hmc, ← hm0]; exact h c hlt)
        subst hr7
        clear hmc hm0 e
        go_wp2_with fail
        go_quiet (fail)
        go_wp2_with fail
        go_ret
        exact ⟨below_drewN hbc _, rfl⟩
    · have hck : k = c := by omega
      subst hck
      by_cases h5 : 65536 < m0
      · have h5' : (65536 : Int) < (m0 : Int) := by omega
        have hr5 : R = 5 := by
          rw [← HR.out]; unfold meaE
          rw [if_pos HB.out, if_pos (by omega)]
        subst hr5
        clear hm0 h5
        go_wp2_with fail
        go_ret
        exact ⟨hbc, rfl⟩
      · have h5' : ¬ (65536 : Int) < (m0 : Int) := by omega
        have hr0 : R = 0 := by
          rw [← HR.out]; unfold meaE
          rw [if_pos HB.out, if_neg (by omega)]
        subst hr0
        clear hm0 h5
        go_wp2_with fail
        go_ret
        exact ⟨hbc, rfl⟩

theorem refPow_two (k : Nat) (hk : k ≤ 255) (x : World) : Calls Try.prog 29 #[.int .u8 2, .int .i64 (k : Int)] x fun e w' => e = .returned (.int .u8 ((pw two k).v : Int)) ∧ Below x.heap.size x w' := by
  have := refPow_any 2 (by decide) (k : Int) (by omega) (by omega) x
  rw [gpow_nat 2 k (by decide)] at this
  exact this

set_option maxHeartbeats 1000000 in
theorem refParity_any (bl ol k cl m j : Nat) (M : Nat → Nat) (Y : Mx) (w : World) (k8 : k ≤ 8) (hTx : Txts w bl ol k M Y) (hM : ∀ c, c < k → M c = m) (hj : j < m) :
    Calls Try.prog 24 #[.slice (some ⟨bl, ol, none⟩) k cl, .int .i64 (j : Int)] w fun e w' => Below w.heap.size w w' ∧ e = .returned (.tuple #[byteV (mulM k powM Y 0 j), byteV (mulM k powM Y 1 j)]) := by
  have HT : Hid (∀ x, Below w.heap.size w x → ∀ c, c < k → ∃ s : ByteArray, s.size = m ∧ m ≤ 9223372036854775807 ∧ x.cell? ⟨bl, ol + c, none⟩ = some (.string s) ∧ bt s j = ((Y c j).v : Int)) := fun x hx c hc => by
    obtain ⟨s, h1, h2, h3, h4⟩ := hTx x hx c hc
    rw [hM c hc] at h1 h2 h4
    exact ⟨s, h1, h2, h3, h4 j hj⟩
  have j9 : (j : Int) ≤ 9223372036854775807 ∨ k = 0 := by
    rcases Nat.eq_zero_or_pos k with h | h
    · exact .inr h
    · obtain ⟨s, h1, h2, _⟩ := HT.out w (Below.refl _ _) 0 h; left; omega
  clear hTx hM
  go_enter Try.func24, Try.ntmps24
  go_wp2_with fail
  go_loopw [6, 7, 8] (fun p q i wr => ∃ c : Nat, c ≤ k ∧ i = .int .i64 c ∧ p = .int .u8 ((S c (fun c => powM 0 c * Y c j)).v : Int) ∧ q = .int .u8 ((S c (fun c => powM 1 c * Y c j)).v : Int) ∧ Below w.heap.size w wr) (fun _ _ i _ => (k : Nat) - (intOf i).toNat)
  case atStart => exact ⟨0, Nat.zero_le _, rfl, rfl, rfl, Below.refl _ _⟩
  case round =>
    obtain ⟨c, hc, rfl, rfl, rfl, hbc⟩ := hrel
    by_cases hlt : c < k
    · have ck : (c : Int) < (k : Int) := by omega
      have hpow := fun x => refPow_two c (by omega) x
      have hmul := fun x => refMul_E (pw two c) (Y c j) x
      have hadd := fun x => refAdd_E (S c (fun c => powM 0 c * Y c j)) (Y c j) x
      have hadd2 := fun x => refAdd_E (S c (fun c => powM 1 c * Y c j)) (pw two c * Y c j) x
      have HP : Hid (S (c + 1) (fun c => powM 0 c * Y c j) = S c (fun c => powM 0 c * Y c j) + Y c j ∧ S (c + 1) (fun c => powM 1 c * Y c j) = S c (fun c => powM 1 c * Y c j) + pw two c * Y c j) := by
        show _ ∧ _
        constructor
        · show _ + powM 0 c * Y c j = _
          rw [powM_zero, E.one_mul]
        · show _ + powM 1 c * Y c j = _
          rw [powM_one]
      obtain ⟨x3, hx3⟩ : ∃ x3, pw two c * Y c j = x3 := ⟨_, rfl⟩
      obtain ⟨p, hp⟩ : ∃ p, S c (fun c => powM 0 c * Y c j) = p := ⟨_, rfl⟩
      obtain ⟨q, hq⟩ : ∃ q, S c (fun c => powM 1 c * Y c j) = q := ⟨_, rfl⟩
      obtain ⟨y, hy⟩ : ∃ y, Y c j = y := ⟨_, rfl⟩
      have HPc : Hid (S (c + 1) (fun c => powM 0 c * Y c j) = p + y ∧ S (c + 1) (fun c => powM 1 c * Y c j) = q + x3) := by
        show _ ∧ _
        rw [← hp, ← hq, ← hx3, ← hy]; exact HP.out
      rw [hx3] at hmul hadd2
      rw [hp] at hadd ⊢
      rw [hq] at hadd2 ⊢
      rw [hy] at hadd hmul
      generalize pw two c = x1 at hpow hmul
      clear HP hp hq hx3
      obtain ⟨s, hs, hm9, e1, e1b⟩ := HT.out wr hbc c hlt
      have hjs : j < s.size := by omega
      have hbs := get_bt s
      rw [hy] at e1b
      clear hy
      go_wp2_with fail
      go_at_call 29
      refine (hpow _).mono ?_
      rintro e w1 ⟨rfl, hb1⟩
      have e2 : w1.cell? ⟨bl, ol + c, none⟩ = some (.string s) := (hb1.cell (p := ⟨bl, ol + c, none⟩) (cell_lt e1)).trans e1
      have hb01 := hbc.trans (hb1.mono hbc.size)
      clear e1
      go_wp2_with fail
      go_at_call 31
      refine (hmul _).mono ?_
      rintro e w2 ⟨rfl, hb2⟩
      have e3 : w2.cell? ⟨bl, ol + c, none⟩ = some (.string s) := (hb2.cell (p := ⟨bl, ol + c, none⟩) (cell_lt e2)).trans e2
      have hb02 := hb01.trans (hb2.mono hb01.size)
      clear e2
      go_wp2_with fail
      go_at_call 30
      refine (hadd _).mono ?_
      rintro e w3 ⟨rfl, hb3⟩
      have hb03 := hb02.trans (hb3.mono hb02.size)
      clear e3
      go_wp2_with fail
      go_at_call 30
      refine (hadd2 _).mono ?_
      rintro e w4 ⟨rfl, hb4⟩
      have hb04 := hb03.trans (hb4.mono hb03.size)
      go_wp2_with fail
      go_roundw
      case rel => exact ⟨c + 1, by omega, by go_num, by rw [HPc.out.1], by rw [HPc.out.2], hb04⟩
      case measure => simp [intOf]; omega
    · have hck : k = c := by omega
      subst hck
      go_wp2_with fail
      go_ret2
      exact ⟨hbc, rfl⟩
theorem Txts.below {w w' : World} {b o n : Nat} {M : Nat → Nat} {Y : Mx} (h : Txts w b o n M Y) (hb : Below w.heap.size w w') : Txts w' b o n M Y := fun x hx => h x (hb.trans (hx.mono hb.size))

set_option maxHeartbeats 1000000 in
theorem refEncode_any (l : Option Addr) (k cl : Nat) (M : Nat → Nat) (Y : Mx) (w : World) (hkm : k ≤ maxLen) (hT : TxtAt w l k M Y) :
    Calls Try.prog 11 #[.slice l k cl] w fun e w' => Below w.heap.size w w' ∧ e = .returned (.tuple #[.string (encS k M Y 0), .string (encS k M Y 1), .int .i64 (encE k M)]) := by
  unfold maxLen at hkm
  by_cases hk : 1 ≤ k ∧ k ≤ 8
  · have hsh := refShape_any l k cl M Y w hk.1 (by unfold maxLen; omega) hT
    have k1 : ¬ (k : Int) < 1 := by omega
    have k8 : ¬ (8 : Int) < (k : Int) := by omega
    have hE : encE k M = meaE k M := if_pos hk
    by_cases hz : meaE k M = 0
    · obtain ⟨hM, h5⟩ := mea_zero.1 hz
      have hS : ∀ r, encS k M Y r = strE (M 0) (mulM k powM Y r) := fun r => if_pos (by rw [hE]; exact hz)
      rw [hS, hS, hE, hz]
      rw [hz] at hsh
      obtain ⟨m, hm⟩ : ∃ m, M 0 = m := ⟨_, rfl⟩
      rw [hm] at h5 hM ⊢
      obtain ⟨b, o, rfl, hTx⟩ := hT.txts hk.1
      have HP : Hid (∀ x, Below w.heap.size w x → ∀ j, j < m → Calls Try.prog 24 #[.slice (some ⟨b, o, none⟩) k cl, .int .i64 (j : Int)] x fun e w' => Below x.heap.size x w' ∧ e = .returned (.tuple #[.int .u8 ((mulM k powM Y 0 j).v : Int), .int .u8 ((mulM k powM Y 1 j).v : Int)])) := fun x hx j hj => refParity_any b o k cl m j M Y x hk.2 (hTx.below hx) hM hj
      have HC : Hid (∀ x, Below w.heap.size w x → ∃ s : ByteArray, s.size = m ∧ x.cell? ⟨b, o, none⟩ = some (.string s)) := fun x hx => by
        obtain ⟨s, h1, -, h2, -⟩ := hTx x hx 0 (by omega)
        exact ⟨s, by rw [h1, hm], h2⟩
      have k0 : (0 : Int) < (k : Int) := by omega
      clear hk hE hz hM hS hm hTx hT
      go_enter Try.func11, Try.ntmps11
      go_wp2_with fail
      go_at_call 23
      refine hsh.mono ?_
      rintro e w1 ⟨hb1, rfl⟩
      clear hsh
      go_wp2_with fail
      go_loopw [6, 7, 8] (fun p q i wr => ∃ j : Nat, j ≤ m ∧ i = .int .i64 j ∧ wr.ownsRow w.heap.size 5 1 p j (bytesL j (mulM k powM Y 0)) ∧ wr.ownsRow w.heap.size 5 1 q j (bytesL j (mulM k powM Y 1)) ∧ Apart p q ∧ Below w.heap.size w wr) (fun _ _ i _ => (m : Nat) - (intOf i).toNat)
      case atStart => exact ⟨0, Nat.zero_le _, rfl, World.ownsRow_nil _ _ _ _, World.ownsRow_nil _ _ _ _, apart_nil _, hb1⟩
      case round =>
        obtain ⟨j, hj, rfl, hop, hoq, hap, hbj⟩ := hrel
        obtain ⟨s, hs, e1⟩ := HC.out wr hbj
        by_cases hlt : j < m
        · have hpar := HP.out wr hbj j hlt
          have jm : (j : Int) < (m : Int) := by omega
          obtain ⟨p0, hp0⟩ : ∃ p0, (mulM k powM Y 0 j).v = p0 := ⟨_, rfl⟩
          obtain ⟨q0, hq0⟩ : ∃ q0, (mulM k powM Y 1 j).v = q0 := ⟨_, rfl⟩
          rw [hp0, hq0] at hpar
          have HPQ : Hid (Value.int .u8 (p0 : Int) = byteV (mulM k powM Y 0 j) ∧ Value.int .u8 (q0 : Int) = byteV (mulM k powM Y 1 j)) := ⟨by rw [← hp0]; rfl, by rw [← hq0]; rfl⟩
          clear hb1 hp0 hq0
          go_wp2_with fail
          go_at_call 24
          refine hpar.mono ?_
          rintro e w2 ⟨hb2, rfl⟩
          have hop2 := owns_below hop hb2
          have hoq2 := owns_below hoq hb2
          have hb02 := hbj.trans (hb2.mono hbj.size)
          clear hpar e1 hop hoq
          go_wp2_with (at_builtin; refine push_byte_two rfl _ _ rfl _ w.heap.size _ j (mulM k powM Y 0) hop2 rfl _ HPQ.out.1 _ rfl rfl (by omega) hb02.size ?_)
          intro p' w3 hop3 hkeep hb3
          obtain ⟨hoq3, hap3⟩ := hkeep _ _ _ _ hoq2 hap
          have hb03 := hb02.trans hb3
          clear hkeep hop2 hoq2
          go_wp2_with (at_builtin; refine push_byte_two rfl _ _ rfl _ w.heap.size _ j (mulM k powM Y 1) hoq3 rfl _ HPQ.out.2 _ rfl rfl (by omega) hb03.size ?_)
          intro q' w4 hoq4 hkeep hb4
          obtain ⟨hop4, hap4⟩ := hkeep _ _ _ _ hop3 hap3.symm
          clear hkeep
          go_wp2_with fail
          go_roundw
          case rel => exact ⟨j + 1, by omega, by go_num, hop4, hoq4, hap4.symm, hb03.trans hb4⟩
          case measure => simp [intOf]; omega
        · have hjm : m = j := by omega
          subst hjm
          obtain ⟨ap, cp, rfl, -, hvp⟩ := owns_form hop _ (fun i hi => bytesL_at _ _ i hi)
          obtain ⟨aq, cq, rfl, -, hvq⟩ := owns_form hoq _ (fun i hi => bytesL_at _ _ i hi)
          have hcp : ∀ n, _ := fun n => conv_at (w := wr.drewN n) (cap := cp) (hvp.below (below_drewN (Below.refl _ _) n) (Nat.le_refl _))
          have hcq : ∀ n, _ := fun n => conv_at (w := wr.drewN n) (cap := cq) (hvq.below (below_drewN (Below.refl _ _) n) (Nat.le_refl _))
          clear hb1 hop hoq hap
          go_wp2_with fail
          go_quiet (fail)
          go_wp2_with fail
          go_ret3
          exact ⟨below_drewN hbj _, rfl⟩
    · have hS : ∀ r, encS k M Y r = ⟨#[]⟩ := fun r => if_neg (by rw [hE]; exact hz)
      rw [hS, hS, hE]
      generalize meaE k M = er at *
      have t0 : (er != 0) = true := by simpa using hz
      clear hk hE hz hS hT
      go_enter Try.func11, Try.ntmps11
      go_wp2_with fail
      go_at_call 23
      refine hsh.mono ?_
      rintro e w1 ⟨hb1, rfl⟩
      clear hsh
      go_wp2_with fail
      go_ret3
      exact ⟨hb1, rfl⟩
  · have hE : encE k M = 2 := if_neg hk
    have hS : ∀ r, encS k M Y r = ⟨#[]⟩ := fun r => if_neg (by rw [hE]; decide)
    rw [hS, hS, hE]
    by_cases k1 : k < 1
    · have k1' : (k : Int) < 1 := by omega
      clear hk hE hS
      go_enter Try.func11, Try.ntmps11
      go_wp2_with fail
      go_ret3
      exact ⟨Below.refl _ _, rfl⟩
    · have k1' : ¬ (k : Int) < 1 := by omega
      have k8 : (8 : Int) < (k : Int) := by omega
      clear hk hE hS
      go_enter Try.func11, Try.ntmps11
      go_wp2_with fail
      go_ret3
      exact ⟨Below.refl _ _, rfl⟩
end Go.Proofs.Ytdpcbiccbhlonaa
/- Texts that came in, cut: the law's own helper. -/
namespace Go.Proofs.Ytdpcbiccbhlonaa
open Go.RowKit Go.PlainAid
set_option linter.unusedVariables false

theorem strsL_congr {k : Nat} {f g : Nat → ByteArray} (h : ∀ i, i < k → f i = g i) : strsL k f = strsL k g :=
  List.map_congr_left fun i hi => by rw [h i (List.mem_range.1 hi)]
/-- What cut answers. -/
def CutTo (w : World) (base : Nat) (v : Value) (k N : Nat) (ev : Bool) (f : Nat → ByteArray) : Prop :=
  w.ownsRow base 9 1 v k (strsL k f) ∧ (∀ i, i < k → (f i).size ≤ N) ∧ (ev = true → ∀ i, i < k → (f i).size = (f 0).size)

set_option maxHeartbeats 1000000 in
theorem cut_any (l : Option Addr) (len cap N : Nat) (ev : Bool) (w : World) (hL : StrsArg w l len cap) (hN : N ≤ 1000) :
    Calls Try.prog 9 #[.slice l len cap, .int .i64 (N : Int), .bool ev] w fun e w' => Below w.heap.size w w' ∧ ∃ v f, e = .returned v ∧ CutTo w' w.heap.size v (min len 12) N ev f := by
  obtain ⟨T, hlc, hcm, hln, hTv, hTs⟩ := hL
  unfold maxLen at hcm
  obtain ⟨k, hk, hkl, hk12⟩ := cut_at len 12 (by decide)
  have hkm : min len 12 = k := by omega
  rw [hkm]
  have hk12' : k ≤ 12 := by omega
  clear hkm
  cases l with
  | none =>
    have h0 := hln rfl
    obtain rfl : cap = 0 := h0
    obtain rfl : len = 0 := by omega
    obtain rfl : k = 0 := by omega
    clear hTv hTs hk hln
    go_enter Try.func9, Try.ntmps9
    go_wp2_with fail
    go_loopw [7, 16] (fun o i wr => o = .slice none 0 0 ∧ i = .int .i64 0 ∧ wr = w) (fun _ _ _ => 0)
    case atStart => exact ⟨rfl, rfl, rfl⟩
    case round =>
      obtain ⟨rfl, rfl, rfl⟩ := hrel
      go_wp2_with fail
      go_ret
      exact ⟨Below.refl _ _, _, fun _ => ⟨#[]⟩, rfl, World.ownsRow_nil _ _ _ _, fun i hi => by omega, fun _ i hi => by omega⟩
  | some a =>
    have HV : Hid (∀ x, Below w.heap.size w x → ∀ i, i < len → ∃ b o, a = ⟨b, o, none⟩ ∧ x.cell? ⟨b, o + i, none⟩ = some (.string (T i)) ∧ (T i).size ≤ 9223372036854775807) := fun x hx i hi => by
      rcases hTv with h0 | ⟨b, o, e, h⟩
      · omega
      · cases e
        have h' := h i hi
        have := hTs i hi
        unfold maxLen at this
        exact ⟨b, o, rfl, (hx.cell (p := ⟨b, o + i, none⟩) (cell_lt h')).trans h', by omega⟩
    clear hTv hTs hln
    go_enter Try.func9, Try.ntmps9
    go_wp2_with fail
    go_loopw [7, 16] (fun o' i wr => ∃ (r : Nat) (f : Nat → ByteArray), r ≤ k ∧ i = .int .i64 r ∧ Below w.heap.size w wr ∧ CutTo wr w.heap.size o' r N ev f) (fun _ i _ => (k : Nat) - (intOf i).toNat)
    case atStart => exact ⟨0, fun _ => ⟨#[]⟩, Nat.zero_le _, rfl, Below.refl _ _, World.ownsRow_nil _ _ _ _, fun i hi => by omega, fun _ i hi => by omega⟩
    case round =>
      obtain ⟨r, f, hr, rfl, hbr, hcut⟩ := hrel
      by_cases hlt : r < k
      · obtain ⟨b, o, rfl, e1, hs9⟩ := HV.out wr hbr r (by omega)
        generalize T r = s at e1 hs9
        obtain ⟨q, hq, hqs, hqN⟩ := cut_at s.size (N : Int) (by omega)
        have hqN' : q ≤ N := by omega
        have hq2 : (if N < s.size then (N : Int) else (s.size : Int)) = (q : Int) := by rw [← hq]; split <;> split <;> omega
        have hex : (s.extract 0 q).size = q := by rw [ByteArray.size_extract]; omega
        obtain ⟨hown, hsz, hev⟩ := hcut
        have rk : (r : Int) < (k : Int) := by omega
        have HNE : ev = false ∨ r = 0 → Hid (∃ f' : Nat → ByteArray, strsL r f' = strsL r f ∧ f' r = s.extract 0 q ∧ (∀ i, i < r + 1 → (f' i).size ≤ N) ∧ (ev = true → ∀ i, i < r + 1 → (f' i).size = (f' 0).size)) := fun hc => by
          refine ⟨fun i => if i = r then s.extract 0 q else f i, strsL_congr fun i hi => if_neg (by omega), if_pos rfl, fun i hi => ?_, fun he i hi => ?_⟩
          · by_cases e : i = r
            · simp only [if_pos e, hex]; omega
            · simp only [if_neg e]; exact hsz i (by omega)
          · rcases hc with hc | hc
            · rw [hc] at he; cases he
            · subst hc
              obtain rfl : i = 0 := by omega
              rfl
        cases ev with
        | false =>
          obtain ⟨f', h1, h2, h3, -⟩ := (HNE (.inl rfl)).out
          have HV2 : Hid (Value.string (s.extract 0 q) = .string (f' r)) := by show _ = _; rw [h2]
          rw [← h1] at hown
          clear HNE hsz hev h1 h2
          go_wp2_with (at_builtin; refine push_str_at rfl _ _ rfl _ w.heap.size _ r f' hown rfl _ HV2.out _ rfl rfl (by omega) hbr.size ?_)
          intro v' w2 hown2 hb2
          go_wp2_with fail
          go_roundw
          case rel => exact ⟨r + 1, f', by omega, by go_num, hbr.trans hb2, hown2, h3, fun h => Bool.noConfusion h⟩
          case measure => simp [intOf]; omega
        | true =>
          by_cases hr0 : r = 0
          · have HNE' := HNE (.inr hr0)
            have r0 : ¬ (0 : Int) < (r : Int) := by omega
            clear hr0
            obtain ⟨f', h1, h2, h3, h4⟩ := HNE'.out
            have HV2 : Hid (Value.string (s.extract 0 q) = .string (f' r)) := by show _ = _; rw [h2]
            rw [← h1] at hown
            clear HNE HNE' hsz hev h1 h2
            go_wp2_with (at_builtin; refine push_str_at rfl _ _ rfl _ w.heap.size _ r f' hown rfl _ HV2.out _ rfl rfl (by omega) hbr.size ?_)
            intro v' w2 hown2 hb2
            go_wp2_with fail
            go_roundw
            case rel => exact ⟨r + 1, f', by omega, by go_num, hbr.trans hb2, hown2, h3, fun _ => h4 (by trivial)⟩
            case measure => simp [intOf]; omega
          · have r0 : (0 : Int) < (r : Int) := by omega
            obtain ⟨i0, hi0, hz0, hz1, hz2⟩ := info_parts Try.info5
            rcases hown.2 with ⟨h0, h1⟩ | ⟨g, c, cur, hg0, -⟩
            · omega
            subst hg0
            have hc0 : wr.cell? ⟨g, 0, none⟩ = some (.string (f 0)) := by rw [hown.cellAt 0 (by omega), strsL_at _ _ 0 (by omega)]
            have hf0 := hsz 0 (by omega)
            obtain ⟨t0, ht0⟩ : ∃ t0, f 0 = t0 := ⟨_, rfl⟩
            rw [ht0] at hc0 hf0
            obtain ⟨Z, hZ⟩ : ∃ Z, madeCells (Value.int .u8 0).cells (N * i0.size) = Z := ⟨_, rfl⟩
            have hmk : ∀ x : World, (Instr.makeSlice 46 (.int .i64 (N : Int)) (.int .i64 (N : Int))).run Try.prog x = .ok (.slice (some ⟨x.heap.size, 0, none⟩) N N) (x.alloc (.cells Z 5 (0, 0))) := fun x => by
              have := run_make (P := Try.prog) x 46 5 i0 (.int .u8 0) Try.underlying46 hi0 hz0 .i64 .i64 (N : Int) (N : Int) (by omega) (Int.le_refl _) (by rw [hz2]; omega) (by omega)
              rw [Int.toNat_natCast, hZ] at this
              exact this
            obtain ⟨zs, hzs⟩ : ∃ zs, strOfNums (List.replicate N 0) = zs := ⟨_, rfl⟩
            have hzsz : zs.size = N := by rw [← hzs, strOfNums_size, List.length_replicate]
            have hcv : ∀ x : World, (convert 46 9 (.slice (some ⟨x.heap.size, 0, none⟩) N N)).run Try.prog (x.alloc (.cells Z 5 (0, 0))) = .ok (.string zs) (x.alloc (.cells Z 5 (0, 0))) := fun x => by
              have := run_convert_bytes_arg (P := Try.prog) (x.alloc (.cells Z 5 (0, 0))) 46 5 Try.underlying46 Try.underlying5 x.heap.size 0 N N (List.replicate N 0) (List.length_replicate ..) (fun i hi => ?_) 9 Try.underlying9
              · rw [hzs] at this; exact this
              · rw [← hZ, hz1]
                have : (madeCells (Value.int .u8 0).cells (N * 1)).toList = List.replicate N (.int .u8 0) := by rw [Nat.mul_one]; exact toList_madeCells_one _ _
                have hl : (madeCells (Value.int .u8 0).cells (N * 1))[i]? = some (.int .u8 0) := by
                  rw [← Array.getElem?_toList, this, List.getElem?_replicate, if_pos hi]
                rw [Nat.zero_add, List.getD_eq_getElem?_getD, List.getElem?_replicate, if_pos hi]
                rw [cell_of_row (x.alloc (.cells (madeCells (Value.int .u8 0).cells (N * 1)) 5 (0, 0))) x.heap.size i _ 5 (0, 0) (heap_alloc_new x _), hl]
                rfl
            have HS : Hid (∀ x, Below wr.heap.size wr x → x.cell? ⟨g, 0, none⟩ = some (.string t0)) := fun x hx => (hx.cell (p := ⟨g, 0, none⟩) (cell_lt hc0)).trans hc0
            have hd : Below wr.heap.size wr wr.drew := (Below.refl _ _).drew
            have hd2 : Below wr.heap.size wr (wr.drew.alloc (.cells Z 5 (0, 0))) := hd.alloc (Nat.le_refl _) _
            have hcv' : (convert 46 9 (.slice (some ⟨wr.heap.size, 0, none⟩) N N)).run Try.prog (wr.alloc (.cells Z 5 (0, 0))).drew = .ok (.string zs) (wr.alloc (.cells Z 5 (0, 0))).drew := hcv wr.drew
            clear hZ hzs hcv
            go_wp2_with fail
            have hcA : (wr.alloc (.cells Z 5 (0, 0))).cell? ⟨g, 0, none⟩ = some (.string t0) := HS.out _ ((Below.refl _ _).alloc (Nat.le_refl _) _)
            go_region
            have hd3 : Below w.heap.size w (wr.alloc (.cells Z 5 (0, 0))).drew := hbr.trans (hd2.mono hbr.size)
            have hown3 : (wr.alloc (.cells Z 5 (0, 0))).drew.ownsRow w.heap.size 9 1 (.slice (some ⟨g, 0, none⟩) r c) r (strsL r f) := owns_below hown hd2
            have hxs : ((s.extract 0 q ++ zs).extract 0 t0.size).size = t0.size := by rw [ByteArray.size_extract, ByteArray.size_append]; omega
            obtain ⟨f', h1, h2, h3, h4⟩ : ∃ f' : Nat → ByteArray, strsL r f' = strsL r f ∧ f' r = (s.extract 0 q ++ zs).extract 0 t0.size ∧ (∀ i, i < r + 1 → (f' i).size ≤ N) ∧ (∀ i, i < r + 1 → (f' i).size = (f' 0).size) := by
              refine ⟨fun i => if i = r then (s.extract 0 q ++ zs).extract 0 t0.size else f i, strsL_congr fun i hi => if_neg (by omega), if_pos rfl, fun i hi => ?_, fun i hi => ?_⟩
              · by_cases e : i = r
                · simp only [if_pos e, hxs]; omega
                · simp only [if_neg e]; exact hsz i (by omega)
              · simp only [if_neg (show ¬ 0 = r by omega)]
                by_cases e : i = r
                · simp only [if_pos e, hxs, ht0]
                · simp only [if_neg e]; exact hev (by trivial) i (by omega)
            rw [← h1] at hown3
            generalize (s.extract 0 q ++ zs).extract 0 t0.size = s5 at h2 ⊢
            have HV2 : Hid (Value.string s5 = .string (f' r)) := by show _ = _; rw [h2]
            generalize (wr.alloc (.cells Z 5 (0, 0))).drew = w5 at hd3 hown3 ⊢
            clear HNE hsz hev h1 h2 hcA hcv' hmk HS hd hd2 hown hc0
            go_wp2_with (at_builtin; refine push_str_at rfl _ _ rfl _ w.heap.size _ r f' hown3 rfl _ HV2.out _ rfl rfl (by omega) hd3.size ?_)
            intro v' w2 hown2 hb2
            go_wp2_with fail
            go_roundw
            case rel => exact ⟨r + 1, f', by omega, by go_num, hd3.trans hb2, hown2, h3, fun _ => h4⟩
            case measure => simp [intOf]; omega
      · have hrk : k = r := by omega
        subst hrk
        go_wp2_with fail
        go_ret
        exact ⟨hbr, _, f, rfl, hcut⟩
end Go.Proofs.Ytdpcbiccbhlonaa
/- Two pairs of texts compared. -/
namespace Go.Proofs.Ytdpcbiccbhlonaa
open Go.RowKit
set_option linter.unusedVariables false

theorem Try.guard64 : Try.prog.eqGuardType Try.prog.depth 64 = false := by kernel_rfl
theorem Try.cells19 : Try.prog.cellsOf 9 = 1 := by kernel_rfl
theorem beqB (a b : ByteArray) : (a.toList == b.toList) = decide (a = b) := by
  rw [← beq_toListBytes]
  obtain ⟨x⟩ := a
  obtain ⟨y⟩ := b
  show (x == y) = _
  exact Bool.eq_iff_iff.2 (by simp)
theorem eql_pair (w : World) (p q s0 s1 : ByteArray) : (binOp .eql 64 (.agg #[.string p, .string q]) (.agg #[.string s0, .string s1])).run Try.prog w = .ok (.bool (decide (p = s0 ∧ q = s1))) w := by
  obtain ⟨i0, hi, hz0, hz1, hz2⟩ := info_parts Try.info9
  rw [run_eql_struct, show (10000 : Nat) = 9999 + 1 from rfl, run_equalIn_array w 9999 _ _ Try.underlying64 hi]
  have h1 : ∀ (xs : Array Value) (j : Nat) (s : ByteArray), xs[j]? = some (.string s) → (part 9 xs (j * 1)).run Try.prog w = .ok (.string s) w := fun xs j s h =>
    run_part_plain w (by kernel_rfl) (by rw [Nat.mul_one]; exact h)
  have h2 : ∀ d (a b : ByteArray), (Op.equalIn (d + 1) 9 (.string a) (.string b)).run Try.prog w = .ok (a.toList == b.toList) w := fun d a b => run_equalIn_string w d 9 a b Try.underlying9
  rw [Try.cells19, show List.range 2 = [0, 1] from rfl]
  simp only [Op.eqItems, Sem.run_bind]
  have h2' : ∀ (a b : ByteArray), (Op.equalIn 9999 9 (.string a) (.string b)).run Try.prog w = .ok (decide (a = b)) w := fun a b => by rw [← beqB]; exact h2 9998 a b
  rw [h1 _ 0 p rfl]
  simp only [Result.andThen_ok]
  rw [h1 _ 0 s0 rfl]
  simp only [Result.andThen_ok]
  rw [h2']
  simp only [Result.andThen_ok]
  by_cases e0 : p = s0
  · have t0 : (!decide (p = s0)) = false := by simp [e0]
    rw [t0]
    simp only [Bool.false_eq_true, if_false, Sem.run_bind]
    rw [h1 _ 1 q rfl]
    simp only [Result.andThen_ok]
    rw [h1 _ 1 s1 rfl]
    simp only [Result.andThen_ok]
    rw [h2']
    simp only [Result.andThen_ok]
    by_cases e1 : q = s1
    · simp [e0, e1]
    · simp [e0, e1]
  · simp [e0]
end Go.Proofs.Ytdpcbiccbhlonaa
/- Do chunks fit one another? The program's answer. -/
namespace Go.Proofs.Ytdpcbiccbhlonaa
open Go.RowKit Go.PlainAid
set_option linter.unusedVariables false

def chkB (n : Nat) (M : Nat → Nat) (Y : Mx) : Bool := decide (3 ≤ n ∧ n ≤ 10 ∧ encE (n - 2) M = 0 ∧ encS (n - 2) M Y 0 = strE (M (n - 2)) (Y (n - 2)) ∧ encS (n - 2) M Y 1 = strE (M (n - 1)) (Y (n - 1)))
theorem TxtAt.cut {w : World} {a : Option Addr} {n k : Nat} {M : Nat → Nat} {Y : Mx} (h : TxtAt w a n M Y) (hk : k ≤ n) : TxtAt w a k M Y := by
  refine ⟨?_, fun c hc => h.2 c (by omega)⟩
  rcases h.1 with h0 | ⟨b, o, e, h⟩
  · exact .inl (by omega)
  · exact .inr ⟨b, o, e, fun i hi => h i (by omega)⟩

set_option maxHeartbeats 1000000 in
theorem check_any (a : Option Addr) (n ca : Nat) (M : Nat → Nat) (Y : Mx) (w : World) (hca : n ≤ ca) (hcm : ca ≤ 9223372036854775807) (hT : TxtAt w a n M Y) :
    Calls Try.prog 18 #[.slice a n ca] w fun e w' => Below w.heap.size w w' ∧ e = .returned (.bool (chkB n M Y)) := by
  by_cases hn : 3 ≤ n ∧ n ≤ 10
  · obtain ⟨k, rfl⟩ : ∃ k, n = k + 2 := ⟨n - 2, by omega⟩
    have hin := fun x => inData_any (k : Int) true ⟨fun _ => by omega, fun _ => rfl⟩ x
    have henc := encode_any a k ca M Y w (by omega) hcm (hT.cut (by omega))
    have hB : chkB (k + 2) M Y = decide (encE k M = 0 ∧ encS k M Y 0 = strE (M k) (Y k) ∧ encS k M Y 1 = strE (M (k + 1)) (Y (k + 1))) := by
      unfold chkB
      exact decide_eq_decide.2 ⟨fun h => h.2.2, fun h => ⟨hn.1, hn.2, h⟩⟩
    rw [hB]
    obtain ⟨b, o, rfl, hc⟩ := hT.cell (by omega)
    have HC : Hid (∀ x, Below w.heap.size w x → x.cell? ⟨b, o + k, none⟩ = some (.string (strE (M k) (Y k))) ∧ x.cell? ⟨b, o + (k + 1), none⟩ = some (.string (strE (M (k + 1)) (Y (k + 1))))) := fun x hx =>
      ⟨(hx.cell (p := ⟨b, o + k, none⟩) (cell_lt (hc k (by omega)))).trans (hc k (by omega)), (hx.cell (p := ⟨b, o + (k + 1), none⟩) (cell_lt (hc (k + 1) (by omega)))).trans (hc (k + 1) (by omega))⟩
    generalize strE (M k) (Y k) = s0 at HC ⊢
    generalize strE (M (k + 1)) (Y (k + 1)) = s1 at HC ⊢
    generalize encS k M Y 0 = p at henc ⊢
    generalize encS k M Y 1 = q at henc ⊢
    generalize encE k M = er at henc ⊢
    have k8 : (k : Int) ≤ 8 := by omega
    have kk : ((k + 2 : Nat) : Int) - 2 = (k : Int) := by omega
    have kca : (k : Int) ≤ (ca : Int) := by omega
    have hca' : k ≤ ca := by omega
    have q1 : (k : Int) < (k : Int) + 2 := by omega
    have q2 : (k : Int) + 1 < (k : Int) + 2 := by omega
    have q3 : IntKind.i64.wrap ((k : Int) + 1) = (k : Int) + 1 := by rw [IntKind.wrap_i64]; omega
    have q4 : ((k : Int) + 1).toNat = k + 1 := by omega
    have q5 : (0 : Int) ≤ (k : Int) + 1 := by omega
    have q6 : ¬ ((k : Int) + 1 < 0) := by omega
    clear hB hT hc hn
    by_cases h0 : er = 0
    · subst h0
      have heql := fun x => eql_pair x p q s0 s1
      have hgu := Try.guard64
      go_enter Try.func18, Try.ntmps18
      go_wp2_with fail
      go_at_call 20
      refine (hin _).mono ?_
      rintro e w' ⟨rfl, rfl⟩
      go_wp2_with fail
      go_at_call 10
      refine henc.mono ?_
      rintro e w2 ⟨hb2, rfl⟩
      obtain ⟨c0, c1⟩ := HC.out w2 hb2
      clear henc hin
      go_wp2_with fail
      go_quiet (fail)
      go_wp2_with fail
      go_ret
      refine ⟨below_drewN hb2 _, ?_⟩
      simp
    · have t0 : (er == 0) = false := by simpa using h0
      clear h0
      go_enter Try.func18, Try.ntmps18
      go_wp2_with fail
      go_at_call 20
      refine (hin _).mono ?_
      rintro e w' ⟨rfl, rfl⟩
      go_wp2_with fail
      go_at_call 10
      refine henc.mono ?_
      rintro e w2 ⟨hb2, rfl⟩
      obtain ⟨c0, c1⟩ := HC.out w2 hb2
      clear henc hin
      go_wp2_with fail
      go_quiet (fail)
      go_wp2_with fail
      go_ret
      refine ⟨below_drewN hb2 _, ?_⟩
      have : ¬ er = 0 := by simpa using t0
      simp [this]
  · have hin := fun x => inData_any ((n : Int) - 2) false ⟨fun h => Bool.noConfusion h, fun h => absurd (by omega) hn⟩ x
    have hB : chkB n M Y = false := by
      unfold chkB
      exact decide_eq_false fun h => hn ⟨h.1, h.2.1⟩
    rw [hB]
    have n9 : (n : Int) ≤ 9223372036854775807 := by omega
    clear hB hT hn
    go_enter Try.func18, Try.ntmps18
    go_wp2_with fail
    go_at_call 20
    refine (hin _).mono ?_
    rintro e w' ⟨rfl, rfl⟩
    go_wp2_with fail
    go_ret
    exact ⟨Below.refl _ _, rfl⟩

def wkY : Mx := fun r _ => if r = 2 then 0 else if r = 3 then ⟨3, by decide⟩ else 1
theorem wk_enc : encE 2 (fun _ => 1) = 0 ∧ encS 2 (fun _ => 1) wkY 0 = ⟨#[0]⟩ ∧ encS 2 (fun _ => 1) wkY 1 = ⟨#[3]⟩ := by decide +kernel
theorem wk_chk : chkB 4 (fun _ => 1) wkY = true := by decide +kernel
theorem wk_str : strE 1 (wkY 0) = ⟨#[1]⟩ ∧ strE 1 (wkY 1) = ⟨#[1]⟩ ∧ strE 1 (wkY 2) = ⟨#[0]⟩ ∧ strE 1 (wkY 3) = ⟨#[3]⟩ := by decide +kernel
theorem wk_two (w : World) : TxtAt (w.alloc (.cells #[.string ⟨#[1]⟩, .string ⟨#[1]⟩] 9 (0, 0))) (some ⟨w.heap.size, 0, none⟩) 2 (fun _ => 1) wkY := by
  refine ⟨.inr ⟨w.heap.size, 0, rfl, fun i hi => ?_⟩, fun c _ => by show 1 ≤ 9223372036854775807; decide⟩
  match i, hi with
  | 0, _ => show _ = some (Value.string (strE 1 (wkY 0))); rw [wk_str.1]; go_simp
  | 1, _ => show _ = some (Value.string (strE 1 (wkY 1))); rw [wk_str.2.1]; go_simp
theorem wk_four (w : World) : TxtAt (w.alloc (.cells #[.string ⟨#[1]⟩, .string ⟨#[1]⟩, .string ⟨#[0]⟩, .string ⟨#[3]⟩] 9 (0, 0))) (some ⟨w.heap.size, 0, none⟩) 4 (fun _ => 1) wkY := by
  refine ⟨.inr ⟨w.heap.size, 0, rfl, fun i hi => ?_⟩, fun c _ => by show 1 ≤ 9223372036854775807; decide⟩
  match i, hi with
  | 0, _ => show _ = some (Value.string (strE 1 (wkY 0))); rw [wk_str.1]; go_simp
  | 1, _ => show _ = some (Value.string (strE 1 (wkY 1))); rw [wk_str.2.1]; go_simp
  | 2, _ => show _ = some (Value.string (strE 1 (wkY 2))); rw [wk_str.2.2.1]; go_simp
  | 3, _ => show _ = some (Value.string (strE 1 (wkY 3))); rw [wk_str.2.2.2]; go_simp
set_option maxHeartbeats 1000000 in
theorem wakes_any (w : World) : Calls Try.prog 12 #[] w fun e w' => e = .returned (.bool true) ∧ Below w.heap.size w w' := by
  have henc := encode_any (some ⟨w.heap.size, 0, none⟩) 2 2 (fun _ => 1) wkY _ (by decide) (by decide) (wk_two w)
  rw [wk_enc.1, wk_enc.2.1, wk_enc.2.2] at henc
  have hchk := fun x : World => check_any (some ⟨x.heap.size, 0, none⟩) 4 4 (fun _ => 1) wkY _ (by decide) (by decide) (wk_four x)
  rw [wk_chk] at hchk
  go_enter Try.func12, Try.ntmps12
  go_wp2_with fail
  go_at_call 10
  refine henc.mono ?_
  rintro e w2 ⟨hb2, rfl⟩
  have hb02 : Below w.heap.size w w2 := ((Below.refl _ _).alloc (Nat.le_refl _) _).trans (hb2.mono (by simp))
  go_wp2_with fail
  go_at_call 18
  refine (hchk _).mono ?_
  rintro e w3 ⟨hb3, rfl⟩
  have hb03 : Below w.heap.size w w3 := (hb02.alloc hb02.size _).trans (hb3.mono (Nat.le_trans hb02.size (by simp)))
  go_wp2_with fail
  go_ret
  exact ⟨rfl, hb03⟩
end Go.Proofs.Ytdpcbiccbhlonaa
/- The parity chunks of every data chunks: the law's walk. -/
namespace Go.Proofs.Ytdpcbiccbhlonaa
open Go.RowKit Go.PlainAid
set_option linter.unusedVariables false

theorem CutTo.txt {w : World} {base : Nat} {v : Value} {k N : Nat} {ev : Bool} {f : Nat → ByteArray} (h : CutTo w base v k N ev f) (hN : N ≤ 1000) : ∃ a c, v = .slice a k c ∧ k ≤ c ∧ c ≤ 9223372036854775807 ∧ TxtAt w a k (fun i => (f i).size) (fun i => teE (f i)) :=
  txt_of_strs h.1 (fun i hi => by have := h.2.1 i hi; omega)

set_option maxHeartbeats 1000000 in
theorem encodesLaw_arg (l : Option Addr) (len cap : Nat) (ev : Bool) (w : World) (hL : StrsArg w l len cap) :
    Calls Try.prog 3 #[.slice l len cap, .bool ev] w fun e w' => e = .returned (.bool true) ∧ Below w.heap.size w w' := by
  have hcut := cut_any l len cap 200 ev w hL (by decide)
  clear hL
  go_enter Try.func3, Try.ntmps3
  go_wp2_with fail
  go_at_call 9
  refine hcut.mono ?_
  rintro e w1 ⟨hb1, v, f, rfl, hC⟩
  obtain ⟨a, c, rfl, hc1, hc2, hT⟩ := hC.txt (by decide)
  have k12 : min len 12 ≤ 12 := by omega
  generalize min len 12 = k at hc1 hT hC k12 ⊢
  have henc := encode_any a k c _ _ w1 hc1 hc2 hT
  have href := fun x (hx : Below w1.heap.size w1 x) => refEncode_any a k c _ _ x (by unfold maxLen; omega) (hT.below hx)
  generalize encS k (fun i => (f i).size) (fun i => teE (f i)) 0 = p at henc href
  generalize encS k (fun i => (f i).size) (fun i => teE (f i)) 1 = q at henc href
  generalize encE k (fun i => (f i).size) = er at henc href
  clear hcut hC hT
  go_wp2_with fail
  go_at_call 10
  refine henc.mono ?_
  rintro e w2 ⟨hb2, rfl⟩
  have hb02 := hb1.trans (hb2.mono hb1.size)
  have href2 := href w2 hb2
  clear href henc
  go_wp2_with fail
  go_at_call 11
  refine href2.mono ?_
  rintro e w3 ⟨hb3, rfl⟩
  have hb03 := hb02.trans (hb3.mono hb02.size)
  clear href2
  go_wp2_with fail
  go_at_call 12
  refine (wakes_any _).mono ?_
  rintro e w4 ⟨rfl, hb4⟩
  have hb04 := hb03.trans (hb4.mono hb03.size)
  go_wp2_with fail
  go_ret
  exact ⟨by simp, hb04⟩
end Go.Proofs.Ytdpcbiccbhlonaa
/- Which chunks fit one another: the document's answer; the law's walk. -/
namespace Go.Proofs.Ytdpcbiccbhlonaa
open Go.RowKit Go.PlainAid
set_option linter.unusedVariables false

set_option maxHeartbeats 1000000 in
theorem refCheck_any (a : Option Addr) (n ca : Nat) (M : Nat → Nat) (Y : Mx) (w : World) (hca : n ≤ ca) (hcm : ca ≤ 9223372036854775807) (hT : TxtAt w a n M Y) :
    Calls Try.prog 19 #[.slice a n ca] w fun e w' => Below w.heap.size w w' ∧ e = .returned (.bool (chkB n M Y)) := by
  by_cases hn : 3 ≤ n
  · obtain ⟨k, rfl⟩ : ∃ k, n = k + 2 := ⟨n - 2, by omega⟩
    have henc := refEncode_any a k ca M Y w (by unfold maxLen; omega) (hT.cut (by omega))
    have hB : chkB (k + 2) M Y = decide (encE k M = 0 ∧ encS k M Y 0 = strE (M k) (Y k) ∧ encS k M Y 1 = strE (M (k + 1)) (Y (k + 1))) := by
      unfold chkB
      exact decide_eq_decide.2 ⟨fun h => h.2.2, fun h => ⟨hn, by have := (encE_zero.1 h.1).1.2; omega, h⟩⟩
    rw [hB]
    obtain ⟨b, o, rfl, hc⟩ := hT.cell (by omega)
    have HC : Hid (∀ x, Below w.heap.size w x → x.cell? ⟨b, o + k, none⟩ = some (.string (strE (M k) (Y k))) ∧ x.cell? ⟨b, o + (k + 1), none⟩ = some (.string (strE (M (k + 1)) (Y (k + 1))))) := fun x hx =>
      ⟨(hx.cell (p := ⟨b, o + k, none⟩) (cell_lt (hc k (by omega)))).trans (hc k (by omega)), (hx.cell (p := ⟨b, o + (k + 1), none⟩) (cell_lt (hc (k + 1) (by omega)))).trans (hc (k + 1) (by omega))⟩
    generalize strE (M k) (Y k) = s0 at HC ⊢
    generalize strE (M (k + 1)) (Y (k + 1)) = s1 at HC ⊢
    generalize encS k M Y 0 = p at henc ⊢
    generalize encS k M Y 1 = q at henc ⊢
    generalize encE k M = er at henc ⊢
    have kk : ((k + 2 : Nat) : Int) - 2 = (k : Int) := by omega
    have k1 : ¬ ((k : Int) < 1) := by omega
    have kca : (k : Int) ≤ (ca : Int) := by omega
    have hca' : k ≤ ca := by omega
    have q1 : (k : Int) < (k : Int) + 2 := by omega
    have q2 : (k : Int) + 1 < (k : Int) + 2 := by omega
    have q3 : IntKind.i64.wrap ((k : Int) + 1) = (k : Int) + 1 := by rw [IntKind.wrap_i64]; omega
    have q4 : ((k : Int) + 1).toNat = k + 1 := by omega
    have q5 : (0 : Int) ≤ (k : Int) + 1 := by omega
    have q6 : ¬ ((k : Int) + 1 < 0) := by omega
    have hbq := beqB q s1
    have hbp := beqB p s0
    clear hB hT hc hn
    by_cases h0 : er = 0
    · subst h0
      by_cases hp : p = s0
      · rw [decide_eq_true hp] at hbp
        by_cases hq : q = s1
        · rw [decide_eq_true hq] at hbq
          have HR : Hid (decide ((0 : Int) = 0 ∧ p = s0 ∧ q = s1) = true) := by show _ = true; simp [hp, hq]
          rw [HR.out]
          clear hp hq HR
          go_enter Try.func19, Try.ntmps19
          go_wp2_with fail
          go_at_call 11
          refine henc.mono ?_
          rintro e w2 ⟨hb2, rfl⟩
          obtain ⟨c0, c1⟩ := HC.out w2 hb2
          clear henc
          go_wp2_with fail
          go_ret
          exact ⟨hb2, rfl⟩
        · rw [decide_eq_false hq] at hbq
          have HR : Hid (decide ((0 : Int) = 0 ∧ p = s0 ∧ q = s1) = false) := by show _ = false; simp [hq]
          rw [HR.out]
          clear hp hq HR
          go_enter Try.func19, Try.ntmps19
          go_wp2_with fail
          go_at_call 11
          refine henc.mono ?_
          rintro e w2 ⟨hb2, rfl⟩
          obtain ⟨c0, c1⟩ := HC.out w2 hb2
          clear henc
          go_wp2_with fail
          go_ret
          exact ⟨hb2, rfl⟩
      · rw [decide_eq_false hp] at hbp
        have HR : Hid (decide ((0 : Int) = 0 ∧ p = s0 ∧ q = s1) = false) := by show _ = false; simp [hp]
        rw [HR.out]
        clear hp HR hbq
        go_enter Try.func19, Try.ntmps19
        go_wp2_with fail
        go_at_call 11
        refine henc.mono ?_
        rintro e w2 ⟨hb2, rfl⟩
        obtain ⟨c0, c1⟩ := HC.out w2 hb2
        clear henc
        go_wp2_with fail
        go_ret
        exact ⟨hb2, rfl⟩
    · have HR : Hid (decide (er = 0 ∧ p = s0 ∧ q = s1) = false) := by show _ = false; simp [h0]
      rw [HR.out]
      have t0 : (er == 0) = false := by simpa using h0
      clear h0 HR hbp hbq
      go_enter Try.func19, Try.ntmps19
      go_wp2_with fail
      go_at_call 11
      refine henc.mono ?_
      rintro e w2 ⟨hb2, rfl⟩
      obtain ⟨c0, c1⟩ := HC.out w2 hb2
      clear henc
      go_wp2_with fail
      go_ret
      exact ⟨hb2, rfl⟩
  · have hB : chkB n M Y = false := by
      unfold chkB
      exact decide_eq_false fun h => hn h.1
    rw [hB]
    have n9 : (n : Int) ≤ 9223372036854775807 := by omega
    have n1 : (n : Int) - 2 < 1 := by omega
    clear hB hT hn
    go_enter Try.func19, Try.ntmps19
    go_wp2_with fail
    go_ret
    exact ⟨Below.refl _ _, rfl⟩

section
variable {ops : Array Oper} {rest : List Oper} {o : Oper} {a : Act} {Q : Exit → Act → World → Prop}
/-- Two texts appended. -/
theorem push_strs_two (hgd : o.guard = none) (s x : Operand) (ho : o.op = .call { callee := .builtin .append, args := #[s, x], argTypes := #[22, 22] })
    (w0 : World) (base : Nat) (v : Value) (k : Nat) (f : Nat → ByteArray) (hA : w0.ownsRow base 9 1 v k (strsL k f)) (hs : a.eval s = v) (p q : ByteArray) (hp : p = f k) (hq : q = f (k + 1))
    (sz : Nat) (hx : a.eval x = .slice (some ⟨sz, 0, none⟩) 2 2) (hsz : sz = w0.heap.size) (hk : k < 1000000000) (hbase : base ≤ w0.heap.size)
    (h : ∀ v' w', w'.ownsRow base 9 1 v' (k + 2) (strsL (k + 2) f) → Below base w0 w' → wpList Try.prog ops Q rest (a.put o.dst v') w') :
    wpList Try.prog ops Q (o :: rest) a (w0.alloc (.cells #[.string p, .string q] 9 (0, 0))) := by
  subst hsz
  subst hp
  subst hq
  obtain ⟨i0, hi, hz0, hz1, hz2⟩ := info_parts Try.info9
  refine wpList_append_own _ hgd s x 22 ho base 9 i0 (.string ⟨#[]⟩) 1 16 Try.underlying22 hi hz0 hz1 hz2 rfl (by decide) v k _ hs (hA.alloc _) ⟨w0.heap.size, 0, none⟩ 2 2 [.string (f k), .string (f (k + 1))] hx rfl ?_ ?_ ?_ ?_ ?_ ?_
  · intro j u hu
    match j, hu with
    | 0, hu => simp at hu; subst hu; simp [Addr.add]
    | 1, hu => simp at hu; subst hu; simp [Addr.add]
  · intro u hu; simp at hu; rcases hu with rfl | rfl <;> rfl
  · unfold maxLen; omega
  · omega
  · simp; omega
  · intro v' w' hown hgrow _
    have hb0 : Below w0.heap.size w0 (w0.alloc (.cells #[.string (f k), .string (f (k + 1))] 9 (0, 0))) := (Below.refl _ _).alloc (Nat.le_refl _) _
    refine h v' w' (by rw [strsL_succ, strsL_succ, List.append_assoc]; exact hown) ?_
    exact (hb0.mono hbase).grown hgrow (by simp; omega) (fun g hg => (hA.lt g hg).1)
end
/-- A function on numbers with two values more. -/
def ext2 {α : Type} (f : Nat → α) (k : Nat) (p q : α) : Nat → α := fun i => if i = k then p else if i = k + 1 then q else f i
theorem ext2_lt {α : Type} {f : Nat → α} {k i : Nat} {p q : α} (h : i < k) : ext2 f k p q i = f i := by unfold ext2; rw [if_neg (by omega), if_neg (by omega)]
theorem ext2_k {α : Type} {f : Nat → α} {k : Nat} {p q : α} : ext2 f k p q k = p := if_pos rfl
theorem ext2_k1 {α : Type} {f : Nat → α} {k : Nat} {p q : α} : ext2 f k p q (k + 1) = q := by unfold ext2; rw [if_neg (by omega), if_pos rfl]

set_option maxHeartbeats 1000000 in
theorem checksLaw_arg (l : Option Addr) (len cap : Nat) (ev : Bool) (w : World) (hL : StrsArg w l len cap) :
    Calls Try.prog 6 #[.slice l len cap, .bool ev] w fun e w' => e = .returned (.bool true) ∧ Below w.heap.size w w' := by
  have hcut := cut_any l len cap 100 ev w hL (by decide)
  have HF : Hid (∀ (x : World) (a : Option Addr) (n c : Nat) (M : Nat → Nat) (Y : Mx), n ≤ c → c ≤ 9223372036854775807 → TxtAt x a n M Y → ∃ b : Bool, (Calls Try.prog 18 #[.slice a n c] x fun e w' => Below x.heap.size x w' ∧ e = .returned (.bool b)) ∧ ∀ y, Below x.heap.size x y → Calls Try.prog 19 #[.slice a n c] y fun e w' => Below y.heap.size y w' ∧ e = .returned (.bool b)) := fun x a n c M Y h1 h2 h3 =>
    ⟨chkB n M Y, check_any a n c M Y x h1 h2 h3, fun y hy => refCheck_any a n c M Y y h1 h2 (h3.below hy)⟩
  clear hL
  go_enter Try.func6, Try.ntmps6
  go_wp2_with fail
  go_at_call 9
  refine hcut.mono ?_
  rintro e w1 ⟨hb1, v, f, rfl, hC⟩
  have k12 : min len 12 ≤ 12 := by omega
  generalize min len 12 = k at hC k12 ⊢
  obtain ⟨a, c, rfl, hc1, hc2, hT⟩ := hC.txt (by decide)
  have href := refEncode_any a k c _ _ w1 (by unfold maxLen; omega) hT
  generalize hp : encS k (fun i => (f i).size) (fun i => teE (f i)) 0 = p at href
  generalize hq : encS k (fun i => (f i).size) (fun i => teE (f i)) 1 = q at href
  generalize her : encE k (fun i => (f i).size) = er at href
  have hz : er = 0 → p.size ≤ 65536 ∧ q.size ≤ 65536 := fun h => by
    have h0 : encE k (fun i => (f i).size) = 0 := by rw [her, h]
    rw [← hp, ← hq]
    unfold encS
    rw [if_pos h0, if_pos h0, strE_size, strE_size]
    exact ⟨(encE_zero.1 h0).2.2, (encE_zero.1 h0).2.2⟩
  clear hcut hp hq her
  have HC : Hid (CutTo w1 w.heap.size (.slice a k c) k 100 ev f) := hC
  have HT : Hid (TxtAt w1 a k (fun i => (f i).size) (fun i => teE (f i))) := hT
  clear hC hT
  go_wp2_with fail
  go_at_call 11
  refine href.mono ?_
  rintro e w2 ⟨hb2, rfl⟩
  have hb02 := hb1.trans (hb2.mono hb1.size)
  clear href
  cases ev with
  | false =>
    clear hz
    have hT2 := HT.out.below hb2
    have HT2 : Hid (TxtAt w2 a k (fun i => (f i).size) (fun i => teE (f i))) := hT2
    clear hT2
    go_wp2_with fail
    go_at_call 12
    refine (wakes_any _).mono ?_
    rintro e w4 ⟨rfl, hb4⟩
    have hb04 := hb02.trans (hb4.mono hb02.size)
    obtain ⟨bb, hchk, hrck⟩ := HF.out w4 _ _ _ _ _ hc1 hc2 (HT2.out.below hb4)
    clear HT2
    go_wp2_with fail
    go_at_call 18
    refine hchk.mono ?_
    rintro e w5 ⟨hb5, rfl⟩
    have hb05 := hb04.trans (hb5.mono hb04.size)
    have hrck5 := hrck w5 hb5
    clear hrck hchk
    go_wp2_with fail
    go_at_call 19
    refine hrck5.mono ?_
    rintro e w6 ⟨hb6, rfl⟩
    have hb06 := hb05.trans (hb6.mono hb05.size)
    clear hrck5
    go_wp2_with fail
    go_ret
    exact ⟨by simp, hb06⟩
  | true =>
    by_cases h0 : er = 0
    · subst h0
      obtain ⟨hpz, hqz⟩ := hz rfl
      have hown : w2.ownsRow w.heap.size 9 1 (.slice a k c) k (strsL k (ext2 f k p q)) := by
        rw [strsL_congr fun i hi => ext2_lt hi]; exact owns_below HC.out.1 hb2
      have hsz : ∀ i, i < k + 2 → (ext2 f k p q i).size ≤ 65536 := fun i hi => by
        by_cases h1 : i = k
        · subst h1; rw [ext2_k]; exact hpz
        · by_cases h2 : i = k + 1
          · subst h2; rw [ext2_k1]; exact hqz
          · rw [ext2_lt (by omega)]; have := HC.out.2.1 i (by omega); omega
      have HS : Hid (∀ i, i < k + 2 → (ext2 f k p q i).size ≤ 65536) := hsz
      clear hz hpz hqz hsz
      go_wp2_with (at_builtin; refine push_strs_two rfl _ _ rfl _ w.heap.size _ k (ext2 f k p q) hown rfl _ _ ext2_k.symm ext2_k1.symm _ rfl rfl (by omega) hb02.size ?_)
      intro v' w3 hown3 hb3
      obtain ⟨a3, c3, rfl, hc1, hc2, hT3⟩ := txt_of_strs hown3 HS.out
      have hb03 := hb02.trans hb3
      clear hown hown3 hb02 hb2
      have HT2 : Hid (TxtAt w3 a3 (k + 2) (fun i => (ext2 f k p q i).size) (fun i => teE (ext2 f k p q i))) := hT3
      clear hT3
      go_wp2_with fail
      go_at_call 12
      refine (wakes_any _).mono ?_
      rintro e w4 ⟨rfl, hb4⟩
      have hb04 := hb03.trans (hb4.mono hb03.size)
      obtain ⟨bb, hchk, hrck⟩ := HF.out w4 _ _ _ _ _ hc1 hc2 (HT2.out.below hb4)
      clear HT2
      go_wp2_with fail
      go_at_call 18
      refine hchk.mono ?_
      rintro e w5 ⟨hb5, rfl⟩
      have hb05 := hb04.trans (hb5.mono hb04.size)
      have hrck5 := hrck w5 hb5
      clear hrck hchk
      go_wp2_with fail
      go_at_call 19
      refine hrck5.mono ?_
      rintro e w6 ⟨hb6, rfl⟩
      have hb06 := hb05.trans (hb6.mono hb05.size)
      clear hrck5
      go_wp2_with fail
      go_ret
      exact ⟨by simp, hb06⟩
    · have t0 : (er == 0) = false := by simpa using h0
      clear hz h0
      have hT2 := HT.out.below hb2
      have HT2 : Hid (TxtAt w2 a k (fun i => (f i).size) (fun i => teE (f i))) := hT2
      clear hT2
      go_wp2_with fail
      go_at_call 12
      refine (wakes_any _).mono ?_
      rintro e w4 ⟨rfl, hb4⟩
      have hb04 := hb02.trans (hb4.mono hb02.size)
      obtain ⟨bb, hchk, hrck⟩ := HF.out w4 _ _ _ _ _ hc1 hc2 (HT2.out.below hb4)
      clear HT2
      go_wp2_with fail
      go_at_call 18
      refine hchk.mono ?_
      rintro e w5 ⟨hb5, rfl⟩
      have hb05 := hb04.trans (hb5.mono hb04.size)
      have hrck5 := hrck w5 hb5
      clear hrck hchk
      go_wp2_with fail
      go_at_call 19
      refine hrck5.mono ?_
      rintro e w6 ⟨hb6, rfl⟩
      have hb06 := hb05.trans (hb6.mono hb05.size)
      clear hrck5
      go_wp2_with fail
      go_ret
      exact ⟨by simp, hb06⟩
end Go.Proofs.Ytdpcbiccbhlonaa
/- A stripe's chunks, as the laws make them. -/
namespace Go.Proofs.Ytdpcbiccbhlonaa
open Go.RowKit Go.PlainAid
set_option linter.unusedVariables false

theorem txt_of_any {w : World} {base n : Nat} {v : Value} {f : Nat → ByteArray} (h : w.ownsRow base 9 1 v n (strsL n f)) (hs : ∀ i, i < n → (f i).size ≤ 9223372036854775807) : ∃ a c, v = .slice a n c ∧ n ≤ c ∧ c ≤ 9223372036854775807 ∧ TxtAt w a n (fun i => (f i).size) (fun i => teE (f i)) := by
  obtain ⟨a, c, rfl, _, hv⟩ := owns_form h _ (fun i hi => strsL_at _ _ i hi)
  refine ⟨a, c, rfl, ?_, ?_, ?_, fun i hi => hs i hi⟩
  · rcases h.2 with ⟨h0, h1⟩ | ⟨g, cap, cur, e, _, _, h1, _⟩
    · omega
    · cases e; exact h1
  · rcases h.2 with ⟨h0, h1⟩ | ⟨g, cap, cur, e, _, _, _, h1, _⟩
    · injection h0 with _ _ h4; omega
    · cases e; unfold maxLen at h1; omega
  · rcases hv with h0 | ⟨b, o, e, hv⟩
    · exact .inl h0
    · exact .inr ⟨b, o, e, fun i hi => by show _ = some (Value.string (strE (f i).size (teE (f i)))); rw [strE_te]; exact hv i hi⟩
theorem teE_strE (m : Nat) (g : Nat → E) (c : Nat) (hc : c < m) : teE (strE m g) c = g c := by
  apply E.same
  show (bt (strE m g) c).toNat % 256 = _
  rw [bt_strE m g c hc, Int.toNat_natCast, Nat.mod_eq_of_lt (g c).h]
theorem chk_stripe {k m : Nat} (k1 : 1 ≤ k) (k8 : k ≤ 8) (hm : m ≤ 65536) (D : Mx) : chkB (k + 2) (fun _ => m) (St k D) = true := by
  have hz : encE k (fun _ => m) = 0 := encE_zero.2 ⟨⟨k1, k8⟩, fun _ _ => rfl, hm⟩
  have hs : ∀ r, encS k (fun _ => m) (St k D) r = strE m (St k D (k + r)) := fun r => by
    unfold encS
    rw [if_pos hz]
    refine strE_congr fun c hc => ?_
    rw [St_parity]
    exact S_congr fun j hj => by rw [St_data hj]
  unfold chkB
  exact decide_eq_true ⟨by omega, by omega, hz, hs 0, hs 1⟩
/-- The texts of an even cut, as elements. -/
theorem CutTo.elems {w : World} {base : Nat} {v : Value} {k N : Nat} {f : Nat → ByteArray} (h : CutTo w base v k N true f) (hN : N ≤ 1000) (k1 : 1 ≤ k) (k8 : k ≤ 8) : ∃ (m : Nat) (D : Mx), m ≤ N ∧ m ≤ 65536 ∧ encE k (fun i => (f i).size) = 0 ∧ (∀ i, i < k → f i = strE m (St k D i)) ∧
    encS k (fun i => (f i).size) (fun i => teE (f i)) 0 = strE m (St k D k) ∧ encS k (fun i => (f i).size) (fun i => teE (f i)) 1 = strE m (St k D (k + 1)) ∧ (f 0).size = m := by
  have hs := h.2.2 rfl
  have h0 := h.2.1 0 (by omega)
  have hz : encE k (fun i => (f i).size) = 0 := encE_zero.2 ⟨⟨k1, k8⟩, fun c hc => hs c hc, by show (f 0).size ≤ _; omega⟩
  refine ⟨(f 0).size, fun i => teE (f i), h0, by omega, hz, fun i hi => ?_, ?_, ?_, rfl⟩
  · rw [strE_congr (g := teE (f i)) fun c hc => St_data hi _ c, ← hs i hi, strE_te]
  · unfold encS; rw [if_pos hz]; exact strE_congr fun c hc => (St_parity k 0 _ c).symm
  · unfold encS; rw [if_pos hz]; exact strE_congr fun c hc => (St_parity k 1 _ c).symm
theorem cnt_or (p q r : Nat → Bool) (n : Nat) (h : ∀ i, i < n → r i = true → p i = true ∨ q i = true) : cnt r n ≤ cnt p n + cnt q n := by
  induction n with
  | zero => exact Nat.le_refl _
  | succ n ih =>
    have := ih fun i hi => h i (by omega)
    have h' := h n (by omega)
    simp only [cnt]
    by_cases h1 : r n = true
    · rcases h' h1 with h2 | h2 <;> simp [h1, h2] <;> omega
    · simp [h1]; omega
theorem cnt_eq_le (i n : Nat) : cnt (fun x => decide (x = i)) n ≤ if i < n then 1 else 0 := by
  induction n with
  | zero => simp [cnt]
  | succ n ih =>
    simp only [cnt]
    by_cases h : n = i
    · subst h; simp at ih ⊢; omega
    · simp only [decide_eq_false h]
      have : (if i < n + 1 then 1 else 0) = (if i < n then 1 else 0) := by
        by_cases h1 : i < n
        · rw [if_pos h1, if_pos (by omega)]
        · rw [if_neg h1, if_neg (by omega)]
      rw [this]
      simpa using ih
theorem cnt_but_two (T : Nat → Bool) (i j n : Nat) (hT : ∀ x, x < n → T x = false → x = i ∨ x = j) : n - 2 ≤ cnt T n := by
  have h1 := cnt_not T n
  have h2 := cnt_or (fun x => decide (x = i)) (fun x => decide (x = j)) (fun x => !T x) n (fun x hx h => by
    rcases hT x hx (by simpa using h) with h | h
    · exact .inl (decide_eq_true h)
    · exact .inr (decide_eq_true h))
  have h3 := cnt_eq_le i n
  have h4 := cnt_eq_le j n
  split at h3 <;> split at h4 <;> omega
end Go.Proofs.Ytdpcbiccbhlonaa
/- Those of texts, and of rows, that are there: the program's own answers. -/
namespace Go.Proofs.Ytdpcbiccbhlonaa
open Go.RowKit Go.PlainAid
set_option linter.unusedVariables false

theorem cnt_succ_true {T : Nat → Bool} {i : Nat} (h : T i = true) : cnt T (i + 1) = cnt T i + 1 := by simp [cnt, h]
theorem cnt_succ_false {T : Nat → Bool} {i : Nat} (h : T i = false) : cnt T (i + 1) = cnt T i := by simp [cnt, h]
theorem Vals.at {w : World} {a : Option Addr} {n : Nat} {V : Nat → Value} (h : Vals w a n V) : Hid (∀ x, Below w.heap.size w x → ∀ i, i < n → ∃ b o, a = some ⟨b, o, none⟩ ∧ x.cell? ⟨b, o + i, none⟩ = some (V i)) := fun x hx i hi => by
  rcases h with h0 | ⟨b, o, e, h⟩
  · omega
  · exact ⟨b, o, e, (hx.cell (p := ⟨b, o + i, none⟩) (cell_lt (h i hi))).trans (h i hi)⟩

set_option maxHeartbeats 1000000 in
theorem keptStr_any (a b : Option Addr) (n ca cb : Nat) (F : Nat → ByteArray) (T : Nat → Bool) (w : World) (hn : n ≤ 1000) (ha : Vals w a n fun i => .string (F i)) (hb : Vals w b n fun i => .bool (T i)) :
    Calls Try.prog 32 #[.slice a n ca, .slice b n cb] w fun e w' => Below w.heap.size w w' ∧ ∃ v, e = .returned v ∧ w'.ownsRow w.heap.size 9 1 v (cnt T n) (strsL (cnt T n) fun r => F (kidx T n r)) := by
  have HA := ha.at
  have HB := hb.at
  clear ha hb
  go_enter Try.func32, Try.ntmps32
  go_wp2_with fail
  go_loopw [5, 10] (fun o i wr => ∃ k : Nat, k ≤ n ∧ i = .int .i64 k ∧ Below w.heap.size w wr ∧ wr.ownsRow w.heap.size 9 1 o (cnt T k) (strsL (cnt T k) fun r => F (kidx T n r))) (fun _ i _ => (n : Nat) - (intOf i).toNat)
  case atStart => exact ⟨0, Nat.zero_le _, rfl, Below.refl _ _, World.ownsRow_nil _ _ _ _⟩
  case round =>
    obtain ⟨k, hk, rfl, hbk, hown⟩ := hrel
    by_cases hlt : k < n
    · obtain ⟨b1, o1, rfl, e1⟩ := HA.out wr hbk k hlt
      obtain ⟨b2, o2, rfl, e2⟩ := HB.out wr hbk k hlt
      have kn : (k : Int) < (n : Int) := by omega
      have hcl := cnt_le T k
      cases hT : T k with
      | true =>
        rw [hT] at e2
        have HV : Hid (Value.string (F k) = .string (F (kidx T n (cnt T k)))) := by show _ = _; rw [kidx_cnt T hlt hT]
        have HC : Hid (cnt T (k + 1) = cnt T k + 1) := cnt_succ_true hT
        generalize F k = s at e1 HV
        generalize cnt T k = q at *
        clear hT
        go_wp2_with (at_builtin; refine push_str_at rfl _ _ rfl _ w.heap.size _ q (fun r => F (kidx T n r)) hown rfl _ HV.out _ rfl rfl (by omega) hbk.size ?_)
        intro v' w2 hown2 hb2
        go_wp2_with fail
        go_roundw
        case rel => exact ⟨k + 1, by omega, by go_num, hbk.trans hb2, by rw [HC.out]; exact hown2⟩
        case measure => simp [intOf]; omega
      | false =>
        rw [hT] at e2
        have HC : Hid (cnt T (k + 1) = cnt T k) := cnt_succ_false hT
        generalize F k = s at e1
        clear hT
        go_wp2_with fail
        go_roundw
        case rel => exact ⟨k + 1, by omega, by go_num, hbk, by rw [HC.out]; exact hown⟩
        case measure => simp [intOf]; omega
    · have hkn : n = k := by omega
      subst hkn
      go_wp2_with fail
      go_ret
      exact ⟨hbk, _, rfl, hown⟩

section
variable {ops : Array Oper} {rest : List Oper} {o : Oper} {a : Act} {Q : Exit → Act → World → Prop}
def valsL (k : Nat) (R : Nat → Value) : List Value := (List.range k).map R
theorem valsL_at (k : Nat) (R : Nat → Value) (i : Nat) (h : i < k) : (valsL k R)[i]? = some (R i) := by simp [valsL, h]
theorem valsL_succ (k : Nat) (R : Nat → Value) : valsL (k + 1) R = valsL k R ++ [R k] := by
  unfold valsL; rw [List.range_succ, List.map_append]; rfl
/-- A row's own value appended to rows. -/
theorem push_val_at (hgd : o.guard = none) (s x : Operand) (t : TypeId) (ho : o.op = .call { callee := .builtin .append, args := #[s, x], argTypes := #[t, t] }) (ht : Try.prog.underlying t = some (.slice 46))
    (w0 : World) (base : Nat) (v : Value) (k : Nat) (R : Nat → Value) (hA : w0.ownsRow base 46 1 v k (valsL k R)) (hs : a.eval s = v) (b : Value) (hbv : b = R k) (hone : b.oneCell' = true)
    (sz : Nat) (hx : a.eval x = .slice (some ⟨sz, 0, none⟩) 1 1) (hsz : sz = w0.heap.size) (hk : k < 1000000) (hbase : base ≤ w0.heap.size)
    (h : ∀ v' w', w'.ownsRow base 46 1 v' (k + 1) (valsL (k + 1) R) → Below base w0 w' → wpList Try.prog ops Q rest (a.put o.dst v') w') :
    wpList Try.prog ops Q (o :: rest) a (w0.alloc (.cells #[b] 46 (0, 0))) := by
  subst hsz
  subst hbv
  obtain ⟨i0, hi, hz0, hz1, hz2⟩ := info_parts Try.info46
  refine wpList_append_own _ hgd s x t ho base 46 i0 (.slice none 0 0) 1 24 ht hi hz0 hz1 hz2 rfl (by decide) v k _ hs (hA.alloc _) ⟨w0.heap.size, 0, none⟩ 1 1 [R k] hx rfl ?_ ?_ ?_ ?_ ?_ ?_
  · intro j u hu
    match j, hu with
    | 0, hu => simp at hu; subst hu; simp [Addr.add]
  · intro u hu; simp at hu; subst hu; exact hone
  · unfold maxLen; omega
  · omega
  · simp; omega
  · intro v' w' hown hgrow _
    have hb0 : Below w0.heap.size w0 (w0.alloc (.cells #[R k] 46 (0, 0))) := (Below.refl _ _).alloc (Nat.le_refl _) _
    refine h v' w' (by rw [valsL_succ]; exact hown) ?_
    exact (hb0.mono hbase).grown hgrow (by simp; omega) (fun g hg => (hA.lt g hg).1)
end

set_option maxHeartbeats 1000000 in
theorem keptRow_any (a b : Option Addr) (n ca cb : Nat) (AR : Nat → Option Addr) (L CR : Nat → Nat) (T : Nat → Bool) (w : World) (hn : n ≤ 1000) (ha : Vals w a n fun i => .slice (AR i) (L i) (CR i)) (hb : Vals w b n fun i => .bool (T i)) :
    Calls Try.prog 34 #[.slice a n ca, .slice b n cb] w fun e w' => Below w.heap.size w w' ∧ ∃ v, e = .returned v ∧ w'.ownsRow w.heap.size 46 1 v (cnt T n) (valsL (cnt T n) fun r => .slice (AR (kidx T n r)) (L (kidx T n r)) (CR (kidx T n r))) := by
  have HA := ha.at
  have HB := hb.at
  clear ha hb
  go_enter Try.func34, Try.ntmps34
  go_wp2_with fail
  go_loopw [5, 10] (fun o i wr => ∃ k : Nat, k ≤ n ∧ i = .int .i64 k ∧ Below w.heap.size w wr ∧ wr.ownsRow w.heap.size 46 1 o (cnt T k) (valsL (cnt T k) fun r => .slice (AR (kidx T n r)) (L (kidx T n r)) (CR (kidx T n r)))) (fun _ i _ => (n : Nat) - (intOf i).toNat)
  case atStart => exact ⟨0, Nat.zero_le _, rfl, Below.refl _ _, World.ownsRow_nil _ _ _ _⟩
  case round =>
    obtain ⟨k, hk, rfl, hbk, hown⟩ := hrel
    by_cases hlt : k < n
    · obtain ⟨b1, o1, rfl, e1⟩ := HA.out wr hbk k hlt
      obtain ⟨b2, o2, rfl, e2⟩ := HB.out wr hbk k hlt
      have kn : (k : Int) < (n : Int) := by omega
      have hcl := cnt_le T k
      cases hT : T k with
      | true =>
        rw [hT] at e2
        have HV : Hid (Value.slice (AR k) (L k) (CR k) = .slice (AR (kidx T n (cnt T k))) (L (kidx T n (cnt T k))) (CR (kidx T n (cnt T k)))) := by show _ = _; rw [kidx_cnt T hlt hT]
        have HC : Hid (cnt T (k + 1) = cnt T k + 1) := cnt_succ_true hT
        generalize AR k = ak at e1 HV
        generalize L k = lk at e1 HV
        generalize CR k = ck at e1 HV
        generalize cnt T k = q at *
        clear hT
        go_wp2_with (at_builtin; refine push_val_at rfl _ _ 49 rfl Try.underlying49 _ w.heap.size _ q (fun r => .slice (AR (kidx T n r)) (L (kidx T n r)) (CR (kidx T n r))) hown rfl _ HV.out rfl _ rfl rfl (by omega) hbk.size ?_)
        intro v' w2 hown2 hb2
        go_wp2_with fail
        go_roundw
        case rel => exact ⟨k + 1, by omega, by go_num, hbk.trans hb2, by rw [HC.out]; exact hown2⟩
        case measure => simp [intOf]; omega
      | false =>
        rw [hT] at e2
        have HC : Hid (cnt T (k + 1) = cnt T k) := cnt_succ_false hT
        generalize AR k = ak at e1
        generalize L k = lk at e1
        generalize CR k = ck at e1
        clear hT
        go_wp2_with fail
        go_roundw
        case rel => exact ⟨k + 1, by omega, by go_num, hbk, by rw [HC.out]; exact hown⟩
        case measure => simp [intOf]; omega
    · have hkn : n = k := by omega
      subst hkn
      go_wp2_with fail
      go_ret
      exact ⟨hbk, _, rfl, hown⟩
end Go.Proofs.Ytdpcbiccbhlonaa
/- The rows by which a stripe's chunks take its data chunks: the program's own answer. -/
namespace Go.Proofs.Ytdpcbiccbhlonaa
open Go.RowKit Go.PlainAid
set_option linter.unusedVariables false

set_option maxHeartbeats 1000000 in
theorem stripeRows_any (k : Nat) (h1 : 1 ≤ k) (h8 : k ≤ 8) (w : World) :
    Calls Try.prog 35 #[.int .i64 (k : Int)] w fun e w' => Below w.heap.size w w' ∧ ∃ a c, e = .returned (.slice a (k + 2) c) ∧ MatAt w' a (k + 2) (fun _ => k) (stM k) := by
  have hid := identity_any (k : Int) w (by omega) (by omega)
  have hk2 : ¬ (1 ≤ (k : Int) ∧ (k : Int) ≤ 16) → False := fun h => h ⟨by omega, by omega⟩
  have hpr := fun x => parityRows_any k h1 h8 x
  obtain ⟨j0, hj, hy0, hy1, hy2⟩ := info_parts Try.info46
  go_enter Try.func35, Try.ntmps35
  go_wp2_with fail
  go_at_call 47
  refine hid.mono ?_
  rintro e w1 ⟨hb1, ⟨hno, -⟩ | ⟨n, g, G, en, -, -, rfl, hO⟩⟩
  · exact (hk2 hno).elim
  obtain rfl : n = k := by omega
  clear en hid hk2
  go_wp2_with fail
  go_at_call 22
  refine (hpr _).mono ?_
  rintro e w2 ⟨hb2, g2, G2, rfl, hO2⟩
  have hb02 := hb1.trans (hb2.mono hb1.size)
  have htop := owns_below hO.top hb2
  rw [filled_full] at htop
  have hc2 : ∀ j, j < 2 → w2.cell? ⟨g2, j, none⟩ = some (rowV n G2 j) := fun j hj => by
    have := hO2.top.cellAt j (by omega)
    rw [filled_full] at this
    rw [this]
    simp [hj]
  have hg1 := (owns_lt hO.top).2
  have HR : Hid (∀ r, r < n → g < G r ∧ w2.ownsRow w.heap.size 5 1 (.slice (some ⟨G r, 0, none⟩) n n) n (bytesL n (idM r))) := fun r hr => ⟨(hO.rows r hr).1, owns_below (hO.rows r hr).2 hb2⟩
  have HR2 : Hid (∀ r, r < 2 → g < G2 r ∧ w2.ownsRow w1.heap.size 5 1 (.slice (some ⟨G2 r, 0, none⟩) n n) n (bytesL n (powM r))) := fun r hr => ⟨by have := (owns_lt (hO2.rows r hr).2).1; omega, (hO2.rows r hr).2⟩
  clear hpr
  go_wp2_with (at_builtin; refine wpList_append_own _ rfl _ _ 50 rfl w.heap.size 46 j0 (.slice none 0 0) 1 24 Try.underlying50 hj hy0 hy1 hy2 rfl (by decide) _ n _ rfl htop ⟨g2, 0, none⟩ 2 2 [rowV n G2 0, rowV n G2 1] rfl rfl ?h1 ?h2 ?h3 ?h4 ?h5 ?_)
  case h1 =>
    intro j u hu
    match j, hu with
    | 0, hu => simp at hu; subst hu; exact hc2 0 (by decide)
    | 1, hu => simp at hu; subst hu; exact hc2 1 (by decide)
  case h2 => intro u hu; simp at hu; rcases hu with rfl | rfl <;> rfl
  case h3 => unfold maxLen; omega
  case h4 => omega
  case h5 => exact hb02.size
  intro v' w3 hown hgrow _
  have hb3 : Below w.heap.size w w3 := hb02.grown hgrow hb02.size (fun b hb => (htop.lt b hb).1)
  have hR3 : ∀ r, r < n → w3.ownsRow w.heap.size 5 1 (.slice (some ⟨G r, 0, none⟩) n n) n (bytesL n (idM r)) := fun r hr => (HR.out r hr).2.kept hgrow (.inr fun e => by have := (HR.out r hr).1; simp [Value.ownBlock] at e; omega)
  have hR4 : ∀ r, r < 2 → w3.ownsRow w1.heap.size 5 1 (.slice (some ⟨G2 r, 0, none⟩) n n) n (bytesL n (powM r)) := fun r hr => (HR2.out r hr).2.kept hgrow (.inr fun e => by have := (HR2.out r hr).1; simp [Value.ownBlock] at e; omega)
  have hM : ∃ a c, v' = .slice a (n + 2) c ∧ MatAt w3 a (n + 2) (fun _ => n) (stM n) := by
    obtain ⟨a, c, rfl, -, hv⟩ := owns_form hown (fun r => .slice (if r < n then some ⟨G r, 0, none⟩ else some ⟨G2 (r - n), 0, none⟩) n n) (fun i hi => by
      by_cases h : i < n
      · rw [List.getElem?_append_left (by simp; exact h)]
        simp [h, rowV]
      · rw [List.getElem?_append_right (by simp; omega)]
        simp only [List.length_map, List.length_range, if_neg h]
        have : i - n = 0 ∨ i - n = 1 := by omega
        rcases this with e | e <;> rw [e] <;> rfl)
    refine ⟨a, c, rfl, fun r => if r < n then some ⟨G r, 0, none⟩ else some ⟨G2 (r - n), 0, none⟩, fun _ => n, hv, fun r hr => ⟨by show n ≤ maxLen; unfold maxLen; omega, ?_⟩⟩
    by_cases h : r < n
    · simp only [if_pos h]
      refine .inr ⟨G r, 0, rfl, fun c hc => ?_⟩
      have hc' : c < n := hc
      rw [Nat.zero_add, (hR3 r h).cellAt c (by omega), bytesL_at _ _ _ hc']
      simp only [stM, if_pos h]
    · simp only [if_neg h]
      refine .inr ⟨G2 (r - n), 0, rfl, fun c hc => ?_⟩
      have hc' : c < n := hc
      rw [Nat.zero_add, (hR4 (r - n) (by omega)).cellAt c (by omega), bytesL_at _ _ _ hc']
      simp only [stM, if_neg h]
  obtain ⟨a, c, rfl, hM⟩ := hM
  clear hown hgrow htop
  go_wp2_with fail
  go_ret
  exact ⟨hb3, a, c, rfl, hM⟩
end Go.Proofs.Ytdpcbiccbhlonaa
/- A stripe made anew of as many chunks as it has data chunks: the program's own answer. -/
namespace Go.Proofs.Ytdpcbiccbhlonaa
open Go.RowKit Go.PlainAid
set_option linter.unusedVariables false

set_option maxHeartbeats 1000000 in
theorem apply_own (a l : Option Addr) (n k ca cl : Nat) (L M : Nat → Nat) (A Y : Mx) (w : World) (hn : n ≤ maxLen) (hA : MatAt w a n L A) (hcl : k ≤ cl) (hclm : cl ≤ 9223372036854775807) (hT : TxtAt w l k M Y)
    (gA : Gd n L) (hk : k = L 0) (hM : ∀ c, c < k → M c = M 0) (h5 : M 0 ≤ 65536) :
    Calls Try.prog 21 #[.slice a n ca, .slice l k cl] w fun e w' => Below w.heap.size w w' ∧ ∃ a', e = .returned (.tuple #[.slice a' n n, .int .i64 0]) ∧ w'.ownsRow w.heap.size 9 1 (.slice a' n n) n (strsL n fun r => strE (M 0) (mulM k A Y r)) := by
  obtain ⟨i0, hi, hz0, hz1, hz2⟩ := info_parts Try.info9
  have hg := good_any a n ca L A w hn hA true (good_yes gA)
  have hal := fun x (h : Below w.heap.size w x) => alike_any l k cl M Y x (by unfold maxLen; omega) (hT.below h) true ⟨fun _ => hM, fun _ => rfl⟩
  have hT0 : ∀ x, Below w.heap.size w x → Vals x l k (fun c => .string (strE (M 0) (Y c))) := fun x hx => by
    rcases (hT.below hx).1 with h0 | ⟨b, o, rfl, h⟩
    · exact .inl h0
    · exact .inr ⟨b, o, rfl, fun i hi => by show _ = some (Value.string (strE (M 0) (Y i))); rw [← hM i hi]; exact h i hi⟩
  obtain ⟨ba, oa, rfl, hR⟩ := rows_in hA gA
  rw [← hk] at hR
  have k1 : 1 ≤ k := by rw [hk]; exact gA.2.2.1
  have k16 : k ≤ 16 := by rw [hk]; exact gA.2.2.2.1
  have n1 : 1 ≤ n := gA.1
  have n16 : n ≤ 16 := gA.2.1
  obtain ⟨bl, ol, rfl, hcl0⟩ := hT.cell k1
  obtain ⟨m, hm⟩ : ∃ m, M 0 = m := ⟨_, rfl⟩
  rw [hm] at hT0 h5 ⊢
  have HC0 : Hid (∀ x, Below w.heap.size w x → ∃ s : ByteArray, s.size = m ∧ x.cell? ⟨bl, ol, none⟩ = some (.string s)) := fun x hx => by
    have h := hcl0 0 (by omega)
    rw [Nat.add_zero] at h
    exact ⟨_, by rw [strE_size, hm], (hx.cell (p := ⟨bl, ol, none⟩) (cell_lt h)).trans h⟩
  have HC : Hid (∀ x, Below w.heap.size w x → ∀ r, r < n → ∃ b' o' cr, x.cell? ⟨ba, oa + r, none⟩ = some (.slice (some ⟨b', o', none⟩) k cr) ∧ Calls Try.prog 39 #[.slice (some ⟨b', o', none⟩) k cr, .slice (some ⟨bl, ol, none⟩) k cl] x fun e w' => e = .returned (.string (rowTxt m (A r) Y k)) ∧ Below x.heap.size x w') := fun x hx r hr => by
    obtain ⟨b', o', cr, e1, f1⟩ := hR x hx r hr
    exact ⟨b', o', cr, e1, combine_any _ _ k cr cl m (A r) Y x k1 k16 hcl hclm h5 (.inr ⟨b', o', rfl, f1⟩) (hT0 x hx)⟩
  have n0 : (0 : Int) < (n : Int) := by omega
  have n0' : 0 < n := by omega
  have k0 : (0 : Int) < (k : Int) := by omega
  have k0' : 0 < k := by omega
  have t0 : ((k : Int) != (k : Int)) = false := by simp
  clear hR gA hk hM hm hcl0 hT0 hn hA hT
  go_enter Try.func21, Try.ntmps21
  go_wp2_with fail
  go_at_call 37
  refine hg.mono ?_
  rintro e w1 ⟨rfl, hb1⟩
  obtain ⟨b', o', cr, e1, -⟩ := HC.out w1 hb1 0 n0'
  rw [Nat.add_zero] at e1
  have hal1 := hal w1 hb1
  clear hal hg
  go_wp2_with fail
  go_at_call 38
  refine hal1.mono ?_
  rintro e w2 ⟨rfl, hb2⟩
  have hb02 := hb1.trans (hb2.mono hb1.size)
  obtain ⟨s0, hs0, e2⟩ := HC0.out w2 hb02
  have hs5 : ¬ (65536 : Int) < (m : Int) := by omega
  clear hal1 e1 hb1 hb2
  go_wp2_with (at_make; refine wpList_make_full _ rfl _ _ 22 rfl w2.heap.size 9 i0 (.string ⟨#[]⟩) 1 Try.underlying22 hi hz0 hz1 _ _ _ _ n rfl rfl ?c0 ?c1 ?c2 ?c3 ?c4 ?_)
  case c0 => rfl
  case c1 => rfl
  case c2 => rw [hz2]; omega
  case c3 => unfold maxLen; omega
  case c4 => exact Nat.le_refl _
  intro w3 hown hgrow
  have hbel : Below w2.heap.size w2 w3 := (Below.refl _ _).grown hgrow (Nat.le_refl _) (fun k h => by cases h)
  rw [toList_madeCells_one, ← filled_zero n (fun r => .string (rowTxt m (A r) Y k))] at hown
  clear e2 hs0
  go_wp2_with fail
  go_loopw [34] (fun i wr => ∃ r : Nat, r ≤ n ∧ i = .int .i64 r ∧ Below w2.heap.size w2 wr ∧ wr.ownsRow w2.heap.size 9 1 (.slice (some ⟨w2.heap.size, 0, none⟩) n n) n (filled n r (fun r => .string (rowTxt m (A r) Y k)) (.string ⟨#[]⟩))) (fun i _ => (n : Nat) - (intOf i).toNat)
  case atStart => exact ⟨0, Nat.zero_le _, rfl, hbel, hown⟩
  case round =>
    obtain ⟨r, hr, rfl, hbr, hor⟩ := hrel
    by_cases hlt : r < n
    · obtain ⟨b', o', cr, e1, hcomb⟩ := HC.out wr (hb02.trans (hbr.mono hb02.size)) r hlt
      go_wp2_with fail
      go_at_call 39
      refine hcomb.mono ?_
      rintro e w4 ⟨rfl, hb4⟩
      have ho4 := owns_below hor hb4
      obtain ⟨v0, hcell⟩ : ∃ v0, w4.cell? ⟨w2.heap.size, r, none⟩ = some v0 := by
        rw [ho4.cellAt r (by omega)]; exact ⟨_, List.getElem?_eq_getElem (by simp [filled]; exact hlt)⟩
      have hfr := ho4.frozenAt r
      have hst := (ho4.stored r (.string (rowTxt m (A r) Y k))).1
      rw [filled_set n r (fun r => .string (rowTxt m (A r) Y k)) _ hlt] at hst
      have hb5 := hbr.trans (hb4.mono hbr.size)
      have rn : (r : Int) < (n : Int) := by omega
      clear hcomb e1 ho4
      go_wp2_with fail
      go_roundw
      case rel => exact ⟨r + 1, by omega, by go_num, hb5.setCell (Nat.le_refl _) _, hst⟩
      case measure => simp [intOf]; omega
    · have hrn : r = n := by omega
      subst hrn
      go_wp2_with fail
      go_ret2
      rw [filled_full] at hor
      exact ⟨hb02.trans (hbr.mono hb02.size), _, rfl, owns_mono hor hb02.size⟩

set_option maxHeartbeats 1000000 in
theorem rebuild_any (a b : Option Addr) (k ca cb m : Nat) (T : Nat → Bool) (Y : Mx) (w : World) (k1 : 1 ≤ k) (k8 : k ≤ 8) (hca : k ≤ ca) (hcm : ca ≤ 9223372036854775807) (hm : m ≤ 65536) (hT : k ≤ cnt T (k + 2))
    (hA : TxtAt w a k (fun _ => m) (fun r => Y (kidx T (k + 2) r))) (hB : MatAt w b k (fun _ => k) (fun r => stM k (kidx T (k + 2) r))) :
    Calls Try.prog 33 #[.slice a k ca, .slice b k cb] w fun e w' => Below w.heap.size w w' ∧ ∃ v D, e = .returned v ∧ Fits k T m Y D ∧ w'.ownsRow w.heap.size 9 1 v (k + 2) (strsL (k + 2) fun i => strE m (St k D i)) := by
  have hinv := invert_any b k cb (fun _ => k) (fun r => stM k (kidx T (k + 2) r)) w (by unfold maxLen; omega) hB
  have gd : Gd k (fun _ => k) := ⟨k1, by omega, k1, by show k ≤ 16; omega, fun _ _ => rfl⟩
  have hap := fun x a' U (hx : Below w.heap.size w x) (hM : MatAt x a' k (fun _ => k) (rightM k U)) => apply_own a' a k k k ca (fun _ => k) (fun _ => m) (rightM k U) (fun r => Y (kidx T (k + 2) r)) x (by unfold maxLen; omega) hM hca hcm (hA.below hx) gd rfl (fun _ _ => rfl) hm
  have HX : Hid (∀ c U, c < k → Reach k (2 * k) (wideM k fun r => stM k (kidx T (k + 2) r)) U → (∀ r, r < k → ∀ j, j < c → U r j = idM r j) → (∀ r, c ≤ r → r < k → U r c = 0) → False) := fun c U hc hR hu hz => by
    obtain ⟨v, hv, hk⟩ := reach_kernel hR (by omega) hc hu hz
    have := kept_kernel (by omega) hT (v := v) (fun r hr => by
      rw [← hk r hr]
      exact S_congr fun j hj => by simp only [wideM, if_pos hj]) c hc
    rw [hv] at this
    exact E.one_ne this
  have HD : Hid (∀ U, Reach k (2 * k) (wideM k fun r => stM k (kidx T (k + 2) r)) U → (∀ r, r < k → ∀ j, j < k → U r j = idM r j) → Fits k T m Y (mulM k (rightM k U) fun r c => Y (kidx T (k + 2) r) c)) := fun U hR hu => kept_fits (reach_done hR hu).2
  have HG : Hid (Gd k (fun _ => k)) := gd
  clear hA hB gd hT
  go_enter Try.func33, Try.ntmps33
  go_wp2_with fail
  go_at_call 46
  refine hinv.mono ?_
  rintro e w1 ⟨hb1, ⟨hno, -⟩ | ⟨-, hno, -⟩ | ⟨-, -, -, c, U, hc, hR, hu, hz⟩ | ⟨-, -, a', U, rfl, hM, hR, hu⟩⟩
  · exact absurd HG.out hno
  · exact absurd rfl hno
  · exact (HX.out c U hc hR hu hz).elim
  have HF : Hid (Fits k T m Y (mulM k (rightM k U) fun r c => Y (kidx T (k + 2) r) c)) := HD.out U hR hu
  have hap1 := hap w1 a' U hb1 hM
  clear hinv hap hR hu hM
  generalize (mulM k (rightM k U) fun r c => Y (kidx T (k + 2) r) c) = D at hap1 HF
  go_wp2_with fail
  go_at_call 21
  refine hap1.mono ?_
  rintro e w2 ⟨hb2, a2, rfl, hown⟩
  have hb02 := hb1.trans (hb2.mono hb1.size)
  have hT2 : TxtAt w2 a2 k (fun _ => m) D := by
    obtain ⟨x, y, e, h1, h2, h3⟩ := txt_of_owns hown hm
    cases e; exact h3
  have henc := encode_any a2 k k (fun _ => m) D w2 (Nat.le_refl _) (by omega) hT2
  have hz : encE k (fun _ => m) = 0 := encE_zero.2 ⟨⟨k1, k8⟩, fun _ _ => rfl, hm⟩
  have hs0 : encS k (fun _ => m) D 0 = strE m (St k D k) := by
    unfold encS; rw [if_pos hz]
    exact strE_congr fun c hc => (St_parity k 0 D c).symm
  have hs1 : encS k (fun _ => m) D 1 = strE m (St k D (k + 1)) := by
    unfold encS; rw [if_pos hz]
    exact strE_congr fun c hc => (St_parity k 1 D c).symm
  rw [hz, hs0, hs1] at henc
  have hown' : w2.ownsRow w1.heap.size 9 1 (.slice a2 k k) k (strsL k fun i => strE m (St k D i)) := by
    have : (strsL k fun i => strE m (St k D i)) = strsL k fun r => strE m (D r) := strsL_congr fun i hi => strE_congr fun c hc => St_data hi D c
    rw [this]; exact hown
  have hown'' := owns_mono hown' hb1.size
  clear hap1 hown hown' hz hs0 hs1 hT2
  have HP : Hid (strE m (St k D k) = (fun i => strE m (St k D i)) k ∧ strE m (St k D (k + 1)) = (fun i => strE m (St k D i)) (k + 1)) := ⟨rfl, rfl⟩
  generalize strE m (St k D k) = p at henc HP
  generalize strE m (St k D (k + 1)) = q at henc HP
  go_wp2_with fail
  go_at_call 10
  refine henc.mono ?_
  rintro e w3 ⟨hb3, rfl⟩
  have hb03 := hb02.trans (hb3.mono hb02.size)
  have hown3 := owns_below hown'' hb3
  clear henc hown''
  go_wp2_with (at_builtin; refine push_strs_two rfl _ _ rfl _ w.heap.size _ k (fun i => strE m (St k D i)) hown3 rfl _ _ HP.out.1 HP.out.2 _ rfl rfl (by omega) hb03.size ?_)
  intro v' w4 hown4 hb4
  go_wp2_with fail
  go_ret
  exact ⟨hb03.trans hb4, _, D, rfl, HF.out, hown4⟩
end Go.Proofs.Ytdpcbiccbhlonaa
/- All chunks, of those that are there: the program's own answer. -/
namespace Go.Proofs.Ytdpcbiccbhlonaa
open Go.RowKit Go.PlainAid
set_option linter.unusedVariables false

theorem MatAt.cut {w : World} {a : Option Addr} {n k : Nat} {L : Nat → Nat} {X : Mx} (h : MatAt w a n L X) (hk : k ≤ n) : MatAt w a k L X := by
  obtain ⟨AR, CR, h1, h2⟩ := h
  refine ⟨AR, CR, ?_, fun r hr => h2 r (by omega)⟩
  rcases h1 with h0 | ⟨b, o, e, h⟩
  · exact .inl (by omega)
  · exact .inr ⟨b, o, e, fun i hi => h i (by omega)⟩
theorem keptMat_any (a b : Option Addr) (n ca cb k : Nat) (X : Mx) (T : Nat → Bool) (w : World) (hn : n ≤ 1000) (ha : MatAt w a n (fun _ => k) X) (hb : Vals w b n fun i => .bool (T i)) :
    Calls Try.prog 34 #[.slice a n ca, .slice b n cb] w fun e w' => Below w.heap.size w w' ∧ ∃ a' c', e = .returned (.slice a' (cnt T n) c') ∧ cnt T n ≤ c' ∧ c' ≤ 9223372036854775807 ∧ MatAt w' a' (cnt T n) (fun _ => k) (fun r => X (kidx T n r)) := by
  obtain ⟨AR, CR, h1, h2⟩ := ha
  refine (keptRow_any a b n ca cb AR (fun _ => k) CR T w hn h1 hb).mono ?_
  rintro e w' ⟨hbel, v, rfl, hown⟩
  obtain ⟨a', c', rfl, -, hv⟩ := owns_form hown _ (fun i hi => valsL_at _ _ i hi)
  refine ⟨hbel, a', c', rfl, ?_, ?_, fun r => AR (kidx T n r), fun r => CR (kidx T n r), hv, fun r hr => ?_⟩
  · rcases hown.2 with ⟨h0, h3⟩ | ⟨g, cap, cur, e, _, _, h3, _⟩
    · omega
    · cases e; exact h3
  · rcases hown.2 with ⟨h0, h3⟩ | ⟨g, cap, cur, e, _, _, _, h3, _⟩
    · injection h0 with _ _ h4; omega
    · cases e; unfold maxLen at h3; omega
  · have hs := kidx_spec T hr
    exact ⟨(h2 _ hs.1).1, (h2 _ hs.1).2.below hbel (Nat.le_refl _)⟩

/-- What Decode answers. -/
def DecPost (n nb : Nat) (T : Nat → Bool) (M : Nat → Nat) (Y : Mx) (v : Value) (er : Int) (w' : World) (base : Nat) : Prop :=
  (¬ (3 ≤ n ∧ n ≤ 10 ∧ nb = n) ∧ v = .slice none 0 0 ∧ er = 2) ∨
  ((3 ≤ n ∧ n ≤ 10 ∧ nb = n) ∧ cnt T n < n - 2 ∧ v = .slice none 0 0 ∧ er = 24) ∨
  ((3 ≤ n ∧ n ≤ 10 ∧ nb = n) ∧ n - 2 ≤ cnt T n ∧ meaE (cnt T n) (fun r => M (kidx T n r)) ≠ 0 ∧ v = .slice none 0 0 ∧ er = meaE (cnt T n) (fun r => M (kidx T n r))) ∨
  ((3 ≤ n ∧ n ≤ 10 ∧ nb = n) ∧ n - 2 ≤ cnt T n ∧ meaE (cnt T n) (fun r => M (kidx T n r)) = 0 ∧ er = 0 ∧ ∃ D, Fits (n - 2) T (M (kidx T n 0)) Y D ∧ w'.ownsRow base 9 1 v n (strsL n fun i => strE (M (kidx T n 0)) (St (n - 2) D i)))

set_option maxHeartbeats 2000000 in
theorem decode_ok (a b : Option Addr) (k ca cb : Nat) (M : Nat → Nat) (Y : Mx) (T : Nat → Bool) (w : World) (k1 : 1 ≤ k) (k8 : k ≤ 8) (hT : TxtAt w a (k + 2) M Y) (hB : Vals w b (k + 2) fun i => .bool (T i)) :
    Calls Try.prog 15 #[.slice a (k + 2) ca, .slice b (k + 2) cb] w fun e w' => Below w.heap.size w w' ∧ ∃ v er, e = .returned (.tuple #[v, .int .i64 er]) ∧ DecPost (k + 2) (k + 2) T M Y v er w' w.heap.size := by
  have hin := fun x => inData_any (k : Int) true ⟨fun _ => by omega, fun _ => rfl⟩ x
  have hks := keptStr_any a b (k + 2) ca cb (fun i => strE (M i) (Y i)) T w (by omega) hT.1 hB
  have hst := fun x => stripeRows_any k k1 k8 x
  have HB : Hid (∀ x, Below w.heap.size w x → Vals x b (k + 2) fun i => .bool (T i)) := fun x hx => hB.below hx (Nat.le_refl _)
  have hcl := cnt_le T (k + 2)
  have HS : Hid (∀ r, r < cnt T (k + 2) → M (kidx T (k + 2) r) ≤ 9223372036854775807) := fun r hr => hT.2 _ (kidx_spec T hr).1
  obtain ⟨q, hq⟩ : ∃ q, cnt T (k + 2) = q := ⟨_, rfl⟩
  have HQ : Hid (cnt T (k + 2) = q) := hq
  rw [hq] at hks hcl
  have kk : ((k + 2 : Nat) : Int) - 2 = (k : Int) := by omega
  have t0 : (((k + 2 : Nat) : Int) != ((k + 2 : Nat) : Int)) = false := by simp
  have t1 : (((k : Int) + 2) != ((k : Int) + 2)) = false := by simp
  have HN : Hid (3 ≤ k + 2 ∧ k + 2 ≤ 10) := ⟨by omega, by omega⟩
  clear hT hB hq
  by_cases hlost : q < k
  · have hl : (q : Int) < (k : Int) := by omega
    go_enter Try.func15, Try.ntmps15
    go_wp2_with fail
    go_at_call 20
    refine (hin _).mono ?_
    rintro e w' ⟨rfl, rfl⟩
    go_wp2_with fail
    go_at_call 32
    refine hks.mono ?_
    rintro e w1 ⟨hb1, v, rfl, hown⟩
    obtain ⟨a1, c1, rfl, -, -⟩ := owns_form hown _ (fun i hi => strsL_at _ _ i hi)
    clear hks hown
    go_wp2_with fail
    go_ret2
    exact ⟨hb1, _, _, rfl, .inr (.inl ⟨⟨HN.out.1, HN.out.2, rfl⟩, by rw [HQ.out]; omega, rfl, rfl⟩)⟩
  · have hl : ¬ (q : Int) < (k : Int) := by omega
    have hkq : (k : Int) ≤ (q : Int) := by omega
    go_enter Try.func15, Try.ntmps15
    go_wp2_with fail
    go_at_call 20
    refine (hin _).mono ?_
    rintro e w' ⟨rfl, rfl⟩
    go_wp2_with fail
    go_at_call 32
    refine hks.mono ?_
    rintro e w1 ⟨hb1, v, rfl, hown⟩
    have hT1 : ∃ a1 c1, v = .slice a1 q c1 ∧ q ≤ c1 ∧ c1 ≤ 9223372036854775807 ∧ TxtAt w1 a1 q (fun r => M (kidx T (k + 2) r)) (fun r => Y (kidx T (k + 2) r)) := by
      obtain ⟨a1, c1, rfl, -, hv⟩ := owns_form hown _ (fun i hi => strsL_at _ _ i hi)
      refine ⟨a1, c1, rfl, ?_, ?_, hv, fun r hr => HS.out r (by rw [HQ.out]; exact hr)⟩
      · rcases hown.2 with ⟨h0, h3⟩ | ⟨g, cap, cur, e, _, _, h3, _⟩
        · omega
        · cases e; exact h3
      · rcases hown.2 with ⟨h0, h3⟩ | ⟨g, cap, cur, e, _, _, _, h3, _⟩
        · injection h0 with _ _ h4; omega
        · cases e; unfold maxLen at h3; omega
    obtain ⟨a1, c1, rfl, hc1, hc2, hT1⟩ := hT1
    have hmea := measure_any a1 q c1 _ _ w1 (by omega) (by unfold maxLen; omega) hT1
    have HT1 : Hid (TxtAt w1 a1 q (fun r => M (kidx T (k + 2) r)) (fun r => Y (kidx T (k + 2) r))) := hT1
    obtain ⟨er, her⟩ : ∃ er, meaE q (fun r => M (kidx T (k + 2) r)) = er := ⟨_, rfl⟩
    have HER : Hid (meaE q (fun r => M (kidx T (k + 2) r)) = er) := her
    rw [her] at hmea
    clear hks hown hT1 her
    by_cases h0 : er = 0
    · subst h0
      obtain ⟨hall, h5⟩ := mea_zero.1 HER.out
      obtain ⟨m, hm⟩ : ∃ m, M (kidx T (k + 2) 0) = m := ⟨_, rfl⟩
      have HM : Hid (M (kidx T (k + 2) 0) = m) := hm
      have hTk : TxtAt w1 a1 k (fun _ => m) (fun r => Y (kidx T (k + 2) r)) := by
        refine ⟨?_, fun c hc => by show m ≤ _; have : M (kidx T (k + 2) 0) ≤ 65536 := h5; omega⟩
        rcases HT1.out.1 with h0 | ⟨x, y, e, h⟩
        · omega
        · refine .inr ⟨x, y, e, fun i hi => ?_⟩
          have e1 : M (kidx T (k + 2) i) = m := by rw [← hm]; exact hall i (by omega)
          show _ = some (Value.string (strE m (Y (kidx T (k + 2) i))))
          rw [← e1]
          exact h i (by omega)
      have HTK : Hid (∀ x, Below w1.heap.size w1 x → TxtAt x a1 k (fun _ => m) (fun r => Y (kidx T (k + 2) r))) := fun x hx => hTk.below hx
      have hm5 : m ≤ 65536 := by have : M (kidx T (k + 2) 0) ≤ 65536 := h5; omega
      have kc1 : (k : Int) ≤ (c1 : Int) := by omega
      have kc1' : k ≤ c1 := by omega
      have hqT : k ≤ cnt T (k + 2) := by rw [HQ.out]; omega
      have hreb := fun x a6 c6 (hx : Below w1.heap.size w1 x) hM => rebuild_any a1 a6 k c1 c6 m T Y x k1 k8 kc1' hc2 hm5 hqT (HTK.out x hx) hM
      have HREB : Hid (∀ (x : World) (a6 : Option Addr) (c6 : Nat), Below w1.heap.size w1 x → MatAt x a6 k (fun _ => k) (fun r => stM k (kidx T (k + 2) r)) → Calls Try.prog 33 #[.slice a1 k c1, .slice a6 k c6] x fun e w' => Below x.heap.size x w' ∧ ∃ v D, e = .returned v ∧ Fits k T m Y D ∧ w'.ownsRow x.heap.size 9 1 v (k + 2) (strsL (k + 2) fun i => strE m (St k D i))) := hreb
      clear hall h5 hTk hm hreb hqT
      go_wp2_with fail
      go_at_call 25
      refine hmea.mono ?_
      rintro e w2 ⟨hb2, rfl⟩
      have hd2 : Below w1.heap.size w1 w2.drew := hb2.drew
      clear hmea
      go_wp2_with fail
      go_region_held3 (fun _ => True) (first | trivial) (first | (go_at_call 35; refine (hst _).mono ?_; rintro e w3 ⟨hb3, a3, c3, rfl, hM3⟩; have hx3 : Below w1.heap.size w1 w3 := hd2.trans (hb3.mono hd2.size)) | (go_at_call 34; refine (keptMat_any _ _ (k + 2) _ _ k (stM k) T w3 (by omega) hM3 (HB.out w3 (hb1.trans (hx3.mono hb1.size)))).mono ?_; rw [HQ.out]; rintro e w4 ⟨hb4, a4, c4, rfl, hc41, hc42, hM4⟩; have hx4 : Below w1.heap.size w1 w4 := hx3.trans (hb4.mono hx3.size); have kc4 : (k : Int) ≤ (c4 : Int) := by omega) | (go_at_call 33; refine (HREB.out w4 _ _ hx4 (hM4.cut (by omega))).mono ?_; rintro e w5 ⟨hb5, v5, D, rfl, hF, hown5⟩))
      have hx5 : Below w1.heap.size w1 w5 := hx4.trans (hb5.mono hx4.size)
      have hb05 := hb1.trans (hx5.mono hb1.size)
      have hs4 := Nat.le_trans hb1.size hx4.size
      clear hb5 hb4 hb3 hM3 hM4
      go_wp2_with fail
      go_ret2
      refine ⟨hb05, _, _, rfl, .inr (.inr (.inr ⟨⟨HN.out.1, HN.out.2, rfl⟩, by rw [HQ.out]; omega, by rw [HQ.out]; exact HER.out, rfl, D, ?_, ?_⟩))⟩
      · rw [HM.out]; exact hF
      · rw [HM.out]; exact owns_mono hown5 hs4
    · have t2 : (er != 0) = true := by simpa using h0
      have HE0 : Hid (er ≠ 0) := h0
      clear h0
      go_wp2_with fail
      go_at_call 25
      refine hmea.mono ?_
      rintro e w2 ⟨hb2, rfl⟩
      have hb02 := hb1.trans (hb2.mono hb1.size)
      clear hmea
      go_wp2_with fail
      go_ret2
      exact ⟨hb02, _, _, rfl, .inr (.inr (.inl ⟨⟨HN.out.1, HN.out.2, rfl⟩, by rw [HQ.out]; omega, by rw [HQ.out, HER.out]; exact HE0.out, rfl, by rw [HQ.out, HER.out]⟩))⟩

set_option maxHeartbeats 1000000 in
theorem decode_any (a b : Option Addr) (n nb ca cb : Nat) (M : Nat → Nat) (Y : Mx) (T : Nat → Bool) (w : World) (hnm : n ≤ 9223372036854775807) (hbm : nb ≤ 9223372036854775807) (hT : TxtAt w a n M Y) (hB : Vals w b nb fun i => .bool (T i)) :
    Calls Try.prog 15 #[.slice a n ca, .slice b nb cb] w fun e w' => Below w.heap.size w w' ∧ ∃ v er, e = .returned (.tuple #[v, .int .i64 er]) ∧ DecPost n nb T M Y v er w' w.heap.size := by
  by_cases hn : 3 ≤ n ∧ n ≤ 10
  · by_cases hnb : nb = n
    · obtain ⟨k, rfl⟩ : ∃ k, n = k + 2 := ⟨n - 2, by omega⟩
      subst hnb
      exact decode_ok a b k ca cb M Y T w (by omega) (by omega) hT hB
    · have hin := fun x => inData_any ((n : Int) - 2) true ⟨fun _ => by omega, fun _ => rfl⟩ x
      have t0 : ((nb : Int) != (n : Int)) = true := by simp; omega
      have HN : Hid (¬ (3 ≤ n ∧ n ≤ 10 ∧ nb = n)) := fun h => hnb h.2.2
      clear hT hB hn hnb
      go_enter Try.func15, Try.ntmps15
      go_wp2_with fail
      go_at_call 20
      refine (hin _).mono ?_
      rintro e w' ⟨rfl, rfl⟩
      go_wp2_with fail
      go_ret2
      exact ⟨Below.refl _ _, _, _, rfl, .inl ⟨HN.out, rfl, rfl⟩⟩
  · have hin := fun x => inData_any ((n : Int) - 2) false ⟨fun h => Bool.noConfusion h, fun h => absurd (by omega) hn⟩ x
    have HN : Hid (¬ (3 ≤ n ∧ n ≤ 10 ∧ nb = n)) := fun h => hn ⟨h.1, h.2.1⟩
    clear hT hB hn
    go_enter Try.func15, Try.ntmps15
    go_wp2_with fail
    go_at_call 20
    refine (hin _).mono ?_
    rintro e w' ⟨rfl, rfl⟩
    go_wp2_with fail
    go_ret2
    exact ⟨Below.refl _ _, _, _, rfl, .inl ⟨HN.out, rfl, rfl⟩⟩
end Go.Proofs.Ytdpcbiccbhlonaa
/- A stripe's own chunks are told back; two lists of the same texts are equal. -/
namespace Go.Proofs.Ytdpcbiccbhlonaa
open Go.RowKit Go.PlainAid
set_option linter.unusedVariables false

theorem decode_back (a b : Option Addr) (k m ca cb : Nat) (M : Nat → Nat) (Y D : Mx) (T : Nat → Bool) (w : World) (k1 : 1 ≤ k) (k8 : k ≤ 8) (hm : m ≤ 65536) (hT : TxtAt w a (k + 2) M Y) (hB : Vals w b (k + 2) fun i => .bool (T i))
    (hcnt : k ≤ cnt T (k + 2)) (hfit : ∀ i, i < k + 2 → T i = true → M i = m ∧ ∀ c, c < m → Y i c = St k D i c) :
    Calls Try.prog 15 #[.slice a (k + 2) ca, .slice b (k + 2) cb] w fun e w' => Below w.heap.size w w' ∧ ∃ v, e = .returned (.tuple #[v, .int .i64 0]) ∧ w'.ownsRow w.heap.size 9 1 v (k + 2) (strsL (k + 2) fun i => strE m (St k D i)) := by
  have hM : ∀ r, r < cnt T (k + 2) → M (kidx T (k + 2) r) = m := fun r hr => by
    have hs := kidx_spec T hr
    exact (hfit _ hs.1 hs.2.1).1
  have hz : meaE (cnt T (k + 2)) (fun r => M (kidx T (k + 2) r)) = 0 := by
    refine mea_zero.2 ⟨fun c hc => ?_, ?_⟩
    · show M _ = M _; rw [hM c hc, hM 0 (by omega)]
    · show M _ ≤ _; rw [hM 0 (by omega)]; exact hm
  refine (decode_any a b (k + 2) (k + 2) ca cb M Y T w (by omega) (by omega) hT hB).mono ?_
  rintro e w' ⟨hb, v, er, rfl, ⟨hno, -, -⟩ | ⟨-, hno, -, -⟩ | ⟨-, -, hno, -, -⟩ | ⟨-, -, -, rfl, D', hF, hown⟩⟩
  · exact absurd ⟨by omega, by omega, rfl⟩ hno
  · omega
  · exact absurd hz hno
  · refine ⟨hb, v, rfl, ?_⟩
    rw [hM 0 (by omega), Nat.add_sub_cancel] at hown
    rw [hM 0 (by omega), Nat.add_sub_cancel] at hF
    have hF' : Fits k T m Y D := fun i hi hu c hc => by
      have hu' : T i = true ∧ cnt T i < k := by simpa [used] using hu
      exact ((hfit i hi hu'.1).2 c hc).symm
    have e : (strsL (k + 2) fun i => strE m (St k D i)) = strsL (k + 2) fun i => strE m (St k D' i) := strsL_congr fun i hi => strE_congr fun c hc => fits_all (by omega) hcnt hF' hF i c hc
    rw [e]
    exact hown
theorem decode_lost (a b : Option Addr) (k ca cb : Nat) (M : Nat → Nat) (Y : Mx) (T : Nat → Bool) (w : World) (k1 : 1 ≤ k) (k8 : k ≤ 8) (hT : TxtAt w a (k + 2) M Y) (hB : Vals w b (k + 2) fun i => .bool (T i)) (hcnt : cnt T (k + 2) < k) :
    Calls Try.prog 15 #[.slice a (k + 2) ca, .slice b (k + 2) cb] w fun e w' => Below w.heap.size w w' ∧ e = .returned (.tuple #[.slice none 0 0, .int .i64 24]) := by
  refine (decode_any a b (k + 2) (k + 2) ca cb M Y T w (by omega) (by omega) hT hB).mono ?_
  rintro e w' ⟨hb, v, er, rfl, ⟨hno, -, -⟩ | ⟨-, -, rfl, rfl⟩ | ⟨-, hno, -, -, -⟩ | ⟨-, hno, -, -, -⟩⟩
  · exact absurd ⟨by omega, by omega, rfl⟩ hno
  · exact ⟨hb, rfl⟩
  · omega
  · omega

set_option maxHeartbeats 1000000 in
theorem equal_yes (a b : Option Addr) (n ca cb : Nat) (F : Nat → ByteArray) (w : World) (hn : n ≤ 1000) (ha : Vals w a n fun i => .string (F i)) (hb : Vals w b n fun i => .string (F i)) :
    Calls Try.prog 17 #[.slice a n ca, .slice b n cb] w fun e w' => e = .returned (.bool true) ∧ Below w.heap.size w w' := by
  have HA := ha.at
  have HB := hb.at
  have t0 : ((n : Int) != (n : Int)) = false := by simp
  clear ha hb
  go_enter Try.func17, Try.ntmps17
  go_wp2_with fail
  go_loopw [13] (fun i wr => ∃ k : Nat, k ≤ n ∧ i = .int .i64 k ∧ Below w.heap.size w wr) (fun i _ => (n : Nat) - (intOf i).toNat)
  case atStart => exact ⟨0, Nat.zero_le _, rfl, Below.refl _ _⟩
  case round =>
    obtain ⟨k, hk, rfl, hbk⟩ := hrel
    by_cases hlt : k < n
    · obtain ⟨b1, o1, rfl, e1⟩ := HA.out wr hbk k hlt
      obtain ⟨b2, o2, rfl, e2⟩ := HB.out wr hbk k hlt
      have kn : (k : Int) < (n : Int) := by omega
      generalize F k = s at e1 e2
      go_wp2_with fail
      go_quiet (fail)
      go_wp2_with fail
      go_roundw
      case rel => exact ⟨k + 1, by omega, by go_num, below_drewN hbk _⟩
      case measure => simp [intOf]; omega
    · have hkn : n = k := by omega
      subst hkn
      go_wp2_with fail
      go_ret
      exact ⟨rfl, hbk⟩
end Go.Proofs.Ytdpcbiccbhlonaa
