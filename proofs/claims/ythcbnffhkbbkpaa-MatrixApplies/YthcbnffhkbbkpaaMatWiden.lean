/- A matrix with the unit matrix to its right, laid in memory of the call's own; the right halves of its rows. -/
import Derived.Test.YthcbnffhkbbkpaaMatSettle
namespace Go.Proofs.Ythcbnffhkbbkpaa
open Go.RowKit Go.PlainAid
set_option linter.unusedVariables false

def halfL (m n : Nat) (f : Nat → E) : List Value := filled m n (fun j => byteV (f j)) (.int .u8 0)
theorem halfL_length (m n : Nat) (f : Nat → E) : (halfL m n f).length = m := by simp [halfL, filled]
theorem run_copy_half (w : World) (g m n ca : Nat) (a : Addr) (f : Nat → E) (cur : Array Value) (ty : TypeId) (hg : w.heap[g]? = some (.cells cur 5 (0, 0))) (hc : cur.toList = List.replicate m (.int .u8 0)) (hn : n ≤ m)
    (hs : ∀ j v, (bytesL n f)[j]? = some v → w.cell? (a.add j) = some v) :
    (Builtin.copy_ #[48, 48] ty #[.slice (some ⟨g, 0, none⟩) m m, .slice (some a) n ca]).run Try.prog w = .ok (goInt n) (w.setRow g (halfL m n f).toArray) := by
  have hsz : cur.size = m := by rw [← Array.length_toList, hc]; simp
  have h := run_copy_row (P := Try.prog) w 48 48 ty 5 g 0 m m a n ca cur 5 (bytesL n f) Try.underlying48 (by obtain ⟨i0, hi, hz0, hz1, hz2⟩ := info_parts Try.info5; rw [hi]; simp [hz1]) hg
    (by rw [bytesL_length]; exact (Nat.min_eq_left hn).symm) hs (by rw [bytesL_length]; omega) (fun v hv => by
      obtain ⟨i, _, rfl⟩ := List.mem_map.1 hv
      rfl)
  rw [bytesL_length] at h
  rw [h]
  congr 3
  rw [hc]
  unfold halfL filled bytesL
  apply List.ext_getElem
  · simp; omega
  · intro i h1 h2
    simp only [List.getElem_map, List.getElem_range]
    by_cases e : i < n
    · rw [if_pos e]
      simp [e]
    · rw [if_neg e]
      simp only [List.take_zero, List.nil_append]
      rw [List.getElem_append_right (by simp; omega)]
      simp
theorem half_set (m n k : Nat) (A : Mx) (hm : m = 2 * n) (hk : k < n) : (halfL m n (A k)).set (n + k) (.int .u8 1) = bytesL m (wideM n A k) := by
  unfold halfL filled bytesL
  apply List.ext_getElem
  · simp
  · intro i h1 h2
    rw [List.getElem_set]
    simp only [List.getElem_map, List.getElem_range, wideM]
    by_cases e : n + k = i
    · subst e
      rw [if_pos rfl, if_neg (by omega)]
      simp [idM, byteV, E.one_v]
    · rw [if_neg e]
      by_cases e' : i < n
      · rw [if_pos e', if_pos e']
      · rw [if_neg e', if_neg e']
        have : ¬ k = i - n := by omega
        simp [idM, this, byteV, E.zero_v]
theorem owns_setRow_list {w : World} {base g m : Nat} {xs ys : List Value} (h : w.ownsRow base 5 1 (.slice (some ⟨g, 0, none⟩) m m) m xs) (hl : ys.length = m) : (w.setRow g ys.toArray).ownsRow base 5 1 (.slice (some ⟨g, 0, none⟩) m m) m ys := by
  obtain ⟨cur, h1, h2, h3, h4, h5⟩ := owns_heap h
  exact owns_of (setRow_heap w g _ _ 5 _ h1) h4 hl h5

set_option maxHeartbeats 1000000 in
theorem widen_any (a : Option Addr) (n ca m : Nat) (L : Nat → Nat) (A : Mx) (w : World) (h1 : 1 ≤ n) (h2 : n ≤ 16) (hm : m = 2 * n) (hA : MatAt w a n L A) (hL : ∀ r, r < n → L r = n) :
    Calls Try.prog 29 #[.slice a n ca] w fun e w' => ∃ g G, e = .returned (.slice (some ⟨g, 0, none⟩) n n) ∧ OwnM w' w.heap.size g n m n G (wideM n A) ∧ Below w.heap.size w w' := by
  obtain ⟨i0, hi, hz0, hz1, hz2⟩ := info_parts Try.info5
  obtain ⟨j0, hj, hy0, hy1, hy2⟩ := info_parts Try.info48
  have hm1 : m ≤ 32 := by omega
  have hm2 : (2 : Int) * (n : Int) = (m : Int) := by omega
  have HM : Hid (m = 2 * n) := hm
  clear hm
  obtain ⟨AR, CR, hA⟩ := hA
  obtain ⟨ba, oa, _, _, rfl, _, _, _⟩ := hA.cell 0 0 (by omega) (by rw [hL 0 (by omega)]; omega)
  have HA : Hid (∀ k, k < n → ∃ b' o' cr, w.cell? ⟨ba, oa + k, none⟩ = some (.slice (some ⟨b', o', none⟩) n cr) ∧ ∀ c, c < n → w.cell? ⟨b', o' + c, none⟩ = some (byteV (A k c))) := fun k hk => by
    obtain ⟨b, o, b', o', e1, e2, e3, _⟩ := hA.cell k 0 hk (by rw [hL k hk]; omega)
    cases e1
    rw [hL k hk] at e3
    refine ⟨b', o', _, e3, fun c hc => ?_⟩
    obtain ⟨_, _, b2, o2, _, f2, _, f4⟩ := hA.cell k c hk (by rw [hL k hk]; exact hc)
    rw [e2] at f2
    cases f2
    exact f4
  clear hA hL
  go_enter Try.func29, Try.ntmps29
  go_wp2_with (at_make; refine wpList_make_full _ rfl _ _ 27 rfl w.heap.size 48 j0 (.slice none 0 0) 1 Try.underlying27 hj hy0 hy1 _ _ _ _ n rfl rfl ?c0 ?c1 ?c2 ?c3 ?c4 ?_)
  case c0 => rfl
  case c1 => rfl
  case c2 => rw [hy2]; omega
  case c3 => unfold maxLen; omega
  case c4 => exact Nat.le_refl _
  intro w1 hown hgrow
  have hbel : Below w.heap.size w w1 := (Below.refl _ _).grown hgrow (Nat.le_refl _) (fun k h => by cases h)
  rw [toList_madeCells_one, ← filled_zero n (rowV m fun _ => 0)] at hown
  go_wp2_with fail
  go_loopw [12] (fun i wr => ∃ k : Nat, k ≤ n ∧ i = .int .i64 k ∧ Below w.heap.size w wr ∧ ∃ G, OwnM wr w.heap.size w.heap.size n m k G (wideM n A)) (fun i _ => (n : Nat) - (intOf i).toNat)
  case atStart => exact ⟨0, Nat.zero_le _, rfl, hbel, fun _ => 0, ⟨hown, fun r hr => by omega, fun i j _ _ => by omega⟩⟩
  case round =>
    obtain ⟨k, hk, rfl, hbel', G, hO⟩ := hrel
    by_cases hlt : k < n
    · obtain ⟨v0, hcell⟩ : ∃ v0, wr.cell? ⟨w.heap.size, k, none⟩ = some v0 := by
        rw [hO.top.cellAt k (by omega)]; exact ⟨_, List.getElem?_eq_getElem (by simp [filled]; exact hlt)⟩
      have hfr := hO.top.frozenAt k
      obtain ⟨g', hg'⟩ : ∃ g', wr.heap.size = g' := ⟨_, rfl⟩
      have hbl : w.heap.size < g' := by rw [← hg']; exact (owns_lt hO.top).2
      go_wp2_with (at_make; refine wpList_make_full _ rfl _ _ 48 rfl w.heap.size 5 i0 (.int .u8 0) 1 Try.underlying48 hi hz0 hz1 _ _ _ _ m rfl rfl ?c0 ?c1 ?c2 ?c3 ?c4 ?_)
      case c0 => rfl
      case c1 => rfl
      case c2 => rw [hz2]; omega
      case c3 => unfold maxLen; omega
      case c4 => exact hbel'.size
      intro w2 hown2 hgrow2
      have hbel2 : Below g' wr w2 := by rw [← hg']; exact (Below.refl _ _).grown hgrow2 (Nat.le_refl _) (fun k h => by cases h)
      rw [toList_madeCells_one, ← filled_zero m (fun c => byteV (A k c))] at hown2
      have htop2 := owns_at hO.top hbel2 hbl
      have hc2 : w2.cell? ⟨w.heap.size, k, none⟩ = some v0 := (hbel2.cell (p := ⟨w.heap.size, k, none⟩) hbl).trans hcell
      have hf2 := htop2.frozenAt k
      have hst2 := htop2.stored k (.slice (some ⟨g', 0, none⟩) m m)
      go_wp2_with fail
      obtain ⟨w3, hw3⟩ : ∃ w3, w3 = w2.setCell ⟨w.heap.size, k, none⟩ (.slice (some ⟨g', 0, none⟩) m m) := ⟨_, rfl⟩
      rw [← hw3] at hst2 ⊢
      have hbel3 : Below w.heap.size w w3 := by rw [hw3]; exact (hbel'.trans (hbel2.mono (by rw [← hg']; exact hbel'.size))).setCell (Nat.le_refl _) _
      have hown3 : w3.ownsRow w.heap.size 5 1 (.slice (some ⟨g', 0, none⟩) m m) m (List.replicate m (.int .u8 0)) := by
        rw [hw3]
        rw [filled_zero] at hown2
        exact ownsRow_setCell_other hown2 (by simp [Value.ownBlock]; omega) _
      have hbel23 : ∀ r, r < k → w3.ownsRow w.heap.size 5 1 (.slice (some ⟨G r, 0, none⟩) m m) m (bytesL m (wideM n A r)) := fun r hr => by
        have h0 := hO.rows r hr
        rw [hw3]; exact ownsRow_setCell_other (owns_at h0.2 hbel2 (by rw [← hg']; exact (owns_lt h0.2).2)) (by simp [Value.ownBlock]; omega) _
      have hc3 := hst2.1.cellAt k (by omega)
      rw [List.getElem?_set_self (by simp [filled]; exact hlt)] at hc3
      obtain ⟨b', o', cr, e3, hsrc⟩ := HA.out k hlt
      have ha3 : w3.cell? ⟨ba, oa + k, none⟩ = some (.slice (some ⟨b', o', none⟩) n cr) := (hbel3.cell (p := ⟨ba, oa + k, none⟩) (cell_lt e3)).trans e3
      obtain ⟨cur, u1, u2, u3, u4, u5⟩ := owns_heap hown3
      have hcp : ∀ ty, (Builtin.copy_ #[48, 48] ty #[.slice (some ⟨g', 0, none⟩) m m, .slice (some ⟨b', o', none⟩) n cr]).run Try.prog w3.drew = .ok (goInt n) (w3.drew.setRow g' (halfL m n (A k)).toArray) := fun ty =>
        run_copy_half w3.drew g' m n cr ⟨b', o', none⟩ (A k) cur ty u1 u3 (by have := HM.out; omega) (fun j v hv => by
          have hj : j < n := by
            rcases Nat.lt_or_ge j n with h | h
            · exact h
            · rw [List.getElem?_eq_none (by rw [bytesL_length]; exact h)] at hv; cases hv
          rw [bytesL_at n _ j hj] at hv
          cases hv
          have q := hsrc j hj
          rw [show ((⟨b', o', none⟩ : Addr).add j) = ⟨b', o' + j, none⟩ from by simp [Addr.add]]
          exact (hbel3.cell (p := ⟨b', o' + j, none⟩) (cell_lt q)).trans q)
      have hbal : ba < w.heap.size := cell_lt e3
      have hk1 : (w3.drew.setRow g' (halfL m n (A k)).toArray).cell? ⟨w.heap.size, k, none⟩ = some (.slice (some ⟨g', 0, none⟩) m m) := by
        rw [cell_setRow_other _ _ _ _ (by simp; omega)]; exact hc3
      have hk2 : (w3.drew.setRow g' (halfL m n (A k)).toArray).cell? ⟨ba, oa + k, none⟩ = some (.slice (some ⟨b', o', none⟩) n cr) := by
        rw [cell_setRow_other _ _ _ _ (by simp; omega)]; exact ha3
      have hown4 : (w3.drew.setRow g' (halfL m n (A k)).toArray).ownsRow w.heap.size 5 1 (.slice (some ⟨g', 0, none⟩) m m) m (halfL m n (A k)) :=
        owns_setRow_list (w := w3.drew) hown3.drew (halfL_length _ _ _)
      have hb34 : Below g' w3 (w3.drew.setRow g' (halfL m n (A k)).toArray) := below_setRow (Below.refl _ _).drew (Nat.le_refl _) _
      generalize w3.drew.setRow g' (halfL m n (A k)).toArray = w4 at hcp hk1 hk2 hown4 hb34
      clear hw3 hc2 hf2 htop2 hown2 hown hcell hfr u1 u2 u3 u5 hown3 hsrc e3
      have p1 : (n : Int) + (k : Int) = ((n + k : Nat) : Int) := by omega
      have hnk : n + k < m := by have := HM.out; omega
      have hnk' : ((n + k : Nat) : Int) < (m : Int) := by omega
      obtain ⟨q, hq⟩ : ∃ q, n + k = q := ⟨_, rfl⟩
      rw [hq] at p1 hnk hnk'
      obtain ⟨v1, hv1⟩ : ∃ v1, w4.cell? ⟨g', q, none⟩ = some v1 := by
        rw [hown4.cellAt q (by omega)]; exact ⟨_, List.getElem?_eq_getElem (by rw [halfL_length]; exact hnk)⟩
      have hf4 := hown4.frozenAt q
      have hst4 := (hown4.stored q (.int .u8 1)).1
      rw [← hq, half_set m n k A HM.out hlt] at hst4
      rw [hq] at hst4
      have HQ : Hid (n + k = q) := hq
      clear hq
      go_wp2_with fail
      go_region_held3 (fun x => x.cell? ⟨w.heap.size, k, none⟩ = some (.slice (some ⟨g', 0, none⟩) m m) ∧ x.cell? ⟨ba, oa + k, none⟩ = some (.slice (some ⟨b', o', none⟩) n cr)) (first | exact ⟨hc3, ha3⟩ | exact ⟨hk1, hk2⟩) (fail)
      go_wp2_with fail
      go_roundw
      case rel =>
        have hb35 : Below g' w3 (w4.setCell ⟨g', q, none⟩ (.int .u8 1)) := hb34.setCell (Nat.le_refl _) _
        refine ⟨k + 1, by omega, by go_num, hbel3.trans (hb35.mono (by omega)), fun r => if r < k then G r else g', ?_, ?_, ?_⟩
        · have h5 : filled n (k + 1) (rowV m fun r => if r < k then G r else g') (.slice none 0 0) = (filled n k (rowV m G) (.slice none 0 0)).set k (.slice (some ⟨g', 0, none⟩) m m) := by
            have h6 : filled n k (rowV m G) (.slice none 0 0) = filled n k (rowV m fun r => if r < k then G r else g') (.slice none 0 0) := by
              unfold filled
              refine List.map_congr_left fun i _ => ?_
              by_cases e : i < k
              · simp [e, rowV]
              · simp [e]
            rw [h6, ← filled_set n k _ _ hlt]
            simp [rowV]
          rw [h5]
          exact owns_at hst2.1 hb35 hbl
        · intro r hr
          by_cases e : r < k
          · simp only [if_pos e]
            have h0 := hO.rows r e
            exact ⟨h0.1, owns_at (hbel23 r e) hb35 (by rw [← hg']; exact (owns_lt h0.2).2)⟩
          · obtain rfl : r = k := by omega
            simp only [if_neg e]
            exact ⟨hbl, hst4⟩
        · intro i l h5 h6
          by_cases e : l < k
          · simp only [if_pos e, if_pos (show i < k by omega)]
            exact hO.up i l h5 e
          · simp only [if_neg e, if_pos (show i < k by omega)]
            rw [← hg']
            exact (owns_lt (hO.rows i (by omega)).2).2
      case measure => simp [intOf]; omega
    · have hkn : k = n := by omega
      subst hkn
      go_wp2_with fail
      go_ret
      exact ⟨_, G, rfl, hO, hbel'⟩
end Go.Proofs.Ythcbnffhkbbkpaa
