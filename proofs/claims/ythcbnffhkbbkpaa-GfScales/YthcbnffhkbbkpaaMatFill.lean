/- The matrix whose elements a function tells. -/
import Derived.Test.YthcbnffhkbbkpaaMatGood
import Derived.Test.YthcbnffhkbbkpaaXor
import Derived.Deep.RegionWith
namespace Go.Proofs.Ythcbnffhkbbkpaa
open Go.RowKit
set_option linter.unusedVariables false

theorem owns_at {w w' : World} {base : Nat} {e : TypeId} {size g n cap B : Nat} {xs : List Value} (h : w.ownsRow base e size (.slice (some ⟨g, 0, none⟩) n cap) n xs) (hb : Below B w w') (hg : g < B) :
    w'.ownsRow base e size (.slice (some ⟨g, 0, none⟩) n cap) n xs := by
  refine ⟨h.1, ?_⟩
  rcases h.2 with ⟨hn, _⟩ | ⟨g', cap', cur, hv, hg0, hg', rest⟩
  · cases hn
  · cases hv
    exact .inr ⟨_, _, cur, rfl, hg0, (hb.block _ hg).trans hg', rest⟩
theorem owns_lt {w : World} {base : Nat} {e : TypeId} {size g n cap : Nat} {xs : List Value} (h : w.ownsRow base e size (.slice (some ⟨g, 0, none⟩) n cap) n xs) : base ≤ g ∧ g < w.heap.size := h.lt g rfl

def bytesL (m : Nat) (f : Nat → E) : List Value := (List.range m).map fun c => byteV (f c)
def rowV (m : Nat) (G : Nat → Nat) (r : Nat) : Value := .slice (some ⟨G r, 0, none⟩) m m
/-- A matrix of the call's own: of n rows the first k are laid. -/
structure OwnM (w : World) (base g n m k : Nat) (G : Nat → Nat) (X : Mx) : Prop where
  top : w.ownsRow base 48 1 (.slice (some ⟨g, 0, none⟩) n n) n (filled n k (rowV m G) (.slice none 0 0))
  rows : ∀ r, r < k → g < G r ∧ w.ownsRow base 5 1 (.slice (some ⟨G r, 0, none⟩) m m) m (bytesL m (X r))
  up : ∀ i j, i < j → j < k → G i < G j

theorem OwnM.mat {w : World} {base g n m : Nat} {G : Nat → Nat} {X : Mx} (h : OwnM w base g n m n G X) (hm : m ≤ maxLen) : MatAt w (some ⟨g, 0, none⟩) n (fun _ => m) X := by
  refine ⟨fun r => some ⟨G r, 0, none⟩, fun _ => m, .inr ⟨g, 0, rfl, fun r hr => ?_⟩, fun r hr => ⟨hm, .inr ⟨G r, 0, rfl, fun c hc => ?_⟩⟩⟩
  · have := h.top.cellAt r (by omega)
    rw [filled_full] at this
    rw [Nat.zero_add, this]
    simp [hr, rowV]
  · have hc' : c < m := hc
    have := (h.rows r hr).2.cellAt c (by omega)
    rw [Nat.zero_add, this]
    simp [hc', bytesL]

theorem Try.info48 : (Try.prog.info? 48).map (fun i => (i.zero, i.size, i.bytes)) = some (some (.slice none 0 0), 1, 24) := by kernel_rfl

set_option maxHeartbeats 1000000 in
theorem fill_any (K : Nat) (hK : K = 41 ∨ K = 43 ∨ K = 42) (cap : Array Value) (n m : Nat) (h1 : 1 ≤ n) (h2 : n ≤ 16) (h3 : 1 ≤ m) (h4 : m ≤ 16) (X : Mx) (w : World)
    (hcl : ∀ r, r < n → ∀ c, c < m → ∀ w1, Below w.heap.size w w1 → Calls Try.prog K (#[.int .i64 (r : Int), .int .i64 (c : Int)] ++ cap) w1 fun e w' => e = .returned (byteV (X r c)) ∧ w' = w1) :
    Calls Try.prog 40 #[.int .i64 (n : Int), .int .i64 (m : Int), .func (.func K) #[] cap] w fun e w' => ∃ g G, e = .returned (.slice (some ⟨g, 0, none⟩) n n) ∧ OwnM w' w.heap.size g n m n G X ∧ Below w.heap.size w w' := by
  obtain ⟨i0, hi, hz0, hz1, hz2⟩ := info_parts Try.info5
  obtain ⟨j0, hj, hy0, hy1, hy2⟩ := info_parts Try.info48
  have HCL : Hid (∀ r, r < n → ∀ c, c < m → ∀ w1, Below w.heap.size w w1 → Calls Try.prog K (#[.int .i64 (r : Int), .int .i64 (c : Int)] ++ cap) w1 fun e w' => e = .returned (byteV (X r c)) ∧ w' = w1) := hcl
  clear hcl
  rcases hK with rfl | rfl | rfl
  · go_enter Try.func40, Try.ntmps40
    go_wp2_with (at_make; refine wpList_make_full _ rfl _ _ 27 rfl w.heap.size 48 j0 (.slice none 0 0) 1 Try.underlying27 hj hy0 hy1 _ _ _ _ n rfl rfl ?c0 ?c1 ?c2 ?c3 ?c4 ?_)
    case c0 => rfl
    case c1 => rfl
    case c2 => rw [hy2]; omega
    case c3 => unfold maxLen; omega
    case c4 => exact Nat.le_refl _
    intro w1 hown hgrow
    have hbel : Below w.heap.size w w1 := (Below.refl _ _).grown hgrow (Nat.le_refl _) (fun k h => by cases h)
    rw [toList_madeCells_one, ← filled_zero n (rowV m fun _ => 0)] at hown
    go_wp2_with fail
    go_loopw [14] (fun i wr => ∃ k : Nat, k ≤ n ∧ i = .int .i64 k ∧ Below w.heap.size w wr ∧ ∃ G, OwnM wr w.heap.size w.heap.size n m k G X) (fun i _ => (n : Nat) - (intOf i).toNat)
    case atStart => exact ⟨0, Nat.zero_le _, rfl, hbel, fun _ => 0, ⟨hown, fun r hr => by omega, fun i j _ _ => by omega⟩⟩
    case round =>
      obtain ⟨k, hk, rfl, hbel', G, hO⟩ := hrel
      by_cases hlt : k < n
      · obtain ⟨v0, hcell⟩ : ∃ v0, wr.cell? ⟨w.heap.size, k, none⟩ = some v0 := by
          rw [hO.top.cellAt k (by omega)]; exact ⟨_, List.getElem?_eq_getElem (by simp [filled]; exact hlt)⟩
        have hfr := hO.top.frozenAt k
        obtain ⟨g', hg'⟩ : ∃ g', wr.heap.size = g' := ⟨_, rfl⟩
        have hbl : w.heap.size < g' := by rw [← hg']; exact (owns_lt hO.top).2
        go_wp2_with (at_make; refine wpList_make_full _ rfl _ _ 48 rfl w.heap.size 5 i0 (.int .u8 0) 1 Try.underlying48 hi hz0 hz1 _ _ _ _ m rfl rfl ?c0 ?c1 ?c2 ?c3 ?c4 ?_)
        case c0 => rfl
        case c1 => rfl
        case c2 => rw [hz2]; omega
        case c3 => unfold maxLen; omega
        case c4 => exact hbel'.size
        intro w2 hown2 hgrow2
        have hbel2 : Below g' wr w2 := by rw [← hg']; exact (Below.refl _ _).grown hgrow2 (Nat.le_refl _) (fun k h => by cases h)
        rw [toList_madeCells_one, ← filled_zero m (fun c => byteV (X k c))] at hown2
        have htop2 := owns_at hO.top hbel2 hbl
        have hc2 : w2.cell? ⟨w.heap.size, k, none⟩ = some v0 := (hbel2.cell (p := ⟨w.heap.size, k, none⟩) hbl).trans hcell
        have hf2 := htop2.frozenAt k
        have hst2 := htop2.stored k (.slice (some ⟨g', 0, none⟩) m m)
        go_wp2_with fail
        obtain ⟨w3, hw3⟩ : ∃ w3, w3 = w2.setCell ⟨w.heap.size, k, none⟩ (.slice (some ⟨g', 0, none⟩) m m) := ⟨_, rfl⟩
        rw [← hw3] at hst2 ⊢
        have hbel3 : Below w.heap.size w w3 := by rw [hw3]; exact (hbel'.trans (hbel2.mono (by rw [← hg']; exact hbel'.size))).setCell (Nat.le_refl _) _
        have hown3 : w3.ownsRow w.heap.size 5 1 (.slice (some ⟨g', 0, none⟩) m m) m (filled m 0 (fun c => byteV (X k c)) (.int .u8 0)) := by
          rw [hw3]; exact ownsRow_setCell_other hown2 (by simp [Value.ownBlock]; omega) _
        have hbel23 : ∀ r, r < k → w3.ownsRow w.heap.size 5 1 (.slice (some ⟨G r, 0, none⟩) m m) m (bytesL m (X r)) := fun r hr => by
          have h0 := hO.rows r hr
          rw [hw3]; exact ownsRow_setCell_other (owns_at h0.2 hbel2 (by rw [← hg']; exact (owns_lt h0.2).2)) (by simp [Value.ownBlock]; omega) _
        have hc3 := hst2.1.cellAt k (by omega)
        rw [List.getElem?_set_self (by simp [filled]; exact hlt)] at hc3
        clear hw3 hc2 hf2 htop2 hown2 hown hcell hfr
        go_loopw [27] (fun i wi => ∃ j : Nat, j ≤ m ∧ i = .int .i64 j ∧ Below g' w3 wi ∧ wi.ownsRow w.heap.size 5 1 (.slice (some ⟨g', 0, none⟩) m m) m (filled m j (fun c => byteV (X k c)) (.int .u8 0))) (fun i _ => (m : Nat) - (intOf i).toNat)
        case atStart => exact ⟨0, Nat.zero_le _, rfl, Below.refl _ _, hown3⟩
        case round =>
          obtain ⟨j, hj, rfl, hbi, hoi⟩ := hrel
          have hci : wr.cell? ⟨w.heap.size, k, none⟩ = some (.slice (some ⟨g', 0, none⟩) m m) := (hbi.cell (p := ⟨w.heap.size, k, none⟩) hbl).trans hc3
          by_cases hjm : j < m
          · obtain ⟨v1, hv1⟩ : ∃ v1, wr.cell? ⟨g', j, none⟩ = some v1 := by
              rw [hoi.cellAt j (by omega)]; exact ⟨_, List.getElem?_eq_getElem (by simp [filled]; exact hjm)⟩
            have hfi := hoi.frozenAt j
            have hsi := hoi.stored j (byteV (X k j))
            rw [filled_set m j (fun c => byteV (X k c)) _ hjm] at hsi
            have hcall := fun w1 h => HCL.out k hlt j hjm w1 h
            unfold byteV at hcall
            have hbw : Below w.heap.size w wr := hbel3.trans (hbi.mono (by omega))
            go_wp2_with fail
            go_region_with (go_at_call 41; refine (hcall _ (by first | exact hbw | exact hbw.drew)).mono ?_; rintro e w' ⟨rfl, rfl⟩)
            all_goals
              go_wp2_with fail
              go_roundw
              case rel => exact ⟨j + 1, by omega, by go_num, (hbi.setCell (Nat.le_refl _) _).drew, hsi.1.drew⟩
              case measure => simp [intOf]; omega
          · have hjm' : j = m := by omega
            subst hjm'
            rw [filled_full] at hoi
            go_wp2_with fail
            go_roundw
            case rel =>
              refine ⟨k + 1, by omega, by go_num, hbel3.trans (hbi.mono (by omega)), fun r => if r < k then G r else g', ?_, ?_, ?_⟩
              · have h5 : filled n (k + 1) (rowV j fun r => if r < k then G r else g') (.slice none 0 0) = (filled n k (rowV j G) (.slice none 0 0)).set k (.slice (some ⟨g', 0, none⟩) j j) := by
                  have h6 : filled n k (rowV j G) (.slice none 0 0) = filled n k (rowV j fun r => if r < k then G r else g') (.slice none 0 0) := by
                    unfold filled
                    refine List.map_congr_left fun i _ => ?_
                    by_cases e : i < k
                    · simp [e, rowV]
                    · simp [e]
                  rw [h6, ← filled_set n k _ _ hlt]
                  simp [rowV]
                rw [h5]
                exact owns_at hst2.1 hbi hbl
              · intro r hr
                by_cases e : r < k
                · simp only [if_pos e]
                  have h0 := hO.rows r e
                  exact ⟨h0.1, owns_at (hbel23 r e) hbi (by rw [← hg']; exact (owns_lt h0.2).2)⟩
                · obtain rfl : r = k := by omega
                  simp only [if_neg e]
                  exact ⟨hbl, hoi⟩
              · intro i l h5 h6
                by_cases e : l < k
                · simp only [if_pos e, if_pos (show i < k by omega)]
                  exact hO.up i l h5 e
                · simp only [if_neg e, if_pos (show i < k by omega)]
                  rw [← hg']
                  exact (owns_lt (hO.rows i (by omega)).2).2
            case measure => simp [intOf]; omega
      · have hkn : k = n := by omega
        subst hkn
        go_wp2_with fail
        go_ret
        exact ⟨_, G, rfl, hO, hbel'⟩
  · go_enter Try.func40, Try.ntmps40
    go_wp2_with (at_make; refine wpList_make_full _ rfl _ _ 27 rfl w.heap.size 48 j0 (.slice none 0 0) 1 Try.underlying27 hj hy0 hy1 _ _ _ _ n rfl rfl ?c0 ?c1 ?c2 ?c3 ?c4 ?_)
    case c0 => rfl
    case c1 => rfl
    case c2 => rw [hy2]; omega
    case c3 => unfold maxLen; omega
    case c4 => exact Nat.le_refl _
    intro w1 hown hgrow
    have hbel : Below w.heap.size w w1 := (Below.refl _ _).grown hgrow (Nat.le_refl _) (fun k h => by cases h)
    rw [toList_madeCells_one, ← filled_zero n (rowV m fun _ => 0)] at hown
    go_wp2_with fail
    go_loopw [14] (fun i wr => ∃ k : Nat, k ≤ n ∧ i = .int .i64 k ∧ Below w.heap.size w wr ∧ ∃ G, OwnM wr w.heap.size w.heap.size n m k G X) (fun i _ => (n : Nat) - (intOf i).toNat)
    case atStart => exact ⟨0, Nat.zero_le _, rfl, hbel, fun _ => 0, ⟨hown, fun r hr => by omega, fun i j _ _ => by omega⟩⟩
    case round =>
      obtain ⟨k, hk, rfl, hbel', G, hO⟩ := hrel
      by_cases hlt : k < n
      · obtain ⟨v0, hcell⟩ : ∃ v0, wr.cell? ⟨w.heap.size, k, none⟩ = some v0 := by
          rw [hO.top.cellAt k (by omega)]; exact ⟨_, List.getElem?_eq_getElem (by simp [filled]; exact hlt)⟩
        have hfr := hO.top.frozenAt k
        obtain ⟨g', hg'⟩ : ∃ g', wr.heap.size = g' := ⟨_, rfl⟩
        have hbl : w.heap.size < g' := by rw [← hg']; exact (owns_lt hO.top).2
        go_wp2_with (at_make; refine wpList_make_full _ rfl _ _ 48 rfl w.heap.size 5 i0 (.int .u8 0) 1 Try.underlying48 hi hz0 hz1 _ _ _ _ m rfl rfl ?c0 ?c1 ?c2 ?c3 ?c4 ?_)
        case c0 => rfl
        case c1 => rfl
        case c2 => rw [hz2]; omega
        case c3 => unfold maxLen; omega
        case c4 => exact hbel'.size
        intro w2 hown2 hgrow2
        have hbel2 : Below g' wr w2 := by rw [← hg']; exact (Below.refl _ _).grown hgrow2 (Nat.le_refl _) (fun k h => by cases h)
        rw [toList_madeCells_one, ← filled_zero m (fun c => byteV (X k c))] at hown2
        have htop2 := owns_at hO.top hbel2 hbl
        have hc2 : w2.cell? ⟨w.heap.size, k, none⟩ = some v0 := (hbel2.cell (p := ⟨w.heap.size, k, none⟩) hbl).trans hcell
        have hf2 := htop2.frozenAt k
        have hst2 := htop2.stored k (.slice (some ⟨g', 0, none⟩) m m)
        go_wp2_with fail
        obtain ⟨w3, hw3⟩ : ∃ w3, w3 = w2.setCell ⟨w.heap.size, k, none⟩ (.slice (some ⟨g', 0, none⟩) m m) := ⟨_, rfl⟩
        rw [← hw3] at hst2 ⊢
        have hbel3 : Below w.heap.size w w3 := by rw [hw3]; exact (hbel'.trans (hbel2.mono (by rw [← hg']; exact hbel'.size))).setCell (Nat.le_refl _) _
        have hown3 : w3.ownsRow w.heap.size 5 1 (.slice (some ⟨g', 0, none⟩) m m) m (filled m 0 (fun c => byteV (X k c)) (.int .u8 0)) := by
          rw [hw3]; exact ownsRow_setCell_other hown2 (by simp [Value.ownBlock]; omega) _
        have hbel23 : ∀ r, r < k → w3.ownsRow w.heap.size 5 1 (.slice (some ⟨G r, 0, none⟩) m m) m (bytesL m (X r)) := fun r hr => by
          have h0 := hO.rows r hr
          rw [hw3]; exact ownsRow_setCell_other (owns_at h0.2 hbel2 (by rw [← hg']; exact (owns_lt h0.2).2)) (by simp [Value.ownBlock]; omega) _
        have hc3 := hst2.1.cellAt k (by omega)
        rw [List.getElem?_set_self (by simp [filled]; exact hlt)] at hc3
        clear hw3 hc2 hf2 htop2 hown2 hown hcell hfr
        go_loopw [27] (fun i wi => ∃ j : Nat, j ≤ m ∧ i = .int .i64 j ∧ Below g' w3 wi ∧ wi.ownsRow w.heap.size 5 1 (.slice (some ⟨g', 0, none⟩) m m) m (filled m j (fun c => byteV (X k c)) (.int .u8 0))) (fun i _ => (m : Nat) - (intOf i).toNat)
        case atStart => exact ⟨0, Nat.zero_le _, rfl, Below.refl _ _, hown3⟩
        case round =>
          obtain ⟨j, hj, rfl, hbi, hoi⟩ := hrel
          have hci : wr.cell? ⟨w.heap.size, k, none⟩ = some (.slice (some ⟨g', 0, none⟩) m m) := (hbi.cell (p := ⟨w.heap.size, k, none⟩) hbl).trans hc3
          by_cases hjm : j < m
          · obtain ⟨v1, hv1⟩ : ∃ v1, wr.cell? ⟨g', j, none⟩ = some v1 := by
              rw [hoi.cellAt j (by omega)]; exact ⟨_, List.getElem?_eq_getElem (by simp [filled]; exact hjm)⟩
            have hfi := hoi.frozenAt j
            have hsi := hoi.stored j (byteV (X k j))
            rw [filled_set m j (fun c => byteV (X k c)) _ hjm] at hsi
            have hcall := fun w1 h => HCL.out k hlt j hjm w1 h
            unfold byteV at hcall
            have hbw : Below w.heap.size w wr := hbel3.trans (hbi.mono (by omega))
            go_wp2_with fail
            go_region_with (go_at_call 43; refine (hcall _ (by first | exact hbw | exact hbw.drew)).mono ?_; rintro e w' ⟨rfl, rfl⟩)
            all_goals
              go_wp2_with fail
              go_roundw
              case rel => exact ⟨j + 1, by omega, by go_num, (hbi.setCell (Nat.le_refl _) _).drew, hsi.1.drew⟩
              case measure => simp [intOf]; omega
          · have hjm' : j = m := by omega
            subst hjm'
            rw [filled_full] at hoi
            go_wp2_with fail
            go_roundw
            case rel =>
              refine ⟨k + 1, by omega, by go_num, hbel3.trans (hbi.mono (by omega)), fun r => if r < k then G r else g', ?_, ?_, ?_⟩
              · have h5 : filled n (k + 1) (rowV j fun r => if r < k then G r else g') (.slice none 0 0) = (filled n k (rowV j G) (.slice none 0 0)).set k (.slice (some ⟨g', 0, none⟩) j j) := by
                  have h6 : filled n k (rowV j G) (.slice none 0 0) = filled n k (rowV j fun r => if r < k then G r else g') (.slice none 0 0) := by
                    unfold filled
                    refine List.map_congr_left fun i _ => ?_
                    by_cases e : i < k
                    · simp [e, rowV]
                    · simp [e]
                  rw [h6, ← filled_set n k _ _ hlt]
                  simp [rowV]
                rw [h5]
                exact owns_at hst2.1 hbi hbl
              · intro r hr
                by_cases e : r < k
                · simp only [if_pos e]
                  have h0 := hO.rows r e
                  exact ⟨h0.1, owns_at (hbel23 r e) hbi (by rw [← hg']; exact (owns_lt h0.2).2)⟩
                · obtain rfl : r = k := by omega
                  simp only [if_neg e]
                  exact ⟨hbl, hoi⟩
              · intro i l h5 h6
                by_cases e : l < k
                · simp only [if_pos e, if_pos (show i < k by omega)]
                  exact hO.up i l h5 e
                · simp only [if_neg e, if_pos (show i < k by omega)]
                  rw [← hg']
                  exact (owns_lt (hO.rows i (by omega)).2).2
            case measure => simp [intOf]; omega
      · have hkn : k = n := by omega
        subst hkn
        go_wp2_with fail
        go_ret
        exact ⟨_, G, rfl, hO, hbel'⟩
  · go_enter Try.func40, Try.ntmps40
    go_wp2_with (at_make; refine wpList_make_full _ rfl _ _ 27 rfl w.heap.size 48 j0 (.slice none 0 0) 1 Try.underlying27 hj hy0 hy1 _ _ _ _ n rfl rfl ?c0 ?c1 ?c2 ?c3 ?c4 ?_)
    case c0 => rfl
    case c1 => rfl
    case c2 => rw [hy2]; omega
    case c3 => unfold maxLen; omega
    case c4 => exact Nat.le_refl _
    intro w1 hown hgrow
    have hbel : Below w.heap.size w w1 := (Below.refl _ _).grown hgrow (Nat.le_refl _) (fun k h => by cases h)
    rw [toList_madeCells_one, ← filled_zero n (rowV m fun _ => 0)] at hown
    go_wp2_with fail
    go_loopw [14] (fun i wr => ∃ k : Nat, k ≤ n ∧ i = .int .i64 k ∧ Below w.heap.size w wr ∧ ∃ G, OwnM wr w.heap.size w.heap.size n m k G X) (fun i _ => (n : Nat) - (intOf i).toNat)
    case atStart => exact ⟨0, Nat.zero_le _, rfl, hbel, fun _ => 0, ⟨hown, fun r hr => by omega, fun i j _ _ => by omega⟩⟩
    case round =>
      obtain ⟨k, hk, rfl, hbel', G, hO⟩ := hrel
      by_cases hlt : k < n
      · obtain ⟨v0, hcell⟩ : ∃ v0, wr.cell? ⟨w.heap.size, k, none⟩ = some v0 := by
          rw [hO.top.cellAt k (by omega)]; exact ⟨_, List.getElem?_eq_getElem (by simp [filled]; exact hlt)⟩
        have hfr := hO.top.frozenAt k
        obtain ⟨g', hg'⟩ : ∃ g', wr.heap.size = g' := ⟨_, rfl⟩
        have hbl : w.heap.size < g' := by rw [← hg']; exact (owns_lt hO.top).2
        go_wp2_with (at_make; refine wpList_make_full _ rfl _ _ 48 rfl w.heap.size 5 i0 (.int .u8 0) 1 Try.underlying48 hi hz0 hz1 _ _ _ _ m rfl rfl ?c0 ?c1 ?c2 ?c3 ?c4 ?_)
        case c0 => rfl
        case c1 => rfl
        case c2 => rw [hz2]; omega
        case c3 => unfold maxLen; omega
        case c4 => exact hbel'.size
        intro w2 hown2 hgrow2
        have hbel2 : Below g' wr w2 := by rw [← hg']; exact (Below.refl _ _).grown hgrow2 (Nat.le_refl _) (fun k h => by cases h)
        rw [toList_madeCells_one, ← filled_zero m (fun c => byteV (X k c))] at hown2
        have htop2 := owns_at hO.top hbel2 hbl
        have hc2 : w2.cell? ⟨w.heap.size, k, none⟩ = some v0 := (hbel2.cell (p := ⟨w.heap.size, k, none⟩) hbl).trans hcell
        have hf2 := htop2.frozenAt k
        have hst2 := htop2.stored k (.slice (some ⟨g', 0, none⟩) m m)
        go_wp2_with fail
        obtain ⟨w3, hw3⟩ : ∃ w3, w3 = w2.setCell ⟨w.heap.size, k, none⟩ (.slice (some ⟨g', 0, none⟩) m m) := ⟨_, rfl⟩
        rw [← hw3] at hst2 ⊢
        have hbel3 : Below w.heap.size w w3 := by rw [hw3]; exact (hbel'.trans (hbel2.mono (by rw [← hg']; exact hbel'.size))).setCell (Nat.le_refl _) _
        have hown3 : w3.ownsRow w.heap.size 5 1 (.slice (some ⟨g', 0, none⟩) m m) m (filled m 0 (fun c => byteV (X k c)) (.int .u8 0)) := by
          rw [hw3]; exact ownsRow_setCell_other hown2 (by simp [Value.ownBlock]; omega) _
        have hbel23 : ∀ r, r < k → w3.ownsRow w.heap.size 5 1 (.slice (some ⟨G r, 0, none⟩) m m) m (bytesL m (X r)) := fun r hr => by
          have h0 := hO.rows r hr
          rw [hw3]; exact ownsRow_setCell_other (owns_at h0.2 hbel2 (by rw [← hg']; exact (owns_lt h0.2).2)) (by simp [Value.ownBlock]; omega) _
        have hc3 := hst2.1.cellAt k (by omega)
        rw [List.getElem?_set_self (by simp [filled]; exact hlt)] at hc3
        clear hw3 hc2 hf2 htop2 hown2 hown hcell hfr
        go_loopw [27] (fun i wi => ∃ j : Nat, j ≤ m ∧ i = .int .i64 j ∧ Below g' w3 wi ∧ wi.ownsRow w.heap.size 5 1 (.slice (some ⟨g', 0, none⟩) m m) m (filled m j (fun c => byteV (X k c)) (.int .u8 0))) (fun i _ => (m : Nat) - (intOf i).toNat)
        case atStart => exact ⟨0, Nat.zero_le _, rfl, Below.refl _ _, hown3⟩
        case round =>
          obtain ⟨j, hj, rfl, hbi, hoi⟩ := hrel
          have hci : wr.cell? ⟨w.heap.size, k, none⟩ = some (.slice (some ⟨g', 0, none⟩) m m) := (hbi.cell (p := ⟨w.heap.size, k, none⟩) hbl).trans hc3
          by_cases hjm : j < m
          · obtain ⟨v1, hv1⟩ : ∃ v1, wr.cell? ⟨g', j, none⟩ = some v1 := by
              rw [hoi.cellAt j (by omega)]; exact ⟨_, List.getElem?_eq_getElem (by simp [filled]; exact hjm)⟩
            have hfi := hoi.frozenAt j
            have hsi := hoi.stored j (byteV (X k j))
            rw [filled_set m j (fun c => byteV (X k c)) _ hjm] at hsi
            have hcall := fun w1 h => HCL.out k hlt j hjm w1 h
            unfold byteV at hcall
            have hbw : Below w.heap.size w wr := hbel3.trans (hbi.mono (by omega))
            go_wp2_with fail
            go_region_with (go_at_call 42; refine (hcall _ (by first | exact hbw | exact hbw.drew)).mono ?_; rintro e w' ⟨rfl, rfl⟩)
            all_goals
              go_wp2_with fail
              go_roundw
              case rel => exact ⟨j + 1, by omega, by go_num, (hbi.setCell (Nat.le_refl _) _).drew, hsi.1.drew⟩
              case measure => simp [intOf]; omega
          · have hjm' : j = m := by omega
            subst hjm'
            rw [filled_full] at hoi
            go_wp2_with fail
            go_roundw
            case rel =>
              refine ⟨k + 1, by omega, by go_num, hbel3.trans (hbi.mono (by omega)), fun r => if r < k then G r else g', ?_, ?_, ?_⟩
              · have h5 : filled n (k + 1) (rowV j fun r => if r < k then G r else g') (.slice none 0 0) = (filled n k (rowV j G) (.slice none 0 0)).set k (.slice (some ⟨g', 0, none⟩) j j) := by
                  have h6 : filled n k (rowV j G) (.slice none 0 0) = filled n k (rowV j fun r => if r < k then G r else g') (.slice none 0 0) := by
                    unfold filled
                    refine List.map_congr_left fun i _ => ?_
                    by_cases e : i < k
                    · simp [e, rowV]
                    · simp [e]
                  rw [h6, ← filled_set n k _ _ hlt]
                  simp [rowV]
                rw [h5]
                exact owns_at hst2.1 hbi hbl
              · intro r hr
                by_cases e : r < k
                · simp only [if_pos e]
                  have h0 := hO.rows r e
                  exact ⟨h0.1, owns_at (hbel23 r e) hbi (by rw [← hg']; exact (owns_lt h0.2).2)⟩
                · obtain rfl : r = k := by omega
                  simp only [if_neg e]
                  exact ⟨hbl, hoi⟩
              · intro i l h5 h6
                by_cases e : l < k
                · simp only [if_pos e, if_pos (show i < k by omega)]
                  exact hO.up i l h5 e
                · simp only [if_neg e, if_pos (show i < k by omega)]
                  rw [← hg']
                  exact (owns_lt (hO.rows i (by omega)).2).2
            case measure => simp [intOf]; omega
      · have hkn : k = n := by omega
        subst hkn
        go_wp2_with fail
        go_ret
        exact ⟨_, G, rfl, hO, hbel'⟩
end Go.Proofs.Ythcbnffhkbbkpaa
