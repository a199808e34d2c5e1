/- One column settled: the program's own steps. -/
import Derived.Test.YthcbnffhkbbkpaaMatText
import Derived.Test.YthcbnffhkbbkpaaMatGauss
import Derived.BigRegion
namespace Go.Proofs.Ythcbnffhkbbkpaa
open Go.RowKit Go.PlainAid
set_option linter.unusedVariables false

/-- A matrix of the call's own, its rows in whatever order. -/
structure OwnW (w : World) (base g n m : Nat) (G : Nat → Nat) (X : Mx) : Prop where
  top : w.ownsRow base 48 1 (.slice (some ⟨g, 0, none⟩) n n) n ((List.range n).map (rowV m G))
  rows : ∀ r, r < n → w.ownsRow base 5 1 (.slice (some ⟨G r, 0, none⟩) m m) m (bytesL m (X r))
  inj : ∀ i j, i < n → j < n → G i = G j → i = j
theorem OwnM.wide {w : World} {base g n m : Nat} {G : Nat → Nat} {X : Mx} (h : OwnM w base g n m n G X) : OwnW w base g n m G X :=
  ⟨by have := h.top; rwa [filled_full] at this, fun r hr => (h.rows r hr).2, fun i j hi hj e => by
    rcases Nat.lt_trichotomy i j with h1 | h1 | h1
    · have := h.up i j h1 hj; omega
    · exact h1
    · have := h.up j i h1 hi; omega⟩
theorem OwnW.below {w w' : World} {base g n m : Nat} {G : Nat → Nat} {X : Mx} (h : OwnW w base g n m G X) (hb : Below w.heap.size w w') : OwnW w' base g n m G X :=
  ⟨owns_below h.top hb, fun r hr => owns_below (h.rows r hr) hb, h.inj⟩
theorem OwnW.cellTop {w : World} {base g n m : Nat} {G : Nat → Nat} {X : Mx} (h : OwnW w base g n m G X) (r : Nat) (hr : r < n) : w.cell? ⟨g, r, none⟩ = some (.slice (some ⟨G r, 0, none⟩) m m) := by
  rw [h.top.cellAt r (by omega)]
  simp [hr, rowV]
theorem OwnW.cell {w : World} {base g n m : Nat} {G : Nat → Nat} {X : Mx} (h : OwnW w base g n m G X) (r c : Nat) (hr : r < n) (hc : c < m) : w.cell? ⟨G r, c, none⟩ = some (.int .u8 ((X r c).v : Int)) := by
  rw [(h.rows r hr).cellAt c (by omega), bytesL_at m _ c hc]
  rfl
/-- A row laid anew. -/
theorem OwnW.laid {w : World} {base g n m : Nat} {G : Nat → Nat} {X : Mx} (h : OwnW w base g n m G X) (k : Nat) (hk : k < n) (f : Nat → E) :
    OwnW (w.setRow (G k) (bytesL m f).toArray) base g n m G (fun r => if r = k then f else X r) := by
  have hg := grown_setRow w (G k) (bytesL m f).toArray
  refine ⟨h.top.kept hg ?_, fun r hr => ?_, h.inj⟩
  · have := owns_apart (h.rows k hk) h.top (by decide)
    exact this
  · by_cases e : r = k
    · subst e
      simp only [if_true]
      exact owns_setRow (h.rows r hr)
    · simp only [if_neg e]
      refine (h.rows r hr).kept hg (.inr fun hh => e (h.inj r k hr hk (Option.some.inj hh)))

theorem settle1_any (g m c pc : Nat) (X : Nat → E) (base : Nat) (w : World) (hm : m ≤ 100) (hc : c < m) (hr : w.ownsRow base 5 1 (.slice (some ⟨g, 0, none⟩) m m) m (bytesL m X)) (hp : w.cell? ⟨pc, 0, none⟩ = some (.int .i64 (c : Int)))
    (q : Bool) (hq : q = true ↔ X c ≠ 0) : Calls Try.prog 49 #[.slice (some ⟨g, 0, none⟩) m m, .pointer (some ⟨pc, 0, none⟩)] w fun e w' => e = .returned (.bool q) ∧ w' = w := by
  have hcell : w.cell? ⟨g, c, none⟩ = some (.int .u8 ((X c).v : Int)) := by
    rw [hr.cellAt c (by omega), bytesL_at m _ c hc]; rfl
  obtain ⟨x, hx⟩ : ∃ x, (X c).v = x := ⟨_, rfl⟩
  rw [hx] at hcell
  have hq' : ((x : Int) != 0) = q := by
    by_cases e : X c = 0
    · have h0 : x = 0 := by rw [← hx, e]; rfl
      subst h0
      cases q with
      | false => rfl
      | true => exact absurd e (hq.1 rfl)
    · have h0 : x ≠ 0 := by rw [← hx]; exact E.ne_v e
      rw [hq.2 e]
      simp
      omega
  clear hx hq hr
  go_enter Try.func49, Try.ntmps49
  go_wp2
  go_ret
  exact ⟨by rw [← hq']; rfl, rfl⟩

def sw (c p r : Nat) : Nat := if r = c then p else if r = p then c else r
theorem sw_lt {c p r n : Nat} (hc : c < n) (hp : p < n) (hr : r < n) : sw c p r < n := by unfold sw; split <;> (try split) <;> omega
theorem sw_inj (c p i j : Nat) (h : sw c p i = sw c p j) : i = j := by
  unfold sw at h
  repeat' split at h
  all_goals omega
/-- Two rows exchanged. -/
theorem OwnW.swapped {w : World} {base g n m : Nat} {G : Nat → Nat} {X : Mx} (h : OwnW w base g n m G X) (c p : Nat) (hc : c < n) (hp : p < n) :
    OwnW ((w.setCell ⟨g, c, none⟩ (.slice (some ⟨G p, 0, none⟩) m m)).setCell ⟨g, p, none⟩ (.slice (some ⟨G c, 0, none⟩) m m)) base g n m (fun r => G (sw c p r)) (fun r => X (sw c p r)) := by
  have ne : ∀ r, r < n → (Value.slice (some ⟨G r, 0, none⟩) m m).ownBlock ≠ some g := fun r hr => by
    rcases owns_apart h.top (h.rows r hr) (by decide) with h0 | h0
    · cases h0
    · exact h0
  refine ⟨?_, fun r hr => ?_, fun i j hi hj e => ?_⟩
  · have h1 := (h.top.stored c (.slice (some ⟨G p, 0, none⟩) m m)).1
    have h2 := (h1.stored p (.slice (some ⟨G c, 0, none⟩) m m)).1
    have e : (((List.range n).map (rowV m G)).set c (.slice (some ⟨G p, 0, none⟩) m m)).set p (.slice (some ⟨G c, 0, none⟩) m m) = (List.range n).map (rowV m fun r => G (sw c p r)) := by
      apply List.ext_getElem
      · simp
      · intro i h3 h4
        rw [List.getElem_set, List.getElem_set]
        simp only [List.getElem_map, List.getElem_range, rowV, sw]
        by_cases e1 : p = i
        · subst e1
          by_cases e2 : p = c
          · subst e2; simp
          · simp [e2]
        · by_cases e2 : c = i
          · subst e2; simp [e1]
          · simp [e1, e2, Ne.symm e1, Ne.symm e2]
    rw [e] at h2
    exact h2
  · have hr' := sw_lt hc hp hr
    exact ownsRow_setCell_other (ownsRow_setCell_other (h.rows _ hr') (ne _ hr') _) (ne _ hr') _
  · exact sw_inj c p i j (h.inj _ _ (sw_lt hc hp hi) (sw_lt hc hp hj) e)
theorem OwnW.congr {w : World} {base g n m : Nat} {G : Nat → Nat} {X Y : Mx} (h : OwnW w base g n m G X) (e : ∀ r, r < n → ∀ j, j < m → Y r j = X r j) : OwnW w base g n m G Y :=
  ⟨h.top, fun r hr => by
    have : bytesL m (Y r) = bytesL m (X r) := List.map_congr_left fun j hj => by rw [e r hr j (List.mem_range.1 hj)]
    rw [this]; exact h.rows r hr, h.inj⟩
theorem OwnW.ne_top {w : World} {base g n m : Nat} {G : Nat → Nat} {X : Mx} (h : OwnW w base g n m G X) (r : Nat) (hr : r < n) : G r ≠ g := fun e => by
  rcases owns_apart h.top (h.rows r hr) (by decide) with h0 | h0
  · cases h0
  · exact h0 (by rw [e]; rfl)

set_option maxHeartbeats 2000000 in
theorem settle_any (base g n m c : Nat) (G : Nat → Nat) (X : Mx) (w : World) (h1 : 1 ≤ n) (h2 : n ≤ 16) (hm : m = 2 * n) (hc : c < n) (hO : OwnW w base g n m G X) (hbase : base ≤ w.heap.size) (hcols : ∀ r, r < n → ∀ j, j < c → X r j = idM r j) :
    Calls Try.prog 30 #[.slice (some ⟨g, 0, none⟩) n n, .int .i64 (c : Int)] w fun e w' => Below base w w' ∧
      ((e = .returned (.bool false) ∧ ∀ r, c ≤ r → r < n → X r c = 0) ∨
       (e = .returned (.bool true) ∧ ∃ G' X', OwnW w' base g n m G' X' ∧ Reach n m X X' ∧ ∀ r, r < n → ∀ j, j < c + 1 → X' r j = idM r j)) := by
  have hmf : ∀ (fn : Fn) (first cap : Array Value) (w : World), (Instr.makeFunc fn first cap).run Try.prog w = .ok (.func fn first cap) w := fun _ _ _ _ => rfl
  have hbA : Below w.heap.size w (w.alloc (.cells #[.int .i64 (c : Int)] 3 (0, 0))) := (Below.refl _ _).alloc (Nat.le_refl _) _
  have hpc : (w.alloc (.cells #[.int .i64 (c : Int)] 3 (0, 0))).cell? ⟨w.heap.size, 0, none⟩ = some (.int .i64 (c : Int)) := by go_simp
  have hsA : (w.alloc (.cells #[.int .i64 (c : Int)] 3 (0, 0))).heap.size = w.heap.size + 1 := by simp
  have hOA := hO.below hbA
  generalize hwA : w.alloc (.cells #[.int .i64 (c : Int)] 3 (0, 0)) = wA at hbA hpc hsA hOA
  have HWA : Hid (w.alloc (.cells #[.int .i64 (c : Int)] 3 (0, 0)) = wA) := hwA
  clear hwA
  have hcm : c < m := by omega
  have hm2 : m ≤ 32 := by omega
  have HM : Hid (m = 2 * n) := hm
  clear hm
  obtain ⟨l, hl⟩ : ∃ l, n - c = l := ⟨_, rfl⟩
  have hidx := indexFunc_any 49 (by decide) #[.pointer (some ⟨w.heap.size, 0, none⟩)] (some ⟨g, c, none⟩) l l (fun r => rowV m G (c + r)) (fun r => (X (c + r) c).v != 0) wA (by unfold maxLen; omega)
    (.inr ⟨g, c, rfl, fun r hr => hOA.cellTop (c + r) (by omega)⟩) (fun r hr => settle1_any (G (c + r)) m c w.heap.size (X (c + r)) base wA (by omega) hcm (hOA.rows (c + r) (by omega)) hpc _ (by
      simp only [bne_iff_ne]
      exact ⟨fun h e => h (by rw [e]; rfl), fun h => E.ne_v h⟩))
  have hs := first_spec (fun r => (X (c + r) c).v != 0) l
  generalize first (fun r => (X (c + r) c).v != 0) l = z at hidx hs
  rcases hs with ⟨rfl, hz⟩ | ⟨i, rfl, hi, hne, _⟩
  · have HZ : Hid (∀ i, i < l → ((fun r => (X (c + r) c).v != 0) i) = false) := hz
    clear hz
    go_enter Try.func30, Try.ntmps30
    go_wp2_with fail
    rw [HWA.out]
    go_at_call 48
    refine hidx.mono ?_
    rintro e w' ⟨rfl, rfl⟩
    go_wp2_with fail
    go_ret
    refine ⟨hbA.mono hbase, .inl ⟨rfl, fun r hr1 hr2 => ?_⟩⟩
    have := HZ.out (r - c) (by omega)
    simp only [bne_eq_false_iff_eq] at this
    rw [show c + (r - c) = r by omega] at this
    exact E.zero_of this
  · obtain ⟨p, hp⟩ : ∃ p, c + i = p := ⟨_, rfl⟩
    have hne' : X p c ≠ 0 := by
      simp only [bne_iff_ne] at hne
      rw [hp] at hne
      exact fun e => hne (by rw [e]; rfl)
    have hpn : p < n := by omega
    have hcp : (c : Int) + (i : Int) = (p : Int) := by omega
    have hi0 : ¬ (i : Int) < 0 := by omega
    have hpn' : (p : Int) < (n : Int) := by omega
    have hcn' : (c : Int) < (n : Int) := by omega
    have hcc := hOA.cellTop c hc
    have hcp' := hOA.cellTop p hpn
    have hf1 := hOA.top.frozenAt c
    have hf2 := hOA.top.frozenAt p
    obtain ⟨v', hv'⟩ : ∃ v', (wA.setCell ⟨g, c, none⟩ (.slice (some ⟨G p, 0, none⟩) m m)).cell? ⟨g, p, none⟩ = some v' := by
      rw [(hOA.top.stored c (.slice (some ⟨G p, 0, none⟩) m m)).1.cellAt p (by omega)]
      exact ⟨_, List.getElem?_eq_getElem (by simp; exact hpn)⟩
    have hgl : g < w.heap.size := (owns_lt hO.top).2
    have hpc2 : (wA.setCell ⟨g, c, none⟩ (.slice (some ⟨G p, 0, none⟩) m m)).cell? ⟨w.heap.size, 0, none⟩ = some (.int .i64 (c : Int)) := by
      rw [World.cell?_setCell_far _ _ _ _ (by simp; omega)]; exact hpc
    have hOB : OwnW (((wA.setCell ⟨g, c, none⟩ (.slice (some ⟨G p, 0, none⟩) m m)).setCell ⟨g, p, none⟩ (.slice (some ⟨G c, 0, none⟩) m m)).drew) base g n m (fun r => G (sw c p r)) (fun r => X (sw c p r)) := by
      have h := hOA.swapped c p hc hpn
      exact ⟨h.top.drew, fun r hr => (h.rows r hr).drew, h.inj⟩
    have hbB : Below base w (((wA.setCell ⟨g, c, none⟩ (.slice (some ⟨G p, 0, none⟩) m m)).setCell ⟨g, p, none⟩ (.slice (some ⟨G c, 0, none⟩) m m)).drew) :=
      (((hbA.mono hbase).setCell (owns_lt hO.top).1 _).setCell (owns_lt hO.top).1 _).drew
    have hpB : (((wA.setCell ⟨g, c, none⟩ (.slice (some ⟨G p, 0, none⟩) m m)).setCell ⟨g, p, none⟩ (.slice (some ⟨G c, 0, none⟩) m m)).drew).cell? ⟨w.heap.size, 0, none⟩ = some (.int .i64 (c : Int)) := by
      show ((wA.setCell ⟨g, c, none⟩ (.slice (some ⟨G p, 0, none⟩) m m)).setCell ⟨g, p, none⟩ (.slice (some ⟨G c, 0, none⟩) m m)).cell? _ = _
      rw [World.cell?_setCell_far _ _ _ _ (by simp; omega)]; exact hpc2
    generalize hwB : ((wA.setCell ⟨g, c, none⟩ (.slice (some ⟨G p, 0, none⟩) m m)).setCell ⟨g, p, none⟩ (.slice (some ⟨G c, 0, none⟩) m m)).drew = wB at hOB hbB hpB
    have HWB : Hid (((wA.setCell ⟨g, c, none⟩ (.slice (some ⟨G p, 0, none⟩) m m)).setCell ⟨g, p, none⟩ (.slice (some ⟨G c, 0, none⟩) m m)).drew = wB) := hwB
    clear hwB
    have hGlt : ∀ r, r < n → G (sw c p r) < w.heap.size := fun r hr => (owns_lt (hO.rows _ (sw_lt hc hpn hr))).2
    generalize hG1 : (fun r => G (sw c p r)) = G1 at hOB
    have HG1 : Hid ((fun r => G (sw c p r)) = G1) := hG1
    have HGL : Hid (∀ r, r < n → G1 r < w.heap.size) := fun r hr => by rw [← hG1]; exact hGlt r hr
    clear hG1 hGlt
    have hX1 : ∀ r j, X (sw c p r) j = swapR c p X r j := fun r j => by
      unfold sw swapR; split
      · rfl
      · split <;> rfl
    generalize hX1' : (fun r => X (sw c p r)) = X1 at hOB
    have HX1 : Hid (∀ r j, X1 r j = swapR c p X r j) := fun r j => by rw [← hX1']; exact hX1 r j
    clear hX1 hX1'
    have hxc : X1 c c = X p c := by rw [HX1.out]; simp [swapR]
    have HNE : Hid (X1 c c ≠ 0) := (by rw [hxc]; exact hne' : X1 c c ≠ 0)
    clear hxc
    have k1 := hOB.cellTop c hc
    have k2 := hOB.cell c c hc hcm
    have hinv := fun w => gfInv_any (X1 c c).v (X1 c c).h (E.ne_v HNE.out) w
    have hsc := fun w => gfScale_any (X1 c c).inv.v (X1 c c).inv.h (strE m (X1 c)) w (by rw [strE_size]; unfold maxLen; omega) (by rw [strE_size]; omega)
    rw [scaleB_strE] at hsc
    have hsc' : ∀ w, Calls Try.prog 10 #[.int .u8 (gi (X1 c c).v : Int), .string (strE m (X1 c))] w fun e w' => e = .returned (.string (strE m fun j => (X1 c c).inv * X1 c j)) ∧ Below w.heap.size w w' := hsc
    clear hsc
    have hconv := fun q => conv_row (w := wB.drewN q) (hOB.rows c hc)
    have HRC := hOB.rows c hc
    have HCP : Hid (∀ w2, OwnW w2 base g n m G1 X1 → ∀ ty, (Builtin.copy_ #[48, 9] ty #[.slice (some ⟨G1 c, 0, none⟩) m m, .string (strE m fun j => (X1 c c).inv * X1 c j)]).run Try.prog w2 = .ok (goInt m) (w2.setRow (G1 c) (bytesL m fun j => (X1 c c).inv * X1 c j).toArray)) := fun w2 h ty => by
      obtain ⟨cur, e1, e2, _⟩ := owns_heap (h.rows c hc)
      exact run_copy_strE w2 (G1 c) m _ cur ty e1 e2
    generalize hsC : strE m (X1 c) = sC at hsc' hconv
    have HSC : Hid (strE m (X1 c) = sC) := hsC
    clear hsC
    generalize hsP : (strE m fun j => (X1 c c).inv * X1 c j) = sP at hsc' HCP
    have HSP : Hid ((strE m fun j => (X1 c c).inv * X1 c j) = sP) := hsP
    clear hsP
    generalize (X1 c c).v = xv at k2 hinv hsc'
    have HCPL : Hid (c ≤ p) := (by omega : c ≤ p)
    have HCOLS : Hid (∀ r, r < n → ∀ j, j < c → X r j = idM r j) := hcols
    have HNE' : Hid (X p c ≠ 0) := hne'
    clear hne hp hcols hne'
    go_enter Try.func30, Try.ntmps30
    go_wp2_with fail
    rw [HWA.out]
    go_at_call 48
    refine hidx.mono ?_
    rintro e w' ⟨rfl, rfl⟩
    clear hidx
    go_wp2_with fail
    go_region
    clear hcc hcp' hf1 hf2 hv' hpc2 hpc
    rw [HWB.out]
    go_wp2_with fail
    go_quiet ((go_at_call 50; exact Calls.quiet_of_same (hinv _)))
    go_wp2_with fail
    go_at_call 10
    refine (hsc' _).mono ?_
    rintro e w2 ⟨rfl, hb2⟩
    have hO2 : OwnW w2 base g n m G1 X1 := OwnW.below (w := wB.drewN nq) ⟨hOB.top, hOB.rows, hOB.inj⟩ hb2
    have hcopy := HCP.out w2 hO2
    have k3 := hO2.cellTop c hc
    have hp2 : w2.cell? ⟨w.heap.size, 0, none⟩ = some (.int .i64 (c : Int)) := (hb2.cell (p := ⟨w.heap.size, 0, none⟩) (cell_lt hpB)).trans hpB
    have hO3 := hO2.laid c hc fun j => (X1 c c).inv * X1 c j
    have hp3 : (w2.setRow (G1 c) (bytesL m fun j => (X1 c c).inv * X1 c j).toArray).cell? ⟨w.heap.size, 0, none⟩ = some (.int .i64 (c : Int)) := by
      rw [cell_setRow_other _ _ _ _ (by have := HGL.out c hc; simp; omega)]; exact hp2
    have hb3 : Below base w (w2.setRow (G1 c) (bytesL m fun j => (X1 c c).inv * X1 c j).toArray) :=
      below_setRow (hbB.trans ((below_drewN (Below.refl _ _) nq).trans (hb2.mono (Nat.le_trans hbase hbB.size)))) (owns_lt (hOB.rows c hc)).1 _
    go_wp2_with fail
    generalize hw3 : w2.setRow (G1 c) (bytesL m fun j => (X1 c c).inv * X1 c j).toArray = w3 at hO3 hp3 hb3
    have HW3 : Hid (w2.setRow (G1 c) (bytesL m fun j => (X1 c c).inv * X1 c j).toArray = w3) := hw3
    clear hw3
    obtain ⟨X2, hX2⟩ : ∃ X2 : Mx, X2 = fun r => if r = c then (fun j => (X1 c c).inv * X1 c j) else X1 r := ⟨_, rfl⟩
    have hX2p : ∀ r j, X2 r j = pivotM c p X r j := fun r j => by
      rw [hX2]
      simp only [pivotM, scaleR]
      by_cases e : r = c
      · subst e
        simp only [if_true]
        rw [HX1.out, HX1.out]
        simp [swapR]
      · simp only [if_neg e]
        exact HX1.out r j
    have hsP2 : strE m (X2 c) = sP := by rw [← HSP.out, hX2]; simp
    rw [← hX2, ← settleK_zero c X2] at hO3
    have HX2 : Hid (∀ r j, X2 r j = pivotM c p X r j) := hX2p
    have HSP2 : Hid (strE m (X2 c) = sP) := hsP2
    have HGB : Hid (∀ r, r < n → base ≤ G1 r) := fun r hr => (owns_lt (hOB.rows r hr)).1
    have HMF : Hid (1 ≤ n) := h1
    clear hX2 hX2p hsP2 hcopy k3 hp2 hO2 k1 k2 hinv hsc' hconv HRC HCP hOB hbB hpB hOA hO hb2 hmf hbA hsA HSP HSC HWB HW3 HX1 HNE HG1 hgl hi0 HWA
    go_loopw [62] (fun i wr => ∃ k : Nat, k ≤ n ∧ i = .int .i64 k ∧ Below base w wr ∧ wr.cell? ⟨w.heap.size, 0, none⟩ = some (.int .i64 (c : Int)) ∧ OwnW wr base g n m G1 (settleK c X2 k)) (fun i _ => (n : Nat) - (intOf i).toNat)
    case atStart => exact ⟨0, Nat.zero_le _, rfl, hb3, hp3, hO3⟩
    case round =>
      obtain ⟨k, hk, rfl, hbk, hpk, hOk⟩ := hrel
      by_cases hlt : k < n
      · have kk := hOk.cellTop k hlt
        by_cases hkc : k = c
        · subst hkc
          have t1 : ((k : Int) != (k : Int)) = false := by simp
          go_wp2_with fail
          go_roundw
          case rel => exact ⟨k + 1, by omega, by go_num, hbk, hpk, hOk.congr fun r _ j _ => by
            simp only [settleK]
            by_cases h : r < k ∧ r ≠ k
            · rw [if_pos h, if_pos ⟨by omega, h.2⟩]
            · rw [if_neg h, if_neg (by omega)]⟩
          case measure => simp [intOf]; omega
        · have t1 : ((k : Int) != (c : Int)) = true := by simp; omega
          have hrow := hOk.rows k hlt
          have e0 : settleK c X2 k k = X2 k := by funext j; simp [settleK]
          rw [e0] at hrow
          have kx : wr.cell? ⟨G1 k, c, none⟩ = some (.int .u8 ((X2 k c).v : Int)) := by
            rw [hrow.cellAt c (by omega), bytesL_at m _ c hcm]; rfl
          have hcm' : (c : Int) < (m : Int) := by omega
          have HC : Hid (∀ x, Below wr.heap.size wr x → (convert 48 9 (.slice (some ⟨G1 k, 0, none⟩) m m)).run Try.prog x = .ok (.string (strE m (X2 k))) x) := fun x hx => conv_row (owns_below hrow hx)
          have HD : Hid (∀ x, Below wr.heap.size wr x → ∀ ty, (Builtin.copy_ #[48, 9] ty #[.slice (some ⟨G1 k, 0, none⟩) m m, .string (strE m fun j => X2 k j + X2 k c * X2 c j)]).run Try.prog x = .ok (goInt m) (x.setRow (G1 k) (bytesL m fun j => X2 k j + X2 k c * X2 c j).toArray)) := fun x hx ty => by
            obtain ⟨cur, e1, e2, _⟩ := owns_heap (owns_below hrow hx)
            exact run_copy_strE x (G1 k) m _ cur ty e1 e2
          have hs1 : ∀ x, Calls Try.prog 10 #[.int .u8 ((X2 k c).v : Int), .string sP] x fun e w' => e = .returned (.string (strE m fun j => X2 k c * X2 c j)) ∧ Below x.heap.size x w' := fun x => by
            have := gfScale_any (X2 k c).v (X2 k c).h (strE m (X2 c)) x (by rw [strE_size]; unfold maxLen; omega) (by rw [strE_size]; omega)
            rw [scaleB_strE, HSP2.out] at this
            exact this
          have hs2 : ∀ x, Calls Try.prog 51 #[.string (strE m (X2 k)), .string (strE m fun j => X2 k c * X2 c j)] x fun e w' => e = .returned (.string (strE m fun j => X2 k j + X2 k c * X2 c j)) ∧ Below x.heap.size x w' := fun x => by
            have := xor_any (strE m (X2 k)) (strE m fun j => X2 k c * X2 c j) x (by rw [strE_size]; unfold maxLen; omega) (by rw [strE_size]; unfold maxLen; omega) (by rw [strE_size]; omega)
            rw [xorB_strE] at this
            exact this
          have hdr : Below wr.heap.size wr wr.drew := (Below.refl _ _).drew
          have hcv := HC.out wr (Below.refl _ _)
          have hcv' := HC.out wr.drew hdr
          have HE : Hid (∀ x, Below wr.heap.size wr x → Below base w (x.setRow (G1 k) (bytesL m fun j => X2 k j + X2 k c * X2 c j).toArray) ∧ (x.setRow (G1 k) (bytesL m fun j => X2 k j + X2 k c * X2 c j).toArray).cell? ⟨w.heap.size, 0, none⟩ = some (.int .i64 (c : Int)) ∧
              OwnW (x.setRow (G1 k) (bytesL m fun j => X2 k j + X2 k c * X2 c j).toArray) base g n m G1 (settleK c X2 (k + 1))) := fun x hx => by
            refine ⟨below_setRow (hbk.trans (hx.mono (Nat.le_trans hbase hbk.size))) (HGB.out k hlt) _, ?_, ?_⟩
            · rw [cell_setRow_other _ _ _ _ (by have := HGL.out k hlt; simp; omega)]
              exact (hx.cell (p := ⟨w.heap.size, 0, none⟩) (cell_lt hpk)).trans hpk
            · refine ((hOk.below hx).laid k hlt _).congr fun r _ j _ => ?_
              simp only [settleK]
              by_cases h : r = k
              · subst h
                rw [if_pos ⟨by omega, hkc⟩, if_pos rfl]
              · simp only [if_neg h]
                simp only [settleK]
                by_cases h' : r < k ∧ r ≠ c
                · rw [if_pos h', if_pos ⟨by omega, h'.2⟩]
                · rw [if_neg h', if_neg (by omega)]
          generalize hsK : strE m (X2 k) = sK at HC hs2 hcv hcv'
          generalize hsS : (strE m fun j => X2 k c * X2 c j) = sS at hs1 hs2
          generalize hsX : (strE m fun j => X2 k j + X2 k c * X2 c j) = sX at HD hs2
          generalize (X2 k c).v = xk at kx hs1
          generalize (bytesL m fun j => X2 k j + X2 k c * X2 c j).toArray = arr at HD HE
          clear hsK hsS hsX hOk hbk  hrow e0 HGB HGL HSP2
          go_wp2_with fail
          refine wp_region_noPanic ?_
          refine wp_region_held_drew (S := fun x => x.cell? ⟨w.heap.size, 0, none⟩ = some (.int .i64 (c : Int))) (by kernel_rfl) hpk (fun hHeld => ?_)
          refine wpAnyH_take (i := 0) (v := ?_) rfl (by kernel_rfl) (by kernel_rfl) (by kernel_rfl) (fun _ _ _ h => h) (Or.inl ⟨by rfl, ?_⟩) (by assumption) ?_
          rotate_left
          · intro w hSw; go_simp; try with_reducible rfl
          go_simp
          refine wpAnyH_take (i := 1) (v := ?_) rfl (by kernel_rfl) (by kernel_rfl) (by kernel_rfl) (fun _ _ _ h => h) (Or.inl ⟨by rfl, ?_⟩) (by assumption) ?_
          rotate_left
          · intro w hSw; go_simp; try with_reducible rfl
          go_simp
          refine wpAnyH_take (i := 3) (v := ?_) rfl (by kernel_rfl) (by kernel_rfl) (by kernel_rfl) (fun _ _ _ h => h) (Or.inl ⟨by rfl, ?_⟩) (by assumption) ?_
          rotate_left
          · intro w hSw; go_simp; try with_reducible rfl
          go_simp
          refine wpAnyH_take (i := 4) (v := ?_) rfl (by kernel_rfl) (by kernel_rfl) (by kernel_rfl) (fun _ _ _ h => h) (Or.inl ⟨by rfl, ?_⟩) (by assumption) ?_
          rotate_left
          · intro w hSw; go_simp; try with_reducible rfl
          go_simp
          refine wpAnyH_take (i := 5) (v := ?_) rfl (by kernel_rfl) (by kernel_rfl) (by kernel_rfl) (fun _ _ _ h => h) (Or.inl ⟨by rfl, ?_⟩) (by assumption) ?_
          rotate_left
          · intro w hSw; go_simp; try with_reducible rfl
          go_simp
          refine wpAnyH_take (i := 7) (v := ?_) rfl (by kernel_rfl) (by kernel_rfl) (by kernel_rfl) (fun _ _ _ h => h) (Or.inl ⟨by rfl, ?_⟩) (by assumption) ?_
          rotate_left
          · intro w hSw; go_simp; try with_reducible rfl
          go_simp
          refine wpAnyH_ready (rs := [2, 6]) (by kernel_rfl) (by simp) (AllReadyH.cons rfl (fun K hK => ?_) (AllReadyH.cons rfl (fun K hK => ?_) AllReadyH.nil))
          · go_simp
            refine hK.out _ _ hpk (fun hHeld => ?_)
            clear hK K
            refine wpAnyH_ready (rs := [6]) (by kernel_rfl) (by simp) (AllReadyH.cons rfl (fun K hK => ?_) AllReadyH.nil)
            go_simp
            refine hK.out _ _ hpk (fun hHeld => ?_)
            clear hK K
            refine wpAnyH_ready (rs := [8]) (by kernel_rfl) (by simp) (AllReadyH.cons rfl (fun K hK => ?_) AllReadyH.nil)
            go_simp
            go_at_call 10
            refine (hs1 _).mono ?_
            rintro e w4 ⟨rfl, hb4⟩
            have hx4 := hdr.trans hb4
            have hcv4 := HC.out w4 hx4
            have hp4 : w4.cell? ⟨w.heap.size, 0, none⟩ = some (.int .i64 (c : Int)) := (hx4.cell (p := ⟨w.heap.size, 0, none⟩) (cell_lt hpk)).trans hpk
            refine hK.out _ _ hp4 (fun hHeld => ?_)
            clear hK K
            refine wpAnyH_ready (rs := [9]) (by kernel_rfl) (by simp) (AllReadyH.cons rfl (fun K hK => ?_) AllReadyH.nil)
            go_simp
            go_at_call 51
            refine (hs2 _).mono ?_
            rintro e w5 ⟨rfl, hb5⟩
            have hx5 := hx4.trans (hb5.mono hx4.size)
            have hcp5 := HD.out w5 hx5
            have hp5 : w5.cell? ⟨w.heap.size, 0, none⟩ = some (.int .i64 (c : Int)) := (hx5.cell (p := ⟨w.heap.size, 0, none⟩) (cell_lt hpk)).trans hpk
            refine hK.out _ _ hp5 (fun hHeld => ?_)
            clear hK K
            refine wpAnyH_ready (rs := [10]) (by kernel_rfl) (by simp) (AllReadyH.cons rfl (fun K hK => ?_) AllReadyH.nil)
            go_simp
            refine hK.out _ _ (HE.out _ hx5).2.1 (fun hHeld => ?_)
            clear hK K
            refine wpAnyH_done (by kernel_rfl) ?_ _
            show Exit.inBlock 1 _ Exit.normal _ _
            go_wp2_with fail
            go_roundw
            case rel =>
              obtain ⟨e1, e2, e3⟩ := HE.out _ hx5
              exact ⟨k + 1, by omega, by go_num, e1, e2, e3⟩
            case measure => simp [intOf]; omega
          · go_simp
            refine hK.out _ _ hpk (fun hHeld => ?_)
            clear hK K
            refine wpAnyH_ready (rs := [2, 8]) (by kernel_rfl) (by simp) (AllReadyH.cons rfl (fun K hK => ?_) (AllReadyH.cons rfl (fun K hK => ?_) AllReadyH.nil))
            · go_simp
              refine hK.out _ _ hpk (fun hHeld => ?_)
              clear hK K
              refine wpAnyH_ready (rs := [8]) (by kernel_rfl) (by simp) (AllReadyH.cons rfl (fun K hK => ?_) AllReadyH.nil)
              go_simp
              go_at_call 10
              refine (hs1 _).mono ?_
              rintro e w4 ⟨rfl, hb4⟩
              have hx4 := hdr.trans hb4
              have hcv4 := HC.out w4 hx4
              have hp4 : w4.cell? ⟨w.heap.size, 0, none⟩ = some (.int .i64 (c : Int)) := (hx4.cell (p := ⟨w.heap.size, 0, none⟩) (cell_lt hpk)).trans hpk
              refine hK.out _ _ hp4 (fun hHeld => ?_)
              clear hK K
              refine wpAnyH_ready (rs := [9]) (by kernel_rfl) (by simp) (AllReadyH.cons rfl (fun K hK => ?_) AllReadyH.nil)
              go_simp
              go_at_call 51
              refine (hs2 _).mono ?_
              rintro e w5 ⟨rfl, hb5⟩
              have hx5 := hx4.trans (hb5.mono hx4.size)
              have hcp5 := HD.out w5 hx5
              have hp5 : w5.cell? ⟨w.heap.size, 0, none⟩ = some (.int .i64 (c : Int)) := (hx5.cell (p := ⟨w.heap.size, 0, none⟩) (cell_lt hpk)).trans hpk
              refine hK.out _ _ hp5 (fun hHeld => ?_)
              clear hK K
              refine wpAnyH_ready (rs := [10]) (by kernel_rfl) (by simp) (AllReadyH.cons rfl (fun K hK => ?_) AllReadyH.nil)
              go_simp
              refine hK.out _ _ (HE.out _ hx5).2.1 (fun hHeld => ?_)
              clear hK K
              refine wpAnyH_done (by kernel_rfl) ?_ _
              show Exit.inBlock 1 _ Exit.normal _ _
              go_wp2_with fail
              go_roundw
              case rel =>
                obtain ⟨e1, e2, e3⟩ := HE.out _ hx5
                exact ⟨k + 1, by omega, by go_num, e1, e2, e3⟩
              case measure => simp [intOf]; omega
            · go_simp
              go_at_call 10
              refine (hs1 _).mono ?_
              rintro e w4 ⟨rfl, hb4⟩
              have hx4 := hdr.trans hb4
              have hcv4 := HC.out w4 hx4
              have hp4 : w4.cell? ⟨w.heap.size, 0, none⟩ = some (.int .i64 (c : Int)) := (hx4.cell (p := ⟨w.heap.size, 0, none⟩) (cell_lt hpk)).trans hpk
              refine hK.out _ _ hp4 (fun hHeld => ?_)
              clear hK K
              refine wpAnyH_ready (rs := [2]) (by kernel_rfl) (by simp) (AllReadyH.cons rfl (fun K hK => ?_) AllReadyH.nil)
              go_simp
              refine hK.out _ _ hp4 (fun hHeld => ?_)
              clear hK K
              refine wpAnyH_ready (rs := [9]) (by kernel_rfl) (by simp) (AllReadyH.cons rfl (fun K hK => ?_) AllReadyH.nil)
              go_simp
              go_at_call 51
              refine (hs2 _).mono ?_
              rintro e w5 ⟨rfl, hb5⟩
              have hx5 := hx4.trans (hb5.mono hx4.size)
              have hcp5 := HD.out w5 hx5
              have hp5 : w5.cell? ⟨w.heap.size, 0, none⟩ = some (.int .i64 (c : Int)) := (hx5.cell (p := ⟨w.heap.size, 0, none⟩) (cell_lt hpk)).trans hpk
              refine hK.out _ _ hp5 (fun hHeld => ?_)
              clear hK K
              refine wpAnyH_ready (rs := [10]) (by kernel_rfl) (by simp) (AllReadyH.cons rfl (fun K hK => ?_) AllReadyH.nil)
              go_simp
              refine hK.out _ _ (HE.out _ hx5).2.1 (fun hHeld => ?_)
              clear hK K
              refine wpAnyH_done (by kernel_rfl) ?_ _
              show Exit.inBlock 1 _ Exit.normal _ _
              go_wp2_with fail
              go_roundw
              case rel =>
                obtain ⟨e1, e2, e3⟩ := HE.out _ hx5
                exact ⟨k + 1, by omega, by go_num, e1, e2, e3⟩
              case measure => simp [intOf]; omega
      · have hkn : k = n := by omega
        subst hkn
        have e : X2 = pivotM c p X := by funext r j; exact HX2.out r j
        subst e
        obtain ⟨g1, g2⟩ := gauss_step (m := m) hc HCPL.out hpn HNE'.out HCOLS.out
        have HR : Hid (Reach k m X (settleK c (pivotM c p X) k)) := g1
        have HT : Hid (∀ r, r < k → ∀ j, j < c + 1 → settleK c (pivotM c p X) k r j = idM r j) := g2
        clear g1 g2
        go_wp2_with fail
        go_ret
        exact ⟨hbk, .inr ⟨rfl, G1, _, hOk, HR.out, HT.out⟩⟩
end Go.Proofs.Ythcbnffhkbbkpaa
