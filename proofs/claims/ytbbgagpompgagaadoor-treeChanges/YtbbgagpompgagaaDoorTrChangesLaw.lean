/- What the Go function TreeChanges answers: true, for every texts, depth and changes. -/
import Derived.Test.YtbbgagpompgagaaDoorTrOpensLaw
import Derived.Test.YtbbgagpompgagaaDoorTrBuildsLaw
namespace Go.Proofs.YtbbgagpompgagaaDoor
open Go.RowKit Go.PlainAid Go.Shelf
set_option linter.unusedVariables false

/-- The pairs of a tree with the first k of a way laid over. -/
def qM (d s N : Nat) (D D' : Nat → ByteArray) : Nat → Nat → ByteArray
  | 0 => bP N D
  | k + 1 => upd (qM d s N D D' k) (nd d s k, pr D' N (nd d s k))
theorem qM_at (d s N : Nat) (D D' : Nat → ByteArray) (k i : Nat) : (∃ j, j < k ∧ nd d s j = i) ∧ qM d s N D D' k i = pr D' N i ∨ (∀ j, j < k → nd d s j ≠ i) ∧ qM d s N D D' k i = bP N D i := by
  induction k with
  | zero => exact .inr ⟨fun j hj => by omega, rfl⟩
  | succ k ih =>
    simp only [qM, upd]
    by_cases h : i = nd d s k
    · exact .inl ⟨⟨k, by omega, h.symm⟩, by rw [if_pos h, h]⟩
    · rw [if_neg h]
      rcases ih with ⟨⟨j, hj, e⟩, h2⟩ | ⟨h1, h2⟩
      · exact .inl ⟨⟨j, by omega, e⟩, h2⟩
      · exact .inr ⟨fun j hj => by
          by_cases e : j = k
          · rw [e]; exact fun h' => h h'.symm
          · exact h1 j (by omega), h2⟩
theorem qM_end (d s N : Nat) (D D' : Nat → ByteArray) (hN : 2 ^ d = N) (hd : d ≤ 4) (hs : s < N) (hD : ∀ j, j ≠ s → D' j = D j) (i : Nat) (hi : i < N) : qM d s N D D' d i = bP N D' i := by
  subst hN
  rcases qM_at d s (2 ^ d) D D' d i with ⟨⟨j, hj, e⟩, h2⟩ | ⟨h1, h2⟩
  · rw [h2]
    have := (nd_inner d s j hj hs).1
    unfold bP
    rw [if_neg (by omega)]
  · rw [h2]
    unfold bP
    by_cases h0 : i = 0
    · rw [if_pos h0, if_pos h0]
    · rw [if_neg h0, if_neg h0]
      exact (pr_other D D' d s i hd hs hD (by omega) hi (fun k hk e => h1 k hk e.symm)).symm
/-- Leaves and pairs as they stand. -/
def St (B : Nat) (w : World) (g1 k1 g2 k2 N : Nat) (D P : Nat → ByteArray) : Prop :=
  w.ownsRow B 9 1 (.slice (some ⟨g1, 0, none⟩) N k1) N (strs N D) ∧ w.ownsRow B 9 1 (.slice (some ⟨g2, 0, none⟩) N k2) N (strs N P) ∧ (∀ i, i < N → (D i).size = 32) ∧ g1 ≠ g2
theorem St.below {B : Nat} {w w' : World} {g1 k1 g2 k2 N : Nat} {D P : Nat → ByteArray} (h : St B w g1 k1 g2 k2 N D P) (hb : Below w.heap.size w w') : St B w' g1 k1 g2 k2 N D P :=
  ⟨owns_kept h.1 (Kept.ofBelow (F := fun _ => False) hb) (fun _ _ h => h), owns_kept h.2.1 (Kept.ofBelow (F := fun _ => False) hb) (fun _ _ h => h), h.2.2⟩
theorem St.leaf {B : Nat} {w : World} {g1 k1 g2 k2 N : Nat} {D P : Nat → ByteArray} (h : St B w g1 k1 g2 k2 N D P) (s : Nat) (L : ByteArray) (hL : L.size = 32) : St B (w.setCell ⟨g1, s, none⟩ (.string L)) g1 k1 g2 k2 N (upd D (s, L)) P := by
  obtain ⟨h1, h2, h3, h4⟩ := h
  refine ⟨?_, owns_kept h2 (Kept.one w g1 s _) (fun j e => ?_), fun i hi => ?_, h4⟩
  · have := (h1.stored s (.string L)).1
    rw [strs_set] at this; exact this
  · cases e; exact fun e => h4 e.symm
  · unfold upd
    split
    · exact hL
    · exact h3 i hi
theorem St.pair {B : Nat} {w : World} {g1 k1 g2 k2 N : Nat} {D P : Nat → ByteArray} (h : St B w g1 k1 g2 k2 N D P) (i : Nat) (q : ByteArray) : St B (w.setCell ⟨g2, i, none⟩ (.string q)) g1 k1 g2 k2 N D (upd P (i, q)) := by
  obtain ⟨h1, h2, h3, h4⟩ := h
  refine ⟨owns_kept h1 (Kept.one w g2 i _) (fun j e => ?_), ?_, h3, h4⟩
  · cases e; exact fun e => h4 e
  · have := (h2.stored i (.string q)).1
    rw [strs_set] at this; exact this
theorem St.congr {B : Nat} {w : World} {g1 k1 g2 k2 N : Nat} {D P P' : Nat → ByteArray} (h : St B w g1 k1 g2 k2 N D P) (e : ∀ i, i < N → P i = P' i) : St B w g1 k1 g2 k2 N D P' := by
  obtain ⟨h1, h2, h3, h4⟩ := h
  exact ⟨h1, by rw [← strs_congr N P P' e]; exact h2, h3, h4⟩
theorem St.sa1 {B : Nat} {w : World} {g1 k1 g2 k2 N : Nat} {D P : Nat → ByteArray} (h : St B w g1 k1 g2 k2 N D P) : Sa w (some ⟨g1, 0, none⟩) N D := by
  obtain ⟨aw, kw, e, hs⟩ := Sa.owns h.1
  cases e; exact hs
theorem St.sa2 {B : Nat} {w : World} {g1 k1 g2 k2 N : Nat} {D P : Nat → ByteArray} (h : St B w g1 k1 g2 k2 N D P) : Sa w (some ⟨g2, 0, none⟩) N P := by
  obtain ⟨aw, kw, e, hs⟩ := Sa.owns h.2.1
  cases e; exact hs
theorem put_built (d N s : Nat) (D D' : Nat → ByteArray) (L : ByteArray) (hN : 2 ^ d = N) (h1 : 1 ≤ d) (h2 : d ≤ 4) (hs : s < N) (hD : ∀ i, i < N → (D i).size = 32) (hL : L.size = 32) (e1 : D' s = L) (e2 : ∀ j, j ≠ s → D' j = D j) (a : Option Addr) (k : Nat) (z : World) (hz : Sa z a d (fun k => bP N D (nd d s k))) (ht : Tabs z) :
    Calls Tryd.prog 20 #[.int .i64 (s : Int), .slice a d k, .string L] z fun e w' => ∃ v, e = .returned (.tuple #[v, .string (dg D' N 1), .int .i64 0]) ∧ w'.ownsRow z.heap.size 9 1 v d (strs d fun k => pr D' N (nd d s k)) ∧ Below z.heap.size z w' := by
  obtain ⟨_, _, _, z4⟩ := built d N D hN h1 h2 hD
  obtain ⟨ho, hp⟩ := z4 s hs
  have hs2 : s < 2 ^ d := by rw [hN]; exact hs
  have hD2 : ∀ j, j < 2 ^ d → (D j).size = 32 := fun j hj => hD j (by rw [← hN]; exact hj)
  have h := put_any a d k (s : Int) L (fun k => bP N D (nd d s k)) (by omega) z hz ht
  have hu : uE d (s : Int) (fun k => bP N D (nd d s k)) L = 0 := uE_zero ho ⟨hL, fun i hi => by
    have hin := nd_inner d s i hi hs2
    rw [hp i hi]
    exact pr_size D _ _ (pow_le16 d h2) hin.1 hin.2 hD2⟩
  obtain ⟨u1, u2⟩ := uN_yes hu
  obtain ⟨n1, n2⟩ := neu_pr D D' d s (fun k => bP N D (nd d s k)) h2 hs2 e2 hD2 hp
  rw [e1] at n1 n2
  rw [hu, u1, u2, Int.toNat_natCast, n2, hN, strs_congr d (neu d s (fun k => bP N D (nd d s k)) L) (fun k => pr D' N (nd d s k)) (fun i hi => by rw [n1 i hi, hN])] at h
  exact h

set_option maxRecDepth 20000 in
set_option maxHeartbeats 8000000 in
theorem treeChanges_walk (a : Option Addr) (len cap : Nat) (x : Int) (b : Option Addr) (lenb capb : Nat) (w : World) (hA : TsArg w a len cap) (hB : TsArg w b lenb capb) (hT : Tabs w) : Calls Tryd.prog 8 #[.slice a len cap, .int .i64 x, .slice b lenb capb] w fun e w' => e = .returned (.bool true) ∧ Below w.heap.size w w' := by
  obtain ⟨T, h1, h2, h3, h4, h5⟩ := hA
  obtain ⟨Q, g1, g2, g3, g4, g5⟩ := hB
  have hdg := ldigests_any x a len cap (by omega) T w h4 hT
  obtain ⟨d1, d2⟩ := depL_ok x
  generalize depL x = d at hdg d1 d2
  obtain ⟨N, hN⟩ : ∃ N, 2 ^ d = N := ⟨_, rfl⟩
  have h16 := pow_le16 d d2
  rw [hN] at hdg h16
  have hN2 : 1 ≤ N := by rw [← hN]; exact pow_pos' d
  have hNi : (0 : Int) < (N : Int) := by omega
  have HN : Hid (2 ^ d = N) := hN
  have HDG : Hid _ := hdg
  obtain ⟨m, hm, hm1, hm2⟩ : ∃ m : Nat, (if (30 : Int) < (lenb : Int) then (30 : Int) else (lenb : Int)) = (m : Int) ∧ m ≤ lenb ∧ m ≤ 30 := ⟨min lenb 30, by split <;> omega, by omega, by omega⟩
  have hm' : min (lenb : Int) 30 = (m : Int) := by rw [← hm]; split <;> omega
  have hmc : (m : Int) ≤ (capb : Int) := by omega
  have HSb0 : Hid (Sa w b m Q) := g4.cut hm1
  have HZb : Hid (∀ i, i < m → (Q i).size ≤ 140737488351232) := fun i hi => g5 i (by omega)
  clear hdg h5 h4 h3 h2 h1 hN g5 g4
  cases b with
  | none =>
    have hc0 := g3 rfl
    have hl0 : lenb = 0 := by omega
    have hm0 : m = 0 := by omega
    subst hc0
    subst hl0
    subst hm0
    have hmn : (min (0 : Int) 30).toNat = 0 := by decide
    clear g3 hm hm' hmc hm1 hm2 HSb0 g1 g2
    go_enter Tryd.func8, Tryd.ntmps8
    go_wp2_with fail
    refine Calls.mono HDG.out ?_
    rintro e w1 ⟨v1, D, rfl, hv1, hD, hb1⟩
    clear HDG
    rcases hv1.2 with ⟨_, h0⟩ | ⟨g1, k1, cu1, rfl, hg10, hgg1, _⟩
    · omega
    have hg11 : g1 < w1.heap.size := (Array.getElem?_eq_some_iff.1 hgg1).1
    have hs1 : Sa w1 (some ⟨g1, 0, none⟩) N D := by
      obtain ⟨aw, kw, e, hs⟩ := Sa.owns hv1
      cases e; exact hs
    have hT1 := hT.below hb1 hT.lt
    have hbu := build_any (some ⟨g1, 0, none⟩) N k1 (by omega) D w1 hs1 hT1
    obtain ⟨z1, z2, z3, z4⟩ := built d N D HN.out d1 d2 hD
    rw [z1, z2, z3] at hbu
    have HBU : Hid _ := hbu
    clear hbu hs1 z1 z2 z3 z4 hgg1
    go_wp2_with fail
    refine Calls.mono HBU.out ?_
    rintro e w2 ⟨v2, rfl, hv2, hb2⟩
    clear HBU
    rcases hv2.2 with ⟨_, h0⟩ | ⟨g2, k2, cu2, rfl, hg20, hgg2, _⟩
    · omega
    have hB2 := hb1.trans (hb2.mono hb1.size)
    have hSt2 : Hid (St w.heap.size w2 g1 k1 g2 k2 N D (bP N D)) := ⟨owns_kept hv1 (Kept.ofBelow (F := fun _ => False) hb2) (fun _ _ h => h), owns_base hv2 hb1.size, hD, by omega⟩
    have hT2 := hT.below hB2 hT.lt
    clear hv1 hv2 hgg2 hb2 hT1 hD hg20
    go_wp2_with fail
    refine (lwakes_any w2 hT2).mono ?_
    rintro e w3 ⟨rfl, hb3⟩
    have hB3 := hB2.trans (hb3.mono hB2.size)
    have hSt3 : Hid (St w.heap.size w3 g1 k1 g2 k2 N D (bP N D)) := hSt2.out.below hb3
    clear hSt2 hb3 hT2 hB2
    go_wp2_with fail
    go_loopw [9, 45] (fun tv i wr => ∃ (j : Nat) (D : Nat → ByteArray), j ≤ 0 ∧ tv = .string (dg D N 1) ∧ i = .int .i64 (j : Int) ∧ Hid (St w.heap.size wr g1 k1 g2 k2 N D (bP N D)) ∧ Below w.heap.size w wr) (fun _ i _ => 0 - (intOf i).toNat)
    case atStart => exact ⟨0, D, Nat.zero_le _, rfl, rfl, hSt3, hB3⟩
    case round =>
      clear hSt3 hB3
      obtain ⟨j, D, hj, rfl, rfl, hSt, hB⟩ := hrel
      by_cases hlt : j < 0
      · exact absurd hlt (by omega)
      · have hji : (0 : Int) ≤ (j : Int) := by omega
        have hbu := build_any (some ⟨g1, 0, none⟩) N k1 (by omega) D wr hSt.out.sa1 (hT.below hB hT.lt)
        obtain ⟨z1, z2, z3, z4⟩ := built d N D HN.out d1 d2 hSt.out.2.2.1
        rw [z1, z2, z3] at hbu
        have HBU : Hid _ := hbu
        clear hbu z1 z2 z3 z4
        generalize dg D N 1 = t at HBU ⊢
        go_wp2_with fail
        refine Calls.mono HBU.out ?_
        rintro e w5 ⟨v5, rfl, hv5, hb5⟩
        obtain ⟨a5, k5, rfl, hs5⟩ := Sa.owns hv5
        have HE : Hid _ := lequal_same a5 (some ⟨g2, 0, none⟩) N k5 k2 (bP N D) w5 (by omega) hs5 (hSt.out.below hb5).sa2
        have hB5 := hB.trans (hb5.mono hB.size)
        clear HBU hs5 hv5 hb5
        go_wp2_with fail
        refine Calls.mono HE.out ?_
        rintro e w6 ⟨rfl, hb6⟩
        go_wp2_with fail
        go_ret
        exact ⟨rfl, hB5.trans (hb6.mono hB5.size)⟩
  | some q =>
    have HSb : Hid (Sa w (some q) m Q) := HSb0
    clear g3 HSb0
    go_enter Tryd.func8, Tryd.ntmps8
    go_wp2_with fail
    refine Calls.mono HDG.out ?_
    rintro e w1 ⟨v1, D, rfl, hv1, hD, hb1⟩
    clear HDG
    rcases hv1.2 with ⟨_, h0⟩ | ⟨g1, k1, cu1, rfl, hg10, hgg1, _⟩
    · omega
    have hg11 : g1 < w1.heap.size := (Array.getElem?_eq_some_iff.1 hgg1).1
    have hs1 : Sa w1 (some ⟨g1, 0, none⟩) N D := by
      obtain ⟨aw, kw, e, hs⟩ := Sa.owns hv1
      cases e; exact hs
    have hT1 := hT.below hb1 hT.lt
    have hbu := build_any (some ⟨g1, 0, none⟩) N k1 (by omega) D w1 hs1 hT1
    obtain ⟨z1, z2, z3, z4⟩ := built d N D HN.out d1 d2 hD
    rw [z1, z2, z3] at hbu
    have HBU : Hid _ := hbu
    clear hbu hs1 z1 z2 z3 z4 hgg1
    go_wp2_with fail
    refine Calls.mono HBU.out ?_
    rintro e w2 ⟨v2, rfl, hv2, hb2⟩
    clear HBU
    rcases hv2.2 with ⟨_, h0⟩ | ⟨g2, k2, cu2, rfl, hg20, hgg2, _⟩
    · omega
    have hB2 := hb1.trans (hb2.mono hb1.size)
    have hSt2 : Hid (St w.heap.size w2 g1 k1 g2 k2 N D (bP N D)) := ⟨owns_kept hv1 (Kept.ofBelow (F := fun _ => False) hb2) (fun _ _ h => h), owns_base hv2 hb1.size, hD, by omega⟩
    have hT2 := hT.below hB2 hT.lt
    clear hv1 hv2 hgg2 hb2 hT1 hD hg20
    go_wp2_with fail
    refine (lwakes_any w2 hT2).mono ?_
    rintro e w3 ⟨rfl, hb3⟩
    have hB3 := hB2.trans (hb3.mono hB2.size)
    have hSt3 : Hid (St w.heap.size w3 g1 k1 g2 k2 N D (bP N D)) := hSt2.out.below hb3
    clear hSt2 hb3 hT2 hB2
    go_wp2_with fail
    go_loopw [9, 45] (fun tv i wr => ∃ (j : Nat) (D : Nat → ByteArray), j ≤ m ∧ tv = .string (dg D N 1) ∧ i = .int .i64 (j : Int) ∧ Hid (St w.heap.size wr g1 k1 g2 k2 N D (bP N D)) ∧ Below w.heap.size w wr) (fun _ i _ => m - (intOf i).toNat)
    case atStart => exact ⟨0, D, Nat.zero_le _, rfl, rfl, hSt3, hB3⟩
    case round =>
      clear hSt3 hB3
      obtain ⟨j, D, hj, rfl, rfl, hSt, hB⟩ := hrel
      by_cases hlt : j < m
      · have hji : (j : Int) < (m : Int) := by omega
        obtain ⟨bb, bo, hbe, hc⟩ := (HSb.out.later hB).cells (by omega)
        obtain rfl : q = ⟨bb, bo, none⟩ := Option.some.inj hbe
        have ca := hc j hlt
        have hXs := HZb.out j hlt
        generalize Q j = X at ca hXs
        obtain ⟨s, hs⟩ := Int.eq_ofNat_of_zero_le (show 0 ≤ ((j : Int) * 7 + (X.size : Int)) % (N : Int) from Int.emod_nonneg _ (by omega))
        have hsN : s < N := by
          have := Int.emod_lt_of_pos ((j : Int) * 7 + (X.size : Int)) hNi
          omega
        have hsi : (s : Int) < (N : Int) := by omega
        have hXi : (X.size : Int) ≤ 140737488351232 := by omega
        obtain ⟨c5, hc5, hc51, hc52⟩ : ∃ c : Nat, (if (50 : Int) < (X.size : Int) then (50 : Int) else (X.size : Int)) = (c : Int) ∧ c ≤ X.size ∧ c ≤ 50 := ⟨min X.size 50, by split <;> omega, by omega, by omega⟩
        have hc5' : min (X.size : Int) 50 = (c5 : Int) := by rw [← hc5]; split <;> omega
        have hc5i : (c5 : Int) ≤ (X.size : Int) := by omega
        have hcs : (X.extract 0 c5).size ≤ 50 := by rw [ByteArray.size_extract]; omega
        have hlf := leaf_any (X.extract 0 c5) (by omega) wr (hT.below hB hT.lt)
        have hLs := digest_size (⟨#[0]⟩ ++ X.extract 0 c5)
        generalize digest (⟨#[0]⟩ ++ X.extract 0 c5) = L at hlf hLs
        have HLF : Hid _ := hlf
        clear hc hlf hbe
        go_wp2_with fail
        refine Calls.mono HLF.out ?_
        rintro e w4 ⟨rfl, hb4⟩
        have hSt4 : Hid (St w.heap.size w4 g1 k1 g2 k2 N D (bP N D)) := hSt.out.below hb4
        have hB4 := hB.trans (hb4.mono hB.size)
        have c1 := (hSt4.out.1.cellAt s (by omega)).trans (strs_at N D s hsN)
        have f1 := hSt4.out.1.frozenAt s
        have hg1w := (World.ownsRow.lt hSt4.out.1 g1 rfl).1
        have hg2w := (World.ownsRow.lt hSt4.out.2.1 g2 rfl).1
        have hB5 : Below w.heap.size w (w4.setCell ⟨g1, s, none⟩ (.string L)) := hB4.setCell (p := ⟨g1, s, none⟩) hg1w _
        have hSt5 : Hid (St w.heap.size (w4.setCell ⟨g1, s, none⟩ (.string L)) g1 k1 g2 k2 N (upd D (s, L)) (bP N D)) := hSt4.out.leaf s L hLs
        have hDs := hSt4.out.2.2.1
        have e1 : upd D (s, L) s = L := by unfold upd; rw [if_pos rfl]
        have e2 : ∀ j, j ≠ s → upd D (s, L) j = D j := fun j hj => by unfold upd; rw [if_neg hj]
        generalize upd D (s, L) = D' at hSt5 e1 e2
        obtain ⟨_, _, _, z4⟩ := built d N D HN.out d1 d2 hDs
        obtain ⟨ho, -⟩ := z4 s hsN
        have HPL : Hid (D' s = L) := e1
        have HPB : Hid _ := put_built d N s D D' L HN.out d1 d2 hsN hDs hLs e1 e2
        have HO : Hid (okS d (s : Int)) := ho
        have HD2 : Hid (∀ j, j ≠ s → D' j = D j) := e2
        have hpa := path_ok d N s HN.out ho (w4.setCell ⟨g1, s, none⟩ (.string L))
        have HPA : Hid _ := hpa
        clear HLF hSt hB hb4 hSt4 hB4 z4 ho hpa e1 e2 hDs
        go_wp2_with fail
        clear c1 f1
        generalize w4.setCell ⟨g1, s, none⟩ (.string L) = w5 at hB5 hSt5 HPA ⊢
        refine Calls.mono HPA.out ?_
        rintro e w6 ⟨v6, rfl, hv6, hb6⟩
        clear HPA
        rcases hv6.2 with ⟨_, h0⟩ | ⟨gr, kr, cur, rfl, hgr0, hggr, _⟩
        · omega
        have hgr1 : gr < w6.heap.size := (Array.getElem?_eq_some_iff.1 hggr).1
        have HR : Hid (∀ i, i < d → w6.cell? ⟨gr, i, none⟩ = some (.int .i64 (nd d s i : Int))) := fun i hi => (hv6.cellAt i (by omega)).trans (nr_at .i64 d (nd d s) i hi)
        have hSt6 : Hid (St w.heap.size w6 g1 k1 g2 k2 N D' (bP N D)) := hSt5.out.below hb6
        have hB6 := hB5.trans (hb6.mono hB5.size)
        have hg2r : g2 < w5.heap.size := (World.ownsRow.lt hSt5.out.2.1 g2 rfl).2
        clear hv6 hggr hb6 hSt5
        go_wp2_with fail
        have cL : w6.drew.cell? ⟨g1, s, none⟩ = some (.string L) := (hSt6.out.1.cellAt s (by omega)).trans ((strs_at N D' s hsN).trans (by rw [HPL.out]))
        have hStd : Hid (St w.heap.size w6.drew g1 k1 g2 k2 N D' (bP N D)) := hSt6
        have hBd : Below w.heap.size w w6.drew := hB6.drew
        have HRd : Hid (∀ i, i < d → w6.drew.cell? ⟨gr, i, none⟩ = some (.int .i64 (nd d s i : Int))) := HR
        have hgrd : gr < w6.drew.heap.size := hgr1
        refine wp_region_noPanic ?_
        refine wp_region_held_drew (S := fun z : World => z.cell? ⟨g1, s, none⟩ = some (.string L)) (by kernel_rfl) cL (fun hHeld => ?_)
        generalize w6.drew = wd at hHeld cL hStd hBd HRd hgrd ⊢
        clear hSt6 hB6 HR hgr1
        refine wpAnyH_take (i := 0) (v := ?_) rfl (by kernel_rfl) (by kernel_rfl) (by kernel_rfl) (fun _ _ _ h => h) (Or.inl ⟨by rfl, ?_⟩) (by assumption) ?_
        rotate_left
        · intro w hSw; go_simp; try with_reducible rfl
        go_simp
        refine wpAnyH_take (i := 1) (v := ?_) rfl (by kernel_rfl) (by kernel_rfl) (by kernel_rfl) (fun _ _ _ h => h) (Or.inl ⟨by rfl, ?_⟩) (by assumption) ?_
        rotate_left
        · intro w hSw; go_simp; try with_reducible rfl
        go_simp
        refine wpAnyH_take (i := 2) (v := ?_) rfl (by kernel_rfl) (by kernel_rfl) (by kernel_rfl) (fun _ _ _ h => h) (Or.inl ⟨by rfl, ?_⟩) (by assumption) ?_
        rotate_left
        · intro w hSw; go_simp; try with_reducible rfl
        go_simp
        refine wpAnyH_take (i := 4) (v := ?_) rfl (by kernel_rfl) (by kernel_rfl) (by kernel_rfl) (fun _ _ _ h => h) (Or.inl ⟨by rfl, ?_⟩) (by assumption) ?_
        rotate_left
        · intro w hSw; go_simp; try with_reducible rfl
        go_simp
        refine wpAnyH_take (i := 5) (v := ?_) rfl (by kernel_rfl) (by kernel_rfl) (by kernel_rfl) (fun _ _ _ h => h) (Or.inl ⟨by rfl, ?_⟩) (by assumption) ?_
        rotate_left
        · intro w hSw; go_simp; try with_reducible rfl
        go_simp
        refine wpAnyH_take (i := 6) (v := ?_) rfl (by kernel_rfl) (by kernel_rfl) (by kernel_rfl) (fun _ _ _ h => h) (Or.inl ⟨by rfl, ?_⟩) (by assumption) ?_
        rotate_left
        · intro w hSw; go_simp; try with_reducible rfl
        go_simp
        refine wpAnyH_take (i := 7) (v := ?_) rfl (by kernel_rfl) (by kernel_rfl) (by kernel_rfl) (fun _ _ _ h => h) (Or.inl ⟨by rfl, ?_⟩) (by assumption) ?_
        rotate_left
        · intro w hSw; go_simp; try with_reducible rfl
        go_simp
        refine wpAnyH_ready (rs := [3]) (by kernel_rfl) (by simp) (AllReadyH.cons rfl (fun K hK => ?_) AllReadyH.nil)
        go_simp
        go_at_call 16
        refine Calls.mono (lover_any (some ⟨g2, 0, none⟩) d N k2 s HN.out HO.out (bP N D) wd hStd.out.sa2) ?_
        rintro e w7 ⟨v7, rfl, hv7, hb7⟩
        obtain ⟨a7, k7, rfl, hs7⟩ := Sa.owns hv7
        have hB7 := hBd.trans (hb7.mono hBd.size)
        refine hK.out _ _ ((hb7.cell (p := ⟨g1, s, none⟩) (cell_blk_lt cL)).trans cL) (fun hHeld => ?_)
        clear hK K
        refine wpAnyH_ready (rs := [8]) (by kernel_rfl) (by simp) (AllReadyH.cons rfl (fun K hK => ?_) AllReadyH.nil)
        go_simp
        go_at_call 20
        refine Calls.mono (HPB.out a7 k7 w7 hs7 (hT.below hB7 hT.lt)) ?_
        rintro e w8 ⟨v8, rfl, hv8, hb8⟩
        refine hK.out _ _ ((hb8.cell (p := ⟨g1, s, none⟩) (by have := cell_blk_lt cL; have := hb7.size; show g1 < _; omega)).trans ((hb7.cell (p := ⟨g1, s, none⟩) (cell_blk_lt cL)).trans cL)) (fun hHeld => ?_)
        clear hK K
        refine wpAnyH_take (i := 9) (v := ?_) rfl (by kernel_rfl) (by kernel_rfl) (by kernel_rfl) (fun _ _ _ h => h) (Or.inl ⟨by rfl, ?_⟩) (by assumption) ?_
        rotate_left
        · intro w hSw; go_simp; try with_reducible rfl
        go_simp
        refine wpAnyH_take (i := 10) (v := ?_) rfl (by kernel_rfl) (by kernel_rfl) (by kernel_rfl) (fun _ _ _ h => h) (Or.inl ⟨by rfl, ?_⟩) (by assumption) ?_
        rotate_left
        · intro w hSw; go_simp; try with_reducible rfl
        go_simp
        refine wpAnyH_take (i := 11) (v := ?_) rfl (by kernel_rfl) (by kernel_rfl) (by kernel_rfl) (fun _ _ _ h => h) (Or.inl ⟨by rfl, ?_⟩) (by assumption) ?_
        rotate_left
        · intro w hSw; go_simp; try with_reducible rfl
        go_simp
        refine wpAnyH_take (i := 12) (v := ?_) rfl (by kernel_rfl) (by kernel_rfl) (by kernel_rfl) (fun _ _ _ h => h) (Or.inl ⟨by rfl, ?_⟩) (by assumption) ?_
        rotate_left
        · intro w hSw; go_simp; try with_reducible rfl
        go_simp
        refine wpAnyH_take (i := 13) (v := ?_) rfl (by kernel_rfl) (by kernel_rfl) (by kernel_rfl) (fun _ _ _ h => h) (Or.inl ⟨by rfl, ?_⟩) (by assumption) ?_
        rotate_left
        · intro w hSw; go_simp; try with_reducible rfl
        go_simp
        refine wpAnyH_take (i := 14) (v := ?_) rfl (by kernel_rfl) (by kernel_rfl) (by kernel_rfl) (fun _ _ _ h => h) (Or.inl ⟨by rfl, ?_⟩) (by assumption) ?_
        rotate_left
        · intro w hSw; go_simp; try with_reducible rfl
        go_simp
        refine wpAnyH_take (i := 15) (v := ?_) rfl (by kernel_rfl) (by kernel_rfl) (by kernel_rfl) (fun _ _ _ h => h) (Or.inl ⟨by rfl, ?_⟩) (by assumption) ?_
        rotate_left
        · intro w hSw; go_simp; try with_reducible rfl
        go_simp
        refine wpAnyH_done (by kernel_rfl) ?_ _
        refine NoPanic.normal ?_
        clear hHeld cL HPB
        rcases hv8.2 with ⟨_, h0⟩ | ⟨g8, k8, cu8, rfl, hg80, hgg8, _⟩
        · omega
        have hg81 : g8 < w8.heap.size := (Array.getElem?_eq_some_iff.1 hgg8).1
        have hbb : Below wd.heap.size wd w8 := hb7.trans (hb8.mono hb7.size)
        have HW : Hid (∀ i, i < d → w8.cell? ⟨g8, i, none⟩ = some (.string (pr D' N (nd d s i)))) := fun i hi => (hv8.cellAt i (by omega)).trans (strs_at d (fun k => pr D' N (nd d s k)) i hi)
        have HR8 : Hid (∀ i, i < d → w8.cell? ⟨gr, i, none⟩ = some (.int .i64 (nd d s i : Int))) := fun i hi => (hbb.cell (p := ⟨gr, i, none⟩) hgrd).trans (HRd.out i hi)
        have hSt8 : Hid (St w.heap.size w8 g1 k1 g2 k2 N D' (bP N D)) := hStd.out.below hbb
        have hB8 := hBd.trans (hbb.mono hBd.size)
        have hgr8 : gr < w8.heap.size := Nat.lt_of_lt_of_le hgrd hbb.size
        have hng8 : g8 ≠ g2 := by have := (World.ownsRow.lt hStd.out.2.1 g2 rfl).2; have := hb7.size; omega
        have hngr : gr ≠ g2 := by omega
        clear hv8 hgg8 hStd hBd HRd hgrd hbb hb7 hb8 hs7 hv7 hB7 hg80
        generalize hTd : dg D' N 1 = t'
        go_wp2_with fail
        go_loopw [99] (fun i wr => ∃ k : Nat, k ≤ d ∧ i = .int .i64 (k : Int) ∧ Hid (St w.heap.size wr g1 k1 g2 k2 N D' (qM d s N D D' k)) ∧ Kept (fun b => b = g2) w8 wr) (fun i _ => d - (intOf i).toNat)
        case atStart => exact ⟨0, Nat.zero_le _, rfl, hSt8, Kept.refl _ _⟩
        case round =>
          clear hSt8
          obtain ⟨k, hk, rfl, hStk, hKk⟩ := hrel
          by_cases hkd : k < d
          · have hki : (k : Int) < (d : Int) := by omega
            have cr : wr.cell? ⟨gr, k, none⟩ = some (.int .i64 (nd d s k : Int)) := (hKk.cell (p := ⟨gr, k, none⟩) hgr8 hngr).trans (HR8.out k hkd)
            have cw : wr.cell? ⟨g8, k, none⟩ = some (.string (pr D' N (nd d s k))) := (hKk.cell (p := ⟨g8, k, none⟩) hg81 hng8).trans (HW.out k hkd)
            have hin : nd d s k < N := by have := (nd_inner d s k hkd (by rw [HN.out]; exact hsN)).2; rw [HN.out] at this; exact this
            have cs := (hStk.out.2.1.cellAt (nd d s k) (by omega)).trans (strs_at N _ (nd d s k) hin)
            have fs := hStk.out.2.1.frozenAt (nd d s k)
            have hSt9 : Hid (St w.heap.size (wr.setCell ⟨g2, nd d s k, none⟩ (.string (pr D' N (nd d s k)))) g1 k1 g2 k2 N D' (qM d s N D D' (k + 1))) := hStk.out.pair (nd d s k) (pr D' N (nd d s k))
            have hK9 : Kept (fun b => b = g2) w8 (wr.setCell ⟨g2, nd d s k, none⟩ (.string (pr D' N (nd d s k)))) := hKk.setCell (.inl rfl) _ _
            clear hStk hKk
            generalize nd d s k = M at cr cw cs fs hin hSt9 hK9
            have hMi : (M : Int) < (N : Int) := by omega
            generalize pr D' N M = PX at cw hSt9 hK9
            generalize qM d s N D D' k M = PY at cs
            go_wp2_with fail
            go_roundw
            case rel => exact ⟨k + 1, hkd, by go_num, hSt9, hK9⟩
            case measure => simp [intOf]; omega
          · have hki : (d : Int) ≤ (k : Int) := by omega
            have hkd2 : k = d := by omega
            have hSt10 : Hid (St w.heap.size wr g1 k1 g2 k2 N D' (bP N D')) := by
              rw [hkd2] at hStk
              exact hStk.out.congr (fun i hi => qM_end d s N D D' HN.out d2 hsN HD2.out i hi)
            have hB10 := hKk.below hB8 hB8.size (fun i hi => by rw [hi]; exact hg2w)
            clear hStk hKk hkd2
            go_wp2_with fail
            go_roundw
            case rel => exact ⟨j + 1, D', hlt, by rw [hTd], by go_num, hSt10, hB10⟩
            case measure => simp [intOf]; omega
      · have hji : (m : Int) ≤ (j : Int) := by omega
        have hbu := build_any (some ⟨g1, 0, none⟩) N k1 (by omega) D wr hSt.out.sa1 (hT.below hB hT.lt)
        obtain ⟨z1, z2, z3, z4⟩ := built d N D HN.out d1 d2 hSt.out.2.2.1
        rw [z1, z2, z3] at hbu
        have HBU : Hid _ := hbu
        clear hbu z1 z2 z3 z4
        generalize dg D N 1 = t at HBU ⊢
        go_wp2_with fail
        refine Calls.mono HBU.out ?_
        rintro e w5 ⟨v5, rfl, hv5, hb5⟩
        obtain ⟨a5, k5, rfl, hs5⟩ := Sa.owns hv5
        have HE : Hid _ := lequal_same a5 (some ⟨g2, 0, none⟩) N k5 k2 (bP N D) w5 (by omega) hs5 (hSt.out.below hb5).sa2
        have hB5 := hB.trans (hb5.mono hB.size)
        clear HBU hs5 hv5 hb5
        go_wp2_with fail
        refine Calls.mono HE.out ?_
        rintro e w6 ⟨rfl, hb6⟩
        go_wp2_with fail
        go_ret
        exact ⟨rfl, hB5.trans (hb6.mono hB5.size)⟩
end Go.Proofs.YtbbgagpompgagaaDoor
