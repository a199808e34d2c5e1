/- What the Go function ShaPieces answers: true, for every text and every list of numbers. -/
import Derived.Test.YtbcjidoddhppiaaDoorWakes
import Derived.OpenShut
namespace Go.Proofs.YtbcjidoddhppiaaDoor
open Go.RowKit Go.PlainAid
set_option linter.unusedVariables false

/-- What the walk is told of a slice of integers that came in: it is nil; or it leads to a row of 'cap' cells, the numbers 'zs', each fitting its kind. -/
def IsRow (k : IntKind) (w : World) (a : Option Addr) (len cap : Nat) (zs : List Int) : Prop :=
  (a = none ∧ len = 0 ∧ cap = 0 ∧ zs = []) ∨
  ∃ x, a = some x ∧ len ≤ cap ∧ cap ≤ maxLen ∧ zs.length = cap ∧ (∀ i, i < zs.length → w.cell? (x.add i) = some (.int k (zs.getD i 0))) ∧ ∀ n ∈ zs, (Lit.int k n).wf = true
theorem IsRow.told {w : World} {a : Option Addr} {len cap : Nat} {zs : List Int} (h : IsRow .i64 w a len cap zs) : len ≤ cap ∧ cap ≤ 9223372036854775807 ∧ (len = 0 ∨ ∃ b o, a = some ⟨b, o, none⟩ ∧ b < w.heap.size ∧ ∀ i, i < len → w.cell? ⟨b, o + i, none⟩ = some (.int .i64 (zs.getD i 0))) := by
  rcases h with ⟨_, rfl, rfl, _⟩ | ⟨x, rfl, h1, h2, h3, h4, _⟩
  · exact ⟨Nat.le_refl _, by omega, .inl rfl⟩
  · refine ⟨h1, by unfold maxLen at h2; omega, ?_⟩
    by_cases h0 : len = 0
    · exact .inl h0
    · obtain ⟨b, off, rfl, hc⟩ := ints_at h4 (by omega)
      exact .inr ⟨b, off, rfl, cell_lt (hc 0 (by omega)), fun i hi => hc i (by omega)⟩
theorem hid' {p : Prop} (h : p) : Hid p := h

set_option maxHeartbeats 2000000 in
set_option maxRecDepth 20000 in
theorem piecesLaw_walk (s : ByteArray) (a : Option Addr) (len cap : Nat) (zs : List Int) (w : World) (hs : s.size ≤ maxLen) (hrow : IsRow .i64 w a len cap zs) (ht : Tabs w) :
    Calls Tryd.prog 5 #[.string s, .slice a len cap] w fun e w' => e = .returned (.bool true) ∧ Below w.heap.size w w' := by
  unfold maxLen at hs
  obtain ⟨hlc, hcm, hcells⟩ := hrow.told
  have h2 := ht.lt
  have HC := hid' hcells
  clear hcells hrow
  obtain ⟨L, hL, hL1, hL2⟩ : ∃ L : Nat, min (len : Int) 40 = (L : Int) ∧ L ≤ len ∧ L ≤ 40 := ⟨min len 40, by omega, by omega, by omega⟩
  have hL0 : (0 : Int) ≤ (L : Int) := by omega
  have hL3 : (L : Int) ≤ (cap : Int) := by omega
  have hL4 : (L : Int) ≤ (len : Int) := by omega
  go_enter Tryd.func5, Tryd.ntmps5
  go_wp2_with fail
  have hA : (s.extract 0 (min (s.size : Int) 2000).toNat).size ≤ 2000 := by rw [ByteArray.size_extract]; omega
  generalize s.extract 0 (min (s.size : Int) 2000).toNat = A at hA ⊢
  clear hs
  refine (new_any w).mono ?_
  rintro e w1 ⟨rfl, hH1, hb1⟩
  have ht1 := ht.below hb1 h2
  obtain ⟨G, hG⟩ : ∃ G, w.heap.size = G := ⟨_, rfl⟩
  rw [hG] at hH1 hb1 h2 ⊢
  have HG : Hid (w.heap.size = G) := hG
  clear hG ht
  go_wp2_with fail
  go_loopw [6, 22] (fun vp vi wr => ∃ i p : Nat, i ≤ L ∧ p ≤ A.size ∧ vi = .int .i64 i ∧ vp = .int .i64 p ∧ HashAt wr G (A.extract 0 p) ∧ Tabs wr ∧ Below G w wr) (fun _ vi _ => ((L : Int) - intOf vi).toNat)
  case atStart => exact ⟨0, 0, by omega, by omega, rfl, rfl, by rw [show A.extract 0 0 = ⟨#[]⟩ from by have h := cut_none A ⟨#[]⟩; rw [none_join] at h; exact h]; exact hH1, ht1, hb1⟩
  case round =>
    clear hH1 ht1 hb1
    obtain ⟨i, p, hi, hp, rfl, rfl, hH, ht, hb⟩ := hrel
    by_cases hlt : i < L
    · rcases HC.out with h0 | ⟨b, o, rfl, hbl, hcell⟩
      · omega
      · have hltI : (i : Int) < (L : Int) := by omega
        have ci : wr.cell? ⟨b, o + i, none⟩ = some (.int .i64 (zs.getD i 0)) := (hb.cell (p := ⟨b, o + i, none⟩) (by rw [← HG.out]; exact hbl)).trans (hcell i (by omega))
        obtain ⟨z, hz⟩ : ∃ z, zs.getD i 0 = z := ⟨_, rfl⟩
        rw [hz] at ci
        obtain ⟨k, hk, hk1⟩ : ∃ k : Nat, min (max 0 z % 100) ((A.size : Int) - (p : Int)) = (k : Int) ∧ p + k ≤ A.size := ⟨(min (max 0 z % 100) ((A.size : Int) - (p : Int))).toNat, by omega, by omega⟩
        have hHp := hH
        have hAs : A.extract 0 p ++ A.extract p (p + k) = A.extract 0 (p + k) := cut_join A p (p + k) (by omega) hk1
        have hW := write_any G (A.extract 0 p) (A.extract p (p + k)) (by simp only [ByteArray.size_extract]; omega) wr hH ht (by omega)
        rw [hAs] at hW
        obtain ⟨q, hq⟩ : ∃ q, A.extract p (p + k) = q := ⟨_, rfl⟩
        obtain ⟨Q, hQ⟩ : ∃ Q, A.extract 0 (p + k) = Q := ⟨_, rfl⟩
        have hQs : Q.size = p + k := by rw [← hQ, ByteArray.size_extract]; omega
        rw [hq, hQ] at hW
        have hQ1 : Q.size ≤ 2000 := by omega
        have HQS := hid' hQs
        have HQ := hid' hQ
        clear hz hcell hAs hHp hQs
        have p0 : (0 : Int) ≤ (p : Int) := by omega
        have p1 : (p : Int) ≤ (p : Int) + (k : Int) := by omega
        have p2 : (p : Int) + (k : Int) ≤ (A.size : Int) := by omega
        have t1 : ((p : Int) + (k : Int)).toNat = p + k := by omega
        have p3 : (0 : Int) ≤ (p : Int) + (k : Int) := by omega
        go_wp2_with fail
        refine hW.mono ?_
        rintro e w2 ⟨rfl, hH2, ho2⟩
        have ht2 := ht.only ho2 (by omega)
        have hb2 : Below G w w2 := Below.only hb ho2 (Nat.le_of_lt hH.lt) (Nat.le_refl _)
        clear hW hH ht hb ho2
        have c1 := sum_any G Q (by omega) w2.drew hH2 ht2
        have c2 := fun w' (h : Tabs w') => shaSum_any Q (by omega) w' h
        generalize digest Q = D at c1 c2
        have C2 := hid' c2
        have C1 := hid' c1
        clear c1 c2
        go_wp2_with fail
        refine wp_region_noPanic ?_
        refine wp_region_held_drew (S := fun _ => True) (by kernel_rfl) trivial (fun hHeld => ?_)
        refine wpAnyH_take (i := 0) (v := ?_) rfl (by kernel_rfl) (by kernel_rfl) (by kernel_rfl) (fun _ _ _ h => h) (Or.inl ⟨by rfl, ?_⟩) (by assumption) ?_
        rotate_left
        · intro w hSw; go_simp; try with_reducible rfl
        go_simp
        refine wpAnyH_take (i := 2) (v := ?_) rfl (by kernel_rfl) (by kernel_rfl) (by kernel_rfl) (fun _ _ _ h => h) (Or.inl ⟨by rfl, ?_⟩) (by assumption) ?_
        rotate_left
        · intro w hSw; go_simp; try with_reducible rfl
        go_simp
        refine wpAnyH_take (i := 3) (v := ?_) rfl (by kernel_rfl) (by kernel_rfl) (by kernel_rfl) (fun _ _ _ h => h) (Or.inl ⟨by rfl, ?_⟩) (by assumption) ?_
        rotate_left
        · intro w hSw; go_simp; try with_reducible rfl
        go_simp
        refine wpAnyH_take (i := 4) (v := ?_) rfl (by kernel_rfl) (by kernel_rfl) (by kernel_rfl) (fun _ _ _ h => h) (Or.inl ⟨by rfl, ?_⟩) (by assumption) ?_
        rotate_left
        · intro w hSw; go_simp; try with_reducible rfl
        go_simp
        refine wpAnyH_ready (rs := [1]) (by kernel_rfl) (by simp) (AllReadyH.cons rfl (fun K hK => ?_) AllReadyH.nil)
        go_simp
        go_at_call 17
        refine C1.out.mono ?_
        rintro e w3 ⟨rfl, hc3⟩
        have hH3 := HashAt.below (w := w2.drew) hH2 hc3 hH2.lt
        have ht3 : Tabs w3 := Tabs.below (w := w2.drew) ht2 hc3 (Tabs.lt (w := w2.drew) ht2)
        have hb3 : Below G w w3 := hb2.drew.trans (hc3.mono (Nat.le_of_lt hH2.lt))
        clear C1 hc3
        refine hK.out _ _ trivial (fun hHeld => ?_)
        clear hK K
        refine wpAnyH_ready (rs := [5]) (by kernel_rfl) (by simp) (AllReadyH.cons rfl (fun K hK => ?_) AllReadyH.nil)
        go_simp
        go_at_call 9
        refine (C2.out w3 ht3).mono ?_
        rintro e w4 ⟨rfl, hc4⟩
        have hH4 := hH3.below hc4 hH3.lt
        have ht4 := ht3.below hc4 ht3.lt
        have hb4 : Below G w w4 := hb3.trans (hc4.mono (Nat.le_of_lt hH3.lt))
        clear C2 hc4 hH3 ht3 hb3
        refine hK.out _ _ trivial (fun hHeld => ?_)
        clear hK K
        have cL := len_any G Q w4 hH4
        rw [HQS.out, show ((p + k : Nat) : Int) = (p : Int) + (k : Int) by omega] at cL
        have CL := hid' cL
        clear cL
        refine wpAnyH_take (i := 6) (v := ?_) rfl (by kernel_rfl) (by kernel_rfl) (by kernel_rfl) (fun _ _ _ h => h) (Or.inl ⟨by rfl, ?_⟩) (by assumption) ?_
        rotate_left
        · intro w hSw; go_simp; try with_reducible rfl
        go_simp
        refine wpAnyH_take (i := 7) (v := ?_) rfl (by kernel_rfl) (by kernel_rfl) (by kernel_rfl) (fun _ _ _ h => h) (Or.inl ⟨by rfl, ?_⟩) (by assumption) ?_
        rotate_left
        · intro w hSw; go_simp; try with_reducible rfl
        go_simp
        refine wpAnyH_take (i := 8) (v := ?_) rfl (by kernel_rfl) (by kernel_rfl) (by kernel_rfl) (fun _ _ _ h => h) (Or.inl ⟨by rfl, ?_⟩) (by assumption) ?_
        rotate_left
        · intro w hSw; go_simp; try with_reducible rfl
        go_simp
        refine wpAnyH_take (i := 10) (v := ?_) rfl (by kernel_rfl) (by kernel_rfl) (by kernel_rfl) (fun _ _ _ h => h) (Or.inl ⟨by rfl, ?_⟩) (by assumption) ?_
        rotate_left
        · intro w hSw; go_simp; try with_reducible rfl
        go_simp
        refine wpAnyH_ready (rs := [9]) (by kernel_rfl) (by simp) (AllReadyH.cons rfl (fun K hK => ?_) AllReadyH.nil)
        go_simp
        go_at_call 18
        refine CL.out.mono ?_
        rintro e w5 ⟨rfl, hw5⟩
        rw [hw5]
        clear hw5
        refine hK.out _ _ trivial (fun hHeld => ?_)
        clear hK K
        refine wpAnyH_take (i := 11) (v := ?_) rfl (by kernel_rfl) (by kernel_rfl) (by kernel_rfl) (fun _ _ _ h => h) (Or.inl ⟨by rfl, ?_⟩) (by assumption) ?_
        rotate_left
        · intro w hSw; go_simp; try with_reducible rfl
        go_simp
        refine wpAnyH_take (i := 12) (v := ?_) rfl (by kernel_rfl) (by kernel_rfl) (by kernel_rfl) (fun _ _ _ h => h) (Or.inl ⟨by rfl, ?_⟩) (by assumption) ?_
        rotate_left
        · intro w hSw; go_simp; try with_reducible rfl
        go_simp
        refine wpAnyH_done (by kernel_rfl) ?_ _
        refine NoPanic.normal ?_
        clear CL
        go_wp2_with fail
        go_roundw
        case rel => exact ⟨i + 1, p + k, by omega, hk1, by go_num, by go_num, by rw [HQ.out]; exact hH4, ht4, hb4⟩
        case measure => simp [intOf]; omega
    · have hiL : i = L := by omega
      subst hiL
      have hAs : A.extract 0 p ++ A.extract p A.size = A := by rw [cut_join A p A.size hp (Nat.le_refl _), cut_all]
      have hW := write_any G (A.extract 0 p) (A.extract p A.size) (by simp only [ByteArray.size_extract]; omega) wr hH ht (by omega)
      rw [hAs] at hW
      obtain ⟨q, hq⟩ : ∃ q, A.extract p A.size = q := ⟨_, rfl⟩
      rw [hq] at hW
      have p0 : (0 : Int) ≤ (p : Int) := by omega
      have p2 : (p : Int) ≤ (A.size : Int) := by omega
      have c1 := fun w' (h : HashAt w' G A) (h' : Tabs w') => sum_any G A (by omega) w' h h'
      have c2 := fun w' (h : Tabs w') => shaSum_any A (by omega) w' h
      generalize digest A = D at c1 c2
      have C1 := hid' c1
      have C2 := hid' c2
      clear c1 c2 hAs
      go_wp2_with fail
      refine hW.mono ?_
      rintro e w2 ⟨rfl, hH2, ho2⟩
      have ht2 := ht.only ho2 (by omega)
      have hb2 : Below G w w2 := Below.only hb ho2 (Nat.le_of_lt hH.lt) (Nat.le_refl _)
      clear hW hH ht hb ho2
      go_wp2_with fail
      refine (goes_any w2 ht2).mono ?_
      rintro e w3 ⟨rfl, hc3⟩
      have hH3 := hH2.below hc3 hH2.lt
      have ht3 := ht2.below hc3 ht2.lt
      have hb3 : Below G w w3 := hb2.trans (hc3.mono (Nat.le_of_lt hH2.lt))
      clear hH2 ht2 hb2 hc3
      go_wp2_with fail
      refine (C1.out w3 hH3 ht3).mono ?_
      rintro e w4 ⟨rfl, hc4⟩
      have hH4 := hH3.below hc4 hH3.lt
      have ht4 := ht3.below hc4 ht3.lt
      have hb4 : Below G w w4 := hb3.trans (hc4.mono (Nat.le_of_lt hH3.lt))
      clear hH3 ht3 hb3 hc4
      go_wp2_with fail
      refine (C2.out w4 ht4).mono ?_
      rintro e w5 ⟨rfl, hc5⟩
      have hH5 := hH4.below hc5 hH4.lt
      have hb5 : Below G w w5 := hb4.trans (hc5.mono (Nat.le_of_lt hH4.lt))
      clear hH4 ht4 hb4 hc5
      go_wp2_with fail
      refine (len_any G A w5 hH5).mono ?_
      rintro e w6 ⟨rfl, hw6⟩
      rw [hw6]
      clear hw6
      go_wp2_with fail
      go_ret
      exact ⟨rfl, by rw [HG.out]; exact hb5⟩
end Go.Proofs.YtbcjidoddhppiaaDoor
