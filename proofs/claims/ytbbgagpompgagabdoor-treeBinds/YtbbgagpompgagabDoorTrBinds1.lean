/- What the Go function TreeBinds answers: true, for every two rows of texts and every slot. -/
import Derived.Test.YtbbgagpompgagabDoorTrClash
import Derived.Test.YtbbgagpompgagabDoorTrBuildsLaw
namespace Go.Proofs.YtbbgagpompgagabDoor
open Go.RowKit Go.PlainAid Go.Shelf
set_option linter.unusedVariables false

set_option maxRecDepth 20000 in
set_option maxHeartbeats 8000000 in
theorem treeBinds_nn (len cap : Nat) (lenb capb : Nat) (s : Int) (w : World) (hA : TsArg w none len cap) (hB : TsArg w none lenb capb) (hT : Tabs w) : Calls Tryd.prog 3 #[.slice none len cap, .slice none lenb capb, .int .i64 s] w fun e w' => e = .returned (.bool true) ∧ Below w.heap.size w w' := by
  obtain ⟨p, h1, h2, h3, h4, h5⟩ := hA
  obtain ⟨q, g1, g2, g3, g4, g5⟩ := hB
  obtain ⟨m, hm, hm1, hm2⟩ : ∃ m : Nat, (if (5 : Int) < (len : Int) then (5 : Int) else (len : Int)) = (m : Int) ∧ m ≤ len ∧ m ≤ 5 := ⟨min len 5, by split <;> omega, by omega, by omega⟩
  have hm' : min (len : Int) 5 = (m : Int) := by rw [← hm]; split <;> omega
  have hmc : (m : Int) ≤ (cap : Int) := by omega
  obtain ⟨n, hn, hn1, hn2⟩ : ∃ n : Nat, (if (5 : Int) < (lenb : Int) then (5 : Int) else (lenb : Int)) = (n : Int) ∧ n ≤ lenb ∧ n ≤ 5 := ⟨min lenb 5, by split <;> omega, by omega, by omega⟩
  have hn' : min (lenb : Int) 5 = (n : Int) := by rw [← hn]; split <;> omega
  have hnc : (n : Int) ≤ (capb : Int) := by omega
  have HP : Hid (Sa w none m p) := h4.cut hm1
  have HQ : Hid (Sa w none n q) := g4.cut hn1
  have HZ : Hid (∀ i, i < m → (p i).size ≤ 148000000000000) := fun i hi => by have := h5 i (by omega); omega
  have HY : Hid (∀ i, i < n → (q i).size ≤ 148000000000000) := fun i hi => by have := g5 i (by omega); omega
  have hBr : Below w.heap.size w w := Below.refl _ _
  clear h4 h5 g4 g5
  have hc0 := h3 rfl
  have hl0 : len = 0 := by omega
  have hm0 : m = 0 := by omega
  subst hc0
  subst hl0
  subst hm0
  have hmin : min (0 : Int) 5 = 0 := rfl
  clear h3 hm hm' hmc h1 h2 hm1 hm2
  have hc1 := g3 rfl
  have hl1 : lenb = 0 := by omega
  have hn0 : n = 0 := by omega
  subst hc1
  subst hl1
  subst hn0
  clear g3 hn hn' hnc g1 g2 hn1 hn2
  go_enter Tryd.func3, Tryd.ntmps3
  go_wp2_with fail
  go_region
  go_wp2_with fail
  have hc := Clash_any s none none 0 0 0 0 (by omega) (by omega) p q w.drew HP.out HQ.out HZ.out hT
  refine hc.mono ?_
  clear hc
  rintro e w1 ⟨x, y, ok, rfl, hcl, hb1⟩
  have hB1 : Below w.heap.size w w1 := hBr.drew.trans hb1
  have hT1 := hT.below hB1 hT.lt
  have HP1 : Hid (Sa w1 none 0 p) := HP.out.later hB1
  have HQ1 : Hid (Sa w1 none 0 q) := HQ.out.later hB1
  clear hb1 hBr HP HQ
  rcases hcl with hcl | hcl
  · obtain ⟨rfl, rfl, rfl, hno⟩ := hcl
    have HNO : Hid _ := hno
    clear hno
    go_wp2_with fail
    refine (lwakes_any w1 hT1).mono ?_
    rintro e w3 ⟨rfl, hb3⟩
    have hB3 := hB1.trans (hb3.mono hB1.size)
    go_wp2_with fail
    go_region
    go_wp2_with fail
    go_ret
    exact ⟨rfl, hB3.drew⟩
  · have := hcl.2.1
    have := hcl.2.2.1
    omega
set_option maxRecDepth 20000 in
set_option maxHeartbeats 8000000 in
theorem treeBinds_ns (len cap : Nat) (pb : Addr) (lenb capb : Nat) (s : Int) (w : World) (hA : TsArg w none len cap) (hB : TsArg w (some pb) lenb capb) (hT : Tabs w) : Calls Tryd.prog 3 #[.slice none len cap, .slice (some pb) lenb capb, .int .i64 s] w fun e w' => e = .returned (.bool true) ∧ Below w.heap.size w w' := by
  obtain ⟨p, h1, h2, h3, h4, h5⟩ := hA
  obtain ⟨q, g1, g2, g3, g4, g5⟩ := hB
  obtain ⟨m, hm, hm1, hm2⟩ : ∃ m : Nat, (if (5 : Int) < (len : Int) then (5 : Int) else (len : Int)) = (m : Int) ∧ m ≤ len ∧ m ≤ 5 := ⟨min len 5, by split <;> omega, by omega, by omega⟩
  have hm' : min (len : Int) 5 = (m : Int) := by rw [← hm]; split <;> omega
  have hmc : (m : Int) ≤ (cap : Int) := by omega
  obtain ⟨n, hn, hn1, hn2⟩ : ∃ n : Nat, (if (5 : Int) < (lenb : Int) then (5 : Int) else (lenb : Int)) = (n : Int) ∧ n ≤ lenb ∧ n ≤ 5 := ⟨min lenb 5, by split <;> omega, by omega, by omega⟩
  have hn' : min (lenb : Int) 5 = (n : Int) := by rw [← hn]; split <;> omega
  have hnc : (n : Int) ≤ (capb : Int) := by omega
  have HP : Hid (Sa w none m p) := h4.cut hm1
  have HQ : Hid (Sa w (some pb) n q) := g4.cut hn1
  have HZ : Hid (∀ i, i < m → (p i).size ≤ 148000000000000) := fun i hi => by have := h5 i (by omega); omega
  have HY : Hid (∀ i, i < n → (q i).size ≤ 148000000000000) := fun i hi => by have := g5 i (by omega); omega
  have hBr : Below w.heap.size w w := Below.refl _ _
  clear h4 h5 g4 g5
  have hc0 := h3 rfl
  have hl0 : len = 0 := by omega
  have hm0 : m = 0 := by omega
  subst hc0
  subst hl0
  subst hm0
  have hmin : min (0 : Int) 5 = 0 := rfl
  clear h3 hm hm' hmc h1 h2 hm1 hm2
  clear g3
  go_enter Tryd.func3, Tryd.ntmps3
  go_wp2_with fail
  go_region
  go_wp2_with fail
  have hc := Clash_any s none (some pb) 0 n 0 capb (by omega) (by omega) p q w.drew HP.out HQ.out HZ.out hT
  refine hc.mono ?_
  clear hc
  rintro e w1 ⟨x, y, ok, rfl, hcl, hb1⟩
  have hB1 : Below w.heap.size w w1 := hBr.drew.trans hb1
  have hT1 := hT.below hB1 hT.lt
  have HP1 : Hid (Sa w1 none 0 p) := HP.out.later hB1
  have HQ1 : Hid (Sa w1 (some pb) n q) := HQ.out.later hB1
  clear hb1 hBr HP HQ
  rcases hcl with hcl | hcl
  · obtain ⟨rfl, rfl, rfl, hno⟩ := hcl
    have HNO : Hid _ := hno
    clear hno
    go_wp2_with fail
    refine (lwakes_any w1 hT1).mono ?_
    rintro e w3 ⟨rfl, hb3⟩
    have hB3 := hB1.trans (hb3.mono hB1.size)
    by_cases hz : n = 0
    · subst hz
      go_wp2_with fail
      go_region
      go_wp2_with fail
      go_ret
      exact ⟨rfl, hB3.drew⟩
    · have l1 : (0 : Int) ≠ (n : Int) := by omega
      have l2 : ((0 : Int) != (n : Int)) = true := bne_iff_ne.2 l1
      have l3 : ((0 : Int) == (n : Int)) = false := beq_eq_false_iff_ne.2 l1
      go_wp2_with fail
      go_region
      go_wp2_with fail
      go_ret
      exact ⟨rfl, hB3.drew⟩
  · have := hcl.2.1
    have := hcl.2.2.1
    omega
set_option maxRecDepth 20000 in
set_option maxHeartbeats 8000000 in
theorem treeBinds_sn (pa : Addr) (len cap : Nat) (lenb capb : Nat) (s : Int) (w : World) (hA : TsArg w (some pa) len cap) (hB : TsArg w none lenb capb) (hT : Tabs w) : Calls Tryd.prog 3 #[.slice (some pa) len cap, .slice none lenb capb, .int .i64 s] w fun e w' => e = .returned (.bool true) ∧ Below w.heap.size w w' := by
  obtain ⟨p, h1, h2, h3, h4, h5⟩ := hA
  obtain ⟨q, g1, g2, g3, g4, g5⟩ := hB
  obtain ⟨m, hm, hm1, hm2⟩ : ∃ m : Nat, (if (5 : Int) < (len : Int) then (5 : Int) else (len : Int)) = (m : Int) ∧ m ≤ len ∧ m ≤ 5 := ⟨min len 5, by split <;> omega, by omega, by omega⟩
  have hm' : min (len : Int) 5 = (m : Int) := by rw [← hm]; split <;> omega
  have hmc : (m : Int) ≤ (cap : Int) := by omega
  obtain ⟨n, hn, hn1, hn2⟩ : ∃ n : Nat, (if (5 : Int) < (lenb : Int) then (5 : Int) else (lenb : Int)) = (n : Int) ∧ n ≤ lenb ∧ n ≤ 5 := ⟨min lenb 5, by split <;> omega, by omega, by omega⟩
  have hn' : min (lenb : Int) 5 = (n : Int) := by rw [← hn]; split <;> omega
  have hnc : (n : Int) ≤ (capb : Int) := by omega
  have HP : Hid (Sa w (some pa) m p) := h4.cut hm1
  have HQ : Hid (Sa w none n q) := g4.cut hn1
  have HZ : Hid (∀ i, i < m → (p i).size ≤ 148000000000000) := fun i hi => by have := h5 i (by omega); omega
  have HY : Hid (∀ i, i < n → (q i).size ≤ 148000000000000) := fun i hi => by have := g5 i (by omega); omega
  have hBr : Below w.heap.size w w := Below.refl _ _
  clear h4 h5 g4 g5
  have hc1 := g3 rfl
  have hl1 : lenb = 0 := by omega
  have hn0 : n = 0 := by omega
  subst hc1
  subst hl1
  subst hn0
  have hmin : min (0 : Int) 5 = 0 := rfl
  clear g3 hn hn' hnc g1 g2 hn1 hn2
  clear h3
  go_enter Tryd.func3, Tryd.ntmps3
  go_wp2_with fail
  go_region
  go_wp2_with fail
  have hc := Clash_any s (some pa) none m 0 cap 0 (by omega) (by omega) p q w.drew HP.out HQ.out HZ.out hT
  refine hc.mono ?_
  clear hc
  rintro e w1 ⟨x, y, ok, rfl, hcl, hb1⟩
  have hB1 : Below w.heap.size w w1 := hBr.drew.trans hb1
  have hT1 := hT.below hB1 hT.lt
  have HP1 : Hid (Sa w1 (some pa) m p) := HP.out.later hB1
  have HQ1 : Hid (Sa w1 none 0 q) := HQ.out.later hB1
  clear hb1 hBr HP HQ
  rcases hcl with hcl | hcl
  · obtain ⟨rfl, rfl, rfl, hno⟩ := hcl
    have HNO : Hid _ := hno
    clear hno
    go_wp2_with fail
    refine (lwakes_any w1 hT1).mono ?_
    rintro e w3 ⟨rfl, hb3⟩
    have hB3 := hB1.trans (hb3.mono hB1.size)
    by_cases hz : m = 0
    · subst hz
      go_wp2_with fail
      go_region
      go_wp2_with fail
      go_ret
      exact ⟨rfl, hB3.drew⟩
    · have l1 : (m : Int) ≠ (0 : Int) := by omega
      have l2 : ((m : Int) != (0 : Int)) = true := bne_iff_ne.2 l1
      have l3 : ((m : Int) == (0 : Int)) = false := beq_eq_false_iff_ne.2 l1
      go_wp2_with fail
      go_region
      go_wp2_with fail
      go_ret
      exact ⟨rfl, hB3.drew⟩
  · have := hcl.2.1
    have := hcl.2.2.1
    omega
end Go.Proofs.YtbbgagpompgagabDoor
