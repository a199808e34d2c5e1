/- Two ways from one top to unlike leaves. -/
import Derived.Test.YtbbgagpompgagabDoorTrBuild
namespace Go.Proofs.YtbbgagpompgagabDoor
open Go.RowKit Go.PlainAid Go.Shelf
set_option linter.unusedVariables false

theorem clash_first (n : Nat) (p q : Nat → ByteArray) (h : ∃ i, i < n ∧ p i ≠ q i) : ∃ f, f < n ∧ p f ≠ q f ∧ ∀ i, i < f → p i = q i := by
  induction n with
  | zero => obtain ⟨i, hi, _⟩ := h; omega
  | succ n ih =>
    by_cases hc : ∃ i, i < n ∧ p i ≠ q i
    · obtain ⟨f, h1, h2, h3⟩ := ih hc
      exact ⟨f, by omega, h2, h3⟩
    · have hall : ∀ i, i < n → p i = q i := fun i hi => Classical.byContradiction fun e => hc ⟨i, hi, e⟩
      obtain ⟨i, hi, hne⟩ := h
      by_cases e : i = n
      · subst e; exact ⟨i, hi, hne, hall⟩
      · exact absurd (hall i (by omega)) hne
theorem fol_part {d s : Nat} {p : Nat → ByteArray} {top t : ByteArray} {k n : Nat} (h : fol d s p top n = some t) (hk : k ≤ n) : ∃ u, fol d s p top k = some u := by
  cases e : fol d s p top k with
  | none => rw [fol_none' e hk] at h; cases h
  | some u => exact ⟨u, rfl⟩
/-- Both ways lead to a leaf, and the leaves are unlike. -/
def apart (n : Nat) (s : Int) (p q : Nat → ByteArray) (top : ByteArray) : Prop := folE n s p top = 0 ∧ folE n s q top = 0 ∧ folS n s p top ≠ folS n s q top
instance (n : Nat) (s : Int) (p q : Nat → ByteArray) (top : ByteArray) : Decidable (apart n s p q top) := by unfold apart; infer_instance
theorem apart_first {n : Nat} {s : Int} {p q : Nat → ByteArray} {top : ByteArray} (h : apart n s p q top) : ∃ f, f < n ∧ p f ≠ q f ∧ (∀ i, i < f → p i = q i) ∧ nH (p f) = nH (q f) ∧ (p f).size = 64 ∧ (q f).size = 64 := by
  obtain ⟨h1, h2, h3⟩ := h
  have hok : okS n s := by
    by_cases e : okS n s
    · exact e
    · unfold folE at h1; rw [if_neg e] at h1; omega
  unfold folE at h1 h2
  unfold folS at h3
  rw [if_pos hok] at h1 h2
  rw [if_pos hok, if_pos hok] at h3
  cases e1 : fol n s.toNat p top n with
  | none => rw [e1] at h1; simp [oE] at h1
  | some x =>
  cases e2 : fol n s.toNat q top n with
  | none => rw [e2] at h2; simp [oE] at h2
  | some y =>
  rw [e1, e2] at h3
  have hne : ∃ i, i < n ∧ p i ≠ q i := Classical.byContradiction fun e => h3 (by
    have := fol_congr n s.toNat p q top n (fun i hi => Classical.byContradiction fun e' => e ⟨i, hi, e'⟩)
    rw [e1, e2] at this
    rw [this])
  obtain ⟨f, f1, f2, f3⟩ := clash_first n p q hne
  obtain ⟨u, hu⟩ := fol_part e1 (k := f + 1) f1
  obtain ⟨v, hv⟩ := fol_part e2 (k := f + 1) f1
  obtain ⟨a1, a2, -⟩ := fol_inv hu
  obtain ⟨b1, b2, -⟩ := fol_inv hv
  rw [fol_congr n s.toNat p q top f f3] at a2
  exact ⟨f, f1, f2, f3, Option.some.inj (a2.symm.trans b2), a1, b1⟩
/-- What Clash tells. -/
def clashed (n m : Nat) (s : Int) (p q : Nat → ByteArray) (x y : ByteArray) (ok : Bool) : Prop :=
  (ok = false ∧ x = noB ∧ y = noB ∧ ¬ (n = m ∧ 1 ≤ n ∧ apart n s p q (nH (p 0)))) ∨
  (ok = true ∧ n = m ∧ 1 ≤ n ∧ apart n s p q (nH (p 0)) ∧ x ≠ y ∧ digest x = digest y ∧ x.size ≤ 100 ∧ y.size ≤ 100)
set_option maxRecDepth 20000 in
set_option maxHeartbeats 2000000 in
theorem clash_any (s : Int) (a b : Option Addr) (n m cap capb : Nat) (hn : n ≤ 62) (hm : m ≤ 62) (p q : Nat → ByteArray) (w : World) (hp : Sa w a n p) (hq : Sa w b m q) (hz : ∀ i, i < n → (p i).size ≤ 148000000000000) (ht : Tabs w) :
    Calls Tryd.prog 9 #[nodeV, .int .i64 s, .slice a n cap, .slice b m capb] w fun e w' => ∃ x y ok, e = .returned (.tuple #[.string x, .string y, .bool ok]) ∧ clashed n m s p q x y ok ∧ Below w.heap.size w w' := by
  have hBr : Below w.heap.size w w := Below.refl _ _
  by_cases h0 : n = 0
  · subst h0
    go_enter Tryd.func9, Tryd.ntmps9
    go_wp2_with fail
    go_ret3
    exact ⟨noB, noB, false, rfl, .inl ⟨rfl, rfl, rfl, fun h => by omega⟩, hBr⟩
  · have h00 : (n : Int) ≠ 0 := by omega
    have h01 : ((n : Int) == 0) = false := beq_eq_false_iff_ne.2 h00
    by_cases h1 : n = m
    · subst h1
      obtain ⟨pb, po, rfl, hcp⟩ := hp.cells (by omega)
      obtain ⟨qb, qo, rfl, hcq⟩ := hq.cells (by omega)
      have c0 : w.cell? ⟨pb, po, none⟩ = some (.string (p 0)) := hcp 0 (by omega)
      have hnode := node_any (p 0) (hz 0 (by omega)) w ht
      rw [show digest (⟨#[1]⟩ ++ p 0) = nH (p 0) from rfl] at hnode
      have HNode : Hid _ := hnode
      have HP : Hid (Sa w (some ⟨pb, po, none⟩) n p) := hp
      have HQ : Hid (Sa w (some ⟨qb, qo, none⟩) n q) := hq
      clear hnode hcp hcq hp hq hz
      go_enter Tryd.func9, Tryd.ntmps9
      go_wp2_with fail
      refine Calls.mono HNode.out ?_
      rintro e w1 ⟨rfl, hb1⟩
      clear HNode c0
      have ht1 := ht.below hb1 ht.lt
      have HP1 : Hid (Sa w1 (some ⟨pb, po, none⟩) n p) := HP.out.later hb1
      have HQ1 : Hid (Sa w1 (some ⟨qb, qo, none⟩) n q) := HQ.out.later hb1
      have f1 := tfollow_any (nH (p 0)) s (some ⟨pb, po, none⟩) n cap hn p w1 HP1.out ht1
      have hcl : ∀ x y ok, clashed n n s p q x y ok = ((ok = false ∧ x = noB ∧ y = noB ∧ ¬ (n = n ∧ 1 ≤ n ∧ apart n s p q (nH (p 0)))) ∨
        (ok = true ∧ n = n ∧ 1 ≤ n ∧ apart n s p q (nH (p 0)) ∧ x ≠ y ∧ digest x = digest y ∧ x.size ≤ 100 ∧ y.size ≤ 100)) := fun _ _ _ => rfl
      have hap := fun (h : apart n s p q (nH (p 0))) => apart_first h
      have F1 : Hid _ := f1
      have HAP : Hid _ := hap
      have HCL : Hid _ := hcl
      have HN1 : Hid (1 ≤ n) := by exact (Nat.pos_of_ne_zero h0 : 1 ≤ n)
      clear f1 hap hcl HP HQ
      generalize hTop : nH (p 0) = top at F1 HAP HCL ⊢
      go_wp2_with fail
      refine Calls.mono F1.out ?_
      rintro e w2 ⟨rfl, hb2⟩
      clear F1
      have hB2 := hb1.trans (hb2.mono hb1.size)
      have ht2 := ht1.below hb2 ht1.lt
      have HP2 : Hid (Sa w2 (some ⟨pb, po, none⟩) n p) := HP1.out.later hb2
      have HQ2 : Hid (Sa w2 (some ⟨qb, qo, none⟩) n q) := HQ1.out.later hb2
      have f2 := tfollow_any top s (some ⟨qb, qo, none⟩) n capb hn q w2 HQ2.out ht2
      have F2 : Hid _ := f2
      clear f2 HP1 HQ1 hb1 hb2 ht1
      unfold apart at HAP HCL
      generalize hS1 : folS n s p top = S1 at HAP HCL ⊢
      generalize hE1 : folE n s p top = E1 at HAP HCL ⊢
      generalize hS2 : folS n s q top = S2 at HAP HCL F2 ⊢
      generalize hE2 : folE n s q top = E2 at HAP HCL F2 ⊢
      clear hS1 hE1 hS2 hE2
      go_wp2_with fail
      refine Calls.mono F2.out ?_
      rintro e w3 ⟨rfl, hb3⟩
      clear F2
      have hB3 := hB2.trans (hb3.mono hB2.size)
      have HP3 : Hid (Sa w3 (some ⟨pb, po, none⟩) n p) := HP2.out.later hb3
      have HQ3 : Hid (Sa w3 (some ⟨qb, qo, none⟩) n q) := HQ2.out.later hb3
      clear HP2 HQ2 hb3 hB2 ht2 ht
      by_cases g1 : E1 = 0
      · rw [g1] at HAP HCL ⊢
        clear g1
        by_cases g2 : E2 = 0
        · rw [g2] at HAP HCL ⊢
          clear g2
          have hqb := teq S1 S2
          by_cases g3 : S1 = S2
          · rw [decide_eq_true g3] at hqb
            have G3 : Hid (S1 = S2) := g3
            clear g3
            go_wp2_with fail
            go_ret3
            exact ⟨noB, noB, false, rfl, by rw [HCL.out]; exact .inl ⟨rfl, rfl, rfl, fun h => h.2.2.2.2 G3.out⟩, hB3⟩
          · rw [decide_eq_false g3] at hqb
            obtain ⟨f, f1, f2, f3, f4, f5, f6⟩ := HAP.out ⟨rfl, rfl, g3⟩
            have G3 : Hid (S1 ≠ S2) := g3
            have F3 : Hid (∀ i, i < f → p i = q i) := f3
            clear g3 HAP f3
            go_wp2_with fail
            go_loopw [16] (fun i wr => ∃ k : Nat, k ≤ f ∧ i = .int .i64 (k : Int) ∧ Below w3.heap.size w3 wr) (fun i _ => f - (intOf i).toNat)
            case atStart => exact ⟨0, Nat.zero_le _, rfl, Below.refl _ _⟩
            case round =>
              obtain ⟨k, hk, rfl, hwr⟩ := hrel
              have hki : (k : Int) < (n : Int) := by omega
              obtain ⟨_, _, e1, d1⟩ := (HP3.out.later hwr).cells HN1.out
              cases e1
              obtain ⟨_, _, e2, d2⟩ := (HQ3.out.later hwr).cells HN1.out
              cases e2
              have ca := d1 k (by omega)
              have cb := d2 k (by omega)
              clear d1 d2
              by_cases hkf : k = f
              · rw [hkf] at ca cb hki ⊢
                have hx := teq (p f) (q f)
                rw [decide_eq_false f2] at hx
                generalize hX : p f = X at ca hx f2 f4 f5
                generalize hY : q f = Y at cb hx f2 f4 f6
                clear hX hY F3 HP3 HQ3
                go_wp2_with fail
                go_region
                go_wp2_with fail
                go_region
                go_wp2_with fail
                go_ret3
                refine ⟨_, _, true, rfl, ?_, hB3.trans (hwr.drew.drew.mono hB3.size)⟩
                rw [HCL.out]
                refine .inr ⟨rfl, trivial, HN1.out, ⟨trivial, trivial, G3.out⟩, fun h => f2 ?_, f4, ?_, ?_⟩
                · rw [← tcut_right ⟨#[1]⟩ X 1 65 rfl (by omega), h, tcut_right ⟨#[1]⟩ Y 1 65 rfl (by omega)]
                · rw [ByteArray.size_append]; show 1 + _ ≤ 100; omega
                · rw [ByteArray.size_append]; show 1 + _ ≤ 100; omega
              · have hx := teq (p k) (q k)
                rw [decide_eq_true (F3.out k (by omega))] at hx
                generalize p k = X at ca hx
                generalize q k = Y at cb hx
                clear F3 HP3 HQ3 HCL
                go_wp2_with fail
                go_region
                go_wp2_with fail
                go_roundw
                case rel => exact ⟨k + 1, by omega, by go_num, hwr.drew⟩
                case measure => simp [intOf]; omega
        · have g3 : (E2 != 0) = true := bne_iff_ne.2 g2
          have g4 : (E2 == 0) = false := beq_eq_false_iff_ne.2 g2
          go_wp2_with fail
          go_ret3
          exact ⟨noB, noB, false, rfl, by rw [HCL.out]; exact .inl ⟨rfl, rfl, rfl, fun h => g2 h.2.2.2.1⟩, hB3⟩
      · have g3 : (E1 != 0) = true := bne_iff_ne.2 g1
        have g4 : (E1 == 0) = false := beq_eq_false_iff_ne.2 g1
        go_wp2_with fail
        go_ret3
        exact ⟨noB, noB, false, rfl, by rw [HCL.out]; exact .inl ⟨rfl, rfl, rfl, fun h => g1 h.2.2.1⟩, hB3⟩
    · have h2 : (n : Int) ≠ (m : Int) := by omega
      have h3 : ((n : Int) != (m : Int)) = true := bne_iff_ne.2 h2
      have h4 : ((n : Int) == (m : Int)) = false := beq_eq_false_iff_ne.2 h2
      go_enter Tryd.func9, Tryd.ntmps9
      go_wp2_with fail
      go_ret3
      exact ⟨noB, noB, false, rfl, .inl ⟨rfl, rfl, rfl, fun h => h1 h.1⟩, hBr⟩
set_option maxRecDepth 20000 in
theorem Clash_any (s : Int) (a b : Option Addr) (n m cap capb : Nat) (hn : n ≤ 62) (hm : m ≤ 62) (p q : Nat → ByteArray) (w : World) (hp : Sa w a n p) (hq : Sa w b m q) (hz : ∀ i, i < n → (p i).size ≤ 148000000000000) (ht : Tabs w) :
    Calls Tryd.prog 4 #[.int .i64 s, .slice a n cap, .slice b m capb] w fun e w' => ∃ x y ok, e = .returned (.tuple #[.string x, .string y, .bool ok]) ∧ clashed n m s p q x y ok ∧ Below w.heap.size w w' := by
  have h := clash_any s a b n m cap capb hn hm p q w hp hq hz ht
  go_enter Tryd.func4, Tryd.ntmps4
  go_wp2_with fail
  refine h.mono ?_
  rintro e w1 ⟨x, y, ok, rfl, hc, hb⟩
  go_wp2_with fail
  go_ret3
  exact ⟨x, y, ok, rfl, hc, hb⟩
end Go.Proofs.YtbbgagpompgagabDoor
