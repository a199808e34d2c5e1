/- The law CodecApart, walked. -/
import Derived.Test.YtnlgpodeblmlhaaCdCutLaw
import Derived.BigRegion
namespace Go.Proofs.Ytnlgpodeblmlhaa
open Go.RowKit Go.PlainAid
set_option linter.unusedVariables false

set_option maxRecDepth 20000 in
set_option maxHeartbeats 1000000 in
theorem capart1_any (s : Option Addr) (n cap : Nat) (T : Nat → ByteArray) (W w : World) (hn : n ≤ 10) (hT : Tx W s n T) (hw : Below W.heap.size W w) : Calls Try.prog 24 #[.slice s n cap] w fun e w' => e = .returned (.string (cat (pcs T) 0 n)) ∧ Below W.heap.size W w' := by
  have HT : Hid (Tx W s n T) := hT
  have HB : Hid (Below W.heap.size W w) := hw
  clear hT hw
  go_enter Try.func24, Try.ntmps24
  go_wp2
  go_loopw [3, 8] (fun v i wr => ∃ k : Nat, k ≤ n ∧ i = .int .i64 (k : Int) ∧ v = .string (cat (pcs T) 0 k) ∧ Hid (Below W.heap.size W wr)) (fun _ i _ => n - (intOf i).toNat)
  case atStart => exact ⟨0, Nat.zero_le _, rfl, rfl, HB.out⟩
  case round =>
    clear HB
    obtain ⟨k, hk, rfl, rfl, hb⟩ := hrel
    by_cases hlt : k < n
    · have hlt' : (k : Int) < (n : Int) := by omega
      obtain ⟨tb, to, hsa, hz, hcell⟩ := HT.out _ hb.out k (by omega)
      subst hsa
      have hsn := cat_snoc (pcs T) k 0
      have hzk := cpcs_size T k
      have hpz := pcs_size T k
      rw [Nat.zero_add] at hsn
      obtain ⟨c, hc0, hc1, hc2, hc3⟩ : ∃ c : Nat, c = min (T k).size 100 ∧ (if (100 : Int) < ((T k).size : Int) then (100 : Int) else ((T k).size : Int)) = (c : Int) ∧ c ≤ 100 ∧ c ≤ (T k).size := ⟨min (T k).size 100, rfl, by split <;> omega, by omega, by omega⟩
      have hct : pcs T k = textB ((T k).extract 0 c) := by unfold pcs cutT; rw [hc0]
      have hcall : Hid (∀ w, Calls Try.prog 12 _ w _) := ctextF_any ((T k).extract 0 c) (by rw [ByteArray.size_extract]; omega)
      rw [← hct] at hcall
      have hn1 : Hid (cat (pcs T) 0 k ++ pcs T k = cat (pcs T) 0 (k + 1)) := hsn.symm
      have hzz : ((cat (pcs T) 0 k).size : Int) ≤ 1080 := by omega
      have hzp : ((pcs T k).size : Int) ≤ 108 := by omega
      unfold maxLen at hz
      clear hct hc0 hsn hzk hpz
      generalize T k = t at *
      generalize pcs T k = pk at *
      generalize cat (pcs T) 0 k = sk at *
      go_wp2_with (go_at_call 12; refine (hcall.out _).mono ?_; rintro x w1 ⟨rfl, hb1⟩; have hb2 : Hid (Below _ _ _) := hb.out.trans (hb1.mono hb.out.size); clear hb1 hb hcall)
      go_roundw
      case rel => exact ⟨k + 1, by omega, by go_num, by rw [hn1.out], hb2.out⟩
      case measure => simp [intOf]; omega
    · obtain rfl : k = n := by omega
      have hlt' : ¬ (k : Int) < (k : Int) := by omega
      go_wp2
      go_ret
      exact ⟨rfl, hb.out⟩
theorem text_eq (x y : ByteArray) : (x.toList == y.toList) = decide (x = y) := by
  by_cases h : x = y
  · rw [h, decide_eq_true rfl]; exact beq_self_eq_true _
  · rw [decide_eq_false h]
    refine beq_eq_false_iff_ne.2 fun e => h ?_
    rw [ByteArray.toList_eq, ByteArray.toList_eq] at e
    exact ByteArray.ext (Array.toList_inj.1 e)
/-- Are the first k texts the same? -/
def smT (z : Bool) (A D : Nat → ByteArray) : Nat → Bool
  | 0 => z
  | k + 1 => smT z A D k && decide (cutT 100 (A k) = cutT 100 (D k))
theorem smT_iff (z : Bool) (A D : Nat → ByteArray) (k : Nat) : smT z A D k = true ↔ z = true ∧ ∀ j, j < k → cutT 100 (A j) = cutT 100 (D j) := by
  induction k with
  | zero => simp [smT]
  | succ k ih =>
    rw [smT, Bool.and_eq_true, ih, decide_eq_true_eq]
    constructor
    · rintro ⟨⟨h1, h2⟩, h3⟩
      refine ⟨h1, fun j hj => ?_⟩
      rcases Nat.lt_or_ge j k with h | h
      · exact h2 j h
      · rw [show j = k by omega]; exact h3
    · rintro ⟨h1, h2⟩
      exact ⟨⟨h1, fun j hj => h2 j (by omega)⟩, h2 k (by omega)⟩
theorem apart_is (A D : Nat → ByteArray) (n m : Nat) : decide (cat (pcs A) 0 n = cat (pcs D) 0 m) = smT (decide (n = m)) A D (min n m) := by
  rw [Bool.eq_iff_iff, smT_iff, decide_eq_true_eq, decide_eq_true_eq]
  constructor
  · intro h
    obtain ⟨e1, e2⟩ := cat_inj (fun i => cutT 100 (A i)) (fun i => cutT 100 (D i)) (fun i => by have := cutT_size 100 (A i); omega) (fun i => by have := cutT_size 100 (D i); omega) n 0 m h
    refine ⟨e1, fun j hj => ?_⟩
    have := e2 j (by omega)
    rwa [Nat.zero_add] at this
  · rintro ⟨rfl, h⟩
    rw [Nat.min_self] at h
    refine cat_congr _ _ n 0 fun j hj => ?_
    rw [Nat.zero_add]; unfold pcs; rw [h j hj]
set_option maxRecDepth 20000 in
set_option maxHeartbeats 4000000 in
theorem codecApart_law (s : Option Addr) (len cap : Nat) (s2 : Option Addr) (len2 cap2 : Nat) (W : World) (hs : Came strOk (fun s => [.string s]) 1 W s len cap) (hs2 : Came strOk (fun s => [.string s]) 1 W s2 len2 cap2) : Calls Try.prog 8 #[.slice s len cap, .slice s2 len2 cap2] W fun e w' => e = .returned (.bool true) ∧ Below W.heap.size W w' := by
  have hl1 := hs.1
  have hl2 := hs.2.1
  have hm1 := hs2.1
  have hm2 := hs2.2.1
  obtain ⟨A, hA⟩ := Tx.came hs
  obtain ⟨D, hD⟩ := Tx.came hs2
  clear hs hs2
  obtain ⟨C, hC1, hC2, hC3⟩ : ∃ C : Nat, (if (10 : Int) < (len : Int) then (10 : Int) else (len : Int)) = (C : Int) ∧ C ≤ 10 ∧ C ≤ len := ⟨min len 10, by split <;> omega, by omega, by omega⟩
  have hC4 : C ≤ cap := by omega
  obtain ⟨E, hE1, hE2, hE3⟩ : ∃ E : Nat, (if (10 : Int) < (len2 : Int) then (10 : Int) else (len2 : Int)) = (E : Int) ∧ E ≤ 10 ∧ E ≤ len2 := ⟨min len2 10, by split <;> omega, by omega, by omega⟩
  have hE4 : E ≤ cap2 := by omega
  have HA : Hid (Tx W s C A) := hA.cut hC3
  have HD : Hid (Tx W s2 E D) := hD.cut hE3
  obtain ⟨m, hme, hma, hmb, hm4⟩ : ∃ m : Nat, (if (E : Int) < (C : Int) then (E : Int) else (C : Int)) = (m : Int) ∧ m ≤ C ∧ m ≤ E ∧ m = min C E := ⟨min C E, by split <;> omega, by omega, by omega, rfl⟩
  have HM : Hid (m = min C E) := hm4
  have hm5 : (if E < C then (E : Int) else (C : Int)) = (m : Int) := by split <;> omega
  clear hm4 hA hD
  have hB0 : Hid (Below W.heap.size W W.drew) := (Below.refl _ _).drew
  obtain ⟨z, hz⟩ : ∃ z, decide (C = E) = z := ⟨_, rfl⟩
  have hz2 : ((C : Int) == (E : Int)) = z := by rw [← hz]; by_cases h : C = E <;> simp [h]; omega
  have HZ : Hid (decide (C = E) = z) := hz
  clear hz
  go_enter Try.func8, Try.ntmps8
  go_wp2
  go_region
  go_wp2
  clear hme hm5 hz2 hC1 hE1
  go_loopw [6, 28] (fun v i wr => ∃ k : Nat, k ≤ m ∧ i = .int .i64 (k : Int) ∧ v = .bool (smT z A D k) ∧ Hid (Below W.heap.size W wr)) (fun _ i _ => m - (intOf i).toNat)
  case atStart => exact ⟨0, Nat.zero_le _, rfl, rfl, hB0.out⟩
  case round =>
    clear hB0
    obtain ⟨k, hk, rfl, rfl, hb⟩ := hrel
    by_cases hlt : k < m
    · have hlt' : (k : Int) < (m : Int) := by omega
      have hltC : (k : Int) < (C : Int) := by omega
      have hltE : (k : Int) < (E : Int) := by omega
      obtain ⟨tb, to, hsa, hz, hcell⟩ := HA.out _ hb.out k (by omega)
      obtain ⟨ub, uo, hsd, hzd, hceld⟩ := HD.out _ hb.out k (by omega)
      obtain ⟨v, hv⟩ : ∃ v, smT z A D (k + 1) = v := ⟨_, rfl⟩
      have hv0 : smT z A D (k + 1) = (smT z A D k && decide (cutT 100 (A k) = cutT 100 (D k))) := rfl
      subst hsa hsd
      obtain ⟨c, hc0, hc1, hc2, hc3⟩ : ∃ c : Nat, c = min (A k).size 100 ∧ (if (100 : Int) < ((A k).size : Int) then (100 : Int) else ((A k).size : Int)) = (c : Int) ∧ c ≤ 100 ∧ c ≤ (A k).size := ⟨min (A k).size 100, rfl, by split <;> omega, by omega, by omega⟩
      obtain ⟨d, hd0, hd1, hd2, hd3⟩ : ∃ d : Nat, d = min (D k).size 100 ∧ (if (100 : Int) < ((D k).size : Int) then (100 : Int) else ((D k).size : Int)) = (d : Int) ∧ d ≤ 100 ∧ d ≤ (D k).size := ⟨min (D k).size 100, rfl, by split <;> omega, by omega, by omega⟩
      rw [show cutT 100 (A k) = (A k).extract 0 c by unfold cutT; rw [hc0], show cutT 100 (D k) = (D k).extract 0 d by unfold cutT; rw [hd0], hv] at hv0
      have HV : Hid (smT z A D (k + 1) = v) := hv
      have hb2 : Hid (Below _ _ _) := hb.out.drew
      unfold maxLen at hz hzd
      clear hc0 hd0 hb hv
      generalize A k = a at *
      generalize D k = d' at *
      cases hq : smT z A D k with
      | false =>
        rw [hq, Bool.false_and] at hv0
        subst hv0
        clear hq
        go_wp2
        go_region
        go_wp2
        go_roundw
        case rel => exact ⟨k + 1, by omega, by go_num, by rw [HV.out], hb2.out⟩
        case measure => simp [intOf]; omega
      | true =>
        rw [hq, Bool.true_and, ← text_eq] at hv0
        have hv1 := hv0.symm
        clear hq hv0
        go_wp2
        go_region
        go_wp2
        go_roundw
        case rel => exact ⟨k + 1, by omega, by go_num, by rw [HV.out], hb2.out⟩
        case measure => simp [intOf]; omega
    · obtain rfl : k = m := by omega
      have hlt' : ¬ (k : Int) < (k : Int) := by omega
      have hap := apart_is A D C E
      rw [← text_eq, ← HM.out, HZ.out] at hap
      have h1 : Hid (∀ w, Below W.heap.size W w → Calls Try.prog 24 _ w _) := fun w hw => capart1_any s C cap A W w hC2 HA.out hw
      have h2 : Hid (∀ w, Below W.heap.size W w → Calls Try.prog 24 _ w _) := fun w hw => capart1_any s2 E cap2 D W w hE2 HD.out hw
      generalize cat (pcs A) 0 C = x at *
      generalize cat (pcs D) 0 E = y at *
      generalize smT z A D k = q at *
      clear HA HD HZ HM
      cases q
      · go_wp2_with (first
          | (go_at_call 9; refine (cwakes_any _).mono ?_; rintro e w1 ⟨rfl, hb1⟩; have hb2 : Hid (Below _ _ _) := hb.out.trans (hb1.mono hb.out.size); clear hb1 hb)
          | (go_at_call 24; refine (h1.out _ hb2.out).mono ?_; rintro e w2 ⟨rfl, hb3'⟩; have hb3 : Hid (Below _ _ _) := hb3'; clear hb2 hb3' h1)
          | (go_at_call 24; refine (h2.out _ hb3.out).mono ?_; rintro e w3 ⟨rfl, hb4'⟩; have hb4 : Hid (Below _ _ _) := hb4'; clear hb3 hb4' h2))
        go_ret
        exact ⟨rfl, hb4.out⟩
      · go_wp2_with (first
          | (go_at_call 9; refine (cwakes_any _).mono ?_; rintro e w1 ⟨rfl, hb1⟩; have hb2 : Hid (Below _ _ _) := hb.out.trans (hb1.mono hb.out.size); clear hb1 hb)
          | (go_at_call 24; refine (h1.out _ hb2.out).mono ?_; rintro e w2 ⟨rfl, hb3'⟩; have hb3 : Hid (Below _ _ _) := hb3'; clear hb2 hb3' h1)
          | (go_at_call 24; refine (h2.out _ hb3.out).mono ?_; rintro e w3 ⟨rfl, hb4'⟩; have hb4 : Hid (Below _ _ _) := hb4'; clear hb3 hb4' h2))
        go_ret
        exact ⟨rfl, hb4.out⟩
end Go.Proofs.Ytnlgpodeblmlhaa
