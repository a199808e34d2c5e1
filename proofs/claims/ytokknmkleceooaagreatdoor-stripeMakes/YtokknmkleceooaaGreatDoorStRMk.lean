import Derived.Test.YtokknmkleceooaaGreatDoorStMake
import Derived.Test.YtokknmkleceooaaGreatDoorStBlk
namespace Go.Proofs.YtokknmkleceooaaGreatDoor
open Go.RowKit Go.PlainAid
set_option linter.unusedVariables false
set_option maxRecDepth 20000
theorem equal19_yes (a b : Option Addr) (n ca cb : Nat) (F : Nat → ByteArray) (w : World) (hn : n ≤ 1000) (ha : Vals w a n fun i => .string (F i)) (hb : Vals w b n fun i => .string (F i)) :
    Calls Tryz.prog 11 #[.slice a n ca, .slice b n cb] w fun e w' => e = .returned (.bool true) ∧ Below w.heap.size w w' := by
  have HA := ha.at
  have HB := hb.at
  have t0 : ((n : Int) != (n : Int)) = false := by simp
  clear ha hb
  go_enter Tryz.func11, Tryz.ntmps11
  go_wp2_with fail
  go_loopw [13] (fun i wr => ∃ k : Nat, k ≤ n ∧ i = .int .i64 k ∧ Below w.heap.size w wr) (fun i _ => (n : Nat) - (intOf i).toNat)
  case atStart => exact ⟨0, Nat.zero_le _, rfl, Below.refl _ _⟩
  case round =>
    obtain ⟨k, hk, rfl, hbk⟩ := hrel
    by_cases hlt : k < n
    · obtain ⟨b1, o1, rfl, e1⟩ := HA.out wr hbk k hlt
      obtain ⟨b2, o2, rfl, e2⟩ := HB.out wr hbk k hlt
      have kn : (k : Int) < (n : Int) := by omega
      generalize F k = s at e1 e2
      go_wp2_with fail
      go_quiet (fail)
      go_wp2_with fail
      go_roundw
      case rel => exact ⟨k + 1, by omega, by go_num, below_drewN hbk _⟩
      case measure => simp [intOf]; omega
    · have hkn : n = k := by omega
      subst hkn
      go_wp2_with fail
      go_ret
      exact ⟨rfl, hbk⟩
set_option maxHeartbeats 4000000 in
theorem refMake_any (a : Option Addr) (k c : Nat) (F : Nat → ByteArray) (w : World) (hk : k ≤ 1000) (hkc : k ≤ c) (hc : c ≤ 9223372036854775807) (ha : Vals w a k fun i => .string (F i)) (hs : ∀ i, i < k → (F i).size ≤ 9223372036854775807) :
    Calls Tryz.prog 10 #[.slice a k c] w fun e w' => ∃ v, e = .returned (.tuple #[v, .int .i64 (mkE k F)]) ∧ (mkE k F ≠ 0 → v = .slice none 0 0) ∧ (mkE k F = 0 → w'.ownsRow w.heap.size 9 1 v (k + 2) (strs (k + 2) (mkC k F))) ∧ Below w.heap.size w w' := by
  by_cases hok : 2 ≤ k ∧ k ≤ 8
  · have k1 : ¬ (k : Int) < 2 := by omega
    have k2 : ¬ (8 : Int) < (k : Int) := by omega
    have HA := ha.at
    have HV : Hid (Vals w a k fun i => .string (F i)) := ha
    have HS : Hid (∀ i, i < k → (F i).size ≤ 9223372036854775807) := hs
    have HOK : Hid (2 ≤ k ∧ k ≤ 8) := hok
    clear ha hs
    go_enter Tryz.func10, Tryz.ntmps10
    go_wp2_with fail
    go_loopw [4, 5] (fun v i wr => ∃ j : Nat, j ≤ k ∧ i = .int .i64 j ∧ Hid (∀ i, i < j → (F i).size = 32) ∧ Hid (wr.ownsRow w.heap.size 9 1 v j (strsL j F)) ∧ Below w.heap.size w wr) (fun _ i _ => (k : Nat) - (intOf i).toNat)
    case atStart => exact ⟨0, Nat.zero_le _, rfl, fun i hi => by omega, World.ownsRow_nil _ _ _ _, Below.refl _ _⟩
    case round =>
      obtain ⟨j, hj, rfl, hbef, HR, hbj⟩ := hrel
      by_cases hlt : j < k
      · obtain ⟨b, o, rfl, e1⟩ := HA.out wr hbj j hlt
        have kn : (j : Int) < (k : Int) := by omega
        have hsz := HS.out j hlt
        obtain ⟨s, hs⟩ : ∃ s, F j = s := ⟨_, rfl⟩
        rw [hs] at e1 hsz
        by_cases h32 : s.size = 32
        · have HB : Hid (Value.string s = .string (F j)) := by show _ = _; rw [hs]
          have HP : Hid (∀ i, i < j + 1 → (F i).size = 32) := fun i hi => by
            by_cases e : i = j
            · rw [e, hs]; exact h32
            · exact hbef.out i (by omega)
          have h' : (s.size : Int) = 32 := by omega
          clear h32 hs hbef
          go_wp2_with (at_builtin; refine push_str_keep rfl _ _ rfl _ w.heap.size _ j F HR.out rfl _ HB.out _ rfl (by simp) (by omega) hbj.size ?_)
          intro v' w2 hl3 _ hb3
          have HR3 : Hid (w2.ownsRow w.heap.size 9 1 v' (j + 1) (strsL (j + 1) F)) := hl3
          have hb4 : Below w.heap.size w w2 := hbj.trans hb3
          clear hl3 HR hb3
          go_wp2_with fail
          go_roundw
          case rel => exact ⟨j + 1, by omega, by go_num, HP.out, HR3.out, hb4⟩
          case measure => simp [intOf]; omega
        · have HE : Hid (mkE k F = 7) := by
            show _ = _
            unfold mkE
            rw [if_pos HOK.out, if_neg]
            intro h
            exact h32 (by rw [← hs]; exact h j hlt)
          have h' : ((s.size : Int) != 32) = true := by simp; omega
          clear h32 hs hbef
          go_wp2_with fail
          go_ret2
          rw [HE.out]
          exact ⟨_, rfl, fun _ => rfl, fun h => (by cases h), hbj⟩
      · have hjk : k = j := by omega
        subst hjk
        have HE : Hid (mkE k F = 0) := by show _ = _; unfold mkE; rw [if_pos HOK.out, if_pos hbef.out]
        have hT : TxtAt wr a k (fun i => (F i).size) (fun i => teE (F i)) := ⟨by
          rcases HV.out.below hbj (Nat.le_refl _) with h0 | ⟨b, o, e, h⟩
          · exact .inl h0
          · exact .inr ⟨b, o, e, fun i hi => by show _ = some (Value.string (strE (F i).size (teE (F i)))); rw [strE_te]; exact h i hi⟩, HS.out⟩
        have hen := refEncode_any a k c _ _ wr (by unfold maxLen; omega) hT
        have hz := hbef.out
        have hz0 : encE k (fun i => (F i).size) = 0 := encE_zero.2 ⟨by omega, fun c hc => by rw [hz c hc, hz 0 (by omega)], by rw [hz 0 (by omega)]; decide⟩
        have hp : ∀ r, encS k (fun i => (F i).size) (fun i => teE (F i)) r = mkC k F (k + r) := fun r => by
          unfold encS mkC
          rw [if_pos hz0]
          show strE (F 0).size _ = _
          rw [hz 0 (by omega)]
          exact strE_congr fun c hc => (St_parity k r _ c).symm
        rw [hz0, hp 0, hp 1, Nat.add_zero] at hen
        have hR2 := HR.out
        rw [strsL_congr (f := F) (g := mkC k F) fun i hi => (mkC_data hz hi).symm] at hR2
        have HR2 : Hid _ := hR2
        obtain ⟨P, hP⟩ : ∃ P, mkC k F k = P := ⟨_, rfl⟩
        obtain ⟨Q, hQ⟩ : ∃ Q, mkC k F (k + 1) = Q := ⟨_, rfl⟩
        rw [hP, hQ] at hen
        have HP : Hid (Value.string P = .string (mkC k F k)) := by show _ = _; rw [hP]
        have HQ : Hid (Value.string Q = .string (mkC k F (k + 1))) := by show _ = _; rw [hQ]
        have HEN : Hid (Calls _ _ _ _ _) := hen
        have hk8 := HOK.out.2
        clear hen hR2 hP hQ hz hz0 hp hT HR hbef
        go_wp2_with (first
          | (go_at_call 31; refine HEN.out.mono ?_; rintro e w1 ⟨hb1, rfl⟩; have hR1 := mowns_below HR2.out hb1; have hbw1 := hbj.trans (hb1.mono hbj.size); have HR1 : Hid _ := hR1; clear hb1 HEN hR1)
          | (at_builtin; refine push_str_keep rfl _ _ rfl _ w.heap.size _ k (mkC k F) HR1.out rfl _ HP.out _ rfl (by simp) (by omega) hbw1.size ?_))
        intro v1 w2 hl2 _ hb2
        have HL2 : Hid _ := hl2
        have hbw2 := hbw1.trans hb2
        clear hl2 hb2 HR1
        go_wp2_with (at_builtin; refine push_str_keep rfl _ _ rfl _ w.heap.size _ (k + 1) (mkC k F) HL2.out rfl _ HQ.out _ rfl (by simp) (by omega) hbw2.size ?_)
        intro v2 w3 hl3 _ hb3
        have HL3 : Hid _ := hl3
        have hbw3 := hbw2.trans hb3
        clear hl3 hb3 HL2
        go_wp2_with fail
        go_ret2
        rw [HE.out]
        exact ⟨_, rfl, fun h => absurd rfl h, fun _ => HL3.out, hbw3⟩
  · have HE : Hid (mkE k F = 2) := by show _ = _; unfold mkE; rw [if_neg hok]
    clear ha hs
    by_cases h2 : k < 2
    · have k1 : (k : Int) < 2 := by omega
      go_enter Tryz.func10, Tryz.ntmps10
      go_wp2_with fail
      go_ret2
      rw [HE.out]
      exact ⟨_, rfl, fun _ => rfl, fun h => (by cases h), Below.refl _ _⟩
    · have k1 : ¬ (k : Int) < 2 := by omega
      have k2 : (8 : Int) < (k : Int) := by omega
      go_enter Tryz.func10, Tryz.ntmps10
      go_wp2_with fail
      go_ret2
      rw [HE.out]
      exact ⟨_, rfl, fun _ => rfl, fun h => (by cases h), Below.refl _ _⟩
end Go.Proofs.YtokknmkleceooaaGreatDoor
