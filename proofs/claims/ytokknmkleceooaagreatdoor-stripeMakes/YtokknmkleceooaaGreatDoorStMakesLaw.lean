import Derived.Test.YtokknmkleceooaaGreatDoorStRMk
import Derived.Test.YtokknmkleceooaaGreatDoorStWakes
import Derived.Test.YtokknmkleceooaaGreatDoorStArg
namespace Go.Proofs.YtokknmkleceooaaGreatDoor
open Go.RowKit Go.PlainAid
set_option linter.unusedVariables false
set_option maxRecDepth 20000
def Rows2 (w : World) (g : Nat) : Prop := ∀ k, k < 2 → ∃ (a : Option Addr) (m c : Nat) (F : Nat → ByteArray), w.cell? ⟨g, k, none⟩ = some (.slice a m c) ∧ m ≤ 1000 ∧ m ≤ c ∧ c ≤ 9223372036854775807 ∧ Vals w a m (fun i => .string (F i)) ∧ ∀ i, i < m → (F i).size ≤ 9223372036854775807
theorem Rows2.below {w w' : World} {g : Nat} (h : Rows2 w g) (hb : Below w.heap.size w w') : Rows2 w' g := fun k hk => by
  obtain ⟨a, m, c, F, h1, h2, h3, h4, h5, h6⟩ := h k hk
  exact ⟨a, m, c, F, (hb.cell (p := ⟨g, k, none⟩) (mcell_lt h1)).trans h1, h2, h3, h4, h5.below hb (Nat.le_refl _), h6⟩
set_option maxHeartbeats 4000000 in
theorem stripeMakes_law (n : Int) (a1 : Option Addr) (len1 cap1 : Nat) (a2 : Option Addr) (len2 cap2 : Nat) (W : World) (hn : -9223372036854775808 ≤ n ∧ n ≤ 9223372036854775807) (h1 : BytsArg W a1 len1 cap1) (h2 : StrsArg W a2 len2 cap2) (ht : Tabs W) :
    Calls Tryz.prog 3 #[.int .i64 n, .slice a1 len1 cap1, .slice a2 len2 cap2] W fun e w' => e = .returned (.bool true) ∧ Below W.heap.size W w' := by
  obtain ⟨f, l1, c1, -, hf⟩ := h1
  obtain ⟨T, l2, c2, z2, hT, hs⟩ := h2
  unfold maxLen at c1 c2 hs
  have HBL : Hid (∀ z, Below W.heap.size W z → Calls Tryz.prog 8 #[.int .i64 n, .slice a1 len1 cap1] z _) := fun z hz => blocks_any n hn.2 a1 len1 cap1 f z (by omega) ⟨hf.1, hf.2.below hz (Nat.le_refl _)⟩
  have HW : Hid (∀ z, Below W.heap.size W z → Calls Tryz.prog 12 #[] z _) := fun z hz => wakes19_any (ht.below hz ht.lt)
  obtain ⟨C, hC1, hC2, hC3⟩ : ∃ C : Nat, (if (12 : Int) < (len2 : Int) then (12 : Int) else (len2 : Int)) = (C : Int) ∧ C ≤ 12 ∧ C ≤ len2 := ⟨min len2 12, by split <;> omega, by omega, by omega⟩
  have hC4 : C ≤ cap2 := by omega
  have HTC : Hid (Vals W a2 C fun i => .string (T i)) := by
    rcases hT with h0 | ⟨b, o, e, h⟩
    · exact .inl (by omega)
    · exact .inr ⟨b, o, e, fun i hi => h i (by omega)⟩
  have HSC : Hid (∀ i, i < C → (T i).size ≤ 9223372036854775807) := fun i hi => hs i (by omega)
  clear hf hT hs ht
  go_enter Tryz.func3, Tryz.ntmps3
  have hC5 : min (len2 : Int) 12 = (C : Int) := by omega
  have hC6 : (C : Int) ≤ (len2 : Int) := by omega
  have hC7 : (C : Int) ≤ (cap2 : Int) := by omega
  go_upto_region 1 with fail
  refine wp_region_noPanic ?_
  refine wp_region_held_drew (S := fun _ => True) (by kernel_rfl) trivial (fun hHeld => ?_)
  refine tkH 0 ?_; go_simp
  refine tkH 1 ?_; go_simp
  refine tkH 3 ?_; go_simp
  refine tkH 4 ?_; go_simp
  refine tkH 5 ?_; go_simp
  refine tkH 6 ?_; go_simp
  refine tkH 7 ?_; go_simp
  refine tkH 10 ?_; go_simp
  refine rdH 2 fun K hK => ?_
  go_simp
  go_at_call 8
  refine (HBL.out _ (Below.refl _ _).drew).mono ?_
  rintro e w1 ⟨v, rfl, hv1, hb1⟩
  have HV1 : Hid _ := hv1
  have HB1 : Hid _ := hb1
  clear hv1 hb1
  refine hK.out _ _ trivial (fun hHeld => ?_)
  clear hK K
  obtain ⟨av, cv, rfl, v1, v2, vv⟩ := own_vals HV1.out (by unfold bkN; omega)
  have hm : bkN n ≤ 8 := by unfold bkN; omega
  generalize bkN n = m at *
  refine rdH 8 fun K hK => ?_
  go_simp
  have HR : Hid (Below W.heap.size W (w1.alloc (.cells #[.slice (some ⟨av, 0, none⟩) m cv, .slice a2 C cap2] 23)) ∧ Rows2 (w1.alloc (.cells #[.slice (some ⟨av, 0, none⟩) m cv, .slice a2 C cap2] 23)) w1.heap.size) := by
    have hw1 : Below W.heap.size W w1 := (Below.refl _ _).drew.trans HB1.out
    have hb : Below W.heap.size W (w1.alloc (.cells #[.slice (some ⟨av, 0, none⟩) m cv, .slice a2 C cap2] 23)) := hw1.alloc hw1.size _
    have hB := Blk.new w1 23 #[.slice (some ⟨av, 0, none⟩) m cv, .slice a2 C cap2]
    refine ⟨?_, fun k hk => ?_⟩
    · exact hb
    · rcases (by omega : k = 0 ∨ k = 1) with rfl | rfl
      · refine ⟨some ⟨av, 0, none⟩, m, cv, bkF len1 f, hB.cell (i := 0) rfl, by omega, v1, v2, vv.below ((Below.refl _ _).alloc (Nat.le_refl _) _) (Nat.le_refl _), fun i hi => by rw [bkF_size]; decide⟩
      · refine ⟨a2, C, cap2, T, hB.cell (i := 1) rfl, by omega, hC4, c2, HTC.out.below hb (Nat.le_refl _), HSC.out⟩
  refine hK.out _ _ trivial (fun hHeld => ?_)
  clear hK K
  refine tkH 9 ?_; go_simp
  refine wpAnyH_done (by kernel_rfl) ?_ _
  refine NoPanic.normal ?_
  clear HV1 HB1 HTC HSC HBL vv
  generalize w1.alloc (.cells #[.slice (some ⟨av, 0, none⟩) m cv, .slice a2 C cap2] 23) = w2 at *
  generalize w1.heap.size = g at *
  have HB2 : Hid (Below W.heap.size W w2) := HR.out.1
  have HR2 : Hid (Rows2 w2 g) := HR.out.2
  clear HR
  go_wp2_with fail
  go_loopw [23] (fun i wr => ∃ k : Nat, k ≤ 2 ∧ i = .int .i64 (k : Int) ∧ Hid (Below w2.heap.size w2 wr)) (fun i _ => 2 - (intOf i).toNat)
  case atStart => exact ⟨0, Nat.zero_le _, rfl, Below.refl _ _⟩
  case round =>
    obtain ⟨k, hk, rfl, HBR⟩ := hrel
    by_cases hlt : k < 2
    · have hk' : (k : Int) < 2 := by omega
      obtain ⟨a, mm, c, F, e1, m1, m2, m3, hv, hs⟩ := HR2.out.below HBR.out k hlt
      have HM := make_any a mm c F wr m1 m2 m3 hv hs
      have HMK : Hid (Calls _ _ _ _ _) := HM
      have HV : Hid (Vals wr a mm fun i => .string (F i)) := hv
      have HRM : Hid (∀ z, Below wr.heap.size wr z → Calls Tryz.prog 10 #[.slice a mm c] z _) := fun z hz => refMake_any a mm c F z m1 m2 m3 (hv.below hz (Nat.le_refl _)) hs
      have HE2 : Hid ((mkE mm F != mkE mm F) = false) := by show _ = _; simp
      obtain ⟨E, hE⟩ : ∃ E, mkE mm F = E := ⟨_, rfl⟩
      have hE2 : (E != E) = false := by simp
      clear HM hv hs
      go_upto_region 6 with (first
        | (go_at_call 9; refine HMK.out.mono ?_; rintro e w3 ⟨x, rfl, h1, h2, hb3⟩; have HX : Hid (_ ∧ _) := ⟨h1, h2⟩; have HB3 : Hid _ := hb3; clear h1 h2 hb3 HMK)
        | (go_at_call 10; refine (HRM.out _ HB3.out).mono ?_; rintro e w4 ⟨y, rfl, h1, h2, hb4⟩; have HY : Hid (_ ∧ _) := ⟨h1, h2⟩; have HB4 : Hid _ := hb4; clear h1 h2 hb4 HRM))
      have hb34 : Below wr.heap.size wr w4 := HB3.out.trans (HB4.out.mono HB3.out.size)
      have hEQ : Calls Tryz.prog 11 #[x, y] w4 fun e w' => e = .returned (.bool true) ∧ Below w4.heap.size w4 w' := by
        by_cases hz : mkE mm F = 0
        · have hm8 : mm ≤ 8 := by
            unfold mkE at hz
            split at hz
            · rename_i h; exact h.2
            · cases hz
          obtain ⟨a3, c3, rfl, -, -, v3⟩ := own_vals (HX.out.2 hz) (by omega)
          obtain ⟨a4, c4, rfl, -, -, v4⟩ := own_vals (HY.out.2 hz) (by omega)
          exact equal19_yes _ _ (mm + 2) c3 c4 (mkC mm F) w4 (by omega) (v3.below HB4.out (Nat.le_refl _)) v4
        · rw [HX.out.1 hz, HY.out.1 hz]
          exact equal19_yes none none 0 0 0 (fun _ => noB) w4 (by omega) (.inl rfl) (.inl rfl)
      have HEQ : Hid (Calls _ _ _ _ _) := hEQ
      have HB34 : Hid (Below w2.heap.size w2 w4) := HBR.out.trans (hb34.mono HBR.out.size)
      clear hEQ hb34 HX HY HB3 HB4 HBR
      go_wp2_with (go_at_call 11; refine HEQ.out.mono ?_; rintro e w5 ⟨rfl, hb5⟩; have HB5 : Hid (Below w2.heap.size w2 w5) := HB34.out.trans (hb5.mono HB34.out.size); clear hb5 HEQ HB34)
      go_roundw
      case rel => exact ⟨k + 1, by omega, by go_num, HB5.out⟩
      case measure => simp [intOf]; omega
    · have hkn : k = 2 := by omega
      subst hkn
      have HBW : Hid (Below W.heap.size W wr) := HB2.out.trans (HBR.out.mono HB2.out.size)
      go_wp2_with (go_at_call 12; refine (HW.out _ HBW.out).mono ?_; rintro e w6 ⟨rfl, hb6⟩; have HB6 : Hid (Below W.heap.size W w6) := HBW.out.trans (hb6.mono HBW.out.size); clear hb6)
      go_ret
      exact ⟨rfl, HB6.out⟩
end Go.Proofs.YtokknmkleceooaaGreatDoor
