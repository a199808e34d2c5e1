/- What the Go function ShaApart answers: true, for every two texts. -/
import Derived.Test.YtbcjidoddhppiaaDoorWakes
namespace Go.Proofs.YtbcjidoddhppiaaDoor
open Go.RowKit Go.PlainAid
set_option linter.unusedVariables false

theorem hid {p : Prop} (h : p) : Hid p := h
theorem min_nat (x : Nat) (c : Nat) : ∃ m : Nat, min (x : Int) (c : Int) = (m : Int) ∧ m ≤ x ∧ m ≤ c := ⟨min x c, by omega, by omega, by omega⟩

set_option maxHeartbeats 2000000 in
set_option maxRecDepth 20000 in
theorem apartLaw_walk (s t : ByteArray) (hs : s.size ≤ maxLen) (hth : t.size ≤ maxLen) (w : World) (ht : Tabs w) :
    Calls Tryd.prog 7 #[.string s, .string t] w fun e w' => e = .returned (.bool true) ∧ Below w.heap.size w w' := by
  unfold maxLen at hs hth
  obtain ⟨m, hm, hm1, hm2⟩ := min_nat s.size 300
  obtain ⟨n, hn, hn1, hn2⟩ := min_nat t.size 300
  rw [show ((300 : Nat) : Int) = 300 from rfl] at hm hn
  have hm0 : (0 : Int) ≤ (m : Int) := by omega
  have hm3 : (m : Int) ≤ (s.size : Int) := by omega
  have hn0 : (0 : Int) ≤ (n : Int) := by omega
  have hn3 : (n : Int) ≤ (t.size : Int) := by omega
  have h2 := ht.lt
  have hAs : (s.extract 0 m).size ≤ 300 := by rw [ByteArray.size_extract]; omega
  have hBs : (t.extract 0 n).size ≤ 300 := by rw [ByteArray.size_extract]; omega
  obtain ⟨A, hA⟩ : ∃ A, s.extract 0 m = A := ⟨_, rfl⟩
  obtain ⟨B, hB⟩ : ∃ B, t.extract 0 n = B := ⟨_, rfl⟩
  rw [hA] at hAs
  rw [hB] at hBs
  go_enter Tryd.func7, Tryd.ntmps7
  go_wp2_with fail
  refine wp_region_noPanic ?_
  refine wp_region_held_drew (S := fun _ => True) (by kernel_rfl) trivial (fun hHeld => ?_)
  refine wpAnyH_take (i := 0) (v := ?_) rfl (by kernel_rfl) (by kernel_rfl) (by kernel_rfl) (fun _ _ _ h => h) (Or.inl ⟨by rfl, ?_⟩) (by assumption) ?_
  rotate_left
  · intro w hSw; go_simp; try with_reducible rfl
  go_simp
  refine wpAnyH_take (i := 1) (v := ?_) rfl (by kernel_rfl) (by kernel_rfl) (by kernel_rfl) (fun _ _ _ h => h) (Or.inl ⟨by rfl, ?_⟩) (by assumption) ?_
  rotate_left
  · intro w hSw; go_simp; try with_reducible rfl
  go_simp
  refine wpAnyH_take (i := 2) (v := ?_) rfl (by kernel_rfl) (by kernel_rfl) (by kernel_rfl) (fun _ _ _ h => h) (Or.inl ⟨by rfl, ?_⟩) (by assumption) ?_
  rotate_left
  · intro w hSw; go_simp; try with_reducible rfl
  go_simp
  refine wpAnyH_take (i := 3) (v := ?_) rfl (by kernel_rfl) (by kernel_rfl) (by kernel_rfl) (fun _ _ _ h => h) (Or.inl ⟨by rfl, ?_⟩) (by assumption) ?_
  rotate_left
  · intro w hSw; go_simp; try with_reducible rfl
  go_simp
  refine wpAnyH_take (i := 4) (v := ?_) rfl (by kernel_rfl) (by kernel_rfl) (by kernel_rfl) (fun _ _ _ h => h) (Or.inl ⟨by rfl, ?_⟩) (by assumption) ?_
  rotate_left
  · intro w hSw; go_simp; try with_reducible rfl
  go_simp
  refine wpAnyH_take (i := 5) (v := ?_) rfl (by kernel_rfl) (by kernel_rfl) (by kernel_rfl) (fun _ _ _ h => h) (Or.inl ⟨by rfl, ?_⟩) (by assumption) ?_
  rotate_left
  · intro w hSw; go_simp; try with_reducible rfl
  go_simp
  refine wpAnyH_take (i := 6) (v := ?_) rfl (by kernel_rfl) (by kernel_rfl) (by kernel_rfl) (fun _ _ _ h => h) (Or.inl ⟨by rfl, ?_⟩) (by assumption) ?_
  rotate_left
  · intro w hSw; go_simp; try with_reducible rfl
  go_simp
  refine wpAnyH_take (i := 7) (v := ?_) rfl (by kernel_rfl) (by kernel_rfl) (by kernel_rfl) (fun _ _ _ h => h) (Or.inl ⟨by rfl, ?_⟩) (by assumption) ?_
  rotate_left
  · intro w hSw; go_simp; try with_reducible rfl
  go_simp
  refine wpAnyH_take (i := 8) (v := ?_) rfl (by kernel_rfl) (by kernel_rfl) (by kernel_rfl) (fun _ _ _ h => h) (Or.inl ⟨by rfl, ?_⟩) (by assumption) ?_
  rotate_left
  · intro w hSw; go_simp; try with_reducible rfl
  go_simp
  refine wpAnyH_take (i := 9) (v := ?_) rfl (by kernel_rfl) (by kernel_rfl) (by kernel_rfl) (fun _ _ _ h => h) (Or.inl ⟨by rfl, ?_⟩) (by assumption) ?_
  rotate_left
  · intro w hSw; go_simp; try with_reducible rfl
  go_simp
  refine wpAnyH_take (i := 10) (v := ?_) rfl (by kernel_rfl) (by kernel_rfl) (by kernel_rfl) (fun _ _ _ h => h) (Or.inl ⟨by rfl, ?_⟩) (by assumption) ?_
  rotate_left
  · intro w hSw; go_simp; try with_reducible rfl
  go_simp
  refine wpAnyH_take (i := 11) (v := ?_) rfl (by kernel_rfl) (by kernel_rfl) (by kernel_rfl) (fun _ _ _ h => h) (Or.inl ⟨by rfl, ?_⟩) (by assumption) ?_
  rotate_left
  · intro w hSw; go_simp; try with_reducible rfl
  go_simp
  refine wpAnyH_done (by kernel_rfl) ?_ _
  refine NoPanic.normal ?_
  have ht0 : Tabs w.drew := ht
  have hb0 : Below w.heap.size w w.drew := (Below.refl _ w).drew
  have h20 : 2 < w.drew.heap.size := h2
  clear ht hm hn hm1 hm2 hn1 hn2 hm0 hm3 hn0 hn3 hA hB hs hth h2
  obtain ⟨G, hG⟩ : ∃ G, w.heap.size = G := ⟨_, rfl⟩
  rw [hG] at hb0
  have hG0 : w.drew.heap.size = G := hG
  have HG : Hid (w.heap.size = G) := hG
  clear hG
  generalize w.drew = w0 at ht0 hb0 h20 hG0 ⊢
  go_wp2_with fail
  refine (new_any w0).mono ?_
  rintro e w1 ⟨rfl, hH1, hc1⟩
  have ht1 := ht0.below hc1 h20
  rw [hG0] at hH1 hc1 h20 ⊢
  have hb1 : Below G w w1 := hb0.trans hc1
  clear ht0 hb0 hc1 hG0
  go_wp2_with fail
  refine (new_any w1).mono ?_
  rintro e w2 ⟨rfl, hK2, hc2⟩
  have hGl := hH1.lt
  have hH2 := hH1.below hc2 hH1.lt
  have ht2 := ht1.below hc2 ht1.lt
  have hb2 : Below G w w2 := hb1.trans (hc2.mono (Nat.le_of_lt hGl))
  obtain ⟨F, hF⟩ : ∃ F, w1.heap.size = F := ⟨_, rfl⟩
  rw [hF] at hK2 hGl ⊢
  clear hH1 ht1 hb1 hc2 hF
  go_wp2_with fail
  refine (write_first G A (by omega) w2 hH2 ht2 (by omega)).mono ?_
  rintro e w3 ⟨rfl, hH3, ho3⟩
  have hK3 := hK2.only ho3 (by omega)
  have ht3 := ht2.only ho3 (by omega)
  have hb3 : Below G w w3 := Below.only hb2 ho3 (Nat.le_of_lt hH2.lt) (Nat.le_refl _)
  clear hH2 hK2 ht2 hb2 ho3
  go_wp2_with fail
  refine (write_first F B (by omega) w3 hK3 ht3 (by omega)).mono ?_
  rintro e w4 ⟨rfl, hK4, ho4⟩
  have hH4 := hH3.only ho4 (by omega)
  have ht4 := ht3.only ho4 (by omega)
  have hb4 : Below G w w4 := Below.only hb3 ho4 (Nat.le_of_lt hH3.lt) (by omega)
  clear hH3 hK3 ht3 hb3 ho4
  go_wp2_with fail
  refine (write_any G A ⟨#[120]⟩ (by show A.size + 1 ≤ _; omega) w4 hH4 ht4 (by omega)).mono ?_
  rintro e w5 ⟨rfl, hH5, ho5⟩
  have hK5 := hK4.only ho5 (by omega)
  have ht5 := ht4.only ho5 (by omega)
  have hb5 : Below G w w5 := Below.only hb4 ho5 (Nat.le_of_lt hH4.lt) (Nat.le_refl _)
  clear hH4 hK4 ht4 hb4 ho5
  go_wp2_with fail
  refine (write_nil A w5).mono ?_
  rintro e w6 ⟨rfl, hw6⟩
  rw [hw6]
  clear hw6
  obtain ⟨X, hX⟩ : ∃ X, A ++ (⟨#[120]⟩ : ByteArray) = X := ⟨_, rfl⟩
  have hXs : X.size ≤ 301 := by rw [← hX, ByteArray.size_append]; show A.size + 1 ≤ 301; omega
  rw [hX] at hH5
  obtain ⟨Y0, hY0⟩ : ∃ Y, (⟨#[0]⟩ : ByteArray) ++ A = Y := ⟨_, rfl⟩
  have hY0s : Y0.size ≤ 301 := by rw [← hY0, ByteArray.size_append]; show 1 + A.size ≤ 301; omega
  obtain ⟨Y1, hY1⟩ : ∃ Y, (⟨#[1]⟩ : ByteArray) ++ A = Y := ⟨_, rfl⟩
  have hY1s : Y1.size ≤ 301 := by rw [← hY1, ByteArray.size_append]; show 1 + A.size ≤ 301; omega
  obtain ⟨Y2, hY2⟩ : ∃ Y, (⟨#[2]⟩ : ByteArray) ++ A = Y := ⟨_, rfl⟩
  have hY2s : Y2.size ≤ 301 := by rw [← hY2, ByteArray.size_append]; show 1 + A.size ≤ 301; omega
  have cX := fun w' (h1 : HashAt w' G X) (h2 : Tabs w') => sum_any G X (by omega) w' h1 h2
  have cX' := fun w' (h2 : Tabs w') => shaSum_any X (by omega) w' h2
  have cB := fun w' (h1 : HashAt w' F B) (h2 : Tabs w') => sum_any F B (by omega) w' h1 h2
  have cB' := fun w' (h2 : Tabs w') => shaSum_any B (by omega) w' h2
  have c0 := fun w' (h2 : Tabs w') => leaf_any A (by omega) w' h2
  have c1 := fun w' (h2 : Tabs w') => node_any A (by omega) w' h2
  have c2 := fun w' (h2 : Tabs w') => top_any A (by omega) w' h2
  rw [hY0] at c0
  rw [hY1] at c1
  rw [hY2] at c2
  have c0' := fun w' (h2 : Tabs w') => shaSum_any Y0 (by omega) w' h2
  have c1' := fun w' (h2 : Tabs w') => shaSum_any Y1 (by omega) w' h2
  have c2' := fun w' (h2 : Tabs w') => shaSum_any Y2 (by omega) w' h2
  generalize digest X = DX at cX cX'
  generalize digest B = DB at cB cB'
  generalize digest Y0 = D0 at c0 c0'
  generalize digest Y1 = D1 at c1 c1'
  generalize digest Y2 = D2 at c2 c2'
  have CX := hid cX
  have CX' := hid cX'
  have CB := hid cB
  have CB' := hid cB'
  have C0 := hid c0
  have C1 := hid c1
  have C2 := hid c2
  have C0' := hid c0'
  have C1' := hid c1'
  have C2' := hid c2'
  clear cX cX' cB cB' c0 c1 c2 c0' c1' c2'
  go_wp2_with fail
  refine (goes_any w5 ht5).mono ?_
  rintro e w10 ⟨rfl, hc10⟩
  have hH10 := hH5.below hc10 hH5.lt
  have hK10 := hK5.below hc10 hK5.lt
  have ht10 := ht5.below hc10 ht5.lt
  have hb10 : Below G w w10 := hb5.trans (hc10.mono (Nat.le_of_lt hH5.lt))
  clear hH5 hK5 ht5 hb5 hc10
  go_wp2_with fail
  refine (CX.out w10 hH10 ht10).mono ?_
  rintro e w11 ⟨rfl, hc11⟩
  have hH11 := hH10.below hc11 hH10.lt
  have hK11 := hK10.below hc11 hK10.lt
  have ht11 := ht10.below hc11 ht10.lt
  have hb11 : Below G w w11 := hb10.trans (hc11.mono (Nat.le_of_lt hH10.lt))
  clear hH10 hK10 ht10 hb10 hc11
  go_wp2_with fail
  refine (CX'.out w11 ht11).mono ?_
  rintro e w12 ⟨rfl, hc12⟩
  have hH12 := hH11.below hc12 hH11.lt
  have hK12 := hK11.below hc12 hK11.lt
  have ht12 := ht11.below hc12 ht11.lt
  have hb12 : Below G w w12 := hb11.trans (hc12.mono (Nat.le_of_lt hH11.lt))
  clear hH11 hK11 ht11 hb11 hc12
  go_wp2_with fail
  refine (CB.out w12 hK12 ht12).mono ?_
  rintro e w13 ⟨rfl, hc13⟩
  have hH13 := hH12.below hc13 hH12.lt
  have hK13 := hK12.below hc13 hK12.lt
  have ht13 := ht12.below hc13 ht12.lt
  have hb13 : Below G w w13 := hb12.trans (hc13.mono (Nat.le_of_lt hH12.lt))
  clear hH12 hK12 ht12 hb12 hc13
  go_wp2_with fail
  refine (CB'.out w13 ht13).mono ?_
  rintro e w14 ⟨rfl, hc14⟩
  have hH14 := hH13.below hc14 hH13.lt
  have hK14 := hK13.below hc14 hK13.lt
  have ht14 := ht13.below hc14 ht13.lt
  have hb14 : Below G w w14 := hb13.trans (hc14.mono (Nat.le_of_lt hH13.lt))
  clear hH13 hK13 ht13 hb13 hc14
  go_wp2_with fail
  refine (C0.out w14 ht14).mono ?_
  rintro e w15 ⟨rfl, hc15⟩
  have hH15 := hH14.below hc15 hH14.lt
  have hK15 := hK14.below hc15 hK14.lt
  have ht15 := ht14.below hc15 ht14.lt
  have hb15 : Below G w w15 := hb14.trans (hc15.mono (Nat.le_of_lt hH14.lt))
  clear hH14 hK14 ht14 hb14 hc15
  go_wp2_with fail
  refine (C0'.out w15 ht15).mono ?_
  rintro e w16 ⟨rfl, hc16⟩
  have hH16 := hH15.below hc16 hH15.lt
  have hK16 := hK15.below hc16 hK15.lt
  have ht16 := ht15.below hc16 ht15.lt
  have hb16 : Below G w w16 := hb15.trans (hc16.mono (Nat.le_of_lt hH15.lt))
  clear hH15 hK15 ht15 hb15 hc16
  go_wp2_with fail
  refine (C1.out w16 ht16).mono ?_
  rintro e w17 ⟨rfl, hc17⟩
  have hH17 := hH16.below hc17 hH16.lt
  have hK17 := hK16.below hc17 hK16.lt
  have ht17 := ht16.below hc17 ht16.lt
  have hb17 : Below G w w17 := hb16.trans (hc17.mono (Nat.le_of_lt hH16.lt))
  clear hH16 hK16 ht16 hb16 hc17
  go_wp2_with fail
  refine (C1'.out w17 ht17).mono ?_
  rintro e w18 ⟨rfl, hc18⟩
  have hH18 := hH17.below hc18 hH17.lt
  have hK18 := hK17.below hc18 hK17.lt
  have ht18 := ht17.below hc18 ht17.lt
  have hb18 : Below G w w18 := hb17.trans (hc18.mono (Nat.le_of_lt hH17.lt))
  clear hH17 hK17 ht17 hb17 hc18
  go_wp2_with fail
  refine (C2.out w18 ht18).mono ?_
  rintro e w19 ⟨rfl, hc19⟩
  have hH19 := hH18.below hc19 hH18.lt
  have hK19 := hK18.below hc19 hK18.lt
  have ht19 := ht18.below hc19 ht18.lt
  have hb19 : Below G w w19 := hb18.trans (hc19.mono (Nat.le_of_lt hH18.lt))
  clear hH18 hK18 ht18 hb18 hc19
  go_wp2_with fail
  refine (C2'.out w19 ht19).mono ?_
  rintro e w20 ⟨rfl, hc20⟩
  have hH20 := hH19.below hc20 hH19.lt
  have hK20 := hK19.below hc20 hK19.lt
  have ht20 := ht19.below hc20 ht19.lt
  have hb20 : Below G w w20 := hb19.trans (hc20.mono (Nat.le_of_lt hH19.lt))
  clear hH19 hK19 ht19 hb19 hc20
  go_wp2_with fail
  refine (sum_nil w20).mono ?_
  rintro e w30 ⟨rfl, hw30⟩
  rw [hw30]
  clear hw30
  go_wp2_with fail
  refine (len_nil w20).mono ?_
  rintro e w31 ⟨rfl, hw31⟩
  rw [hw31]
  clear hw31
  go_wp2_with fail
  go_ret
  exact ⟨rfl, by rw [HG.out]; exact hb20⟩
end Go.Proofs.YtbcjidoddhppiaaDoor
