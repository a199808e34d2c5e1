import Derived.Test.YtokknmkleceooaaGreatDoorStPlain
namespace Go.Proofs.YtokknmkleceooaaGreatDoor
open Go.RowKit Go.PlainAid
set_option linter.unusedVariables false
set_option maxRecDepth 20000
theorem txt_blk {w : World} {g n : Nat} {T : Nat → ByteArray} (h : Blk w g 9 (strs n T)) (hs : ∀ i, i < n → (T i).size ≤ 9223372036854775807) : TxtAt w (some ⟨g, 0, none⟩) n (fun i => (T i).size) (fun i => teE (T i)) :=
  ⟨.inr ⟨g, 0, rfl, fun i hi => by rw [Nat.zero_add]; show _ = some (Value.string (strE (T i).size (teE (T i)))); rw [strE_te]; exact h.cell (strs_at n T i hi)⟩, hs⟩
theorem vals_blk {w : World} {g n : Nat} {U : Nat → Bool} (h : Blk w g 4 (bolL n U)) : Vals w (some ⟨g, 0, none⟩) n fun i => .bool (U i) :=
  .inr ⟨g, 0, rfl, fun i hi => by rw [Nat.zero_add]; exact h.cell (bolL_at n U i hi)⟩
theorem decode_blk {w : World} {g1 g2 n : Nat} {T : Nat → ByteArray} {U : Nat → Bool} (h1 : Blk w g1 9 (strs n T)) (h2 : Blk w g2 4 (bolL n U)) (hs : ∀ i, i < n → (T i).size ≤ 9223372036854775807) (hn : 4 ≤ n ∧ n ≤ 10) :
    Calls Tryz.prog 45 #[.slice (some ⟨g1, 0, none⟩) n n, .slice (some ⟨g2, 0, none⟩) n n] w fun e w' => Below w.heap.size w w' ∧ ∃ v er F, e = .returned (.tuple #[v, .int .i64 er]) ∧ DecR n T U er F ∧ (er ≠ 0 → v = .slice none 0 0) ∧ (er = 0 → w'.ownsRow w.heap.size 9 1 v n (strs n F)) := by
  refine (decode_any _ _ n n n n _ _ U w (by omega) (by omega) (txt_blk h1 hs) (vals_blk h2)).mono ?_
  rintro e w' ⟨hb, v, er, rfl, ⟨a1, rfl, rfl⟩ | ⟨-, a2, rfl, rfl⟩ | ⟨-, a2, a3, rfl, rfl⟩ | ⟨-, a2, a3, rfl, D, a4, a5⟩⟩
  · exact absurd ⟨by omega, by omega, rfl⟩ a1
  · exact ⟨hb, _, _, fun _ => noB, rfl, .inl ⟨a2, rfl⟩, fun _ => rfl, fun h => by cases h⟩
  · exact ⟨hb, _, _, fun _ => noB, rfl, .inr (.inl ⟨a2, a3, rfl⟩), fun _ => rfl, fun h => absurd h a3⟩
  · exact ⟨hb, _, _, _, rfl, .inr (.inr ⟨a2, a3, rfl, D, a4, rfl⟩), fun h => absurd rfl h, fun _ => a5⟩
set_option maxHeartbeats 2000000 in
theorem load_any (h c n : Nat) (t : Int) (w : World) (hn : n ≤ 512) (S : Nat → Sh) (T : Nat → ByteArray) (E : Nat → Int) (hS : ShAt w h n S) (hF : ∀ i, i < n → FetchS w (S i) t (T i) (E i)) (hs : ∀ i, i < n → (T i).size ≤ 9223372036854775807) :
    Calls Tryz.prog 17 #[.slice (some ⟨h, 0, none⟩) n c, .int .i64 t] w fun e w' => Below w.heap.size w w' ∧ ∃ v1 v2 er F, e = .returned (.tuple #[v1, v2, .int .i64 er]) ∧ LdR n T E er F ∧ (er ≠ 0 → v1 = .slice none 0 0 ∧ v2 = .slice none 0 0) ∧
      (er = 0 → w'.ownsRow w.heap.size 9 1 v1 n (strs n F) ∧ w'.ownsRow w.heap.size 3 1 v2 (misL (fun i => decide (E i = 0)) n).length (nmsL (misL (fun i => decide (E i = 0)) n))) := by
  by_cases hok : 4 ≤ n ∧ n ≤ 10
  · have ha := fun z => are_any (some ⟨h, 0, none⟩) n c true (by simp [hok]) (by omega) z
    have hg := gather_any h c n t w hn S T E hS hF
    have HK : Hid (4 ≤ n ∧ n ≤ 10) := hok
    have HSZ : Hid (∀ i, i < n → (T i).size ≤ 9223372036854775807) := hs
    clear hok hS hF hs
    go_enter Tryz.func17, Tryz.ntmps17
    go_wp2_with (go_at_call 43; refine (ha _).mono ?_; rintro e wa ⟨rfl, hwa⟩; rw [hwa]; clear hwa wa)
    go_at_call 44
    refine hg.mono ?_
    rintro e w1 ⟨hb1, ⟨h21, rfl⟩ | ⟨hno, g1, g2, rfl, B1, B2⟩⟩
    · have H21 : Hid (∃ i, i < n ∧ E i = 21) := h21
      clear hg h21
      go_wp2_with fail
      go_ret3
      exact ⟨hb1, _, _, _, fun _ => noB, rfl, .inr (.inl ⟨HK.out, H21.out, rfl⟩), fun _ => ⟨rfl, rfl⟩, fun h => by cases h⟩
    · have HB1 : Hid (Below w.heap.size w w1) := hb1
      have HNO : Hid (∀ i, i < n → E i ≠ 21) := hno
      have HB2 : Hid (Blk w1 g2 4 (bolL n fun i => decide (E i = 0))) := B2
      have hd := decode_blk B1 B2 HSZ.out HK.out
      clear hg hb1 hno B1 B2 ha
      go_wp2_with fail
      go_at_call 45
      refine hd.mono ?_
      rintro e w2 ⟨hb2, v, er, F, rfl, hD, hv0, hv1⟩
      have HB3 : Hid (Below w1.heap.size w1 w2) := hb2
      have HL : Hid (LdR n T E er F) := .inr (.inr ⟨HK.out, HNO.out, hD⟩)
      have HV1 : Hid (er = 0 → w2.ownsRow w1.heap.size 9 1 v n (strs n F)) := hv1
      clear hd hb2 hD hv1 hv0
      by_cases her : er = 0
      · subst her
        have hm := missing_any (some ⟨g2, 0, none⟩) n n (fun i => decide (E i = 0)) w2 (by have := HK.out; omega) (vals_blk (HB2.out.below HB3.out HB2.out.lt))
        have HM : Hid (Calls _ _ _ _ _) := hm
        clear hm
        go_wp2_with (go_at_call 46; refine HM.out.mono ?_; rintro e w3 ⟨v2, rfl, hr3, hb3⟩; have HR3 : Hid (w3.ownsRow w2.heap.size 3 1 v2 _ _) := hr3; have HB4 : Hid (Below w2.heap.size w2 w3) := hb3; clear hr3 hb3 HM)
        go_ret3
        have hb12 := HB1.out.trans (HB3.out.mono HB1.out.size)
        exact ⟨hb12.trans (HB4.out.mono hb12.size), _, _, _, F, rfl, HL.out, fun h => absurd rfl h, fun _ => ⟨owns_low (mowns_below (HV1.out (by trivial)) HB4.out) HB1.out.size, owns_low HR3.out hb12.size⟩⟩
      · go_wp2_with fail
        go_ret3
        exact ⟨HB1.out.trans (HB3.out.mono HB1.out.size), _, _, _, F, rfl, HL.out, fun _ => ⟨rfl, rfl⟩, fun h => absurd h her⟩
  · have ha := fun z => are_any (some ⟨h, 0, none⟩) n c false (by simp; omega) (by omega) z
    have HK : Hid (¬ (4 ≤ n ∧ n ≤ 10)) := hok
    clear hok hS hF hs
    go_enter Tryz.func17, Tryz.ntmps17
    go_wp2_with (go_at_call 43; refine (ha _).mono ?_; rintro e wa ⟨rfl, hwa⟩; rw [hwa]; clear hwa wa)
    go_ret3
    exact ⟨Below.refl _ _, _, _, _, fun _ => noB, rfl, .inl ⟨HK.out, rfl⟩, fun _ => ⟨rfl, rfl⟩, fun h => by cases h⟩
set_option maxHeartbeats 2000000 in
theorem one_any (h c n : Nat) (t ch : Int) (w : World) (hn : n ≤ 512) (S : Nat → Sh) (T : Nat → ByteArray) (E : Nat → Int) (hS : ShAt w h n S) (hF : ∀ i, i < n → FetchS w (S i) t (T i) (E i)) (hs : ∀ i, i < n → (T i).size ≤ 9223372036854775807) :
    Calls Tryz.prog 19 #[.slice (some ⟨h, 0, none⟩) n c, .int .i64 t, .int .i64 ch] w fun e w' => Below w.heap.size w w' ∧ ∃ s er, e = .returned (.tuple #[.string s, .int .i64 er]) ∧ OnR n T E ch s er := by
  by_cases hok : 4 ≤ n ∧ n ≤ 10
  · have ha := fun z => are_any (some ⟨h, 0, none⟩) n c true (by simp [hok]) (by omega) z
    by_cases hc : 0 ≤ ch ∧ ch < (n : Int)
    · obtain ⟨k, rfl⟩ : ∃ k : Nat, ch = (k : Int) := ⟨ch.toNat, by omega⟩
      have hlt : k < n := by omega
      have hr := hS w (Below.refl _ _) k hlt
      have hf := hF k hlt
      have hl := fun z (hz : Below w.heap.size w z) => load_any h c n t z hn S T E (hS.below hz) (fun i hi => (hF i hi).below hz) hs
      have HK : Hid (4 ≤ n ∧ n ≤ 10) := hok
      have HZ : Hid ((Tryz.prog.info? 47).map (·.size) = some 6) := Tryz.size47
      unfold FetchS at hf
      simp only [Sh.L] at hr
      generalize (S k).g = sg at hr hf
      generalize (S k).i = si at hr hf
      generalize (S k).n = sn at hr hf
      generalize (S k).key = sk at hr hf
      generalize (S k).top = sp at hr hf
      generalize (S k).u = su at hr hf
      have HR : Hid (World.rangeAt w h (k * 6) _) := hr
      have HC : Hid (Calls _ _ _ _ _) := hf w (Below.refl _ _)
      have HL : Hid (∀ z, Below w.heap.size w z → Calls _ _ _ z _) := hl
      obtain ⟨Tk, hTk⟩ : ∃ x, T k = x := ⟨_, rfl⟩
      obtain ⟨Ek, hEk⟩ : ∃ x, E k = x := ⟨_, rfl⟩
      rw [hTk, hEk] at HC
      have HTE : Hid (T k = Tk ∧ E k = Ek) := ⟨hTk, hEk⟩
      have c1 : ¬ (k : Int) < 0 := by omega
      have c2 : ¬ (n : Int) ≤ (k : Int) := by omega
      have c3 : (k : Int) < (n : Int) := by omega
      have HLT : Hid (k < n) := hlt
      clear hok hc hS hF hs hr hf hl hTk hEk hlt
      go_enter Tryz.func19, Tryz.ntmps19
      go_upto_region 4 with (first
        | (go_at_call 43; refine (ha _).mono ?_; rintro e wa ⟨rfl, hwa⟩; rw [hwa]; clear hwa wa)
        | (refine wpList_load_mid rfl 47 _ rfl h (k * 6) rfl _ _ HR.out Tryz.underlying47 rfl HZ.out ?_)
        | (go_at_call 49; refine HC.out.mono ?_; rintro e w1 ⟨rfl, hb1⟩; have HB1 : Hid (Below w.heap.size w w1) := hb1; clear hb1 HC))
      by_cases h0 : Ek = 0
      · subst h0
        go_wp2_with fail
        go_ret2
        exact ⟨HB1.out, _, _, rfl, .inr ⟨k, rfl, HK.out, HLT.out, .inl ⟨.inl HTE.out.2, HTE.out.1.symm, HTE.out.2.symm⟩⟩⟩
      · by_cases h21 : Ek = 21
        · subst h21
          go_wp2_with fail
          go_ret2
          exact ⟨HB1.out, _, _, rfl, .inr ⟨k, rfl, HK.out, HLT.out, .inl ⟨.inr HTE.out.2, HTE.out.1.symm, HTE.out.2.symm⟩⟩⟩
        · have e0 : (Ek == 0) = false := by simpa using h0
          have e21 : (Ek == 21) = false := by simpa using h21
          go_wp2_with fail
          go_at_call 17
          refine (HL.out _ HB1.out).mono ?_
          rintro e w2 ⟨hb2, v1, v2, er, F, rfl, hD, hv0, hv1⟩
          have HB2 : Hid (Below w.heap.size w w2) := HB1.out.trans (hb2.mono HB1.out.size)
          have HD : Hid (OnR n T E (k : Int) (if er = 0 then F k else noB) er) := .inr ⟨k, rfl, HK.out, HLT.out, .inr ⟨by rw [HTE.out.2]; omega, F, hD, rfl⟩⟩
          by_cases her : er = 0
          · subst her
            obtain ⟨hv1, -⟩ := hv1 rfl
            obtain ⟨a1, d1, rfl⟩ := owns_form hv1
            obtain ⟨o1, c4⟩ : ∃ o1, a1 = some ⟨o1, 0, none⟩ ∧ w2.cell? ⟨o1, k, none⟩ = some (.string (F k)) := by
              rcases hv1.2 with ⟨e0, _⟩ | ⟨g, cap, cur, e0, _⟩
              · cases e0; have := HK.out; omega
              · cases e0
                refine ⟨g, rfl, ?_⟩
                have := hv1.cellAt k (by have := HLT.out; omega)
                rw [this]; exact strs_at n F k HLT.out
            obtain ⟨rfl, c5⟩ := c4
            rw [if_pos rfl] at HD
            clear hb2 hD hv0 hv1
            go_wp2_with fail
            go_ret2
            exact ⟨HB2.out, _, _, rfl, HD.out⟩
          · rw [if_neg her] at HD
            clear hb2 hD hv0 hv1
            go_wp2_with fail
            go_ret2
            exact ⟨HB2.out, _, _, rfl, HD.out⟩
    · have HN : Hid (¬ ((4 ≤ n ∧ n ≤ 10) ∧ 0 ≤ ch ∧ ch < (n : Int))) := fun h => hc h.2
      clear hS hF hs hok
      by_cases h1 : ch < 0
      · clear hc
        go_enter Tryz.func19, Tryz.ntmps19
        go_wp2_with (go_at_call 43; refine (ha _).mono ?_; rintro e wa ⟨rfl, hwa⟩; rw [hwa]; clear hwa wa)
        go_ret2
        exact ⟨Below.refl _ _, _, _, rfl, .inl ⟨HN.out, rfl, rfl⟩⟩
      · have h2 : (n : Int) ≤ ch := by omega
        clear hc
        go_enter Tryz.func19, Tryz.ntmps19
        go_wp2_with (go_at_call 43; refine (ha _).mono ?_; rintro e wa ⟨rfl, hwa⟩; rw [hwa]; clear hwa wa)
        go_ret2
        exact ⟨Below.refl _ _, _, _, rfl, .inl ⟨HN.out, rfl, rfl⟩⟩
  · have ha := fun z => are_any (some ⟨h, 0, none⟩) n c false (by simp; omega) (by omega) z
    have HN : Hid (¬ ((4 ≤ n ∧ n ≤ 10) ∧ 0 ≤ ch ∧ ch < (n : Int))) := fun h => hok h.1
    clear hok hS hF hs
    go_enter Tryz.func19, Tryz.ntmps19
    go_wp2_with (go_at_call 43; refine (ha _).mono ?_; rintro e wa ⟨rfl, hwa⟩; rw [hwa]; clear hwa wa)
    go_ret2
    exact ⟨Below.refl _ _, _, _, rfl, .inl ⟨HN.out, rfl, rfl⟩⟩
theorem whB_no {n : Nat} {T : Nat → ByteArray} {E : Nat → Int} (h : ¬ ((4 ≤ n ∧ n ≤ 10) ∧ ∀ i, i < n → E i = 0)) : whB n T E = false := decide_eq_false fun h' => h ⟨h'.1, h'.2.1⟩
set_option maxHeartbeats 2000000 in
theorem whole_any (h c n : Nat) (t : Int) (w : World) (hn : n ≤ 512) (S : Nat → Sh) (T : Nat → ByteArray) (E : Nat → Int) (hS : ShAt w h n S) (hF : ∀ i, i < n → FetchS w (S i) t (T i) (E i)) (hs : ∀ i, i < n → (T i).size ≤ 9223372036854775807) :
    Calls Tryz.prog 21 #[.slice (some ⟨h, 0, none⟩) n c, .int .i64 t] w fun e w' => Below w.heap.size w w' ∧ e = .returned (.bool (whB n T E)) := by
  by_cases hok : 4 ≤ n ∧ n ≤ 10
  · have ha := fun z => are_any (some ⟨h, 0, none⟩) n c true (by simp [hok]) (by omega) z
    have hg := gather_any h c n t w hn S T E hS hF
    have HK : Hid (4 ≤ n ∧ n ≤ 10) := hok
    have HSZ : Hid (∀ i, i < n → (T i).size ≤ 9223372036854775807) := hs
    clear hok hS hF hs
    go_enter Tryz.func21, Tryz.ntmps21
    go_wp2_with (go_at_call 43; refine (ha _).mono ?_; rintro e wa ⟨rfl, hwa⟩; rw [hwa]; clear hwa wa)
    go_at_call 44
    refine hg.mono ?_
    rintro e w1 ⟨hb1, ⟨⟨i, hi, h21⟩, rfl⟩ | ⟨hno, g1, g2, rfl, B1, B2⟩⟩
    · have HW : Hid (whB n T E = false) := whB_no fun h' => by have := h'.2 i hi; omega
      clear hg h21 hi
      go_wp2_with fail
      go_ret
      rw [HW.out]
      exact ⟨hb1, rfl⟩
    · have HB1 : Hid (Below w.heap.size w w1) := hb1
      have n12 : n ≤ 1000 := by have := HK.out; omega
      by_cases hz : ∀ i, i < n → E i = 0
      · have hcb := contB_any (some ⟨g2, 0, none⟩) n n (fun i => decide (E i = 0)) w1 n12 (vals_blk B2) false (Iff.intro (fun h => by cases h) (fun ⟨i, hi, h⟩ => by simp [hz i hi] at h))
        have hck := check_any (some ⟨g1, 0, none⟩) n n _ _ w1 (Nat.le_refl _) (by omega) (txt_blk B1 HSZ.out)
        have HW : Hid (whB n T E = chkB n (fun i => (T i).size) (fun i => teE (T i))) := by
          show _ = _
          unfold whB
          cases h : chkB n (fun i => (T i).size) (fun i => teE (T i)) with
          | true => exact decide_eq_true ⟨HK.out, hz, rfl⟩
          | false => exact decide_eq_false fun h' => by cases h'.2.2
        have HCK : Hid (Calls _ _ _ _ _) := hck
        have HCB : Hid (Calls _ _ _ _ _) := hcb
        clear hg hno B1 B2 hz hcb hck hb1
        generalize chkB n (fun i => (T i).size) (fun i => teE (T i)) = q at *
        go_wp2_with (first
          | (go_at_call 50; refine HCB.out.mono ?_; rintro e wa ⟨rfl, hwa⟩; rw [hwa]; clear hwa wa)
          | (go_at_call 51; refine HCK.out.mono ?_; rintro e w2 ⟨hb2, rfl⟩; have HB2 : Hid (Below w.heap.size w w2) := HB1.out.trans (hb2.mono HB1.out.size); clear hb2))
        go_ret
        rw [HW.out]
        exact ⟨HB2.out, rfl⟩
      · have hcb := contB_any (some ⟨g2, 0, none⟩) n n (fun i => decide (E i = 0)) w1 n12 (vals_blk B2) true (Iff.intro (fun _ => by
          apply Classical.byContradiction
          intro h'
          exact hz fun i hi => by
            apply Classical.byContradiction
            intro h2
            exact h' ⟨i, hi, decide_eq_false h2⟩) (fun _ => rfl))
        have HW : Hid (whB n T E = false) := whB_no fun h' => hz h'.2
        have HCB : Hid (Calls _ _ _ _ _) := hcb
        clear hg hno B1 B2 hz hcb hb1
        go_wp2_with (go_at_call 50; refine HCB.out.mono ?_; rintro e wa ⟨rfl, hwa⟩; rw [hwa]; clear hwa wa)
        go_ret
        rw [HW.out]
        exact ⟨HB1.out, rfl⟩
  · have ha := fun z => are_any (some ⟨h, 0, none⟩) n c false (by simp; omega) (by omega) z
    have HW : Hid (whB n T E = false) := whB_no fun h' => hok h'.1
    clear hok hS hF hs
    go_enter Tryz.func21, Tryz.ntmps21
    go_wp2_with (go_at_call 43; refine (ha _).mono ?_; rintro e wa ⟨rfl, hwa⟩; rw [hwa]; clear hwa wa)
    go_ret
    rw [HW.out]
    exact ⟨Below.refl _ _, rfl⟩
end Go.Proofs.YtokknmkleceooaaGreatDoor
