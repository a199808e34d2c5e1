/- The law DiskPlays, walked. -/
import Derived.Test.YtmgllcmfnljfjaaDkPlays
namespace Go.Proofs.Ytmgllcmfnljfjaa
open Go.RowKit Go.PlainAid
set_option linter.unusedVariables false

set_option maxRecDepth 20000 in
set_option maxHeartbeats 4000000 in
theorem diskPlays_law (c : Int) (s : Option Addr) (len cap : Nat) (W : World) (hs : ActsArg W s len cap) : Calls Try.prog 3 #[.int .i64 c, .slice s len cap] W fun e w' => e = .returned (.bool true) ∧ Below W.heap.size W w' := by
  have hl1 := hs.1
  have hl2 := hs.2.1
  have HS : Hid (ActsArg W s len cap) := hs
  have hnew := h_new firm_nought (hold_nought W.heap.size W W (Nat.le_refl _) (Below.refl _ _)) c
  obtain ⟨n, hnn⟩ : ∃ n, newN c = n := ⟨_, rfl⟩
  have hn := newN_low c
  rw [hnn] at hn
  clear hs
  by_cases hl : 60 < len
  · have hlI : (60 : Int) ≤ (len : Int) := by omega
    go_enter Try.func3, Try.ntmps3
    go_wp2_with (first
      | (go_at_call 8; refine hnew.mono ?_; rintro e w1 ⟨gd, rfl, h1⟩; clear hnew; have hrn := h_rnew ((firm_dsk _ _ _ _ _).star firm_nought) h1 c; clear h1)
      | (go_at_call 9; refine hrn.mono ?_; rintro e w2 ⟨gr, rfl, h2⟩; clear hrn; rw [hnn] at h2; have hx : Hid _ := sys_start h2; clear h2))
    obtain ⟨gi, hgi⟩ : ∃ gi, w2.heap.size = gi := ⟨_, rfl⟩
    rw [hgi] at hx ⊢
    clear hgi
    generalize w2.alloc (.cells #[.slice none 0 0] 27) = w3 at hx ⊢
    have h' := Sys.below hx.out (Below.refl _ _).drew
    clear hx
    have hx : Hid _ := h'
    clear h'
    refine wp_region_noPanic ?_
    refine wp_region_held_drew (S := fun _ => True) (by kernel_rfl) trivial (fun hHeld => ?_)
    refine wpAnyH_ready (rs := [0]) (by kernel_rfl) (by simp) (AllReadyH.cons rfl (fun K hK => ?_) AllReadyH.nil)
    go_simp
    go_at_call 10
    refine (wakes_any _).mono ?_
    rintro e wz ⟨rfl, hbz⟩
    have h' := Sys.below hx.out hbz
    clear hx hbz
    have hx : Hid _ := h'
    clear h'
    refine hK.out _ _ trivial (fun hHeld => ?_)
    clear hK K
    obtain ⟨FR, gcR, vR, hR⟩ := Sys.ref hx.out
    obtain ⟨FD, hD⟩ := Sys.disk hx.out
    have hsi := size_any hD
    have HC : Hid (wz.cell? ⟨gr, 0, none⟩ = some (.slice (some ⟨gcR, 0, none⟩) n n)) := hR.top.cell (i := 0) rfl
    clear hR hD
    refine wpAnyH_weaken (S' := fun z : World => z.cell? ⟨gr, 0, none⟩ = some (.slice (some ⟨gcR, 0, none⟩) n n)) (fun _ _ => trivial) _ _ _ _ ?_
    have hHeld := HC.out
    refine wpAnyH_take (i := 1) (v := ?_) rfl (by kernel_rfl) (by kernel_rfl) (by kernel_rfl) (fun _ _ _ h => h) (Or.inl ⟨by rfl, ?_⟩) (by assumption) ?_
    rotate_left
    · intro w hSw; go_simp; try with_reducible rfl
    go_simp
    refine wpAnyH_take (i := 2) (v := ?_) rfl (by kernel_rfl) (by kernel_rfl) (by kernel_rfl) (fun _ _ _ h => h) (Or.inl ⟨by rfl, ?_⟩) (by assumption) ?_
    rotate_left
    · intro w hSw; go_simp; try with_reducible rfl
    go_simp
    refine wpAnyH_take (i := 3) (v := ?_) rfl (by kernel_rfl) (by kernel_rfl) (by kernel_rfl) (fun _ _ _ h => h) (Or.inl ⟨by rfl, ?_⟩) (by assumption) ?_
    rotate_left
    · intro w hSw; go_simp; try with_reducible rfl
    go_simp
    refine wpAnyH_take (i := 5) (v := ?_) rfl (by kernel_rfl) (by kernel_rfl) (by kernel_rfl) (fun _ _ _ h => h) (Or.inl ⟨by rfl, ?_⟩) (by assumption) ?_
    rotate_left
    · intro w hSw; go_simp; try with_reducible rfl
    go_simp
    refine wpAnyH_take (i := 6) (v := ?_) rfl (by kernel_rfl) (by kernel_rfl) (by kernel_rfl) (fun _ _ _ h => h) (Or.inl ⟨by rfl, ?_⟩) (by assumption) ?_
    rotate_left
    · intro w hSw; go_simp; try with_reducible rfl
    go_simp
    refine wpAnyH_take (i := 7) (v := ?_) rfl (by kernel_rfl) (by kernel_rfl) (by kernel_rfl) (fun _ _ _ h => h) (Or.inl ⟨by rfl, ?_⟩) (by assumption) ?_
    rotate_left
    · intro w hSw; go_simp; try with_reducible rfl
    go_simp
    refine wpAnyH_take (i := 8) (v := ?_) rfl (by kernel_rfl) (by kernel_rfl) (by kernel_rfl) (fun _ _ _ h => h) (Or.inl ⟨by rfl, ?_⟩) (by assumption) ?_
    rotate_left
    · intro w hSw; go_simp; try with_reducible rfl
    go_simp
    refine wpAnyH_take (i := 9) (v := ?_) rfl (by kernel_rfl) (by kernel_rfl) (by kernel_rfl) (fun _ _ _ h => h) (Or.inl ⟨by rfl, ?_⟩) (by assumption) ?_
    rotate_left
    · intro w hSw; go_simp; try with_reducible rfl
    go_simp
    refine wpAnyH_ready (rs := [4]) (by kernel_rfl) (by simp) (AllReadyH.cons rfl (fun K hK => ?_) AllReadyH.nil)
    go_simp
    go_at_call 11
    refine hsi.mono ?_
    rintro e wy ⟨rfl, hw'⟩
    rw [hw']
    clear hw' wy
    refine hK.out _ _ HC.out (fun hHeld => ?_)
    clear hK K
    refine wpAnyH_take (i := 10) (v := ?_) rfl (by kernel_rfl) (by kernel_rfl) (by kernel_rfl) (fun _ _ _ h => h) (Or.inl ⟨by rfl, ?_⟩) (by assumption) ?_
    rotate_left
    · intro w hSw; go_simp; try with_reducible rfl
    go_simp
    refine wpAnyH_take (i := 11) (v := ?_) rfl (by kernel_rfl) (by kernel_rfl) (by kernel_rfl) (fun _ _ _ h => h) (Or.inl ⟨by rfl, ?_⟩) (by assumption) ?_
    rotate_left
    · intro w hSw; go_simp; try with_reducible rfl
    go_simp
    refine wpAnyH_done (by kernel_rfl) ?_ _
    refine NoPanic.normal ?_
    clear hsi hHeld HC
    go_wp2_with fail
    go_loopw [32] (fun i wr => ∃ j : Nat, j ≤ 60 ∧ i = .int .i64 (j : Int) ∧ Hid (∃ dead, Plays W.heap.size W wr gd gr gi n j dead)) (fun i _ => 60 - (intOf i).toNat)
    case atStart => exact ⟨0, Nat.zero_le _, rfl, false, _, _, _, _, _, _, hx.out, (fun _ _ _ => rfl), Nat.le_refl _, Nat.zero_le _⟩
    case round =>
      clear hx
      obtain ⟨j, hj, rfl, hrr⟩ := hrel
      by_cases hlt : j < 60
      · have hj' : (j : Int) < (60 : Int) := by omega
        obtain ⟨dead, hp⟩ := hrr.out
        have hp : Hid _ := hp
        have hbw : Below W.heap.size W wr := by
          obtain ⟨l, q, l', v, m, f, h1, _⟩ := hp.out
          exact Hold.low h1
        obtain ⟨sb, so, A, hsa, hA, hoA, c0, c1, c2, c3, c4, c5⟩ := acts_at HS.out hbw j (by omega)
        subst hsa
        obtain ⟨d, a, s, nn, x, kb, km, kc, kk⟩ := A
        simp only [ActD.row] at c4 hoA
        have hp1 : Hid _ := Plays.below hp.out ((Below.refl _ _).alloc (Nat.le_refl _) (.cells #[.int .i64 d, .int .i64 a, .string s, .int .i64 nn, .slice kb km kc, .bool x] 35))
        have hbx := Blk.new wr 35 #[.int .i64 d, .int .i64 a, .string s, .int .i64 nn, .slice kb km kc, .bool x]
        have hp2 : Hid _ := Plays.below hp1.out (Below.refl _ _).drew
        have hS0 : (fun z => z.cell? ⟨wr.heap.size, 0, none⟩ = some (.int .i64 d) ∧ z.cell? ⟨wr.heap.size, 1, none⟩ = some (.int .i64 a) ∧ z.cell? ⟨wr.heap.size, 2, none⟩ = some (.string s) ∧ z.cell? ⟨wr.heap.size, 3, none⟩ = some (.int .i64 nn) ∧ z.cell? ⟨wr.heap.size, 4, none⟩ = some (.slice kb km kc) ∧ z.cell? ⟨wr.heap.size, 5, none⟩ = some (.bool x)) (wr.alloc (.cells #[.int .i64 d, .int .i64 a, .string s, .int .i64 nn, .slice kb km kc, .bool x] 35)).drew := ⟨hbx.drew.cell rfl, hbx.drew.cell rfl, hbx.drew.cell rfl, hbx.drew.cell rfl, hbx.drew.cell rfl, hbx.drew.cell rfl⟩
        obtain ⟨bx, hbxe⟩ : ∃ bx, wr.heap.size = bx := ⟨_, rfl⟩
        clear hrr hp hp1 hbx hbw
        go_wp2_with fail
        rw [hbxe] at hS0
        clear c0 c1 c2 c3 c4 c5
        refine wp_region_noPanic ?_
        refine wp_region_C (c := 3) (S := fun z => z.cell? ⟨bx, 0, none⟩ = some (.int .i64 d) ∧ z.cell? ⟨bx, 1, none⟩ = some (.int .i64 a) ∧ z.cell? ⟨bx, 2, none⟩ = some (.string s) ∧ z.cell? ⟨bx, 3, none⟩ = some (.int .i64 nn) ∧ z.cell? ⟨bx, 4, none⟩ = some (.slice kb km kc) ∧ z.cell? ⟨bx, 5, none⟩ = some (.bool x)) (by kernel_rfl) ?_
        generalize (wr.alloc (.cells #[.int .i64 d, .int .i64 a, .string s, .int .i64 nn, .slice kb km kc, .bool x] 35)).drew = wd at hS0 hp2 ⊢
        refine wpAnyC_take (i := 0) (v := ?_) rfl (by kernel_rfl) (by kernel_rfl) (by kernel_rfl) (by kernel_rfl) (fun _ _ _ h => h) (Or.inl ⟨by rfl, ?_⟩) hS0 ?_
        rotate_left
        · intro z hSw; go_simp; try with_reducible rfl
        go_simp
        refine wpAnyC_take (i := 1) (v := ?_) rfl (by kernel_rfl) (by kernel_rfl) (by kernel_rfl) (by kernel_rfl) (fun _ _ _ h => h) (Or.inl ⟨by rfl, ?_⟩) hS0 ?_
        rotate_left
        · intro z hSw; go_simp; try with_reducible rfl
        go_simp
        refine wpAnyC_take (i := 2) (v := ?_) rfl (by kernel_rfl) (by kernel_rfl) (by kernel_rfl) (by kernel_rfl) (fun _ _ _ h => h) (Or.inl ⟨by rfl, ?_⟩) hS0 ?_
        rotate_left
        · intro z hSw; go_simp; try with_reducible rfl
        go_simp
        have hact := act_any hp2.out (by omega) ⟨d, a, s, nn, x, kb, km, kc, kk⟩ hA hoA
        simp only [ActD.row] at hact
        refine wpAnyC_one (i := 3) (by kernel_rfl) rfl (fun K hK => ?_)
        go_simp
        go_at_call 12
        refine hact.mono ?_
        rintro e wz ⟨rfl, dead2, hpz, -⟩
        refine hK.out _ _ (fun h => absurd h (by decide)) ?_
        clear hK K hact hp2 hS0
        have hpz' : Hid _ := hpz
        obtain ⟨l2, q2, l2', v2, m2, f2, hs2, hr2, hq2, hm2⟩ := hpz
        obtain ⟨FR, gcR, vR, hR⟩ := Sys.ref hs2
        obtain ⟨aR, capR, hvR⟩ := hR.row.form
        obtain ⟨FD, hD⟩ := Sys.disk hs2
        have hwa := waiting_any hD
        have hde := dead_any hD
        subst hvR
        have hHeld : (fun z : World => z.cell? ⟨gr, 1, none⟩ = some (.slice aR q2.length capR) ∧ z.cell? ⟨gr, 2, none⟩ = some (.bool dead2)) wz := ⟨hR.top.cell (i := 1) rfl, hR.top.cell (i := 2) rfl⟩
        have HC : Hid _ := hHeld
        clear hR hD hs2 hr2
        refine wpAnyH_toC (S' := fun z : World => z.cell? ⟨gr, 1, none⟩ = some (.slice aR q2.length capR) ∧ z.cell? ⟨gr, 2, none⟩ = some (.bool dead2)) _ _ _ _ (by kernel_rfl) ?_
        refine wpAnyH_take (i := 4) (v := ?_) rfl (by kernel_rfl) (by kernel_rfl) (by kernel_rfl) (fun _ _ _ h => h) (Or.inl ⟨by rfl, ?_⟩) (by assumption) ?_
        rotate_left
        · intro w hSw; go_simp; try with_reducible rfl
        go_simp
        refine wpAnyH_take (i := 5) (v := ?_) rfl (by kernel_rfl) (by kernel_rfl) (by kernel_rfl) (fun _ _ _ h => h) (Or.inl ⟨by rfl, ?_⟩) (by assumption) ?_
        rotate_left
        · intro w hSw; go_simp; try with_reducible rfl
        go_simp
        refine wpAnyH_take (i := 6) (v := ?_) rfl (by kernel_rfl) (by kernel_rfl) (by kernel_rfl) (fun _ _ _ h => h) (Or.inl ⟨by rfl, ?_⟩) (by assumption) ?_
        rotate_left
        · intro w hSw; go_simp; try with_reducible rfl
        go_simp
        refine wpAnyH_take (i := 8) (v := ?_) rfl (by kernel_rfl) (by kernel_rfl) (by kernel_rfl) (fun _ _ _ h => h) (Or.inl ⟨by rfl, ?_⟩) (by assumption) ?_
        rotate_left
        · intro w hSw; go_simp; try with_reducible rfl
        go_simp
        refine wpAnyH_take (i := 9) (v := ?_) rfl (by kernel_rfl) (by kernel_rfl) (by kernel_rfl) (fun _ _ _ h => h) (Or.inl ⟨by rfl, ?_⟩) (by assumption) ?_
        rotate_left
        · intro w hSw; go_simp; try with_reducible rfl
        go_simp
        refine wpAnyH_take (i := 10) (v := ?_) rfl (by kernel_rfl) (by kernel_rfl) (by kernel_rfl) (fun _ _ _ h => h) (Or.inl ⟨by rfl, ?_⟩) (by assumption) ?_
        rotate_left
        · intro w hSw; go_simp; try with_reducible rfl
        go_simp
        refine wpAnyH_take (i := 11) (v := ?_) rfl (by kernel_rfl) (by kernel_rfl) (by kernel_rfl) (fun _ _ _ h => h) (Or.inl ⟨by rfl, ?_⟩) (by assumption) ?_
        rotate_left
        · intro w hSw; go_simp; try with_reducible rfl
        go_simp
        refine wpAnyH_take (i := 12) (v := ?_) rfl (by kernel_rfl) (by kernel_rfl) (by kernel_rfl) (fun _ _ _ h => h) (Or.inl ⟨by rfl, ?_⟩) (by assumption) ?_
        rotate_left
        · intro w hSw; go_simp; try with_reducible rfl
        go_simp
        refine wpAnyH_ready (rs := [7]) (by kernel_rfl) (by simp) (AllReadyH.cons rfl (fun K hK => ?_) AllReadyH.nil)
        go_simp
        go_at_call 13
        refine hwa.mono ?_
        rintro e wy ⟨rfl, hw'⟩
        rw [hw']
        clear hw' wy
        refine hK.out _ _ HC.out (fun hHeld => ?_)
        clear hK K
        refine wpAnyH_take (i := 13) (v := ?_) rfl (by kernel_rfl) (by kernel_rfl) (by kernel_rfl) (fun _ _ _ h => h) (Or.inl ⟨by rfl, ?_⟩) (by assumption) ?_
        rotate_left
        · intro w hSw; go_simp; try with_reducible rfl
        go_simp
        refine wpAnyH_take (i := 14) (v := ?_) rfl (by kernel_rfl) (by kernel_rfl) (by kernel_rfl) (fun _ _ _ h => h) (Or.inl ⟨by rfl, ?_⟩) (by assumption) ?_
        rotate_left
        · intro w hSw; go_simp; try with_reducible rfl
        go_simp
        refine wpAnyH_take (i := 15) (v := ?_) rfl (by kernel_rfl) (by kernel_rfl) (by kernel_rfl) (fun _ _ _ h => h) (Or.inl ⟨by rfl, ?_⟩) (by assumption) ?_
        rotate_left
        · intro w hSw; go_simp; try with_reducible rfl
        go_simp
        refine wpAnyH_take (i := 16) (v := ?_) rfl (by kernel_rfl) (by kernel_rfl) (by kernel_rfl) (fun _ _ _ h => h) (Or.inl ⟨by rfl, ?_⟩) (by assumption) ?_
        rotate_left
        · intro w hSw; go_simp; try with_reducible rfl
        go_simp
        refine wpAnyH_take (i := 18) (v := ?_) rfl (by kernel_rfl) (by kernel_rfl) (by kernel_rfl) (fun _ _ _ h => h) (Or.inl ⟨by rfl, ?_⟩) (by assumption) ?_
        rotate_left
        · intro w hSw; go_simp; try with_reducible rfl
        go_simp
        refine wpAnyH_take (i := 19) (v := ?_) rfl (by kernel_rfl) (by kernel_rfl) (by kernel_rfl) (fun _ _ _ h => h) (Or.inl ⟨by rfl, ?_⟩) (by assumption) ?_
        rotate_left
        · intro w hSw; go_simp; try with_reducible rfl
        go_simp
        refine wpAnyH_take (i := 20) (v := ?_) rfl (by kernel_rfl) (by kernel_rfl) (by kernel_rfl) (fun _ _ _ h => h) (Or.inl ⟨by rfl, ?_⟩) (by assumption) ?_
        rotate_left
        · intro w hSw; go_simp; try with_reducible rfl
        go_simp
        refine wpAnyH_take (i := 21) (v := ?_) rfl (by kernel_rfl) (by kernel_rfl) (by kernel_rfl) (fun _ _ _ h => h) (Or.inl ⟨by rfl, ?_⟩) (by assumption) ?_
        rotate_left
        · intro w hSw; go_simp; try with_reducible rfl
        go_simp
        refine wpAnyH_ready (rs := [17]) (by kernel_rfl) (by simp) (AllReadyH.cons rfl (fun K hK => ?_) AllReadyH.nil)
        go_simp
        go_at_call 14
        refine hde.mono ?_
        rintro e wy ⟨rfl, hw'⟩
        rw [hw']
        clear hw' wy
        refine hK.out _ _ HC.out (fun hHeld => ?_)
        clear hK K
        refine wpAnyH_take (i := 22) (v := ?_) rfl (by kernel_rfl) (by kernel_rfl) (by kernel_rfl) (fun _ _ _ h => h) (Or.inl ⟨by rfl, ?_⟩) (by assumption) ?_
        rotate_left
        · intro w hSw; go_simp; try with_reducible rfl
        go_simp
        refine wpAnyH_take (i := 23) (v := ?_) rfl (by kernel_rfl) (by kernel_rfl) (by kernel_rfl) (fun _ _ _ h => h) (Or.inl ⟨by rfl, ?_⟩) (by assumption) ?_
        rotate_left
        · intro w hSw; go_simp; try with_reducible rfl
        go_simp
        refine wpAnyH_done (by kernel_rfl) ?_ _
        refine NoPanic.normal ?_
        clear hwa hde hHeld HC
        go_wp2_with fail
        go_roundw
        case rel => exact ⟨j + 1, by omega, by go_num, dead2, hpz'.out⟩
        case measure => simp [intOf]; omega
      · obtain rfl : j = 60 := by omega
        obtain ⟨dead, l, q, l', v, m, f, hs, hr, hq, hm⟩ := hrr.out
        have hq' : q.length ≤ 1000000 := by omega
        have hxs : Hid _ := hs
        obtain ⟨FD, hD⟩ := Sys.disk hs
        have hn5 := hD.size.2
        clear hs hrr
        cases dead
        · have him := image_any hD
          clear hD
          go_wp2_with (first
            | (go_at_call 16; refine him.mono ?_; rintro e w1 ⟨rfl, hbk, hb1⟩; clear him; have ht1 : Hid _ := texts_blk hbk; have hx2 : Hid _ := Sys.below hxs.out hb1; clear hbk hb1; obtain ⟨FR, hR⟩ := Sys.ref hx2.out; have hri := refImage_any hR hq'; clear hR)
            | (go_at_call 17; refine hri.mono ?_; rintro e w2 ⟨b, c, rfl, htx, hb2⟩; clear hri; have ht2 : Hid _ := TextsAt.congr htx (fun i hi => (app_congr q n l' l (fun i hi => (hr rfl i hi).symm) i hi)); have ht3 : Hid _ := TextsAt.below ht1.out hb2; have hx3 : Hid _ := Sys.below hx2.out hb2; clear htx hb2 ht1; have heq := equal_true _ _ n (app l q) w2 ht3.out ht2.out (by omega))
            | (go_at_call 15; refine heq.mono ?_; rintro e w3 ⟨rfl, hb3⟩; clear heq; have hx4 : Hid _ := Sys.below hx3.out hb3))
          go_ret
          exact ⟨rfl, Hold.low hx4.out⟩
        · have him := image_dead hD
          obtain ⟨FR, hR⟩ := Sys.ref hxs.out
          have hri := refImage_dead hR
          have heq := equal_true (.slice none 0 0) (.slice none 0 0) 0 (fun _ => noB) wr (texts_none _ _) (texts_none _ _) (by omega)
          clear hD hR
          go_wp2_with (first
            | (go_at_call 16; refine him.mono ?_; rintro e w1 ⟨rfl, hw'⟩; rw [hw']; clear hw' w1)
            | (go_at_call 17; refine hri.mono ?_; rintro e w1 ⟨rfl, hw'⟩; rw [hw']; clear hw' w1)
            | (go_at_call 15; refine heq.mono ?_; rintro e w3 ⟨rfl, hb3⟩; clear heq; have hx4 : Hid _ := Sys.below hxs.out hb3))
          go_ret
          exact ⟨rfl, Hold.low hx4.out⟩
  · have hlI : (len : Int) ≤ 60 := by omega
    go_enter Try.func3, Try.ntmps3
    go_wp2_with (first
      | (go_at_call 8; refine hnew.mono ?_; rintro e w1 ⟨gd, rfl, h1⟩; clear hnew; have hrn := h_rnew ((firm_dsk _ _ _ _ _).star firm_nought) h1 c; clear h1)
      | (go_at_call 9; refine hrn.mono ?_; rintro e w2 ⟨gr, rfl, h2⟩; clear hrn; rw [hnn] at h2; have hx : Hid _ := sys_start h2; clear h2))
    obtain ⟨gi, hgi⟩ : ∃ gi, w2.heap.size = gi := ⟨_, rfl⟩
    rw [hgi] at hx ⊢
    clear hgi
    generalize w2.alloc (.cells #[.slice none 0 0] 27) = w3 at hx ⊢
    have h' := Sys.below hx.out (Below.refl _ _).drew
    clear hx
    have hx : Hid _ := h'
    clear h'
    refine wp_region_noPanic ?_
    refine wp_region_held_drew (S := fun _ => True) (by kernel_rfl) trivial (fun hHeld => ?_)
    refine wpAnyH_ready (rs := [0]) (by kernel_rfl) (by simp) (AllReadyH.cons rfl (fun K hK => ?_) AllReadyH.nil)
    go_simp
    go_at_call 10
    refine (wakes_any _).mono ?_
    rintro e wz ⟨rfl, hbz⟩
    have h' := Sys.below hx.out hbz
    clear hx hbz
    have hx : Hid _ := h'
    clear h'
    refine hK.out _ _ trivial (fun hHeld => ?_)
    clear hK K
    obtain ⟨FR, gcR, vR, hR⟩ := Sys.ref hx.out
    obtain ⟨FD, hD⟩ := Sys.disk hx.out
    have hsi := size_any hD
    have HC : Hid (wz.cell? ⟨gr, 0, none⟩ = some (.slice (some ⟨gcR, 0, none⟩) n n)) := hR.top.cell (i := 0) rfl
    clear hR hD
    refine wpAnyH_weaken (S' := fun z : World => z.cell? ⟨gr, 0, none⟩ = some (.slice (some ⟨gcR, 0, none⟩) n n)) (fun _ _ => trivial) _ _ _ _ ?_
    have hHeld := HC.out
    refine wpAnyH_take (i := 1) (v := ?_) rfl (by kernel_rfl) (by kernel_rfl) (by kernel_rfl) (fun _ _ _ h => h) (Or.inl ⟨by rfl, ?_⟩) (by assumption) ?_
    rotate_left
    · intro w hSw; go_simp; try with_reducible rfl
    go_simp
    refine wpAnyH_take (i := 2) (v := ?_) rfl (by kernel_rfl) (by kernel_rfl) (by kernel_rfl) (fun _ _ _ h => h) (Or.inl ⟨by rfl, ?_⟩) (by assumption) ?_
    rotate_left
    · intro w hSw; go_simp; try with_reducible rfl
    go_simp
    refine wpAnyH_take (i := 3) (v := ?_) rfl (by kernel_rfl) (by kernel_rfl) (by kernel_rfl) (fun _ _ _ h => h) (Or.inl ⟨by rfl, ?_⟩) (by assumption) ?_
    rotate_left
    · intro w hSw; go_simp; try with_reducible rfl
    go_simp
    refine wpAnyH_take (i := 5) (v := ?_) rfl (by kernel_rfl) (by kernel_rfl) (by kernel_rfl) (fun _ _ _ h => h) (Or.inl ⟨by rfl, ?_⟩) (by assumption) ?_
    rotate_left
    · intro w hSw; go_simp; try with_reducible rfl
    go_simp
    refine wpAnyH_take (i := 6) (v := ?_) rfl (by kernel_rfl) (by kernel_rfl) (by kernel_rfl) (fun _ _ _ h => h) (Or.inl ⟨by rfl, ?_⟩) (by assumption) ?_
    rotate_left
    · intro w hSw; go_simp; try with_reducible rfl
    go_simp
    refine wpAnyH_take (i := 7) (v := ?_) rfl (by kernel_rfl) (by kernel_rfl) (by kernel_rfl) (fun _ _ _ h => h) (Or.inl ⟨by rfl, ?_⟩) (by assumption) ?_
    rotate_left
    · intro w hSw; go_simp; try with_reducible rfl
    go_simp
    refine wpAnyH_take (i := 8) (v := ?_) rfl (by kernel_rfl) (by kernel_rfl) (by kernel_rfl) (fun _ _ _ h => h) (Or.inl ⟨by rfl, ?_⟩) (by assumption) ?_
    rotate_left
    · intro w hSw; go_simp; try with_reducible rfl
    go_simp
    refine wpAnyH_take (i := 9) (v := ?_) rfl (by kernel_rfl) (by kernel_rfl) (by kernel_rfl) (fun _ _ _ h => h) (Or.inl ⟨by rfl, ?_⟩) (by assumption) ?_
    rotate_left
    · intro w hSw; go_simp; try with_reducible rfl
    go_simp
    refine wpAnyH_ready (rs := [4]) (by kernel_rfl) (by simp) (AllReadyH.cons rfl (fun K hK => ?_) AllReadyH.nil)
    go_simp
    go_at_call 11
    refine hsi.mono ?_
    rintro e wy ⟨rfl, hw'⟩
    rw [hw']
    clear hw' wy
    refine hK.out _ _ HC.out (fun hHeld => ?_)
    clear hK K
    refine wpAnyH_take (i := 10) (v := ?_) rfl (by kernel_rfl) (by kernel_rfl) (by kernel_rfl) (fun _ _ _ h => h) (Or.inl ⟨by rfl, ?_⟩) (by assumption) ?_
    rotate_left
    · intro w hSw; go_simp; try with_reducible rfl
    go_simp
    refine wpAnyH_take (i := 11) (v := ?_) rfl (by kernel_rfl) (by kernel_rfl) (by kernel_rfl) (fun _ _ _ h => h) (Or.inl ⟨by rfl, ?_⟩) (by assumption) ?_
    rotate_left
    · intro w hSw; go_simp; try with_reducible rfl
    go_simp
    refine wpAnyH_done (by kernel_rfl) ?_ _
    refine NoPanic.normal ?_
    clear hsi hHeld HC
    go_wp2_with fail
    go_loopw [32] (fun i wr => ∃ j : Nat, j ≤ len ∧ i = .int .i64 (j : Int) ∧ Hid (∃ dead, Plays W.heap.size W wr gd gr gi n j dead)) (fun i _ => len - (intOf i).toNat)
    case atStart => exact ⟨0, Nat.zero_le _, rfl, false, _, _, _, _, _, _, hx.out, (fun _ _ _ => rfl), Nat.le_refl _, Nat.zero_le _⟩
    case round =>
      clear hx
      obtain ⟨j, hj, rfl, hrr⟩ := hrel
      by_cases hlt : j < len
      · have hj' : (j : Int) < (len : Int) := by omega
        obtain ⟨dead, hp⟩ := hrr.out
        have hp : Hid _ := hp
        have hbw : Below W.heap.size W wr := by
          obtain ⟨l, q, l', v, m, f, h1, _⟩ := hp.out
          exact Hold.low h1
        obtain ⟨sb, so, A, hsa, hA, hoA, c0, c1, c2, c3, c4, c5⟩ := acts_at HS.out hbw j (by omega)
        subst hsa
        obtain ⟨d, a, s, nn, x, kb, km, kc, kk⟩ := A
        simp only [ActD.row] at c4 hoA
        have hp1 : Hid _ := Plays.below hp.out ((Below.refl _ _).alloc (Nat.le_refl _) (.cells #[.int .i64 d, .int .i64 a, .string s, .int .i64 nn, .slice kb km kc, .bool x] 35))
        have hbx := Blk.new wr 35 #[.int .i64 d, .int .i64 a, .string s, .int .i64 nn, .slice kb km kc, .bool x]
        have hp2 : Hid _ := Plays.below hp1.out (Below.refl _ _).drew
        have hS0 : (fun z => z.cell? ⟨wr.heap.size, 0, none⟩ = some (.int .i64 d) ∧ z.cell? ⟨wr.heap.size, 1, none⟩ = some (.int .i64 a) ∧ z.cell? ⟨wr.heap.size, 2, none⟩ = some (.string s) ∧ z.cell? ⟨wr.heap.size, 3, none⟩ = some (.int .i64 nn) ∧ z.cell? ⟨wr.heap.size, 4, none⟩ = some (.slice kb km kc) ∧ z.cell? ⟨wr.heap.size, 5, none⟩ = some (.bool x)) (wr.alloc (.cells #[.int .i64 d, .int .i64 a, .string s, .int .i64 nn, .slice kb km kc, .bool x] 35)).drew := ⟨hbx.drew.cell rfl, hbx.drew.cell rfl, hbx.drew.cell rfl, hbx.drew.cell rfl, hbx.drew.cell rfl, hbx.drew.cell rfl⟩
        obtain ⟨bx, hbxe⟩ : ∃ bx, wr.heap.size = bx := ⟨_, rfl⟩
        clear hrr hp hp1 hbx hbw
        go_wp2_with fail
        rw [hbxe] at hS0
        clear c0 c1 c2 c3 c4 c5
        refine wp_region_noPanic ?_
        refine wp_region_C (c := 3) (S := fun z => z.cell? ⟨bx, 0, none⟩ = some (.int .i64 d) ∧ z.cell? ⟨bx, 1, none⟩ = some (.int .i64 a) ∧ z.cell? ⟨bx, 2, none⟩ = some (.string s) ∧ z.cell? ⟨bx, 3, none⟩ = some (.int .i64 nn) ∧ z.cell? ⟨bx, 4, none⟩ = some (.slice kb km kc) ∧ z.cell? ⟨bx, 5, none⟩ = some (.bool x)) (by kernel_rfl) ?_
        generalize (wr.alloc (.cells #[.int .i64 d, .int .i64 a, .string s, .int .i64 nn, .slice kb km kc, .bool x] 35)).drew = wd at hS0 hp2 ⊢
        refine wpAnyC_take (i := 0) (v := ?_) rfl (by kernel_rfl) (by kernel_rfl) (by kernel_rfl) (by kernel_rfl) (fun _ _ _ h => h) (Or.inl ⟨by rfl, ?_⟩) hS0 ?_
        rotate_left
        · intro z hSw; go_simp; try with_reducible rfl
        go_simp
        refine wpAnyC_take (i := 1) (v := ?_) rfl (by kernel_rfl) (by kernel_rfl) (by kernel_rfl) (by kernel_rfl) (fun _ _ _ h => h) (Or.inl ⟨by rfl, ?_⟩) hS0 ?_
        rotate_left
        · intro z hSw; go_simp; try with_reducible rfl
        go_simp
        refine wpAnyC_take (i := 2) (v := ?_) rfl (by kernel_rfl) (by kernel_rfl) (by kernel_rfl) (by kernel_rfl) (fun _ _ _ h => h) (Or.inl ⟨by rfl, ?_⟩) hS0 ?_
        rotate_left
        · intro z hSw; go_simp; try with_reducible rfl
        go_simp
        have hact := act_any hp2.out (by omega) ⟨d, a, s, nn, x, kb, km, kc, kk⟩ hA hoA
        simp only [ActD.row] at hact
        refine wpAnyC_one (i := 3) (by kernel_rfl) rfl (fun K hK => ?_)
        go_simp
        go_at_call 12
        refine hact.mono ?_
        rintro e wz ⟨rfl, dead2, hpz, -⟩
        refine hK.out _ _ (fun h => absurd h (by decide)) ?_
        clear hK K hact hp2 hS0
        have hpz' : Hid _ := hpz
        obtain ⟨l2, q2, l2', v2, m2, f2, hs2, hr2, hq2, hm2⟩ := hpz
        obtain ⟨FR, gcR, vR, hR⟩ := Sys.ref hs2
        obtain ⟨aR, capR, hvR⟩ := hR.row.form
        obtain ⟨FD, hD⟩ := Sys.disk hs2
        have hwa := waiting_any hD
        have hde := dead_any hD
        subst hvR
        have hHeld : (fun z : World => z.cell? ⟨gr, 1, none⟩ = some (.slice aR q2.length capR) ∧ z.cell? ⟨gr, 2, none⟩ = some (.bool dead2)) wz := ⟨hR.top.cell (i := 1) rfl, hR.top.cell (i := 2) rfl⟩
        have HC : Hid _ := hHeld
        clear hR hD hs2 hr2
        refine wpAnyH_toC (S' := fun z : World => z.cell? ⟨gr, 1, none⟩ = some (.slice aR q2.length capR) ∧ z.cell? ⟨gr, 2, none⟩ = some (.bool dead2)) _ _ _ _ (by kernel_rfl) ?_
        refine wpAnyH_take (i := 4) (v := ?_) rfl (by kernel_rfl) (by kernel_rfl) (by kernel_rfl) (fun _ _ _ h => h) (Or.inl ⟨by rfl, ?_⟩) (by assumption) ?_
        rotate_left
        · intro w hSw; go_simp; try with_reducible rfl
        go_simp
        refine wpAnyH_take (i := 5) (v := ?_) rfl (by kernel_rfl) (by kernel_rfl) (by kernel_rfl) (fun _ _ _ h => h) (Or.inl ⟨by rfl, ?_⟩) (by assumption) ?_
        rotate_left
        · intro w hSw; go_simp; try with_reducible rfl
        go_simp
        refine wpAnyH_take (i := 6) (v := ?_) rfl (by kernel_rfl) (by kernel_rfl) (by kernel_rfl) (fun _ _ _ h => h) (Or.inl ⟨by rfl, ?_⟩) (by assumption) ?_
        rotate_left
        · intro w hSw; go_simp; try with_reducible rfl
        go_simp
        refine wpAnyH_take (i := 8) (v := ?_) rfl (by kernel_rfl) (by kernel_rfl) (by kernel_rfl) (fun _ _ _ h => h) (Or.inl ⟨by rfl, ?_⟩) (by assumption) ?_
        rotate_left
        · intro w hSw; go_simp; try with_reducible rfl
        go_simp
        refine wpAnyH_take (i := 9) (v := ?_) rfl (by kernel_rfl) (by kernel_rfl) (by kernel_rfl) (fun _ _ _ h => h) (Or.inl ⟨by rfl, ?_⟩) (by assumption) ?_
        rotate_left
        · intro w hSw; go_simp; try with_reducible rfl
        go_simp
        refine wpAnyH_take (i := 10) (v := ?_) rfl (by kernel_rfl) (by kernel_rfl) (by kernel_rfl) (fun _ _ _ h => h) (Or.inl ⟨by rfl, ?_⟩) (by assumption) ?_
        rotate_left
        · intro w hSw; go_simp; try with_reducible rfl
        go_simp
        refine wpAnyH_take (i := 11) (v := ?_) rfl (by kernel_rfl) (by kernel_rfl) (by kernel_rfl) (fun _ _ _ h => h) (Or.inl ⟨by rfl, ?_⟩) (by assumption) ?_
        rotate_left
        · intro w hSw; go_simp; try with_reducible rfl
        go_simp
        refine wpAnyH_take (i := 12) (v := ?_) rfl (by kernel_rfl) (by kernel_rfl) (by kernel_rfl) (fun _ _ _ h => h) (Or.inl ⟨by rfl, ?_⟩) (by assumption) ?_
        rotate_left
        · intro w hSw; go_simp; try with_reducible rfl
        go_simp
        refine wpAnyH_ready (rs := [7]) (by kernel_rfl) (by simp) (AllReadyH.cons rfl (fun K hK => ?_) AllReadyH.nil)
        go_simp
        go_at_call 13
        refine hwa.mono ?_
        rintro e wy ⟨rfl, hw'⟩
        rw [hw']
        clear hw' wy
        refine hK.out _ _ HC.out (fun hHeld => ?_)
        clear hK K
        refine wpAnyH_take (i := 13) (v := ?_) rfl (by kernel_rfl) (by kernel_rfl) (by kernel_rfl) (fun _ _ _ h => h) (Or.inl ⟨by rfl, ?_⟩) (by assumption) ?_
        rotate_left
        · intro w hSw; go_simp; try with_reducible rfl
        go_simp
        refine wpAnyH_take (i := 14) (v := ?_) rfl (by kernel_rfl) (by kernel_rfl) (by kernel_rfl) (fun _ _ _ h => h) (Or.inl ⟨by rfl, ?_⟩) (by assumption) ?_
        rotate_left
        · intro w hSw; go_simp; try with_reducible rfl
        go_simp
        refine wpAnyH_take (i := 15) (v := ?_) rfl (by kernel_rfl) (by kernel_rfl) (by kernel_rfl) (fun _ _ _ h => h) (Or.inl ⟨by rfl, ?_⟩) (by assumption) ?_
        rotate_left
        · intro w hSw; go_simp; try with_reducible rfl
        go_simp
        refine wpAnyH_take (i := 16) (v := ?_) rfl (by kernel_rfl) (by kernel_rfl) (by kernel_rfl) (fun _ _ _ h => h) (Or.inl ⟨by rfl, ?_⟩) (by assumption) ?_
        rotate_left
        · intro w hSw; go_simp; try with_reducible rfl
        go_simp
        refine wpAnyH_take (i := 18) (v := ?_) rfl (by kernel_rfl) (by kernel_rfl) (by kernel_rfl) (fun _ _ _ h => h) (Or.inl ⟨by rfl, ?_⟩) (by assumption) ?_
        rotate_left
        · intro w hSw; go_simp; try with_reducible rfl
        go_simp
        refine wpAnyH_take (i := 19) (v := ?_) rfl (by kernel_rfl) (by kernel_rfl) (by kernel_rfl) (fun _ _ _ h => h) (Or.inl ⟨by rfl, ?_⟩) (by assumption) ?_
        rotate_left
        · intro w hSw; go_simp; try with_reducible rfl
        go_simp
        refine wpAnyH_take (i := 20) (v := ?_) rfl (by kernel_rfl) (by kernel_rfl) (by kernel_rfl) (fun _ _ _ h => h) (Or.inl ⟨by rfl, ?_⟩) (by assumption) ?_
        rotate_left
        · intro w hSw; go_simp; try with_reducible rfl
        go_simp
        refine wpAnyH_take (i := 21) (v := ?_) rfl (by kernel_rfl) (by kernel_rfl) (by kernel_rfl) (fun _ _ _ h => h) (Or.inl ⟨by rfl, ?_⟩) (by assumption) ?_
        rotate_left
        · intro w hSw; go_simp; try with_reducible rfl
        go_simp
        refine wpAnyH_ready (rs := [17]) (by kernel_rfl) (by simp) (AllReadyH.cons rfl (fun K hK => ?_) AllReadyH.nil)
        go_simp
        go_at_call 14
        refine hde.mono ?_
        rintro e wy ⟨rfl, hw'⟩
        rw [hw']
        clear hw' wy
        refine hK.out _ _ HC.out (fun hHeld => ?_)
        clear hK K
        refine wpAnyH_take (i := 22) (v := ?_) rfl (by kernel_rfl) (by kernel_rfl) (by kernel_rfl) (fun _ _ _ h => h) (Or.inl ⟨by rfl, ?_⟩) (by assumption) ?_
        rotate_left
        · intro w hSw; go_simp; try with_reducible rfl
        go_simp
        refine wpAnyH_take (i := 23) (v := ?_) rfl (by kernel_rfl) (by kernel_rfl) (by kernel_rfl) (fun _ _ _ h => h) (Or.inl ⟨by rfl, ?_⟩) (by assumption) ?_
        rotate_left
        · intro w hSw; go_simp; try with_reducible rfl
        go_simp
        refine wpAnyH_done (by kernel_rfl) ?_ _
        refine NoPanic.normal ?_
        clear hwa hde hHeld HC
        go_wp2_with fail
        go_roundw
        case rel => exact ⟨j + 1, by omega, by go_num, dead2, hpz'.out⟩
        case measure => simp [intOf]; omega
      · obtain rfl : j = len := by omega
        obtain ⟨dead, l, q, l', v, m, f, hs, hr, hq, hm⟩ := hrr.out
        have hq' : q.length ≤ 1000000 := by omega
        have hxs : Hid _ := hs
        obtain ⟨FD, hD⟩ := Sys.disk hs
        have hn5 := hD.size.2
        clear hs hrr
        cases dead
        · have him := image_any hD
          clear hD
          go_wp2_with (first
            | (go_at_call 16; refine him.mono ?_; rintro e w1 ⟨rfl, hbk, hb1⟩; clear him; have ht1 : Hid _ := texts_blk hbk; have hx2 : Hid _ := Sys.below hxs.out hb1; clear hbk hb1; obtain ⟨FR, hR⟩ := Sys.ref hx2.out; have hri := refImage_any hR hq'; clear hR)
            | (go_at_call 17; refine hri.mono ?_; rintro e w2 ⟨b, c, rfl, htx, hb2⟩; clear hri; have ht2 : Hid _ := TextsAt.congr htx (fun i hi => (app_congr q n l' l (fun i hi => (hr rfl i hi).symm) i hi)); have ht3 : Hid _ := TextsAt.below ht1.out hb2; have hx3 : Hid _ := Sys.below hx2.out hb2; clear htx hb2 ht1; have heq := equal_true _ _ n (app l q) w2 ht3.out ht2.out (by omega))
            | (go_at_call 15; refine heq.mono ?_; rintro e w3 ⟨rfl, hb3⟩; clear heq; have hx4 : Hid _ := Sys.below hx3.out hb3))
          go_ret
          exact ⟨rfl, Hold.low hx4.out⟩
        · have him := image_dead hD
          obtain ⟨FR, hR⟩ := Sys.ref hxs.out
          have hri := refImage_dead hR
          have heq := equal_true (.slice none 0 0) (.slice none 0 0) 0 (fun _ => noB) wr (texts_none _ _) (texts_none _ _) (by omega)
          clear hD hR
          go_wp2_with (first
            | (go_at_call 16; refine him.mono ?_; rintro e w1 ⟨rfl, hw'⟩; rw [hw']; clear hw' w1)
            | (go_at_call 17; refine hri.mono ?_; rintro e w1 ⟨rfl, hw'⟩; rw [hw']; clear hw' w1)
            | (go_at_call 15; refine heq.mono ?_; rintro e w3 ⟨rfl, hb3⟩; clear heq; have hx4 : Hid _ := Sys.below hxs.out hb3))
          go_ret
          exact ⟨rfl, Hold.low hx4.out⟩
end Go.Proofs.Ytmgllcmfnljfjaa
