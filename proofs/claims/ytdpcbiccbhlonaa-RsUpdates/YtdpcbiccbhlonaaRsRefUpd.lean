/- The document's parity chunks behind a change. -/
import Derived.Test.YtdpcbiccbhlonaaRsRef
import Derived.Deep.RegionHeld3
namespace Go.Proofs.Ytdpcbiccbhlonaa
open Go.RowKit Go.PlainAid
set_option linter.unusedVariables false

set_option maxHeartbeats 1000000 in
theorem refUpdate_any (i : Int) (M : Nat → Nat) (Y : Mx) (w : World) (hM : ∀ c, c < 4 → M c ≤ 9223372036854775807) (hi0 : -9223372036854775808 ≤ i) (hi1 : i ≤ 9223372036854775807) :
    Calls Try.prog 14 #[.string (strE (M 0) (Y 0)), .string (strE (M 1) (Y 1)), .int .i64 i, .string (strE (M 2) (Y 2)), .string (strE (M 3) (Y 3))] w fun e w' => Below w.heap.size w w' ∧ e = .returned (.tuple #[.string (updP i M Y), .string (updQ i M Y), .int .i64 (updE i M)]) := by
  by_cases hi : 0 ≤ i ∧ i < 8
  · obtain ⟨k, rfl⟩ : ∃ k : Nat, i = (k : Int) := ⟨i.toNat, by omega⟩
    have hmea := fun s0 s1 s2 s3 h0 h1 h2 h3 => refShape_any (some ⟨w.heap.size, 0, none⟩) 4 4 M Y _ (by decide) (by decide) (txt_four w M Y s0 s1 s2 s3 h0 h1 h2 h3 hM)
    by_cases hz : meaE 4 M = 0
    · obtain ⟨hall, h5⟩ := mea_zero.1 hz
      have hE : updE (k : Int) M = 0 := by unfold updE; rw [if_pos hi]; exact hz
      have eP : updP (k : Int) M Y = strE (M 0) (fun c => Y 0 c + (Y 2 c + Y 3 c)) := if_pos hE
      have eQ : updQ (k : Int) M Y = strE (M 0) (fun c => Y 1 c + pw two k * (Y 2 c + Y 3 c)) := by unfold updQ; rw [if_pos hE, Int.toNat_natCast]
      rw [eP, eQ, hE]
      obtain ⟨m, hm⟩ : ∃ m, M 0 = m := ⟨_, rfl⟩
      rw [hm] at h5
      have m1 : M 1 = m := by rw [hall 1 (by decide), hm]
      have m2 : M 2 = m := by rw [hall 2 (by decide), hm]
      have m3 : M 3 = m := by rw [hall 3 (by decide), hm]
      rw [hm, m1, m2, m3] at hmea
      rw [hm, m1, m2, m3]
      rw [hz] at hmea
      have hpow := fun x => refPow_two k (by omega) x
      have g0 := fun j (hj : j < m) => bt_strE m (Y 0) j hj
      have g1 := fun j (hj : j < m) => bt_strE m (Y 1) j hj
      have g2 := fun j (hj : j < m) => bt_strE m (Y 2) j hj
      have g3 := fun j (hj : j < m) => bt_strE m (Y 3) j hj
      have z0 := strE_size m (Y 0)
      have z1 := strE_size m (Y 1)
      have z2 := strE_size m (Y 2)
      have z3 := strE_size m (Y 3)
      have k8 : (k : Int) < 8 := hi.2
      generalize strE m (Y 0) = s0 at *
      generalize strE m (Y 1) = s1 at *
      generalize strE m (Y 2) = s2 at *
      generalize strE m (Y 3) = s3 at *
      have hmea' := hmea s0 s1 s2 s3 rfl rfl rfl rfl
      have HG : Hid (∀ j, j < m → bt s0 j = ((Y 0 j).v : Int) ∧ bt s1 j = ((Y 1 j).v : Int) ∧ bt s2 j = ((Y 2 j).v : Int) ∧ bt s3 j = ((Y 3 j).v : Int)) := fun j hj => ⟨g0 j hj, g1 j hj, g2 j hj, g3 j hj⟩
      have b0 := get_bt s0
      have b1 := get_bt s1
      have b2 := get_bt s2
      have b3 := get_bt s3
      obtain ⟨x1, hx1⟩ : ∃ x1, pw two k = x1 := ⟨_, rfl⟩
      rw [hx1] at hpow ⊢
      clear hmea hM hz hall hE eP eQ hm m1 m2 m3 hi g0 g1 g2 g3 hx1
      go_enter Try.func14, Try.ntmps14
      go_wp2_with fail
      go_at_call 23
      refine hmea'.mono ?_
      rintro e w1 ⟨hb1, rfl⟩
      have hb01 : Below w.heap.size w w1 := ((Below.refl _ _).alloc (Nat.le_refl _) _).trans (hb1.mono (by simp))
      clear hmea'
      go_wp2_with fail
      go_at_call 29
      refine (hpow _).mono ?_
      rintro e w2 ⟨rfl, hb2⟩
      have hb02 := hb01.trans (hb2.mono hb01.size)
      clear hb01 hb1 hb2
      go_wp2_with fail
      go_loopw [15, 16, 17] (fun p q i wr => ∃ j : Nat, j ≤ m ∧ i = .int .i64 j ∧ wr.ownsRow w.heap.size 5 1 p j (bytesL j (fun c => Y 0 c + (Y 2 c + Y 3 c))) ∧ wr.ownsRow w.heap.size 5 1 q j (bytesL j (fun c => Y 1 c + x1 * (Y 2 c + Y 3 c))) ∧ Apart p q ∧ Below w.heap.size w wr) (fun _ _ i _ => (m : Nat) - (intOf i).toNat)
      case atStart => exact ⟨0, Nat.zero_le _, rfl, World.ownsRow_nil _ _ _ _, World.ownsRow_nil _ _ _ _, apart_nil _, hb02⟩
      case round =>
        obtain ⟨j, hj, rfl, hop, hoq, hap, hbj⟩ := hrel
        clear hb02
        by_cases hlt : j < m
        · have jm : (j : Int) < (m : Int) := by omega
          obtain ⟨f0, f1, f2, f3⟩ := HG.out j hlt
          have j0 : j < s0.size := by omega
          have j1 : j < s1.size := by omega
          have j2 : j < s2.size := by omega
          have j3 : j < s3.size := by omega
          have a1 := fun x => refAdd_E (Y 2 j) (Y 3 j) x
          have a2 := fun x => refMul_E x1 (Y 2 j + Y 3 j) x
          have a3 := fun x => refAdd_E (Y 0 j) (Y 2 j + Y 3 j) x
          have a4 := fun x => refAdd_E (Y 1 j) (x1 * (Y 2 j + Y 3 j)) x
          have HPQ : Hid (Value.int .u8 ((Y 0 j + (Y 2 j + Y 3 j)).v : Int) = byteV (Y 0 j + (Y 2 j + Y 3 j)) ∧ Value.int .u8 ((Y 1 j + x1 * (Y 2 j + Y 3 j)).v : Int) = byteV (Y 1 j + x1 * (Y 2 j + Y 3 j))) := ⟨rfl, rfl⟩
          have hd : Below wr.heap.size wr wr.drew := (Below.refl _ _).drew
          generalize (Y 2 j + Y 3 j).v = y23 at a1 a2 a3
          generalize (x1 * (Y 2 j + Y 3 j)).v = y4 at a2 a4
          generalize (Y 0 j).v = y0 at f0 a3
          generalize (Y 1 j).v = y1 at f1 a4
          generalize (Y 2 j).v = y2 at f2 a1
          generalize (Y 3 j).v = y3 at f3 a1
          generalize (Y 0 j + (Y 2 j + Y 3 j)).v = p0 at a3 HPQ
          generalize (Y 1 j + x1 * (Y 2 j + Y 3 j)).v = q0 at a4 HPQ
          go_wp2_with fail
          go_region_held3 (fun _ => True) (first | trivial) (first | (go_at_call 30; refine (a1 _).mono ?_; rintro e w5 ⟨rfl, hb5⟩; have hx5 : Below wr.heap.size wr w5 := hd.trans hb5))
          all_goals
           have hop5 := owns_below hop hx5
           have hoq5 := owns_below hoq hx5
           have hb05 := hbj.trans (hx5.mono hbj.size)
           clear hop hoq hbj hd hb5
           go_wp2_with fail
           go_at_call 31
           refine (a2 _).mono ?_
           rintro e w6 ⟨rfl, hb6⟩
           have hop6 := owns_below hop5 hb6
           have hoq6 := owns_below hoq5 hb6
           have hb06 := hb05.trans (hb6.mono hb05.size)
           clear hop5 hoq5 hb6 hb05
           go_wp2_with fail
           go_at_call 30
           refine (a3 _).mono ?_
           rintro e w7 ⟨rfl, hb7⟩
           have hop7 := owns_below hop6 hb7
           have hoq7 := owns_below hoq6 hb7
           have hb07 := hb06.trans (hb7.mono hb06.size)
           clear hop6 hoq6 hb7 hb06
           go_wp2_with fail
           go_at_call 30
           refine (a4 _).mono ?_
           rintro e w8 ⟨rfl, hb8⟩
           have hop8 := owns_below hop7 hb8
           have hoq8 := owns_below hoq7 hb8
           have hb08 := hb07.trans (hb8.mono hb07.size)
           clear hop7 hoq7 hb8 hb07 a1 a2 a3 a4
           go_wp2_with (at_builtin; refine push_byte_two rfl _ _ rfl _ w.heap.size _ j (fun c => Y 0 c + (Y 2 c + Y 3 c)) hop8 rfl _ HPQ.out.1 _ rfl rfl (by omega) hb08.size ?_)
           intro p' w9 hop9 hkeep hb9
           obtain ⟨hoq9, hap9⟩ := hkeep _ _ _ _ hoq8 hap
           have hb09 := hb08.trans hb9
           clear hkeep hop8 hoq8
           go_wp2_with (at_builtin; refine push_byte_two rfl _ _ rfl _ w.heap.size _ j (fun c => Y 1 c + x1 * (Y 2 c + Y 3 c)) hoq9 rfl _ HPQ.out.2 _ rfl rfl (by omega) hb09.size ?_)
           intro q' w10 hoq10 hkeep hb10
           obtain ⟨hop10, hap10⟩ := hkeep _ _ _ _ hop9 hap9.symm
           clear hkeep
           go_wp2_with fail
           go_roundw
           case rel => exact ⟨j + 1, by omega, by go_num, hop10, hoq10, hap10.symm, hb09.trans hb10⟩
           case measure => simp [intOf]; omega
        · have hjm : m = j := by omega
          subst hjm
          obtain ⟨ap, cp, rfl, -, hvp⟩ := owns_form hop _ (fun i hi => bytesL_at _ _ i hi)
          obtain ⟨aq, cq, rfl, -, hvq⟩ := owns_form hoq _ (fun i hi => bytesL_at _ _ i hi)
          have hcp : ∀ n, _ := fun n => conv_at (w := wr.drewN n) (cap := cp) (hvp.below (below_drewN (Below.refl _ _) n) (Nat.le_refl _))
          have hcq : ∀ n, _ := fun n => conv_at (w := wr.drewN n) (cap := cq) (hvq.below (below_drewN (Below.refl _ _) n) (Nat.le_refl _))
          clear hop hoq hap
          go_wp2_with fail
          go_quiet (fail)
          go_wp2_with fail
          go_ret3
          exact ⟨below_drewN hbj _, rfl⟩
    · have hE : updE (k : Int) M = meaE 4 M := if_pos hi
      have eP : updP (k : Int) M Y = ⟨#[]⟩ := if_neg (by rw [hE]; exact hz)
      have eQ : updQ (k : Int) M Y = ⟨#[]⟩ := if_neg (by rw [hE]; exact hz)
      rw [eP, eQ, hE]
      have k8 : (k : Int) < 8 := hi.2
      generalize strE (M 0) (Y 0) = s0 at *
      generalize strE (M 1) (Y 1) = s1 at *
      generalize strE (M 2) (Y 2) = s2 at *
      generalize strE (M 3) (Y 3) = s3 at *
      have hmea' := hmea s0 s1 s2 s3 rfl rfl rfl rfl
      generalize meaE 4 M = er at *
      have t0 : (er != 0) = true := by simpa using hz
      clear hmea hM hz hE eP eQ hi
      go_enter Try.func14, Try.ntmps14
      go_wp2_with fail
      go_at_call 23
      refine hmea'.mono ?_
      rintro e w1 ⟨hb1, rfl⟩
      have hb01 : Below w.heap.size w w1 := ((Below.refl _ _).alloc (Nat.le_refl _) _).trans (hb1.mono (by simp))
      clear hmea'
      go_wp2_with fail
      go_ret3
      exact ⟨hb01, rfl⟩
  · have hE : updE i M = 2 := if_neg hi
    have eP : updP i M Y = ⟨#[]⟩ := if_neg (by rw [hE]; decide)
    have eQ : updQ i M Y = ⟨#[]⟩ := if_neg (by rw [hE]; decide)
    rw [eP, eQ, hE]
    clear hE eP eQ
    generalize strE (M 0) (Y 0) = s0
    generalize strE (M 1) (Y 1) = s1
    generalize strE (M 2) (Y 2) = s2
    generalize strE (M 3) (Y 3) = s3
    by_cases h0 : i < 0
    · clear hi
      go_enter Try.func14, Try.ntmps14
      go_wp2_with fail
      go_ret3
      exact ⟨Below.refl _ _, rfl⟩
    · have h8 : 8 ≤ i := by omega
      clear hi
      go_enter Try.func14, Try.ntmps14
      go_wp2_with fail
      go_ret3
      exact ⟨Below.refl _ _, rfl⟩
end Go.Proofs.Ytdpcbiccbhlonaa
