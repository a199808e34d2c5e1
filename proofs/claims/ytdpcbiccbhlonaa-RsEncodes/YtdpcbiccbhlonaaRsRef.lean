/- The document's parity chunks. -/
import Derived.Test.YtdpcbiccbhlonaaRsUpd
import Derived.Test.YtdpcbiccbhlonaaRsTwo
import Derived.Test.YtdpcbiccbhlonaaMatRefApp
namespace Go.Proofs.Ytdpcbiccbhlonaa
open Go.RowKit Go.PlainAid
set_option linter.unusedVariables false

/-- Texts that lie there, as they are read. -/
def Txts (w : World) (b o n : Nat) (M : Nat → Nat) (Y : Mx) : Prop := ∀ x, Below w.heap.size w x → ∀ c, c < n → ∃ s : ByteArray, s.size = M c ∧ M c ≤ 9223372036854775807 ∧ x.cell? ⟨b, o + c, none⟩ = some (.string s) ∧ ∀ i, i < M c → bt s i = ((Y c i).v : Int)
theorem TxtAt.txts {w : World} {a : Option Addr} {n : Nat} {M : Nat → Nat} {Y : Mx} (h : TxtAt w a n M Y) (h1 : 1 ≤ n) : ∃ b o, a = some ⟨b, o, none⟩ ∧ Txts w b o n M Y := by
  obtain ⟨b, o, e, hc⟩ := h.cell h1
  refine ⟨b, o, e, fun x hx c hcn => ?_⟩
  have h' := hc c hcn
  exact ⟨_, strE_size (M c) (Y c), h.2 c hcn, (hx.cell (p := ⟨b, o + c, none⟩) (cell_lt h')).trans h', fun i hi => bt_strE (M c) (Y c) i hi⟩

set_option maxHeartbeats 1000000 in
theorem refShape_any (l : Option Addr) (k cl : Nat) (M : Nat → Nat) (Y : Mx) (w : World) (k1 : 1 ≤ k) (hkm : k ≤ maxLen) (hT : TxtAt w l k M Y) :
    Calls Try.prog 23 #[.slice l k cl] w fun e w' => Below w.heap.size w w' ∧ e = .returned (.int .i64 (meaE k M)) := by
  obtain ⟨bl, ol, rfl, hTx⟩ := hT.txts k1
  have HT : Hid (Txts w bl ol k M Y) := hTx
  have k0 : (0 : Int) < (k : Int) := by omega
  have k0' : 0 < k := by omega
  unfold maxLen at hkm
  obtain ⟨R, hR⟩ : ∃ R, meaE k M = R := ⟨_, rfl⟩
  have HR : Hid (meaE k M = R) := hR
  rw [hR]
  clear hT hTx hR
  go_enter Try.func23, Try.ntmps23
  go_wp2_with fail
  go_loopw [3] (fun i wr => ∃ c : Nat, c ≤ k ∧ i = .int .i64 c ∧ Below w.heap.size w wr ∧ ∀ j, j < c → M j = M 0) (fun i _ => (k : Nat) - (intOf i).toNat)
  case atStart => exact ⟨0, Nat.zero_le _, rfl, Below.refl _ _, fun j hj => by omega⟩
  case round =>
    obtain ⟨c, hc, rfl, hbc, hbefore⟩ := hrel
    have HB : Hid (∀ j, j < c → M j = M 0) := hbefore
    clear hbefore
    obtain ⟨s', hs', hs9', e2, -⟩ := HT.out wr hbc 0 k0'
    rw [Nat.add_zero] at e2
    obtain ⟨m0, hm0⟩ : ∃ m0, M 0 = m0 := ⟨_, rfl⟩
    rw [hm0] at hs' hs9'
    by_cases hlt : c < k
    · obtain ⟨s, hs, hs9, e1, -⟩ := HT.out wr hbc c hlt
      have ck : (c : Int) < (k : Int) := by omega
      obtain ⟨mc, hmc⟩ : ∃ mc, M c = mc := ⟨_, rfl⟩
      rw [hmc] at hs hs9
      by_cases e : mc = m0
      · have HE : Hid (M c = M 0) := (by rw [hmc, hm0, e] : M c = M 0)
        subst e
        have t1 : ((mc : Int) != (mc : Int)) = false := by simp
        clear hmc hm0
        go_wp2_with fail
        go_quiet (fail)
        go_wp2_with fail
        go_roundw
        case rel => exact ⟨c + 1, by omega, by go_num, below_drewN hbc _, fun j hj => by
          by_cases e : j = c
          · rw [e]; exact HE.out
          · exact HB.out j (by omega)⟩
        case measure => simp [intOf]; omega
      · have t1 : ((mc : Int) != (m0 : Int)) = true := by simp; omega
        have hr7 : R = 7 := by
          rw [← HR.out]; unfold meaE
          exact if_neg fun h => e (by rw [← hmc, ← hm0]; exact h c hlt)
        subst hr7
        clear hmc hm0 e
        go_wp2_with fail
        go_quiet (fail)
        go_wp2_with fail
        go_ret
        exact ⟨below_drewN hbc _, rfl⟩
    · have hck : k = c := by omega
      subst hck
      by_cases h5 : 65536 < m0
      · have h5' : (65536 : Int) < (m0 : Int) := by omega
        have hr5 : R = 5 := by
          rw [← HR.out]; unfold meaE
          rw [if_pos HB.out, if_pos (by omega)]
        subst hr5
        clear hm0 h5
        go_wp2_with fail
        go_ret
        exact ⟨hbc, rfl⟩
      · have h5' : ¬ (65536 : Int) < (m0 : Int) := by omega
        have hr0 : R = 0 := by
          rw [← HR.out]; unfold meaE
          rw [if_pos HB.out, if_neg (by omega)]
        subst hr0
        clear hm0 h5
        go_wp2_with fail
        go_ret
        exact ⟨hbc, rfl⟩

theorem refPow_two (k : Nat) (hk : k ≤ 255) (x : World) : Calls Try.prog 29 #[.int .u8 2, .int .i64 (k : Int)] x fun e w' => e = .returned (.int .u8 ((pw two k).v : Int)) ∧ Below x.heap.size x w' := by
  have := refPow_any 2 (by decide) (k : Int) (by omega) (by omega) x
  rw [gpow_nat 2 k (by decide)] at this
  exact this

set_option maxHeartbeats 1000000 in
theorem refParity_any (bl ol k cl m j : Nat) (M : Nat → Nat) (Y : Mx) (w : World) (k8 : k ≤ 8) (hTx : Txts w bl ol k M Y) (hM : ∀ c, c < k → M c = m) (hj : j < m) :
    Calls Try.prog 24 #[.slice (some ⟨bl, ol, none⟩) k cl, .int .i64 (j : Int)] w fun e w' => Below w.heap.size w w' ∧ e = .returned (.tuple #[byteV (mulM k powM Y 0 j), byteV (mulM k powM Y 1 j)]) := by
  have HT : Hid (∀ x, Below w.heap.size w x → ∀ c, c < k → ∃ s : ByteArray, s.size = m ∧ m ≤ 9223372036854775807 ∧ x.cell? ⟨bl, ol + c, none⟩ = some (.string s) ∧ bt s j = ((Y c j).v : Int)) := fun x hx c hc => by
    obtain ⟨s, h1, h2, h3, h4⟩ := hTx x hx c hc
    rw [hM c hc] at h1 h2 h4
    exact ⟨s, h1, h2, h3, h4 j hj⟩
  have j9 : (j : Int) ≤ 9223372036854775807 ∨ k = 0 := by
    rcases Nat.eq_zero_or_pos k with h | h
    · exact .inr h
    · obtain ⟨s, h1, h2, _⟩ := HT.out w (Below.refl _ _) 0 h; left; omega
  clear hTx hM
  go_enter Try.func24, Try.ntmps24
  go_wp2_with fail
  go_loopw [6, 7, 8] (fun p q i wr => ∃ c : Nat, c ≤ k ∧ i = .int .i64 c ∧ p = .int .u8 ((S c (fun c => powM 0 c * Y c j)).v : Int) ∧ q = .int .u8 ((S c (fun c => powM 1 c * Y c j)).v : Int) ∧ Below w.heap.size w wr) (fun _ _ i _ => (k : Nat) - (intOf i).toNat)
  case atStart => exact ⟨0, Nat.zero_le _, rfl, rfl, rfl, Below.refl _ _⟩
  case round =>
    obtain ⟨c, hc, rfl, rfl, rfl, hbc⟩ := hrel
    by_cases hlt : c < k
    · have ck : (c : Int) < (k : Int) := by omega
      have hpow := fun x => refPow_two c (by omega) x
      have hmul := fun x => refMul_E (pw two c) (Y c j) x
      have hadd := fun x => refAdd_E (S c (fun c => powM 0 c * Y c j)) (Y c j) x
      have hadd2 := fun x => refAdd_E (S c (fun c => powM 1 c * Y c j)) (pw two c * Y c j) x
      have HP : Hid (S (c + 1) (fun c => powM 0 c * Y c j) = S c (fun c => powM 0 c * Y c j) + Y c j ∧ S (c + 1) (fun c => powM 1 c * Y c j) = S c (fun c => powM 1 c * Y c j) + pw two c * Y c j) := by
        show _ ∧ _
        constructor
        · show _ + powM 0 c * Y c j = _
          rw [powM_zero, E.one_mul]
        · show _ + powM 1 c * Y c j = _
          rw [powM_one]
      obtain ⟨x3, hx3⟩ : ∃ x3, pw two c * Y c j = x3 := ⟨_, rfl⟩
      obtain ⟨p, hp⟩ : ∃ p, S c (fun c => powM 0 c * Y c j) = p := ⟨_, rfl⟩
      obtain ⟨q, hq⟩ : ∃ q, S c (fun c => powM 1 c * Y c j) = q := ⟨_, rfl⟩
      obtain ⟨y, hy⟩ : ∃ y, Y c j = y := ⟨_, rfl⟩
      have HPc : Hid (S (c + 1) (fun c => powM 0 c * Y c j) = p + y ∧ S (c + 1) (fun c => powM 1 c * Y c j) = q + x3) := by
        show _ ∧ _
        rw [← hp, ← hq, ← hx3, ← hy]; exact HP.out
      rw [hx3] at hmul hadd2
      rw [hp] at hadd ⊢
      rw [hq] at hadd2 ⊢
      rw [hy] at hadd hmul
      generalize pw two c = x1 at hpow hmul
      clear HP hp hq hx3
      obtain ⟨s, hs, hm9, e1, e1b⟩ := HT.out wr hbc c hlt
      have hjs : j < s.size := by omega
      have hbs := get_bt s
      rw [hy] at e1b
      clear hy
      go_wp2_with fail
      go_at_call 29
      refine (hpow _).mono ?_
      rintro e w1 ⟨rfl, hb1⟩
      have e2 : w1.cell? ⟨bl, ol + c, none⟩ = some (.string s) := (hb1.cell (p := ⟨bl, ol + c, none⟩) (cell_lt e1)).trans e1
      have hb01 := hbc.trans (hb1.mono hbc.size)
      clear e1
      go_wp2_with fail
      go_at_call 31
      refine (hmul _).mono ?_
      rintro e w2 ⟨rfl, hb2⟩
      have e3 : w2.cell? ⟨bl, ol + c, none⟩ = some (.string s) := (hb2.cell (p := ⟨bl, ol + c, none⟩) (cell_lt e2)).trans e2
      have hb02 := hb01.trans (hb2.mono hb01.size)
      clear e2
      go_wp2_with fail
      go_at_call 30
      refine (hadd _).mono ?_
      rintro e w3 ⟨rfl, hb3⟩
      have hb03 := hb02.trans (hb3.mono hb02.size)
      clear e3
      go_wp2_with fail
      go_at_call 30
      refine (hadd2 _).mono ?_
      rintro e w4 ⟨rfl, hb4⟩
      have hb04 := hb03.trans (hb4.mono hb03.size)
      go_wp2_with fail
      go_roundw
      case rel => exact ⟨c + 1, by omega, by go_num, by rw [HPc.out.1], by rw [HPc.out.2], hb04⟩
      case measure => simp [intOf]; omega
    · have hck : k = c := by omega
      subst hck
      go_wp2_with fail
      go_ret2
      exact ⟨hbc, rfl⟩
theorem Txts.below {w w' : World} {b o n : Nat} {M : Nat → Nat} {Y : Mx} (h : Txts w b o n M Y) (hb : Below w.heap.size w w') : Txts w' b o n M Y := fun x hx => h x (hb.trans (hx.mono hb.size))

set_option maxHeartbeats 1000000 in
theorem refEncode_any (l : Option Addr) (k cl : Nat) (M : Nat → Nat) (Y : Mx) (w : World) (hkm : k ≤ maxLen) (hT : TxtAt w l k M Y) :
    Calls Try.prog 11 #[.slice l k cl] w fun e w' => Below w.heap.size w w' ∧ e = .returned (.tuple #[.string (encS k M Y 0), .string (encS k M Y 1), .int .i64 (encE k M)]) := by
  unfold maxLen at hkm
  by_cases hk : 1 ≤ k ∧ k ≤ 8
  · have hsh := refShape_any l k cl M Y w hk.1 (by unfold maxLen; omega) hT
    have k1 : ¬ (k : Int) < 1 := by omega
    have k8 : ¬ (8 : Int) < (k : Int) := by omega
    have hE : encE k M = meaE k M := if_pos hk
    by_cases hz : meaE k M = 0
    · obtain ⟨hM, h5⟩ := mea_zero.1 hz
      have hS : ∀ r, encS k M Y r = strE (M 0) (mulM k powM Y r) := fun r => if_pos (by rw [hE]; exact hz)
      rw [hS, hS, hE, hz]
      rw [hz] at hsh
      obtain ⟨m, hm⟩ : ∃ m, M 0 = m := ⟨_, rfl⟩
      rw [hm] at h5 hM ⊢
      obtain ⟨b, o, rfl, hTx⟩ := hT.txts hk.1
      have HP : Hid (∀ x, Below w.heap.size w x → ∀ j, j < m → Calls Try.prog 24 #[.slice (some ⟨b, o, none⟩) k cl, .int .i64 (j : Int)] x fun e w' => Below x.heap.size x w' ∧ e = .returned (.tuple #[.int .u8 ((mulM k powM Y 0 j).v : Int), .int .u8 ((mulM k powM Y 1 j).v : Int)])) := fun x hx j hj => refParity_any b o k cl m j M Y x hk.2 (hTx.below hx) hM hj
      have HC : Hid (∀ x, Below w.heap.size w x → ∃ s : ByteArray, s.size = m ∧ x.cell? ⟨b, o, none⟩ = some (.string s)) := fun x hx => by
        obtain ⟨s, h1, -, h2, -⟩ := hTx x hx 0 (by omega)
        exact ⟨s, by rw [h1, hm], h2⟩
      have k0 : (0 : Int) < (k : Int) := by omega
      clear hk hE hz hM hS hm hTx hT
      go_enter Try.func11, Try.ntmps11
      go_wp2_with fail
      go_at_call 23
      refine hsh.mono ?_
      rintro e w1 ⟨hb1, rfl⟩
      clear hsh
      go_wp2_with fail
      go_loopw [6, 7, 8] (fun p q i wr => ∃ j : Nat, j ≤ m ∧ i = .int .i64 j ∧ wr.ownsRow w.heap.size 5 1 p j (bytesL j (mulM k powM Y 0)) ∧ wr.ownsRow w.heap.size 5 1 q j (bytesL j (mulM k powM Y 1)) ∧ Apart p q ∧ Below w.heap.size w wr) (fun _ _ i _ => (m : Nat) - (intOf i).toNat)
      case atStart => exact ⟨0, Nat.zero_le _, rfl, World.ownsRow_nil _ _ _ _, World.ownsRow_nil _ _ _ _, apart_nil _, hb1⟩
      case round =>
        obtain ⟨j, hj, rfl, hop, hoq, hap, hbj⟩ := hrel
        obtain ⟨s, hs, e1⟩ := HC.out wr hbj
        by_cases hlt : j < m
        · have hpar := HP.out wr hbj j hlt
          have jm : (j : Int) < (m : Int) := by omega
          obtain ⟨p0, hp0⟩ : ∃ p0, (mulM k powM Y 0 j).v = p0 := ⟨_, rfl⟩
          obtain ⟨q0, hq0⟩ : ∃ q0, (mulM k powM Y 1 j).v = q0 := ⟨_, rfl⟩
          rw [hp0, hq0] at hpar
          have HPQ : Hid (Value.int .u8 (p0 : Int) = byteV (mulM k powM Y 0 j) ∧ Value.int .u8 (q0 : Int) = byteV (mulM k powM Y 1 j)) := ⟨by rw [← hp0]; rfl, by rw [← hq0]; rfl⟩
          clear hb1 hp0 hq0
          go_wp2_with fail
          go_at_call 24
          refine hpar.mono ?_
          rintro e w2 ⟨hb2, rfl⟩
          have hop2 := owns_below hop hb2
          have hoq2 := owns_below hoq hb2
          have hb02 := hbj.trans (hb2.mono hbj.size)
          clear hpar e1 hop hoq
          go_wp2_with (at_builtin; refine push_byte_two rfl _ _ rfl _ w.heap.size _ j (mulM k powM Y 0) hop2 rfl _ HPQ.out.1 _ rfl rfl (by omega) hb02.size ?_)
          intro p' w3 hop3 hkeep hb3
          obtain ⟨hoq3, hap3⟩ := hkeep _ _ _ _ hoq2 hap
          have hb03 := hb02.trans hb3
          clear hkeep hop2 hoq2
          go_wp2_with (at_builtin; refine push_byte_two rfl _ _ rfl _ w.heap.size _ j (mulM k powM Y 1) hoq3 rfl _ HPQ.out.2 _ rfl rfl (by omega) hb03.size ?_)
          intro q' w4 hoq4 hkeep hb4
          obtain ⟨hop4, hap4⟩ := hkeep _ _ _ _ hop3 hap3.symm
          clear hkeep
          go_wp2_with fail
          go_roundw
          case rel => exact ⟨j + 1, by omega, by go_num, hop4, hoq4, hap4.symm, hb03.trans hb4⟩
          case measure => simp [intOf]; omega
        · have hjm : m = j := by omega
          subst hjm
          obtain ⟨ap, cp, rfl, -, hvp⟩ := owns_form hop _ (fun i hi => bytesL_at _ _ i hi)
          obtain ⟨aq, cq, rfl, -, hvq⟩ := owns_form hoq _ (fun i hi => bytesL_at _ _ i hi)
          have hcp : ∀ n, _ := fun n => conv_at (w := wr.drewN n) (cap := cp) (hvp.below (below_drewN (Below.refl _ _) n) (Nat.le_refl _))
          have hcq : ∀ n, _ := fun n => conv_at (w := wr.drewN n) (cap := cq) (hvq.below (below_drewN (Below.refl _ _) n) (Nat.le_refl _))
          clear hb1 hop hoq hap
          go_wp2_with fail
          go_quiet (fail)
          go_wp2_with fail
          go_ret3
          exact ⟨below_drewN hbj _, rfl⟩
    · have hS : ∀ r, encS k M Y r = ⟨#[]⟩ := fun r => if_neg (by rw [hE]; exact hz)
      rw [hS, hS, hE]
      generalize meaE k M = er at *
      have t0 : (er != 0) = true := by simpa using hz
      clear hk hE hz hS hT
      go_enter Try.func11, Try.ntmps11
      go_wp2_with fail
      go_at_call 23
      refine hsh.mono ?_
      rintro e w1 ⟨hb1, rfl⟩
      clear hsh
      go_wp2_with fail
      go_ret3
      exact ⟨hb1, rfl⟩
  · have hE : encE k M = 2 := if_neg hk
    have hS : ∀ r, encS k M Y r = ⟨#[]⟩ := fun r => if_neg (by rw [hE]; decide)
    rw [hS, hS, hE]
    by_cases k1 : k < 1
    · have k1' : (k : Int) < 1 := by omega
      clear hk hE hS
      go_enter Try.func11, Try.ntmps11
      go_wp2_with fail
      go_ret3
      exact ⟨Below.refl _ _, rfl⟩
    · have k1' : ¬ (k : Int) < 1 := by omega
      have k8 : (8 : Int) < (k : Int) := by omega
      clear hk hE hS
      go_enter Try.func11, Try.ntmps11
      go_wp2_with fail
      go_ret3
      exact ⟨Below.refl _ _, rfl⟩
end Go.Proofs.Ytdpcbiccbhlonaa
