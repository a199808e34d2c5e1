/- What the Go function ChachaParts answers: true, for every key, nonce, counter and text. -/
import Derived.Test.YtajkfjafhigcpaaKeys
namespace Go.Proofs.Ytajkfjafhigcpaa
open Go.RowKit Go.PlainAid
set_option linter.unusedVariables false

/-- One more part, combined by itself. -/
theorem part_step (key nonce s : ByteArray) (c : Int) (k q : Nat) (h : 64 * k < s.size) (hq : q = min s.size (64 * k + 64)) :
    (cryB (ks key nonce c) s).extract 0 (64 * k) ++ cryB (ks key nonce ((c + (k : Int)) % 4294967296)) (s.extract (64 * k) q) = (cryB (ks key nonce c) s).extract 0 (64 * (k + 1)) := by
  have hqs : (s.extract (64 * k) q).size = q - 64 * k := by rw [ByteArray.size_extract]; omega
  have es : ((cryB (ks key nonce c) s).extract 0 (64 * k)).size = 64 * k := by simp only [ByteArray.size_extract, cryB_size]; omega
  apply bt_ext
  · rw [ByteArray.size_append, cryB_size, hqs, es]
    simp only [ByteArray.size_extract, cryB_size]
    omega
  · intro i hi
    rw [ByteArray.size_append, cryB_size, hqs, es] at hi
    rw [bt_take _ (64 * (k + 1)) i (by omega) (by rw [cryB_size]; omega), bt_cryB _ (ks_range key nonce c) s i (by omega)]
    by_cases hlt : i < 64 * k
    · rw [bt_left _ _ _ (by rw [es]; exact hlt), bt_take _ (64 * k) i hlt (by rw [cryB_size]; omega), bt_cryB _ (ks_range key nonce c) s i (by omega)]
    · rw [bt_right _ _ _ (by rw [es]; omega), es, bt_cryB _ (ks_range key nonce _) _ _ (by rw [hqs]; omega), bt_cut s (64 * k) q _ (by omega) (by omega), ks_on, show 64 * k + (i - 64 * k) = i by omega]

set_option maxHeartbeats 1000000 in
theorem partsLaw_walk (L : List Value) (x : Int) (c : Int) (s : ByteArray) (hL : KeysL L x) (hc : W32 c) (hs : s.size ≤ maxLen) (w : World) :
    Calls Try.prog 7 #[.agg L.toArray, .int .u32 c, .string s] w fun e w' => e = .returned (.bool true) ∧ Below w.heap.size w w' := by
  unfold maxLen at hs
  have hB : Blk (w.alloc (.cells L.toArray 32)) w.heap.size 32 L := by
    have := Blk.new w 32 L.toArray
    simpa using this
  have c44 := hB.cell hL.2.2.1
  have f44 := hB.frozen 44
  have hL0 := hL.set0
  obtain ⟨M, hM⟩ : ∃ M, L.set 44 (.int .i64 0) = M := ⟨_, rfl⟩
  rw [hM] at hL0
  have hB2 : Blk (w.alloc (.cells M.toArray 32)) w.heap.size 32 M := by
    have := Blk.new w 32 M.toArray
    simpa using this
  have hl : Below w.heap.size w (w.alloc (.cells M.toArray 32)) := (Below.refl _ _).alloc (Nat.le_refl _) _
  have hMl := hL0.1
  have HN : Hid (W32 c ∧ KeysL M 0) := ⟨hc, hL0⟩
  clear hc hL hL0 hB
  go_enter Try.func7, Try.ntmps7
  go_wp2_with (refine wpList_load_blk rfl 32 _ rfl w.heap.size rfl 32 M _ hB2 Try.underlying32 rfl (by rw [Try.size32, hMl]) ?_)
  have hA : (s.extract 0 (min (s.size : Int) 600).toNat).size ≤ 600 := by rw [ByteArray.size_extract]; omega
  generalize s.extract 0 (min (s.size : Int) 600).toNat = A at hA ⊢
  generalize w.alloc (.cells M.toArray 32) = w1 at hB2 hl ⊢
  clear hB2 hs c44 f44 hM
  refine (texts_any M 0 HN.out.2 w1).mono ?_
  rintro e w2 ⟨k, m, rfl, -, hm, hk, hb2⟩
  have hk32 : k.size = 32 := hk (by decide)
  have hl2 : Below w.heap.size w w2 := hl.trans (hb2.mono hl.size)
  obtain ⟨hc, -⟩ := HN.out
  have p1 := fun w => crypt_ok k m A c hk32 hm hc (by omega) w
  have HP : Hid (∀ (y : Int) (T : ByteArray) w, W32 y → T.size ≤ 65536 → Calls Try.prog 15 #[.string k, .string m, .int .u32 y, .string T] w fun e w' => e = .returned (.tuple #[.string (cryB (ks k m y) T), .int .i64 0]) ∧ Below w.heap.size w w') := fun y T w hy hT => crypt_ok k m T y hk32 hm hy hT w
  have HS : Hid (∀ (i q : Nat), 64 * i < A.size → q = min A.size (64 * i + 64) → (cryB (ks k m c) A).extract 0 (64 * i) ++ cryB (ks k m ((c + (i : Int)) % 4294967296)) (A.extract (64 * i) q) = (cryB (ks k m c) A).extract 0 (64 * (i + 1))) := fun i q h hq => part_step k m A c i q h hq
  have hZs := cryB_size (ks k m c) A
  obtain ⟨Z, hZ⟩ : ∃ Z, cryB (ks k m c) A = Z := ⟨_, rfl⟩
  rw [hZ] at p1 HS hZs
  have HZ : Hid (Z.size = A.size) := hZs
  obtain ⟨c0, c1⟩ := hc
  clear hl hb2 hMl HN hk hm hk32 hZ hZs
  go_wp2_with fail
  refine (p1 w2).mono ?_
  rintro e w3 ⟨rfl, hb3⟩
  have hl3 := hl2.trans (hb3.mono hl2.size)
  clear hl2 hb3 p1
  obtain ⟨M', hM1, hM2⟩ : ∃ M', A.size ≤ 64 * M' ∧ 64 * M' < A.size + 64 := ⟨(A.size + 63) / 64, by omega, by omega⟩
  have hMs : (64 * M' : Nat) ≤ 670 := by omega
  go_wp2_with fail
  go_loopw [11, 12] (fun v i wr => ∃ q : Nat, q ≤ M' ∧ i = .int .i64 (64 * (q : Int)) ∧ v = .string (Z.extract 0 (64 * q)) ∧ Below w.heap.size w wr) (fun _ i _ => (64 * (M' : Int) - intOf i).toNat)
  case atStart =>
    refine ⟨0, by omega, rfl, ?_, hl3⟩
    rw [show Z.extract 0 (64 * 0) = ⟨#[]⟩ by
      apply bt_ext
      · rw [ByteArray.size_extract]; simp; rfl
      · intro i hi
        rw [ByteArray.size_extract] at hi
        omega]
  case round =>
    clear hl3
    obtain ⟨q, hq, rfl, rfl, hl⟩ := hrel
    by_cases hlt : q < M'
    · have hltI : 64 * (q : Int) < (A.size : Int) := by omega
      have hleI : 64 * (q : Int) ≤ (A.size : Int) := by omega
      have h0I : (0 : Int) ≤ 64 * (q : Int) := by omega
      have t0 : (64 * (q : Int)).toNat = 64 * q := by omega
      have d0 : 64 * (q : Int) / 64 = (q : Int) := by omega
      go_wp2_with fail
      obtain ⟨r, hr⟩ : ∃ r : Nat, (min (A.size : Int) (64 * (q : Int) + 64)).toNat = r := ⟨_, rfl⟩
      have hr' : r = min A.size (64 * q + 64) := by omega
      rw [hr]
      have hstep := HS.out q r (by omega) hr'
      have hcall := HP.out ((c + (q : Int)) % 4294967296) (A.extract (64 * q) r) wr ⟨by omega, by omega⟩ (by rw [ByteArray.size_extract]; omega)
      have hYs : (cryB (ks k m ((c + (q : Int)) % 4294967296)) (A.extract (64 * q) r)).size ≤ 64 := by rw [cryB_size, ByteArray.size_extract]; omega
      have hPs : (Z.extract 0 (64 * q)).size ≤ 600 := by rw [ByteArray.size_extract, HZ.out]; omega
      have HST : Hid (Z.extract 0 (64 * q) ++ cryB (ks k m ((c + (q : Int)) % 4294967296)) (A.extract (64 * q) r) = Z.extract 0 (64 * (q + 1))) := hstep
      clear hstep hr hr'
      generalize cryB (ks k m ((c + (q : Int)) % 4294967296)) (A.extract (64 * q) r) = Y at hcall hYs HST
      refine hcall.mono ?_
      rintro e w4 ⟨rfl, hb4⟩
      have hl4 := hl.trans (hb4.mono hl.size)
      clear hcall hb4 hl
      obtain ⟨P, hP⟩ : ∃ P, Z.extract 0 (64 * q) = P := ⟨_, rfl⟩
      rw [hP] at hPs HST ⊢
      clear hP
      go_wp2_with fail
      go_roundw
      case rel => exact ⟨q + 1, by omega, by go_num, by rw [HST.out], hl4⟩
      case measure => simp [intOf]; omega
    · have hqM : q = M' := by omega
      subst hqM
      have hgeI : ¬ (64 * (q : Int) < (A.size : Int)) := by omega
      rw [take_all Z (64 * q) (by rw [HZ.out]; exact hM1)]
      clear hM1 hM2
      go_wp2_with (go_at_call 10; refine (wakes_any _).mono ?_; rintro e w7 ⟨rfl, hb7⟩)
      go_ret
      exact ⟨rfl, hl.trans (hb7.mono hl.size)⟩
end Go.Proofs.Ytajkfjafhigcpaa
