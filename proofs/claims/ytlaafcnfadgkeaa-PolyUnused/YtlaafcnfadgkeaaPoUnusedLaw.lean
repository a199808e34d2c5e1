/- What the Go function PolyUnused answers: true, for every key, every text and every noise. -/
import Derived.Test.YtlaafcnfadgkeaaPoSecondLaw
namespace Go.Proofs.Ytlaafcnfadgkeaa
open Go.RowKit Go.PlainAid
set_option linter.unusedVariables false

/-- The bits of the byte i that are not used. -/
def mk (i : Nat) : Nat := if i % 4 = 3 then 240 else if i % 4 = 0 ∧ 0 < i then 3 else 0
theorem mk_cm (i : Nat) : mk i &&& cm i = 0 := by
  unfold mk cm
  by_cases h1 : i % 4 = 3
  · rw [if_pos h1, if_pos h1]; rfl
  · rw [if_neg h1, if_neg h1]
    by_cases h2 : i % 4 = 0 ∧ 0 < i
    · rw [if_pos h2, if_pos h2]; rfl
    · rw [if_neg h2, if_neg h2]; rfl
theorem noise_cm (x y i : Nat) : (x ^^^ (y &&& mk i)) &&& cm i = x &&& cm i := by
  rw [Nat.and_xor_distrib_right, Nat.and_assoc, mk_cm, Nat.and_zero, Nat.xor_zero]
theorem mk_lt (i : Nat) : mk i < 256 := by unfold mk; split <;> (try split) <;> decide
/-- A key with noise in its unused bits. -/
def noisy (f h : Nat → Nat) (k i : Nat) : Nat := if i < k then f i ^^^ (h i &&& mk i) else f i
theorem noisy_lt (f h : Nat → Nat) (k i : Nat) (hf : ∀ i, f i < 256) (hh : ∀ i, h i < 256) : noisy f h k i < 256 := by
  unfold noisy
  split
  · exact Nat.xor_lt_two_pow (n := 8) (hf i) (Nat.lt_of_le_of_lt Nat.and_le_left (hh i))
  · exact hf i
theorem clB_noisy (f h : Nat → Nat) (hf : ∀ i, f i < 256) (hh : ∀ i, h i < 256) : clB (tx 16 (noisy f h 16)) = clB (tx 16 f) := by
  unfold clB
  congr 1
  apply List.map_congr_left
  intro i hi
  have hi' := List.mem_range.1 hi
  unfold cl
  rw [bn_tx 16 _ (fun i => noisy_lt f h 16 i hf hh) i hi', bn_tx 16 f hf i hi']
  unfold noisy
  rw [if_pos hi', noise_cm]
theorem tag_noisy (f h : Nat → Nat) (s : ByteArray) (hf : ∀ i, f i < 256) (hh : ∀ i, h i < 256) : tagB (tx 32 (noisy f h 16)) s = tagB (tx 32 f) s := by
  have hn := fun i => noisy_lt f h 16 i hf hh
  have e1 : rk (tx 32 (noisy f h 16)) = rk (tx 32 f) := by
    unfold rk
    rw [tx_cut 32 16 _ hn (by decide), tx_cut 32 16 _ hf (by decide), clB_noisy f h hf hh]
  have e2 : sk (tx 32 (noisy f h 16)) = sk (tx 32 f) := by
    unfold sk
    refine congrArg nt ?_
    apply bt_ext
    · simp only [ByteArray.size_extract, tx_size]
    · intro i hi
      simp only [ByteArray.size_extract, tx_size] at hi
      rw [bt_cut _ 16 32 i (by rw [tx_size]; exact Nat.le_refl _) (by omega), bt_cut _ 16 32 i (by rw [tx_size]; exact Nat.le_refl _) (by omega), ← bn_int, ← bn_int, bn_tx 32 _ hn _ (by omega), bn_tx 32 _ hf _ (by omega)]
      unfold noisy
      rw [if_neg (by omega)]
  unfold tagB
  rw [e1, e2]

theorem Try.zero31 : (Try.prog.info? 31).map (fun i => i.zero) = some (some (.agg (nr .u8 32 (fun _ => 0)).toArray)) := by kernel_rfl
theorem zero31_run (w : World) : (zeroValue 31).run Try.prog w = .ok (.agg (nr .u8 32 (fun _ => 0)).toArray) w := by
  obtain ⟨i, hi, hz⟩ := Option.map_eq_some_iff.1 Try.zero31
  simp [zeroValue, typeInfo, hi, hz]
theorem Try.size31 : (Try.prog.info? 31).map (·.size) = some 32 := by kernel_rfl

set_option maxHeartbeats 2000000 in
set_option maxRecDepth 20000 in
theorem polyUnused_walk (f : Nat → Nat) (s : ByteArray) (h : Nat → Nat) (hf : ∀ i, f i < 256) (hs : s.size ≤ maxLen) (hh : ∀ i, h i < 256) (w : World) :
    Calls Try.prog 7 #[.agg (nr .u8 32 f).toArray, .string s, .agg (nr .u8 16 h).toArray] w fun e w' => e = .returned (.bool true) ∧ Below w.heap.size w w' := by
  unfold maxLen at hs
  have hzr := zero31_run
  obtain ⟨m, hm⟩ : ∃ m, min s.size 300 = m := ⟨_, rfl⟩
  have hmI : min ((s.size : Nat) : Int) 300 = (m : Int) := by omega
  have hm1 : m ≤ s.size := by omega
  have hm2 : m ≤ 300 := by omega
  obtain ⟨C, hC⟩ : ∃ C, s.extract 0 m = C := ⟨_, rfl⟩
  have hCs : C.size ≤ 300 := by rw [← hC, ByteArray.size_extract]; omega
  have c1 := fun w => sum_ok (tx 32 f) C (tx_size 32 f) (by omega) w
  have c2 := fun w => sum_ok (tx 32 (noisy f h 16)) C (tx_size 32 _) (by omega) w
  have c3 := fun w => clamp_ok (tx 16 f) (tx_size 16 f) w
  have c4 := fun w => clamp_ok (tx 16 (noisy f h 16)) (tx_size 16 _) w
  rw [tag_noisy f h C hf hh] at c2
  rw [clB_noisy f h hf hh] at c4
  have v1 : Hid (∀ w' g, Blk w' g 31 (nr .u8 32 f) → (convert 26 9 (.slice (some ⟨g, 0, none⟩) 32 32)).run Try.prog w' = .ok (.string (tx 32 f)) w') := fun w' g h => conv_blk h 32 32 (by decide)
  have v2 : Hid (∀ w' g, Blk w' g 31 (nr .u8 32 (noisy f h 16)) → (convert 26 9 (.slice (some ⟨g, 0, none⟩) 32 32)).run Try.prog w' = .ok (.string (tx 32 (noisy f h 16))) w') := fun w' g h => conv_blk h 32 32 (by decide)
  have v3 : Hid (∀ w' g, Blk w' g 31 (nr .u8 32 f) → (convert 26 9 (.slice (some ⟨g, 0, none⟩) 16 32)).run Try.prog w' = .ok (.string (tx 16 f)) w') := fun w' g h => conv_blk h 16 32 (by decide)
  have v4 : Hid (∀ w' g, Blk w' g 31 (nr .u8 32 (noisy f h 16)) → (convert 26 9 (.slice (some ⟨g, 0, none⟩) 16 32)).run Try.prog w' = .ok (.string (tx 16 (noisy f h 16))) w') := fun w' g h => conv_blk h 16 32 (by decide)
  generalize tagB (tx 32 f) C = X at *
  generalize clB (tx 16 f) = Y at *
  generalize tx 32 f = T1 at *
  generalize tx 32 (noisy f h 16) = T2 at *
  generalize tx 16 f = T3 at *
  generalize tx 16 (noisy f h 16) = T4 at *
  obtain ⟨L, hL⟩ : ∃ L, nr .u8 32 f = L := ⟨_, rfl⟩
  obtain ⟨M, hM⟩ : ∃ M, nr .u8 16 h = M := ⟨_, rfl⟩
  obtain ⟨Z, hZ⟩ : ∃ Z, nr .u8 32 (fun _ => 0) = Z := ⟨_, rfl⟩
  rw [hZ] at hzr
  rw [hL, hM]
  rw [hL] at v1 v3
  have lL : L.length = 32 := by rw [← hL, nr_length]
  have lZ : Z.length = 32 := by rw [← hZ, nr_length]
  have oL : ∀ v ∈ L, v.oneCell' = true := by rw [← hL]; exact nr_one _ _ _
  have HL : Hid (nr .u8 32 f = L) := hL
  have HM : Hid (nr .u8 16 h = M) := hM
  have Hf : Hid (∀ i, f i < 256) := hf
  have Hh : Hid (∀ i, h i < 256) := hh
  clear hL hM hZ hf hh hm
  have hA0 : Blk ((w.alloc (.cells L.toArray 31)).alloc (.cells M.toArray 22)) w.heap.size 31 L := (Blk.box w 31 L).alloc _
  have hB0 : Blk ((w.alloc (.cells L.toArray 31)).alloc (.cells M.toArray 22)) (w.heap.size + 1) 22 M := by
    have := Blk.box (w.alloc (.cells L.toArray 31)) 22 M
    simpa using this
  have hC0 : Blk (((w.alloc (.cells L.toArray 31)).alloc (.cells M.toArray 22)).alloc (.cells Z.toArray 31)) (w.heap.size + 2) 31 Z := by
    have := Blk.box ((w.alloc (.cells L.toArray 31)).alloc (.cells M.toArray 22)) 31 Z
    simpa using this
  have hl0 : Below w.heap.size w (((w.alloc (.cells L.toArray 31)).alloc (.cells M.toArray 22)).alloc (.cells Z.toArray 31)) := (((Below.refl _ _).alloc (Nat.le_refl _) _).alloc (by simp) _).alloc (by simp; omega) _
  have hA1 := ((hA0.alloc (.cells Z.toArray 31)).setRowOther (show w.heap.size ≠ w.heap.size + 2 by omega) L.toArray)
  have hB1 := ((hB0.alloc (.cells Z.toArray 31)).setRowOther (show w.heap.size + 1 ≠ w.heap.size + 2 by omega) L.toArray)
  have hC1 := hC0.setRow (M := L)
  have hl1 := below_setRow hl0 (show w.heap.size ≤ w.heap.size + 2 by omega) L.toArray
  go_enter Try.func7, Try.ntmps7
  go_wp2_with (first | (refine wpList_load_blk rfl 31 _ rfl w.heap.size rfl 31 L _ hA0 Try.underlying31 rfl (by rw [Try.size31, lL]) ?_) | (refine wpList_store_blk rfl 31 _ _ rfl (w.heap.size + 2) Z L rfl rfl 31 hC0 (by rw [Try.size31, lL]) (by rw [lZ, lL]) oL ?_))
  clear hA0 hB0 hC0 hl0 hzr
  generalize (((w.alloc (.cells L.toArray 31)).alloc (.cells M.toArray 22)).alloc (.cells Z.toArray 31)).setRow (w.heap.size + 2) L.toArray = w0 at *
  obtain ⟨B, hBd⟩ : ∃ B, w.heap.size = B := ⟨_, rfl⟩
  rw [hBd] at hA1 hB1 hC1 hl1 ⊢
  have HB : Hid (w.heap.size = B) := hBd
  clear hBd
  rw [← HL.out] at hC1
  rw [← HM.out] at hB1
  go_loopw [24] (fun v wr => ∃ k : Nat, k ≤ 16 ∧ v = .int .i64 k ∧ Blk wr B 31 L ∧ Blk wr (B + 1) 22 (nr .u8 16 h) ∧ Blk wr (B + 2) 31 (nr .u8 32 (noisy f h k)) ∧ Below B w wr) (fun v _ => (16 - intOf v).toNat)
  case atStart => exact ⟨0, by omega, rfl, hA1, hB1, hC1, hl1⟩
  case round =>
    clear hA1 hB1 hC1 hl1
    obtain ⟨k, hk, rfl, hA, hB, hD, hl⟩ := hrel
    by_cases hlt : k < 16
    · have hlt' : (k : Int) < 16 := by omega
      have hlt2 : (k : Int) < 32 := by omega
      have cn : wr.cell? ⟨B + 2, k, none⟩ = some (.int .u8 ((f k : Nat) : Int)) := by
        have := hD.cell (nr_at .u8 32 _ k (by omega))
        unfold noisy at this
        rw [if_neg (by omega)] at this; exact this
      have ch := hB.cell (nr_at .u8 16 h k hlt)
      have fn := hD.frozen k
      have hand := u8_and_nat (h k) (mk k) (Hh.out k) (mk_lt k)
      have hal : h k &&& mk k < 256 := Nat.lt_of_le_of_lt Nat.and_le_left (Hh.out k)
      have hxor := u8_xor_nat (f k) (h k &&& mk k) (Hf.out k) hal
      have hB2 : Hid (Blk (wr.drew.setCell ⟨B + 2, k, none⟩ (.int .u8 ((f k ^^^ (h k &&& mk k) : Nat) : Int))) (B + 2) 31 (nr .u8 32 (noisy f h (k + 1)))) := by
        have hg := hD.drew.setCell k (.int .u8 ((f k ^^^ (h k &&& mk k) : Nat) : Int))
        rw [nr_set] at hg
        rw [nr_congr .u8 32 (noisy f h (k + 1)) (fun i => if i = k then f k ^^^ (h k &&& mk k) else noisy f h k i) ?_]
        · exact hg
        · intro i _
          show (if i < k + 1 then f i ^^^ (h i &&& mk i) else f i) = if i = k then f k ^^^ (h k &&& mk k) else if i < k then f i ^^^ (h i &&& mk i) else f i
          by_cases h1 : i = k
          · subst h1; rw [if_pos (by omega), if_pos rfl]
          · rw [if_neg h1]
            by_cases h2 : i < k
            · rw [if_pos h2, if_pos (by omega)]
            · rw [if_neg h2, if_neg (by omega)]
      have hA2 : Hid (Blk (wr.drew.setCell ⟨B + 2, k, none⟩ (.int .u8 ((f k ^^^ (h k &&& mk k) : Nat) : Int))) B 31 L) := hA.drew.setOther (by omega) k _
      have hC2 : Hid (Blk (wr.drew.setCell ⟨B + 2, k, none⟩ (.int .u8 ((f k ^^^ (h k &&& mk k) : Nat) : Int))) (B + 1) 22 (nr .u8 16 h)) := hB.drew.setOther (by omega) k _
      have hl2 : Hid (Below B w (wr.drew.setCell ⟨B + 2, k, none⟩ (.int .u8 ((f k ^^^ (h k &&& mk k) : Nat) : Int)))) := hl.drew.setCell (by show B ≤ B + 2; omega) _
      have es : wr.drew.cell? ⟨B + 1, k, none⟩ = some (.int .u8 ((h k : Nat) : Int)) := ch
      clear hA hB hD hl v1 v2 v3 v4 c1 c2 c3 c4
      have hmk : mk k = if k % 4 = 3 then 240 else if k % 4 = 0 ∧ 0 < k then 3 else 0 := rfl
      generalize f k ^^^ (h k &&& mk k) = z at *
      generalize h k &&& mk k = y at *
      generalize f k = x at *
      generalize h k = u at *
      by_cases h3 : k % 4 = 3
      · rw [hmk, if_pos h3] at hand
        rw [show ((240 : Nat) : Int) = 240 from rfl] at hand
        have h3' : ((k : Int) % 4 == 3) = true := by simp; omega
        clear hmk
        go_wp2_with fail
        go_region
        have hB3 : Blk (wr.setCell ⟨B + 1 + 1, k, none⟩ (.int .u8 (z : Int))).drew (B + 2) 31 _ := hB2.out
        have hA3 : Blk (wr.setCell ⟨B + 1 + 1, k, none⟩ (.int .u8 (z : Int))).drew B 31 _ := hA2.out
        have hC3 : Blk (wr.setCell ⟨B + 1 + 1, k, none⟩ (.int .u8 (z : Int))).drew (B + 1) 22 _ := hC2.out
        have hl3 : Below B w (wr.setCell ⟨B + 1 + 1, k, none⟩ (.int .u8 (z : Int))).drew := hl2.out
        clear cn ch fn es hB2 hA2 hC2 hl2 hand hxor
        generalize (wr.setCell ⟨B + 1 + 1, k, none⟩ (.int .u8 (z : Int))).drew = w4 at hB3 hA3 hC3 hl3 ⊢
        go_wp2_with fail
        go_roundw
        case rel => exact ⟨k + 1, by omega, by go_num, hA3, hC3, hB3, hl3⟩
        case measure => simp [intOf]; omega
      · have h3' : ((k : Int) % 4 == 3) = false := by simp; omega
        by_cases h4 : k % 4 = 0
        · have h4' : ((k : Int) % 4 == 0) = true := by simp; omega
          by_cases h5 : 0 < k
          · rw [hmk, if_neg h3, if_pos ⟨h4, h5⟩] at hand
            rw [show ((3 : Nat) : Int) = 3 from rfl] at hand
            have h5' : (0 : Int) < (k : Int) := by omega
            clear hmk
            go_wp2_with fail
            go_region
            have hB3 : Blk (wr.setCell ⟨B + 1 + 1, k, none⟩ (.int .u8 (z : Int))).drew (B + 2) 31 _ := hB2.out
            have hA3 : Blk (wr.setCell ⟨B + 1 + 1, k, none⟩ (.int .u8 (z : Int))).drew B 31 _ := hA2.out
            have hC3 : Blk (wr.setCell ⟨B + 1 + 1, k, none⟩ (.int .u8 (z : Int))).drew (B + 1) 22 _ := hC2.out
            have hl3 : Below B w (wr.setCell ⟨B + 1 + 1, k, none⟩ (.int .u8 (z : Int))).drew := hl2.out
            clear cn ch fn es hB2 hA2 hC2 hl2 hand hxor
            generalize (wr.setCell ⟨B + 1 + 1, k, none⟩ (.int .u8 (z : Int))).drew = w4 at hB3 hA3 hC3 hl3 ⊢
            go_wp2_with fail
            go_roundw
            case rel => exact ⟨k + 1, by omega, by go_num, hA3, hC3, hB3, hl3⟩
            case measure => simp [intOf]; omega
          · rw [hmk, if_neg h3, if_neg (fun e => h5 e.2)] at hand
            rw [show ((0 : Nat) : Int) = 0 from rfl] at hand
            have h5' : ¬ ((0 : Int) < (k : Int)) := by omega
            clear hmk
            go_wp2_with fail
            go_region
            have hB3 : Blk (wr.setCell ⟨B + 1 + 1, k, none⟩ (.int .u8 (z : Int))).drew (B + 2) 31 _ := hB2.out
            have hA3 : Blk (wr.setCell ⟨B + 1 + 1, k, none⟩ (.int .u8 (z : Int))).drew B 31 _ := hA2.out
            have hC3 : Blk (wr.setCell ⟨B + 1 + 1, k, none⟩ (.int .u8 (z : Int))).drew (B + 1) 22 _ := hC2.out
            have hl3 : Below B w (wr.setCell ⟨B + 1 + 1, k, none⟩ (.int .u8 (z : Int))).drew := hl2.out
            clear cn ch fn es hB2 hA2 hC2 hl2 hand hxor
            generalize (wr.setCell ⟨B + 1 + 1, k, none⟩ (.int .u8 (z : Int))).drew = w4 at hB3 hA3 hC3 hl3 ⊢
            go_wp2_with fail
            go_roundw
            case rel => exact ⟨k + 1, by omega, by go_num, hA3, hC3, hB3, hl3⟩
            case measure => simp [intOf]; omega
        · rw [hmk, if_neg h3, if_neg (fun e => h4 e.1)] at hand
          rw [show ((0 : Nat) : Int) = 0 from rfl] at hand
          have h4' : ((k : Int) % 4 == 0) = false := by simp; omega
          clear hmk
          go_wp2_with fail
          go_region
          have hB3 : Blk (wr.setCell ⟨B + 1 + 1, k, none⟩ (.int .u8 (z : Int))).drew (B + 2) 31 _ := hB2.out
          have hA3 : Blk (wr.setCell ⟨B + 1 + 1, k, none⟩ (.int .u8 (z : Int))).drew B 31 _ := hA2.out
          have hC3 : Blk (wr.setCell ⟨B + 1 + 1, k, none⟩ (.int .u8 (z : Int))).drew (B + 1) 22 _ := hC2.out
          have hl3 : Below B w (wr.setCell ⟨B + 1 + 1, k, none⟩ (.int .u8 (z : Int))).drew := hl2.out
          clear cn ch fn es hB2 hA2 hC2 hl2 hand hxor
          generalize (wr.setCell ⟨B + 1 + 1, k, none⟩ (.int .u8 (z : Int))).drew = w4 at hB3 hA3 hC3 hl3 ⊢
          go_wp2_with fail
          go_roundw
          case rel => exact ⟨k + 1, by omega, by go_num, hA3, hC3, hB3, hl3⟩
          case measure => simp [intOf]; omega
    · have hk16 : k = 16 := by omega
      subst hk16
      rw [show ((16 : Nat) : Int) = 16 from rfl]
      obtain ⟨N, hN⟩ : ∃ N, nr .u8 32 (noisy f h 16) = N := ⟨_, rfl⟩
      rw [hN] at hD v2 v4
      clear hB hN
      have d1 := v1.out _ _ hA
      go_wp2_with fail
      refine (c1 wr).mono ?_
      rintro e w1 ⟨rfl, hb1⟩
      have hA1 := hA.below hb1 hA.lt
      have hD1 := hD.below hb1 hD.lt
      have hl1 : Below B w w1 := hl.trans (hb1.mono (Nat.le_of_lt hA.lt))
      have d2 := v2.out _ _ hD1
      clear hA hD hl hb1 c1 d1
      go_wp2_with fail
      refine (c2 w1).mono ?_
      rintro e w2 ⟨rfl, hb2⟩
      have hA2 := hA1.below hb2 hA1.lt
      have hD2 := hD1.below hb2 hD1.lt
      have hl2 : Below B w w2 := hl1.trans (hb2.mono (Nat.le_of_lt hA1.lt))
      have d3 := v3.out _ _ hA2
      clear hA1 hD1 hl1 hb2 c2 d2
      go_wp2_with fail
      refine (c3 w2).mono ?_
      rintro e w3 ⟨rfl, hb3⟩
      have hD3 := hD2.below hb3 hD2.lt
      have hl3 : Below B w w3 := hl2.trans (hb3.mono (Nat.le_of_lt hA2.lt))
      have d4 := v4.out _ _ hD3
      clear hA2 hD2 hl2 hb3 c3 d3
      go_wp2_with fail
      refine (c4 w3).mono ?_
      rintro e w4 ⟨rfl, hb4⟩
      have hl4 : Below B w w4 := hl3.trans (hb4.mono (by have := hD3.lt; omega))
      have hg4 : B ≤ w4.heap.size := by have := hD3.lt; have := hb4.size; omega
      clear hD3 hl3 hb4 c4 d4
      go_wp2_with fail
      refine (wakes_any w4).mono ?_
      rintro e w5 ⟨rfl, hb5⟩
      have hl5 : Below B w w5 := hl4.trans (hb5.mono hg4)
      clear hl4 hb5
      go_wp2_with fail
      go_ret
      refine ⟨rfl, ?_⟩
      rw [HB.out]; exact hl5
end Go.Proofs.Ytlaafcnfadgkeaa
