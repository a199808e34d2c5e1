/- Trees: the document's own Put. -/
import Derived.Test.YtbbgagpompgagaaDoorTrRef3
namespace Go.Proofs.YtbbgagpompgagaaDoor
open Go.RowKit Go.PlainAid Go.Shelf
set_option linter.unusedVariables false

set_option maxRecDepth 20000 in
theorem rPut_arg (x : ByteArray) (s : Int) (a : Option Addr) (n cap : Nat) (hn : n ≤ 1000000) (h : ¬ okS n s) (w : World) : Calls Tryd.prog 21 #[.int .i64 s, .slice a n cap, .string x] w fun e w' => e = .returned (.tuple #[.slice none 0 0, .string noB, .int .i64 2]) ∧ Below w.heap.size w w' := by
  have hz := rsize_any n hn w
  have h' := not_okS n s h
  generalize (sizI n : Int) = Z at hz h'
  by_cases hs : s < 0
  · go_enter Tryd.func21, Tryd.ntmps21
    go_wp2_with fail
    refine hz.mono ?_
    rintro e w' ⟨rfl, hw'⟩
    rw [hw']
    clear hw' w'
    go_wp2_with fail
    go_ret3
    exact ⟨rfl, Below.refl _ _⟩
  · have h2 : Z ≤ s := by omega
    have h0 : 0 ≤ s := by omega
    clear h h' hs
    go_enter Tryd.func21, Tryd.ntmps21
    go_wp2_with fail
    refine hz.mono ?_
    rintro e w' ⟨rfl, hw'⟩
    rw [hw']
    clear hw' w'
    go_wp2_with fail
    go_ret3
    exact ⟨rfl, Below.refl _ _⟩

set_option maxRecDepth 20000 in
set_option maxHeartbeats 4000000 in
theorem rPut_ok (x : ByteArray) (s : Nat) (a : Option Addr) (n cap : Nat) (p : Nat → ByteArray) (h : okS n (s : Int)) (w : World) (hp : Sa w a n p) (ht : RTabs w) : Calls Tryd.prog 21 #[.int .i64 (s : Int), .slice a n cap, .string x] w fun e w' =>
    ∃ v, e = .returned (.tuple #[v, .string (uT n (s : Int) p x), .int .i64 (uE n (s : Int) p x)]) ∧ w'.ownsRow w.heap.size 9 1 v (uN n (s : Int) p x) (strs (uN n (s : Int) p x) (neu n s p x)) ∧ Below w.heap.size w w' := by
  obtain ⟨N, hN⟩ : ∃ N, 2 ^ n = N := ⟨_, rfl⟩
  have hz := rsize_any n (by have := h.2.1; omega) w
  rw [siz_okS h, hN] at hz
  have HO : Hid (okS n (s : Int)) := h
  obtain ⟨h1, h2, _, h4⟩ := h
  rw [hN] at h4
  have h16 := pow_le16 n h2
  rw [hN] at h16
  obtain ⟨pb, po, rfl, hcell⟩ := hp.cells h1
  have hpb := cell_blk_lt (hcell 0 h1)
  have HC : Hid _ := hcell
  have HN : Hid (2 ^ n = N) := hN
  have HZ : Hid _ := hz
  have g2 : decide ((s : Int) < 0) = false := decide_eq_false (by omega)
  have g3 : decide (N ≤ s) = false := decide_eq_false (by omega)
  have hs4 : s < 2 ^ n := by omega
  have hm2 := mk_strs n (by omega)
  clear hz hcell hN hp
  by_cases h32 : x.size = 32
  · go_enter Tryd.func21, Tryd.ntmps21
    go_wp2_with fail
    refine Calls.mono HZ.out ?_
    rintro e w' ⟨rfl, hw'⟩
    rw [hw']
    clear hw' w' HZ
    go_wp2_with fail
    go_loop [10] (fun i => ∃ k : Nat, k ≤ n ∧ i = .int .i64 (k : Int) ∧ Hid (∀ j, j < k → (p j).size = 64)) (fun i => n - (intOf i).toNat)
    case atStart => exact ⟨0, Nat.zero_le _, rfl, fun j hj => by omega⟩
    case round =>
      obtain ⟨k, hk, rfl, hall⟩ := hrel
      by_cases hlt : k < n
      · have ca := HC.out k hlt
        have hki : (k : Int) < (n : Int) := by omega
        by_cases h64 : (p k).size = 64
        · have h64' := h64
          generalize hX : p k = X at ca h64
          go_wp2_with fail
          go_round
          case rel => exact ⟨k + 1, hlt, by go_num, fun j hj => by
            by_cases e : j = k
            · rw [e]; exact h64'
            · exact hall.out j (by omega)⟩
          case measure => simp [intOf]; omega
        · have h7 := uE_seven (x := x) (p := p) HO.out (fun h => h64 (h.2 k hlt))
          obtain ⟨h3, h4⟩ := uN_not h7 (by decide)
          have H7 : Hid _ := h7
          have H3 : Hid _ := h3
          have H4 : Hid _ := h4
          have hne : ((p k).size : Int) ≠ 64 := by omega
          generalize p k = X at ca h64 hne
          clear h7 h3 h4
          go_wp2_with fail
          go_ret3
          rw [H7.out, H3.out, H4.out]
          exact ⟨_, rfl, World.ownsRow_nil _ _ _ _, Below.refl _ _⟩
      · have hkn : k = n := by omega
        have HA : Hid (∀ j, j < n → (p j).size = 64) := by rw [← hkn]; exact hall
        have h0 := uE_zero (x := x) (p := p) HO.out ⟨h32, HA.out⟩
        obtain ⟨h3, h4⟩ := uN_yes h0
        rw [Int.toNat_natCast] at h4
        have HE : Hid _ := h0
        have H3 : Hid _ := h3
        have H4 : Hid _ := h4
        have hbp : Blk (w.alloc (.cells (strs n fun _ => noB).toArray 9)) w.heap.size 9 (strs n (cN n s p x 0)) := by
          have := Blk.new w 9 (strs n fun _ => noB).toArray
          rw [List.toList_toArray] at this
          rw [strs_congr n (cN n s p x 0) (fun _ => noB) (fun i hi => cN_zero n s p x i hi)]; exact this
        have hB2 : Below w.heap.size w (w.alloc (.cells (strs n fun _ => noB).toArray 9)) := (Below.refl _ w).alloc (Nat.le_refl _) _
        rw [hkn]
        clear hall h0 h3 h4 hkn hk k hlt
        go_wp2_with fail
        generalize w.alloc (.cells (strs n fun _ => noB).toArray 9) = W2 at hbp hB2 ⊢
        clear hm2
        go_loopw [2, 12, 13] (fun xv y i wr => ∃ j : Nat, j ≤ n ∧ xv = .string (cur n s p x j) ∧ y = .int .i64 (nd n s (n - j) : Int) ∧ i = .int .i64 ((n : Int) - 1 - (j : Int)) ∧ Blk wr w.heap.size 9 (strs n (cN n s p x j)) ∧ Below w.heap.size w wr) (fun _ _ i _ => (intOf i + 1).toNat)
        case atStart => exact ⟨0, Nat.zero_le _, rfl, by rw [Nat.sub_zero, nd_last, HN.out]; simp, by simp, hbp, hB2⟩
        case round =>
          clear hbp hB2
          obtain ⟨j, hj, rfl, rfl, rfl, hbp, hB⟩ := hrel
          rcases Nat.lt_or_ge j n with hjl | hjg
          · obtain ⟨m, hm⟩ : ∃ m, n - 1 - j = m := ⟨_, rfl⟩
            have hmn : m < n := by omega
            have hmi : (n : Int) - 1 - (j : Int) = (m : Int) := by omega
            have hmi2 : (m : Int) < (n : Int) := by omega
            have hnj : n - j = m + 1 := by omega
            have hnj2 : n - (j + 1) = m := by omega
            have hodd := nd_odd n s m hmn
            have hhalf := nd_half n s m hmn
            have hcs := cur_size n s p x h32 j
            have hcu := cur_succ n s p x j hjl
            have hnb : neu n s p x m = withB (p m) (sd n s m) (cur n s p x j) := by unfold neu; rw [show n - 1 - m = j by omega]
            have hns := neu_size n s p x h32 m (HA.out m hmn)
            have hle : nd n s (m + 1) ≤ 100 := by
              have := nd_lt n s (m + 1) (by omega) hs4
              have : 2 ^ (m + 1) ≤ 2 ^ n := pow_mono (by omega)
              have := HN.out
              omega
            have cp : wr.cell? ⟨pb, po + m, none⟩ = some (.string (p m)) := (hB.cell (p := ⟨pb, po + m, none⟩) hpb).trans (HC.out m hmn)
            have hps := HA.out m hmn
            have c1 := hbp.cell (strs_at n (cN n s p x j) m hmn)
            have f1 := hbp.frozen m
            have hb1 : Blk (wr.setCell ⟨w.heap.size, m, none⟩ (.string (neu n s p x m))) w.heap.size 9 (strs n (cN n s p x (j + 1))) := by
              have := hbp.setCell m (.string (neu n s p x m))
              rw [strs_set] at this
              rw [strs_congr n (cN n s p x (j + 1)) _ (fun i _ => (cN_succ n s p x j i hjl).symm), hm]; exact this
            have hB1 : Below w.heap.size w (wr.setCell ⟨w.heap.size, m, none⟩ (.string (neu n s p x m))) := hB.setCell (p := ⟨w.heap.size, m, none⟩) (Nat.le_refl _) _
            have hkd := rKind_any (neu n s p x m) (by omega) _ (ht.below hB1 ht.lt)
            have d1 := hb1.cell (strs_at n (cN n s p x (j + 1)) m hmn)
            rw [show cN n s p x (j + 1) m = neu n s p x m by unfold cN; rw [if_pos (by omega)]] at d1
            rw [hmi, hnj]
            rw [hm] at hcu
            have hsd := sd_lt n s m
            have hS : sd n s m = 0 ∨ sd n s m = 1 := by omega
            rcases hS with hS | hS
            · rw [hS] at hodd hnb
              unfold withB at hnb
              rw [if_pos rfl, hps] at hnb
              have ho : (nd n s (m + 1) : Int) % 2 = 0 := by omega
              have hq : (nd n s (m + 1) : Int) / 2 = (nd n s m : Int) := by omega
              have HQ : Hid _ := hhalf
              have HM : Hid (n - (j + 1) = m) := hnj2
              have HU : Hid (cur n s p x (j + 1) = nH (neu n s p x m)) := hcu
              generalize hZ : neu n s p x m = Z at *
              generalize hV : cur n s p x j = V at *
              generalize hY : nd n s (m + 1) = Y at *
              generalize hL : nd n s m = L at *
              generalize p m = X at *
              have HNB : Hid (Z = V ++ X.extract 32 64) := hnb
              have HK : Hid _ := hkd
              clear hkd hnb hcu hhalf hodd hnj hnj2 hS hsd
              rw [HNB.out] at d1 hb1 hB1 HK
              go_wp2_with fail
              refine Calls.mono HK.out ?_
              rintro e w3 ⟨rfl, hb3⟩
              have hb4 := hb1.below hb3 hb1.lt
              have hB4 := hB1.trans (hb3.mono hB1.size)
              clear HK d1 hb1 hB1 hb3
              go_wp2_with fail
              go_roundw
              case rel => exact ⟨j + 1, hjl, by rw [HU.out, HNB.out], by rw [HM.out, hL], by rw [show (n : Int) - 1 - ((j + 1 : Nat) : Int) = (m : Int) - 1 by omega], hb4, hB4⟩
              case measure => simp [intOf]
            · rw [hS] at hodd hnb
              unfold withB at hnb
              rw [if_neg (by decide)] at hnb
              have ho : (nd n s (m + 1) : Int) % 2 = 1 := by omega
              have hq : (nd n s (m + 1) : Int) / 2 = (nd n s m : Int) := by omega
              have HQ : Hid _ := hhalf
              have HM : Hid (n - (j + 1) = m) := hnj2
              have HU : Hid (cur n s p x (j + 1) = nH (neu n s p x m)) := hcu
              generalize hZ : neu n s p x m = Z at *
              generalize hV : cur n s p x j = V at *
              generalize hY : nd n s (m + 1) = Y at *
              generalize hL : nd n s m = L at *
              generalize p m = X at *
              have HNB : Hid (Z = X.extract 0 32 ++ V) := hnb
              have HK : Hid _ := hkd
              clear hkd hnb hcu hhalf hodd hnj hnj2 hS hsd
              rw [HNB.out] at d1 hb1 hB1 HK
              go_wp2_with fail
              refine Calls.mono HK.out ?_
              rintro e w3 ⟨rfl, hb3⟩
              have hb4 := hb1.below hb3 hb1.lt
              have hB4 := hB1.trans (hb3.mono hB1.size)
              clear HK d1 hb1 hB1 hb3
              go_wp2_with fail
              go_roundw
              case rel => exact ⟨j + 1, hjl, by rw [HU.out, HNB.out], by rw [HM.out, hL], by rw [show (n : Int) - 1 - ((j + 1 : Nat) : Int) = (m : Int) - 1 by omega], hb4, hB4⟩
              case measure => simp [intOf]
          · have hjn : j = n := by omega
            rw [hjn] at hbp ⊢
            rw [show (n : Int) - 1 - (n : Int) = -1 by omega]
            generalize cur n s p x n = Z at H4 ⊢
            go_wp2_with fail
            go_ret3
            rw [H3.out, H4.out, HE.out]
            refine ⟨_, rfl, blk_owns (L := strs n (neu n s p x)) ?_ (strs_length _ _) (by omega) (Nat.le_refl _), hB⟩
            rw [strs_congr n (neu n s p x) (cN n s p x n) (fun i _ => (cN_all n s p x i).symm)]
            exact hbp
  · have h7 := uE_seven (x := x) (p := p) HO.out (fun h => h32 h.1)
    obtain ⟨h3, h4⟩ := uN_not h7 (by decide)
    rw [h7, h3, h4]
    have hne : (x.size : Int) ≠ 32 := by omega
    clear h7 h3 h4
    go_enter Tryd.func21, Tryd.ntmps21
    go_wp2_with fail
    refine Calls.mono HZ.out ?_
    rintro e w' ⟨rfl, hw'⟩
    rw [hw']
    clear hw' w' HZ
    go_wp2_with fail
    go_ret3
    exact ⟨_, rfl, World.ownsRow_nil _ _ _ _, Below.refl _ _⟩
theorem rPut_any (a : Option Addr) (n cap : Nat) (s : Int) (x : ByteArray) (p : Nat → ByteArray) (hn : n ≤ 1000000) (w : World) (hp : Sa w a n p) (ht : RTabs w) : Calls Tryd.prog 21 #[.int .i64 s, .slice a n cap, .string x] w fun e w' =>
    ∃ v, e = .returned (.tuple #[v, .string (uT n s p x), .int .i64 (uE n s p x)]) ∧ w'.ownsRow w.heap.size 9 1 v (uN n s p x) (strs (uN n s p x) (neu n s.toNat p x)) ∧ Below w.heap.size w w' := by
  by_cases h : okS n s
  · obtain ⟨k, rfl⟩ := Int.eq_ofNat_of_zero_le h.2.2.1
    rw [Int.toNat_natCast]
    exact rPut_ok x k a n cap p h w hp ht
  · have h0 := uE_two (p := p) (x := x) h
    obtain ⟨h3, h4⟩ := uN_not h0 (by decide)
    rw [h0, h3, h4]
    refine (rPut_arg x s a n cap hn h w).mono ?_
    rintro e w' ⟨rfl, hb⟩
    exact ⟨_, rfl, World.ownsRow_nil _ _ _ _, hb⟩
end Go.Proofs.YtbbgagpompgagaaDoor
