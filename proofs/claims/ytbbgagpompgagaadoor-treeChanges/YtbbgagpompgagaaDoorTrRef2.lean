/- Trees: the document's own digest and Build. -/
import Derived.Test.YtbbgagpompgagaaDoorTrRef1
namespace Go.Proofs.YtbbgagpompgagaaDoor
open Go.RowKit Go.PlainAid Go.Shelf
set_option linter.unusedVariables false

theorem kind1 (s : ByteArray) : digest (strOfNums [(1 : Int)] ++ s) = nH s := rfl
set_option maxRecDepth 20000 in
theorem rKind_any (s : ByteArray) (hs : s.size ≤ 90000000) (w : World) (ht : RTabs w) : Calls Tryd.prog 29 #[.int .u8 1, .string s] w fun e w' => e = .returned (.string (nH s)) ∧ Below w.heap.size w w' := by
  have h := refKind_any 1 (by decide) s hs w ht
  rw [show (((1 : Nat) : Int)) = 1 from rfl, kind1] at h
  exact h
theorem nt_size (D : Nat → ByteArray) (n : Nat) (hD : ∀ j, j < n → (D j).size = 32) (f i : Nat) (h1 : 1 ≤ i) (hi : i < 2 * n) (hf : n ≤ i * 2 ^ f) : (nt D n f i).size = 32 := by
  cases f with
  | zero => rw [Nat.pow_zero, Nat.mul_one] at hf; exact hD _ (by omega)
  | succ f =>
    simp only [nt]
    split
    · exact hD _ (by omega)
    · exact nH_size _
set_option maxRecDepth 20000 in
set_option maxHeartbeats 1000000 in
theorem rdigest_any (a : Option Addr) (n cap : Nat) (hn : n ≤ 16) (D : Nat → ByteArray) (hD : ∀ j, j < n → (D j).size = 32) (f : Nat) : ∀ (i : Nat) (w : World), Sa w a n D → RTabs w → n ≤ i * 2 ^ f → 1 ≤ i → i < 2 * n →
    Calls Tryd.prog 26 #[.slice a n cap, .int .i64 (i : Int)] w fun e w' => e = .returned (.string (nt D n f i)) ∧ Below w.heap.size w w' := by
  have leaf : ∀ (i : Nat) (w : World), Sa w a n D → n ≤ i → i < 2 * n → Calls Tryd.prog 26 #[.slice a n cap, .int .i64 (i : Int)] w fun e w' => e = .returned (.string (D (i - n))) ∧ Below w.heap.size w w' := by
    intro i w hS hi hi2
    obtain ⟨ab, ao, rfl, hcell⟩ := hS.cells (by omega)
    have c := hcell (i - n) (by omega)
    obtain ⟨m, hm⟩ : ∃ m, i - n = m := ⟨_, rfl⟩
    have e1 : (i : Int) - (n : Int) = (m : Int) := by omega
    have e2 : (m : Int) < (n : Int) := by omega
    have e3 : (n : Int) ≤ (i : Int) := by omega
    rw [hm] at c ⊢
    clear hcell hS
    go_enter Tryd.func26, Tryd.ntmps26
    go_wp2_with fail
    go_ret
    exact ⟨rfl, Below.refl _ _⟩
  induction f with
  | zero =>
    intro i w hS ht hf h1 hi
    rw [Nat.pow_zero, Nat.mul_one] at hf
    exact leaf i w hS hf hi
  | succ f ih =>
    intro i w hS ht hf h1 hi
    simp only [nt]
    by_cases hin : n ≤ i
    · rw [if_pos hin]; exact leaf i w hS hin hi
    · rw [if_neg hin]
      have h1' : n ≤ 2 * i * 2 ^ f := by rw [Nat.pow_succ] at hf; rw [Nat.mul_comm 2 i, Nat.mul_assoc, Nat.mul_comm 2]; exact hf
      have h2' : n ≤ (2 * i + 1) * 2 ^ f := Nat.le_trans h1' (Nat.mul_le_mul_right _ (by omega))
      have k1 := ih (2 * i) w hS ht h1' (by omega) (by omega)
      have k2 := fun z (hz : Sa z a n D) (hzt : RTabs z) => ih (2 * i + 1) z hz hzt h2' (by omega) (by omega)
      rw [show ((2 * i : Nat) : Int) = 2 * (i : Int) by omega] at k1
      have s1 := nt_size D n hD f (2 * i) (by omega) (by omega) h1'
      have s2 := nt_size D n hD f (2 * i + 1) (by omega) (by omega) h2'
      generalize nt D n f (2 * i) = X at k1 s1 ⊢
      generalize nt D n f (2 * i + 1) = Y at k2 s2 ⊢
      rw [show ((2 * i + 1 : Nat) : Int) = 2 * (i : Int) + 1 by omega] at k2
      have K1 : Hid _ := k1
      have K2 : Hid _ := k2
      have HS : Hid (Sa w a n D) := hS
      have hlt : (i : Int) < (n : Int) := by omega
      clear leaf ih k1 k2 hf h1' h2' hS
      go_enter Tryd.func26, Tryd.ntmps26
      go_wp2_with fail
      refine Calls.mono K1.out ?_
      rintro e w1 ⟨rfl, hb1⟩
      have hS1 : Hid (Sa w1 a n D) := HS.out.later hb1
      have ht1 := ht.below hb1 ht.lt
      go_wp2_with fail
      refine Calls.mono (K2.out w1 hS1.out ht1) ?_
      rintro e w2 ⟨rfl, hb2⟩
      have ht2 := ht1.below hb2 ht1.lt
      have hB2 := hb1.trans (hb2.mono hb1.size)
      have hsz : (X ++ Y).size ≤ 90000000 := by rw [ByteArray.size_append]; omega
      go_wp2_with fail
      refine Calls.mono (rKind_any (X ++ Y) hsz w2 ht2) ?_
      rintro e w3 ⟨rfl, hb3⟩
      go_wp2_with fail
      go_ret
      exact ⟨rfl, hB2.trans (hb3.mono hB2.size)⟩
theorem rdg_any (a : Option Addr) (n cap : Nat) (hn : n ≤ 16) (D : Nat → ByteArray) (hD : ∀ j, j < n → (D j).size = 32) (i : Nat) (w : World) (hS : Sa w a n D) (ht : RTabs w) (h1 : 1 ≤ i) (hi : i < 2 * n) :
    Calls Tryd.prog 26 #[.slice a n cap, .int .i64 (i : Int)] w fun e w' => e = .returned (.string (dg D n i)) ∧ Below w.heap.size w w' := rdigest_any a n cap hn D hD 5 i w hS ht (by omega) h1 hi

/-- The pairs written by then. -/
def rM (n : Nat) (D : Nat → ByteArray) (k i : Nat) : ByteArray := if 1 ≤ i ∧ i < k then pr D n i else noB
theorem rM_succ (n : Nat) (D : Nat → ByteArray) (k i : Nat) (hk : 1 ≤ k) : upd (rM n D k) (k, pr D n k) i = rM n D (k + 1) i := by
  unfold upd rM
  dsimp only
  by_cases h : i = k
  · rw [if_pos h, if_pos (by omega), h]
  · rw [if_neg h]
    by_cases h2 : 1 ≤ i ∧ i < k
    · rw [if_pos h2, if_pos (by omega)]
    · rw [if_neg h2, if_neg (by omega)]
theorem depI_tree (n : Nat) : depI (n : Int) ≠ 0 ↔ isTree n := by
  constructor
  · intro h
    refine Classical.byContradiction fun h' => h (depI_no _ ?_)
    unfold isTree at h'
    omega
  · intro h
    obtain ⟨d, h1, h2, rfl⟩ := isTree_pow h
    rw [depI_pow d h1 h2]
    omega

set_option maxRecDepth 20000 in
set_option maxHeartbeats 4000000 in
theorem rBuild_any (a : Option Addr) (n cap : Nat) (hn : n ≤ 1000000) (D : Nat → ByteArray) (w : World) (hD : Sa w a n D) (ht : RTabs w) : Calls Tryd.prog 14 #[.slice a n cap] w fun e w' =>
    ∃ v, e = .returned (.tuple #[v, .string (bT n D), .int .i64 (bE n D)]) ∧ w'.ownsRow w.heap.size 9 1 v (bN n D) (strs (bN n D) (bP n D)) ∧ Below w.heap.size w w' := by
  have hc := rDepth_any (n : Int) w
  by_cases hT : isTree n
  · have hz := (depI_tree n).2 hT
    generalize depI (n : Int) = Dn at hc hz
    have hn2 : 2 ≤ n := by unfold isTree at hT; omega
    have hn16 : n ≤ 16 := by unfold isTree at hT; omega
    have HS : Hid (Sa w a n D) := hD
    obtain ⟨ab, ao, rfl, hcell⟩ := hD.cells (by omega)
    have hm2 := mk_strs n (by omega)
    have HC : Hid _ := hcell
    clear hD hcell
    go_enter Tryd.func14, Tryd.ntmps14
    go_wp2_with fail
    refine hc.mono ?_
    rintro e w' ⟨rfl, hw'⟩
    rw [hw']
    clear hw' w' hc
    go_wp2_with fail
    go_loop [6] (fun i => ∃ k : Nat, k ≤ n ∧ i = .int .i64 (k : Int) ∧ Hid (∀ j, j < k → (D j).size = 32)) (fun i => n - (intOf i).toNat)
    case atStart => exact ⟨0, Nat.zero_le _, rfl, fun j hj => by omega⟩
    case round =>
      obtain ⟨k, hk, rfl, hall⟩ := hrel
      by_cases hlt : k < n
      · have ca := HC.out k hlt
        have hki : (k : Int) < (n : Int) := by omega
        by_cases h32 : (D k).size = 32
        · have h32' := h32
          generalize hX : D k = X at ca h32
          go_wp2_with fail
          go_round
          case rel => exact ⟨k + 1, hlt, by go_num, fun j hj => by
            by_cases e : j = k
            · rw [e]; exact h32'
            · exact hall.out j (by omega)⟩
          case measure => simp [intOf]; omega
        · have h7 := bE_seven (D := D) hT hlt h32
          obtain ⟨h3, h4⟩ := bN_not h7 (by decide)
          have hne : ((D k).size : Int) ≠ 32 := by omega
          generalize D k = X at ca h32 hne
          go_wp2_with fail
          go_ret3
          exact ⟨_, rfl, World.ownsRow_nil _ _ _ _, Below.refl _ _⟩
      · have hkn : k = n := by omega
        subst hkn
        have hall' : ∀ j, j < k → (D j).size = 32 := hall.out
        have h0 := bE_zero hT hall'
        obtain ⟨h3, h4⟩ := bN_yes h0
        have HA : Hid (∀ j, j < k → (D j).size = 32) := hall'
        have HE : Hid (bE k D = 0) := h0
        have H3 : Hid (bN k D = k) := h3
        have H4 : Hid (bT k D = dg D k 1) := h4
        have hbp : Blk (w.alloc (.cells (strs k fun _ => noB).toArray 9)) w.heap.size 9 (strs k (rM k D 1)) := by
          have := Blk.new w 9 (strs k fun _ => noB).toArray
          rw [List.toList_toArray] at this
          rw [strs_congr k (rM k D 1) (fun _ => noB) (fun i hi => by unfold rM; rw [if_neg (by omega)])]; exact this
        have hB2 : Below w.heap.size w (w.alloc (.cells (strs k fun _ => noB).toArray 9)) := (Below.refl _ w).alloc (Nat.le_refl _) _
        clear hall hall' h0 h3 h4
        go_wp2_with fail
        generalize w.alloc (.cells (strs k fun _ => noB).toArray 9) = W2 at hbp hB2 ⊢
        clear hm2
        go_loopw [8] (fun i w2 => ∃ j : Nat, 1 ≤ j ∧ j ≤ k ∧ i = .int .i64 (j : Int) ∧ Blk w2 w.heap.size 9 (strs k (rM k D j)) ∧ Below w.heap.size w w2) (fun i _ => k - (intOf i).toNat)
        case atStart => exact ⟨1, by omega, by omega, rfl, hbp, hB2⟩
        case round =>
          clear hbp hB2
          obtain ⟨j, hj1, hj, rfl, hbp, hB⟩ := hrel
          have hS1 : Hid (Sa wr (some ⟨ab, ao, none⟩) k D) := HS.out.later hB
          have ht1 := ht.below hB ht.lt
          by_cases hlt2 : j < k
          · have k1 := rdg_any _ k cap hn16 D HA.out (2 * j) wr hS1.out ht1 (by omega) (by omega)
            have k2 := fun z (hz : Sa z (some ⟨ab, ao, none⟩) k D) (hzt : RTabs z) => rdg_any _ k cap hn16 D HA.out (2 * j + 1) z hz hzt (by omega) (by omega)
            have s1 := dg_size D k (2 * j) hn16 (by omega) (by omega) HA.out
            have s2 := dg_size D k (2 * j + 1) hn16 (by omega) (by omega) HA.out
            have hpr : Hid (dg D k (2 * j) ++ dg D k (2 * j + 1) = pr D k j) := rfl
            rw [show ((2 * j : Nat) : Int) = 2 * (j : Int) by omega] at k1
            generalize dg D k (2 * j) = X at k1 s1 hpr
            generalize dg D k (2 * j + 1) = Y at k2 s2 hpr
            rw [show ((2 * j + 1 : Nat) : Int) = 2 * (j : Int) + 1 by omega] at k2
            have K1 : Hid _ := k1
            have K2 : Hid _ := k2
            have i5 : (j : Int) < (k : Int) := by omega
            clear k1 k2
            go_wp2_with fail
            refine Calls.mono K1.out ?_
            rintro e w3 ⟨rfl, hb3⟩
            have hS3 : Hid (Sa w3 (some ⟨ab, ao, none⟩) k D) := hS1.out.later hb3
            have ht3 := ht1.below hb3 ht1.lt
            have hbp3 := hbp.below hb3 hbp.lt
            have hB3 := hB.trans (hb3.mono hB.size)
            clear K1 hS1 ht1 hbp hB hb3
            go_wp2_with fail
            refine Calls.mono (K2.out w3 hS3.out ht3) ?_
            rintro e w4 ⟨rfl, hb4⟩
            have hbp4 := hbp3.below hb4 hbp3.lt
            have hB4 := hB3.trans (hb4.mono hB3.size)
            clear K2 hS3 ht3 hbp3 hB3 hb4
            have x3 := hbp4.cell (strs_at k (rM k D j) j hlt2)
            have f3 := hbp4.frozen j
            have hbp5 : Blk (w4.setCell ⟨w.heap.size, j, none⟩ (.string (X ++ Y))) w.heap.size 9 (strs k (rM k D (j + 1))) := by
              have := hbp4.setCell j (.string (X ++ Y))
              rw [strs_set, hpr.out] at this
              rw [strs_congr k (rM k D (j + 1)) _ (fun i _ => (rM_succ k D j i hj1).symm), hpr.out]; exact this
            have hB5 : Below w.heap.size w (w4.setCell ⟨w.heap.size, j, none⟩ (.string (X ++ Y))) := hB4.setCell (p := ⟨w.heap.size, j, none⟩) (Nat.le_refl _) _
            go_wp2_with fail
            go_roundw
            case rel => exact ⟨j + 1, by omega, by omega, by go_num, hbp5, hB5⟩
            case measure => simp [intOf]; omega
          · have hjk : j = k := by omega
            subst hjk
            have k1 := rdg_any _ j cap hn16 D HA.out 1 wr hS1.out ht1 (by omega) (by omega)
            rw [show ((1 : Nat) : Int) = 1 from rfl] at k1
            have K1 : Hid _ := k1
            clear k1
            generalize dg D j 1 = Z at K1 H4
            go_wp2_with fail
            refine Calls.mono K1.out ?_
            rintro e w3 ⟨rfl, hb3⟩
            have hbp3 := hbp.below hb3 hbp.lt
            have hB3 := hB.trans (hb3.mono hB.size)
            go_wp2_with fail
            go_ret3
            rw [H3.out, H4.out, HE.out]
            refine ⟨_, rfl, blk_owns (L := strs j (bP j D)) ?_ (strs_length _ _) (by omega) (Nat.le_refl _), hB3⟩
            rw [strs_congr j (bP j D) (rM j D j) (fun i hi => by
              unfold rM bP
              by_cases e : i = 0
              · rw [if_pos e, if_neg (by omega)]
              · rw [if_neg e, if_pos (by omega)])]
            exact hbp3
  · have hz : depI (n : Int) = 0 := Classical.byContradiction fun h => hT ((depI_tree n).1 h)
    rw [hz] at hc
    have h2 := bE_two (D := D) hT
    obtain ⟨h3, h4⟩ := bN_not h2 (by decide)
    rw [h2, h3, h4]
    go_enter Tryd.func14, Tryd.ntmps14
    go_wp2_with fail
    refine hc.mono ?_
    rintro e w' ⟨rfl, hw'⟩
    rw [hw']
    clear hw' w'
    go_wp2_with fail
    go_ret3
    exact ⟨_, rfl, World.ownsRow_nil _ _ _ _, Below.refl _ _⟩
end Go.Proofs.YtbbgagpompgagaaDoor
