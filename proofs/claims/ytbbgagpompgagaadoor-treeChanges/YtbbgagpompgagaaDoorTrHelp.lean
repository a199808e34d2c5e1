/- What the laws of layer 12 share: paths whatever they are, rows of texts compared, digests made, the pairs over a leaf. -/
import Derived.Test.YtbbgagpompgagaaDoorTrRef4
namespace Go.Proofs.YtbbgagpompgagaaDoor
open Go.RowKit Go.PlainAid Go.Shelf
set_option linter.unusedVariables false

def hE (n s : Int) : Int := if hasB n s then 0 else 2
def hN (n s : Int) : Nat := if hasB n s then (depI n).toNat else 0
theorem has_okS {n s : Int} (h : hasB n s = true) : ∃ d k : Nat, n = ((2 ^ d : Nat) : Int) ∧ s = (k : Int) ∧ okS d (k : Int) ∧ depI n = (d : Int) := by
  unfold hasB at h
  obtain ⟨h1, h2, h3⟩ := of_decide_eq_true h
  obtain ⟨d, d1, d2, rfl⟩ := depI_yes n h1
  obtain ⟨k, rfl⟩ := Int.eq_ofNat_of_zero_le h2
  exact ⟨d, k, rfl, rfl, ⟨d1, d2, h2, h3⟩, depI_pow d d1 d2⟩
theorem path_any (n s : Int) (w : World) : Calls Tryd.prog 9 #[.int .i64 n, .int .i64 s] w fun e w' => ∃ v, e = .returned (.tuple #[v, .int .i64 (hE n s)]) ∧ w'.ownsRow w.heap.size 3 1 v (hN n s) (nr .i64 (hN n s) (nd (hN n s) s.toNat)) ∧ Below w.heap.size w w' := by
  unfold hE hN
  by_cases h : hasB n s = true
  · rw [if_pos h, if_pos h]
    obtain ⟨d, k, rfl, rfl, ho, hd⟩ := has_okS h
    rw [hd, Int.toNat_natCast, Int.toNat_natCast]
    exact path_ok d (2 ^ d) k rfl ho w
  · rw [if_neg h, if_neg h]
    refine (path_bad n s (by simpa using h) w).mono ?_
    rintro e w' ⟨rfl, rfl⟩
    exact ⟨_, rfl, World.ownsRow_nil _ _ _ _, Below.refl _ _⟩
theorem rPath_any (n s : Int) (w : World) : Calls Tryd.prog 10 #[.int .i64 n, .int .i64 s] w fun e w' => ∃ v, e = .returned (.tuple #[v, .int .i64 (hE n s)]) ∧ w'.ownsRow w.heap.size 3 1 v (hN n s) (nr .i64 (hN n s) (nd (hN n s) s.toNat)) ∧ Below w.heap.size w w' := by
  unfold hE hN
  by_cases h : hasB n s = true
  · rw [if_pos h, if_pos h]
    obtain ⟨d, k, rfl, rfl, ho, hd⟩ := has_okS h
    rw [hd, Int.toNat_natCast, Int.toNat_natCast]
    exact rPath_ok d (2 ^ d) k rfl ho w
  · rw [if_neg h, if_neg h]
    refine (rPath_bad n s (by simpa using h) w).mono ?_
    rintro e w' ⟨rfl, rfl⟩
    exact ⟨_, rfl, World.ownsRow_nil _ _ _ _, Below.refl _ _⟩
theorem hN_le (n s : Int) : hN n s ≤ 4 := by
  unfold hN
  split
  · rename_i h
    obtain ⟨d, k, rfl, rfl, ho, hd⟩ := has_okS h
    rw [hd, Int.toNat_natCast]; exact ho.2.1
  · omega

set_option maxRecDepth 20000 in
set_option maxHeartbeats 1000000 in
theorem lequal_same (a b : Option Addr) (n ca cb : Nat) (p : Nat → ByteArray) (w : World) (hn : n ≤ 1000000) (ha : Sa w a n p) (hb : Sa w b n p) : Calls Tryd.prog 15 #[.slice a n ca, .slice b n cb] w fun e w' => e = .returned (.bool true) ∧ Below w.heap.size w w' := by
  have HA : Hid (Sa w a n p) := ha
  have HB : Hid (Sa w b n p) := hb
  clear ha hb
  go_enter Tryd.func15, Tryd.ntmps15
  go_wp2_with fail
  go_loopw [13] (fun i wr => ∃ k : Nat, k ≤ n ∧ i = .int .i64 (k : Int) ∧ Below w.heap.size w wr) (fun i _ => n - (intOf i).toNat)
  case atStart => exact ⟨0, Nat.zero_le _, rfl, Below.refl _ _⟩
  case round =>
    obtain ⟨k, hk, rfl, hB⟩ := hrel
    by_cases hlt : k < n
    · obtain ⟨ab, ao, rfl, ha⟩ := HA.out.cells (by omega)
      obtain ⟨bb, bo, rfl, hb⟩ := HB.out.cells (by omega)
      have ca' : wr.cell? ⟨ab, ao + k, none⟩ = some (.string (p k)) := (hB.cell (p := ⟨ab, ao + k, none⟩) (cell_blk_lt (ha k hlt))).trans (ha k hlt)
      have cb' : wr.cell? ⟨bb, bo + k, none⟩ = some (.string (p k)) := (hB.cell (p := ⟨bb, bo + k, none⟩) (cell_blk_lt (hb k hlt))).trans (hb k hlt)
      have hki : (k : Int) < (n : Int) := by omega
      clear ha hb HA HB
      generalize p k = X at ca' cb'
      go_wp2_with fail
      go_region
      go_wp2_with fail
      go_roundw
      case rel => exact ⟨k + 1, hlt, by go_num, hB.drew⟩
      case measure => simp [intOf]; omega
    · have hkn : k = n := by omega
      subst hkn
      go_wp2_with fail
      go_ret
      exact ⟨rfl, hB⟩

/-- The depth of the trees that a law makes. -/
def depL (x : Int) : Nat := 1 + ((if 0 < x then x else 0) % 4).toNat
theorem depL_ok (x : Int) : 1 ≤ depL x ∧ depL x ≤ 4 := by
  unfold depL
  have : (if 0 < x then x else 0) % 4 < 4 := Int.emod_lt_of_pos _ (by decide)
  omega
set_option maxRecDepth 20000 in
set_option maxHeartbeats 2000000 in
theorem ldigests_any (x : Int) (a : Option Addr) (n cap : Nat) (hn : n ≤ 140737488355328) (T : Nat → ByteArray) (w : World) (ha : Sa w a n T) (ht : Tabs w) : Calls Tryd.prog 12 #[.int .i64 x, .slice a n cap] w fun e w' =>
    ∃ v D, e = .returned v ∧ w'.ownsRow w.heap.size 9 1 v (2 ^ depL x) (strs (2 ^ depL x) D) ∧ (∀ i, i < 2 ^ depL x → (D i).size = 32) ∧ Below w.heap.size w w' := by
  obtain ⟨y, hy⟩ : ∃ y, (if 0 < x then x else 0) = y := ⟨_, rfl⟩
  have hy0 : 0 ≤ y := by rw [← hy]; split <;> omega
  obtain ⟨k, hk⟩ := Int.eq_ofNat_of_zero_le (show 0 ≤ y % 4 by omega)
  have hk4 : k < 4 := by omega
  have hdl : depL x = 1 + k := by unfold depL; rw [hy, hk]; rfl
  obtain ⟨N, hN⟩ : ∃ N, 2 ^ depL x = N := ⟨_, rfl⟩
  have hN16 : N ≤ 16 := by rw [← hN]; exact pow_le16 _ (depL_ok x).2
  rw [hN]
  rw [hdl] at hN
  have hmx : max 0 x = y := by rw [← hy]; split <;> omega
  have HA : Hid (Sa w a n T) := ha
  clear ha
  have hm := mk_strs N (by omega)
  have hsh : wrap64 (2 * 2 ^ k) = (N : Int) := by
    have e : (2 : Int) * 2 ^ k = (N : Int) := by rw [← hN, Nat.pow_add]; simp
    rw [e]; exact wrap64_small (by omega) (by omega)
  have HDL : Hid _ := hdl
  have HNN : Hid _ := hN
  have hnn : (n : Int) ≤ 140737488355328 := by omega
  clear hdl hN
  have b0 : Blk (w.alloc (.cells (strs N fun _ => noB).toArray 9)) w.heap.size 9 (strs N fun _ => noB) := by
    have := Blk.new w 9 (strs N fun _ => noB).toArray
    rw [List.toList_toArray] at this; exact this
  have hB0 : Below w.heap.size w (w.alloc (.cells (strs N fun _ => noB).toArray 9)) := (Below.refl _ w).alloc (Nat.le_refl _) _
  go_enter Tryd.func12, Tryd.ntmps12
  go_wp2_with fail
  generalize w.alloc (.cells (strs N fun _ => noB).toArray 9) = W0 at b0 hB0 ⊢
  clear hm hsh
  go_loopw [15] (fun i wr => ∃ j : Nat, j ≤ N ∧ i = .int .i64 (j : Int) ∧ Hid (∃ D, Blk wr w.heap.size 9 (strs N D) ∧ ∀ i, i < j → (D i).size = 32) ∧ Below w.heap.size w wr) (fun i _ => N - (intOf i).toNat)
  case atStart => exact ⟨0, Nat.zero_le _, rfl, ⟨_, b0, fun i hi => by omega⟩, hB0⟩
  case round =>
    clear b0 hB0
    obtain ⟨j, hj, rfl, hD, hB⟩ := hrel
    obtain ⟨D, hb, hD⟩ := hD.out
    have HD : Hid (∀ i, i < j → (D i).size = 32) := hD
    clear hD
    by_cases hlt : j < N
    · have hji : (j : Int) < (N : Int) := by omega
      have fin : ∀ (S : ByteArray) (z : World), S.size ≤ 50 → Below w.heap.size w z → Blk z w.heap.size 9 (strs N D) → Calls Tryd.prog 19 #[.string S] z fun e z' => ∃ L, L.size = 32 ∧ e = .returned (.string L) ∧ Below w.heap.size w z' ∧ Blk z' w.heap.size 9 (strs N D) := fun S z hS hz hbz => by
        refine (leaf_any S (by omega) z (ht.below hz ht.lt)).mono ?_
        rintro e z' ⟨rfl, hb'⟩
        exact ⟨_, digest_size _, rfl, hz.trans (hb'.mono hz.size), hbz.below hb' hbz.lt⟩
      have FIN : Hid _ := fin
      clear fin
      have fin2 : ∀ (z : World) (L : ByteArray), L.size = 32 → Blk z w.heap.size 9 (strs N D) → Hid (∃ D, Blk (z.setCell ⟨w.heap.size, j, none⟩ (.string L)) w.heap.size 9 (strs N D) ∧ ∀ i, i < j + 1 → (D i).size = 32) := fun z L hL hz => by
        refine ⟨upd D (j, L), ?_, fun i hi => ?_⟩
        · rw [← strs_set]; exact hz.setCell j _
        · unfold upd
          dsimp only
          by_cases e : i = j
          · rw [if_pos e]; exact hL
          · rw [if_neg e]; exact HD.out i (by omega)
      have FIN2 : Hid _ := fin2
      clear fin2
      by_cases hjn : j < n
      · obtain ⟨ab, ao, rfl, ha⟩ := HA.out.cells (by omega)
        have ca : wr.cell? ⟨ab, ao + j, none⟩ = some (.string (T j)) := (hB.cell (p := ⟨ab, ao + j, none⟩) (cell_blk_lt (ha j hjn))).trans (ha j hjn)
        have hjn2 : (j : Int) < (n : Int) := by omega
        generalize T j = X at ca
        obtain ⟨q, hq, hq1, hq2⟩ : ∃ q : Nat, (if (50 : Int) < (X.size : Int) then (50 : Int) else (X.size : Int)) = (q : Int) ∧ q ≤ X.size ∧ q ≤ 50 := ⟨min X.size 50, by split <;> omega, by omega, by omega⟩
        have hq' : min (X.size : Int) 50 = (q : Int) := by rw [← hq]; split <;> omega
        have hqi : (q : Int) ≤ (X.size : Int) := by omega
        have hXs : (X.extract 0 q).size ≤ 50 := by rw [ByteArray.size_extract]; omega
        clear ha HA
        go_wp2_with fail
        go_region
        have hbd : Blk wr.drew w.heap.size 9 (strs N D) := hb
        have hBd : Below w.heap.size w wr.drew := hB.drew
        generalize wr.drew = wd at hbd hBd ⊢
        generalize X.extract 0 q = S at hXs ⊢
        clear ca hb hB
        go_wp2_with fail
        refine Calls.mono (FIN.out S wd hXs hBd hbd) ?_
        rintro e w3 ⟨L, hL, rfl, hB3, hb3⟩
        have c1 := hb3.cell (strs_at N D j hlt)
        have f1 := hb3.frozen j
        have hb4 := FIN2.out w3 L hL hb3
        have hB4 : Below w.heap.size w (w3.setCell ⟨w.heap.size, j, none⟩ (.string L)) := hB3.setCell (p := ⟨w.heap.size, j, none⟩) (Nat.le_refl _) _
        clear FIN FIN2
        go_wp2_with fail
        go_roundw
        case rel => exact ⟨j + 1, hlt, by go_num, hb4, hB4⟩
        case measure => simp [intOf]; omega
      · have hjn2 : (n : Int) ≤ (j : Int) := by omega
        clear HA
        go_wp2_with fail
        refine Calls.mono (FIN.out noB wr (by decide) hB hb) ?_
        rintro e w3 ⟨L, hL, rfl, hB3, hb3⟩
        have c1 := hb3.cell (strs_at N D j hlt)
        have f1 := hb3.frozen j
        have hb4 := FIN2.out w3 L hL hb3
        have hB4 : Below w.heap.size w (w3.setCell ⟨w.heap.size, j, none⟩ (.string L)) := hB3.setCell (p := ⟨w.heap.size, j, none⟩) (Nat.le_refl _) _
        clear FIN FIN2 hb hB
        go_wp2_with fail
        go_roundw
        case rel => exact ⟨j + 1, hlt, by go_num, hb4, hB4⟩
        case measure => simp [intOf]; omega
    · have hjN : j = N := by omega
      subst hjN
      go_wp2_with fail
      go_ret
      exact ⟨_, D, rfl, blk_owns hb (strs_length _ _) (by omega) (Nat.le_refl _), HD.out, hB⟩
end Go.Proofs.YtbbgagpompgagaaDoor
