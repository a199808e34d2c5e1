/- A tree of digests built: the program's own answer. -/
import Derived.Test.YtbbgagpompgagabDoorTrFol
namespace Go.Proofs.YtbbgagpompgagabDoor
open Go.RowKit Go.PlainAid Go.Shelf
set_option linter.unusedVariables false

theorem Tryd.info9t : (Tryd.prog.info? 9).map (fun i => (i.zero, i.size, i.bytes)) = some (some (.string noB), 1, 16) := by kernel_rfl
theorem mk_cells (n : Nat) : madeCells (Value.string noB).cells (n * 1) = (strs n fun _ => noB).toArray := by
  apply Array.ext
  · simp [madeCells, strs]
  · intro i h1 h2
    simp [madeCells, strs, Value.cells, Nat.mod_one]
theorem mk_strs (n : Nat) (h : n ≤ 512) (w : World) : (Instr.makeSlice 22 (.int .i64 (n : Int)) (.int .i64 (n : Int))).run Tryd.prog w = .ok (.slice (some ⟨w.heap.size, 0, none⟩) n n) (w.alloc (.cells (strs n fun _ => noB).toArray 9)) := by
  obtain ⟨i0, hi, hz0, hz1, hz2⟩ := info_parts Tryd.info9t
  have hr := run_make (P := Tryd.prog) w 22 9 i0 (.string noB) Tryd.underlying22 hi hz0 .i64 .i64 n n (by omega) (by omega) (by rw [hz2]; omega) (by omega)
  rw [hz1, Int.toNat_natCast, mk_cells] at hr
  exact hr
theorem blk_owns {w : World} {g n base : Nat} {e : TypeId} {L : List Value} (h : Blk w g e L) (hl : L.length = n) (hn : n ≤ 1000000) (hb : base ≤ g) : w.ownsRow base e 1 (.slice (some ⟨g, 0, none⟩) n n) n L :=
  ⟨by rw [hl, Nat.mul_one], .inr ⟨g, n, L.toArray, rfl, hb, h, Nat.le_refl _, by unfold maxLen; omega, by simpa using hl, by rw [Nat.mul_one]; simp [← hl]⟩⟩

/-- Is there a tree of so many leaves? -/
def isTree (n : Nat) : Prop := n = 2 ∨ n = 4 ∨ n = 8 ∨ n = 16
instance (n : Nat) : Decidable (isTree n) := by unfold isTree; infer_instance
/-- What Build tells: its error, how many pairs, the pairs, the top. -/
def bE (n : Nat) (D : Nat → ByteArray) : Int := if isTree n then (if ∀ i, i < n → (D i).size = 32 then 0 else 7) else 2
def bN (n : Nat) (D : Nat → ByteArray) : Nat := if bE n D = 0 then n else 0
def bP (n : Nat) (D : Nat → ByteArray) (i : Nat) : ByteArray := if i = 0 then noB else pr D n i
def bT (n : Nat) (D : Nat → ByteArray) : ByteArray := if bE n D = 0 then dg D n 1 else noB
theorem bE_two {n : Nat} {D : Nat → ByteArray} (h : ¬ isTree n) : bE n D = 2 := by unfold bE; rw [if_neg h]
theorem bE_seven {n : Nat} {D : Nat → ByteArray} (h : isTree n) {k : Nat} (hk : k < n) (hs : (D k).size ≠ 32) : bE n D = 7 := by unfold bE; rw [if_pos h, if_neg (fun h' => hs (h' k hk))]
theorem bE_zero {n : Nat} {D : Nat → ByteArray} (h : isTree n) (hs : ∀ i, i < n → (D i).size = 32) : bE n D = 0 := by unfold bE; rw [if_pos h, if_pos hs]
theorem bN_not {n : Nat} {D : Nat → ByteArray} {x : Int} (h : bE n D = x) (hx : x ≠ 0) : bN n D = 0 ∧ bT n D = noB := by unfold bN bT; rw [h, if_neg hx, if_neg hx]; exact ⟨rfl, rfl⟩
theorem bN_yes {n : Nat} {D : Nat → ByteArray} (h : bE n D = 0) : bN n D = n ∧ bT n D = dg D n 1 := by unfold bN bT; rw [if_pos h, if_pos h]; exact ⟨rfl, rfl⟩
theorem bE_tree {n : Nat} {D : Nat → ByteArray} (h : bE n D = 0) : isTree n ∧ ∀ i, i < n → (D i).size = 32 := by
  unfold bE at h
  split at h
  · rename_i h1
    split at h
    · rename_i h2; exact ⟨h1, h2⟩
    · cases h
  · cases h
theorem hasB_tree (n : Nat) : hasB (n : Int) 0 = decide (isTree n) := by
  unfold hasB isTree
  exact decide_eq_decide.2 ⟨fun h => by omega, fun h => by omega⟩
/-- The digests laid by then. -/
def dL (n : Nat) (D : Nat → ByteArray) (k i : Nat) : ByteArray := if n ≤ i ∧ i < n + k then D (i - n) else noB
def dM (n : Nat) (D : Nat → ByteArray) (j i : Nat) : ByteArray := if j < i ∧ i < 2 * n then dg D n i else noB
def pM (n : Nat) (D : Nat → ByteArray) (j i : Nat) : ByteArray := if j < i then pr D n i else noB
theorem dL_zero (n : Nat) (D : Nat → ByteArray) (i : Nat) : dL n D 0 i = noB := by unfold dL; rw [if_neg (by omega)]
theorem dL_succ (n : Nat) (D : Nat → ByteArray) (k i : Nat) : upd (dL n D k) (n + k, D k) i = dL n D (k + 1) i := by
  unfold upd dL
  dsimp only
  by_cases h : i = n + k
  · rw [if_pos h, if_pos (by omega), show i - n = k by omega]
  · rw [if_neg h]
    by_cases h2 : n ≤ i ∧ i < n + k
    · rw [if_pos h2, if_pos (by omega)]
    · rw [if_neg h2, if_neg (by omega)]
theorem dL_dM (n : Nat) (D : Nat → ByteArray) (hn : 1 ≤ n) (i : Nat) : dL n D n i = dM n D (n - 1) i := by
  unfold dL dM
  by_cases h : n ≤ i ∧ i < n + n
  · rw [if_pos h, if_pos (by omega), dg_leaf D n i h.1]
  · rw [if_neg h, if_neg (by omega)]
theorem pM_top (n : Nat) (D : Nat → ByteArray) (i : Nat) (h : i < n) : pM n D (n - 1) i = noB := by unfold pM; rw [if_neg (by omega)]
theorem dM_next (n : Nat) (D : Nat → ByteArray) (j i : Nat) (hn : n ≤ 16) (h1 : 1 ≤ j) (hj : j < n) : upd (dM n D j) (j, nH (pr D n j)) i = dM n D (j - 1) i := by
  unfold upd dM
  dsimp only
  by_cases h : i = j
  · rw [if_pos h, if_pos (by omega), h, dg_inner D n j hn h1 hj]
  · rw [if_neg h]
    by_cases h2 : j < i ∧ i < 2 * n
    · rw [if_pos h2, if_pos (by omega)]
    · rw [if_neg h2, if_neg (by omega)]
theorem pM_next (n : Nat) (D : Nat → ByteArray) (j i : Nat) (h1 : 1 ≤ j) : upd (pM n D j) (j, pr D n j) i = pM n D (j - 1) i := by
  unfold upd pM
  dsimp only
  by_cases h : i = j
  · rw [if_pos h, if_pos (by omega), h]
  · rw [if_neg h]
    by_cases h2 : j < i
    · rw [if_pos h2, if_pos (by omega)]
    · rw [if_neg h2, if_neg (by omega)]
theorem pM_end (n : Nat) (D : Nat → ByteArray) (i : Nat) : pM n D 0 i = bP n D i := by
  unfold pM bP
  by_cases h : i = 0
  · rw [if_pos h, if_neg (by omega)]
  · rw [if_neg h, if_pos (by omega)]

set_option maxRecDepth 20000 in
set_option maxHeartbeats 4000000 in
theorem build_any (a : Option Addr) (n cap : Nat) (hn : n ≤ 1000000) (D : Nat → ByteArray) (w : World) (hD : Sa w a n D) (ht : Tabs w) : Calls Tryd.prog 12 #[.slice a n cap] w fun e w' =>
    ∃ v, e = .returned (.tuple #[v, .string (bT n D), .int .i64 (bE n D)]) ∧ w'.ownsRow w.heap.size 9 1 v (bN n D) (strs (bN n D) (bP n D)) ∧ Below w.heap.size w w' := by
  have hc := has_any (n : Int) 0 w
  rw [hasB_tree] at hc
  by_cases hT : isTree n
  · rw [decide_eq_true hT] at hc
    have hn2 : 2 ≤ n := by unfold isTree at hT; omega
    have hn16 : n ≤ 16 := by unfold isTree at hT; omega
    obtain ⟨ab, ao, rfl, hcell⟩ := hD.cells (by omega)
    have hab := cell_blk_lt (hcell 0 (by omega))
    have hm1 := mk_strs (2 * n) (by omega)
    rw [show ((2 * n : Nat) : Int) = 2 * (n : Int) by omega] at hm1
    have hm2 := mk_strs n (by omega)
    have HC : Hid _ := hcell
    clear hD hcell
    go_enter Tryd.func12, Tryd.ntmps12
    go_wp2_with fail
    refine hc.mono ?_
    rintro e w' ⟨rfl, hw'⟩
    rw [hw']
    clear hw' w' hc
    go_wp2_with fail
    have b0 : Blk (w.alloc (.cells (strs (2 * n) fun _ => noB).toArray 9)) w.heap.size 9 (strs (2 * n) (dL n D 0)) := by
      have := Blk.new w 9 (strs (2 * n) fun _ => noB).toArray
      rw [List.toList_toArray] at this
      rw [strs_congr (2 * n) (dL n D 0) (fun _ => noB) (fun i _ => dL_zero n D i)]; exact this
    have hB0 : Below w.heap.size w (w.alloc (.cells (strs (2 * n) fun _ => noB).toArray 9)) := (Below.refl _ w).alloc (Nat.le_refl _) _
    generalize w.alloc (.cells (strs (2 * n) fun _ => noB).toArray 9) = W0 at b0 hB0 ⊢
    clear hm1
    go_loopw [19] (fun i wr => ∃ k : Nat, k ≤ n ∧ i = .int .i64 (k : Int) ∧ Blk wr w.heap.size 9 (strs (2 * n) (dL n D k)) ∧ Below w.heap.size w wr ∧ Hid (∀ j, j < k → (D j).size = 32)) (fun i _ => n - (intOf i).toNat)
    case atStart => exact ⟨0, Nat.zero_le _, rfl, b0, hB0, fun j hj => by omega⟩
    case round =>
      clear b0 hB0
      obtain ⟨k, hk, rfl, hb, hB, hall⟩ := hrel
      by_cases hlt : k < n
      · have ca : wr.cell? ⟨ab, ao + k, none⟩ = some (.string (D k)) := (hB.cell (p := ⟨ab, ao + k, none⟩) hab).trans (HC.out k hlt)
        have cg := hb.cell (strs_at (2 * n) (dL n D k) (n + k) (by omega))
        have fg := hb.frozen (n + k)
        have hki : (k : Int) < (n : Int) := by omega
        have hki2 : (n : Int) + (k : Int) < 2 * (n : Int) := by omega
        have hnk : n + k < 2 * n := by omega
        have e9 : ((n : Int) + (k : Int)).toNat = n + k := by omega
        by_cases h32 : (D k).size = 32
        · have hb1 : Blk (wr.setCell ⟨w.heap.size, n + k, none⟩ (.string (D k))) w.heap.size 9 (strs (2 * n) (dL n D (k + 1))) := by
            have := hb.setCell (n + k) (.string (D k))
            rw [strs_set] at this
            rw [strs_congr (2 * n) (dL n D (k + 1)) _ (fun i _ => (dL_succ n D k i).symm)]; exact this
          have hB1 : Below w.heap.size w (wr.setCell ⟨w.heap.size, n + k, none⟩ (.string (D k))) := hB.setCell (p := ⟨w.heap.size, n + k, none⟩) (Nat.le_refl _) _
          have h32' := h32
          generalize hX : D k = X at ca h32 hb1 hB1
          go_wp2_with fail
          go_roundw
          case rel => exact ⟨k + 1, hlt, by go_num, hb1, hB1, fun j hj => by
            by_cases e : j = k
            · rw [e]; exact h32'
            · exact hall.out j (by omega)⟩
          case measure => simp [intOf]; omega
        · have h7 := bE_seven (D := D) hT hlt h32
          obtain ⟨h3, h4⟩ := bN_not h7 (by decide)
          have hne : ((D k).size : Int) ≠ 32 := by omega
          generalize D k = X at ca h32 hne
          go_wp2_with fail
          go_ret3
          rw [h7, h3, h4]
          exact ⟨_, rfl, World.ownsRow_nil _ _ _ _, hB⟩
      · have hkn : k = n := by omega
        subst hkn
        have hall' : ∀ j, j < k → (D j).size = 32 := hall.out
        have h0 := bE_zero hT hall'
        obtain ⟨h3, h4⟩ := bN_yes h0
        have hgl := hb.lt
        have HA : Hid (∀ j, j < k → (D j).size = 32) := hall'
        have HE : Hid (bE k D = 0) := h0
        have H3 : Hid (bN k D = k) := h3
        have H4 : Hid (bT k D = dg D k 1) := h4
        have hbd : Blk (wr.alloc (.cells (strs k fun _ => noB).toArray 9)) w.heap.size 9 (strs (2 * k) (dM k D (k - 1))) := by
          rw [strs_congr (2 * k) (dM k D (k - 1)) (dL k D k) (fun i _ => (dL_dM k D (by omega) i).symm)]
          exact hb.alloc _
        have hbp : Blk (wr.alloc (.cells (strs k fun _ => noB).toArray 9)) wr.heap.size 9 (strs k (pM k D (k - 1))) := by
          have := Blk.new wr 9 (strs k fun _ => noB).toArray
          rw [List.toList_toArray] at this
          rw [strs_congr k (pM k D (k - 1)) (fun _ => noB) (fun i hi => pM_top k D i hi)]; exact this
        have hB2 : Below w.heap.size w (wr.alloc (.cells (strs k fun _ => noB).toArray 9)) := hB.alloc hB.size _
        have ek : (k : Int) - 1 = ((k - 1 : Nat) : Int) := by omega
        clear hall hall' h0 h3 h4 hb hB
        go_wp2_with fail
        generalize wr.alloc (.cells (strs k fun _ => noB).toArray 9) = W2 at hbd hbp hB2 ⊢
        generalize wr.heap.size = G at hgl hbp ⊢
        clear hm2 wr
        go_loopw [9] (fun i w2 => ∃ j : Nat, j < k ∧ i = .int .i64 (j : Int) ∧ Blk w2 w.heap.size 9 (strs (2 * k) (dM k D j)) ∧ Blk w2 G 9 (strs k (pM k D j)) ∧ Below w.heap.size w w2) (fun i _ => (intOf i).toNat)
        case atStart => exact ⟨k - 1, by omega, rfl, hbd, hbp, hB2⟩
        case round =>
          clear hbd hbp hB2 ek
          obtain ⟨j, hj, rfl, hbd, hbp, hB⟩ := hrel
          by_cases hj1 : 1 ≤ j
          · have x1 := hbd.cell (strs_at (2 * k) (dM k D j) (2 * j) (by omega))
            have x2 := hbd.cell (strs_at (2 * k) (dM k D j) (2 * j + 1) (by omega))
            have x3 := hbp.cell (strs_at k (pM k D j) j hj)
            have f3 := hbp.frozen j
            have x4 := hbd.cell (strs_at (2 * k) (dM k D j) j (by omega))
            have f4 := hbd.frozen j
            rw [show dM k D j (2 * j) = dg D k (2 * j) by unfold dM; rw [if_pos (by omega)]] at x1
            rw [show dM k D j (2 * j + 1) = dg D k (2 * j + 1) by unfold dM; rw [if_pos (by omega)]] at x2
            have s1 := dg_size D k (2 * j) hn16 (by omega) (by omega) HA.out
            have s2 := dg_size D k (2 * j + 1) hn16 (by omega) (by omega) HA.out
            have hpr : Hid (dg D k (2 * j) ++ dg D k (2 * j + 1) = pr D k j) := rfl
            generalize dg D k (2 * j) = X at x1 s1 hpr
            generalize dg D k (2 * j + 1) = Y at x2 s2 hpr
            have i1 : (2 * (j : Int)).toNat = 2 * j := by omega
            have i2 : (2 * (j : Int) + 1).toNat = 2 * j + 1 := by omega
            have i3 : 2 * (j : Int) < 2 * (k : Int) := by omega
            have i4 : 2 * (j : Int) + 1 < 2 * (k : Int) := by omega
            have i5 : (j : Int) < (k : Int) := by omega
            have i6 : (j : Int) < 2 * (k : Int) := by omega
            have hbp1 : Blk (wr.setCell ⟨G, j, none⟩ (.string (X ++ Y))).drew G 9 (strs k (pM k D (j - 1))) := by
              have := hbp.setCell j (.string (X ++ Y))
              rw [strs_set, hpr.out] at this
              rw [strs_congr k (pM k D (j - 1)) _ (fun i _ => (pM_next k D j i hj1).symm), hpr.out]; exact this
            have hbd1 : Blk (wr.setCell ⟨G, j, none⟩ (.string (X ++ Y))).drew w.heap.size 9 (strs (2 * k) (dM k D j)) := hbd.setOther (by omega) _ _
            have hB1 : Below w.heap.size w (wr.setCell ⟨G, j, none⟩ (.string (X ++ Y))).drew := (hB.setCell (p := ⟨G, j, none⟩) (by show w.heap.size ≤ G; omega) _).drew
            go_wp2_with fail
            go_region
            generalize (wr.setCell ⟨G, j, none⟩ (.string (X ++ Y))).drew = w3 at hbp1 hbd1 hB1 ⊢
            clear x1 x2 x3 x4 f3 f4 hbd hbp hB
            have y1 := hbp1.cell (strs_at k (pM k D (j - 1)) j hj)
            rw [show pM k D (j - 1) j = pr D k j by unfold pM; rw [if_pos (by omega)], ← hpr.out] at y1
            have hsz : (X ++ Y).size ≤ 148000000000000 := by rw [ByteArray.size_append]; omega
            have hnode := node_any (X ++ Y) hsz w3 (ht.below hB1 ht.lt)
            rw [show digest (⟨#[1]⟩ ++ (X ++ Y)) = nH (X ++ Y) from rfl, hpr.out] at hnode
            rw [hpr.out] at y1
            have HNode : Hid _ := hnode
            clear hnode
            go_wp2_with fail
            refine Calls.mono HNode.out ?_
            rintro e w4 ⟨rfl, hb4⟩
            have hbp2 := hbp1.below hb4 hbp1.lt
            have hbd2 := hbd1.below hb4 hbd1.lt
            have hB2 := hB1.trans (hb4.mono hB1.size)
            have z1 := hbd2.cell (strs_at (2 * k) (dM k D j) j (by omega))
            have g1 := hbd2.frozen j
            have hbd3 : Blk (w4.setCell ⟨w.heap.size, j, none⟩ (.string (nH (pr D k j)))) w.heap.size 9 (strs (2 * k) (dM k D (j - 1))) := by
              have := hbd2.setCell j (.string (nH (pr D k j)))
              rw [strs_set] at this
              rw [strs_congr (2 * k) (dM k D (j - 1)) _ (fun i _ => (dM_next k D j i hn16 hj1 hj).symm)]; exact this
            have hbp3 : Blk (w4.setCell ⟨w.heap.size, j, none⟩ (.string (nH (pr D k j)))) G 9 (strs k (pM k D (j - 1))) := hbp2.setOther (by omega) _ _
            have hB3 : Below w.heap.size w (w4.setCell ⟨w.heap.size, j, none⟩ (.string (nH (pr D k j)))) := hB2.setCell (p := ⟨w.heap.size, j, none⟩) (Nat.le_refl _) _
            clear HNode hbp1 hbd1 hB1 hb4 hbp2 hbd2 hB2 y1
            generalize nH (pr D k j) = Z at hbd3 hbp3 hB3 ⊢
            go_wp2_with fail
            go_roundw
            case rel => exact ⟨j - 1, by omega, by go_num, hbd3, hbp3, hB3⟩
            case measure => simp [intOf]; omega
          · have hj0 : j = 0 := by omega
            subst hj0
            have x1 := hbd.cell (strs_at (2 * k) (dM k D 0) 1 (by omega))
            rw [show dM k D 0 1 = dg D k 1 by unfold dM; rw [if_pos (by omega)]] at x1
            go_wp2_with fail
            go_region
            go_wp2_with fail
            go_ret3
            rw [H3.out, H4.out, HE.out]
            refine ⟨_, rfl, blk_owns (L := strs k (bP k D)) ?_ (strs_length _ _) (by omega) (Nat.le_of_lt hgl), hB.drew⟩
            rw [strs_congr k (bP k D) (pM k D 0) (fun i _ => (pM_end k D i).symm)]; exact hbp
  · rw [decide_eq_false hT] at hc
    have h2 := bE_two (D := D) hT
    obtain ⟨h3, h4⟩ := bN_not h2 (by decide)
    rw [h2, h3, h4]
    go_enter Tryd.func12, Tryd.ntmps12
    go_wp2_with fail
    refine hc.mono ?_
    rintro e w' ⟨rfl, hw'⟩
    rw [hw']
    clear hw' w'
    go_wp2_with fail
    go_ret3
    exact ⟨_, rfl, World.ownsRow_nil _ _ _ _, Below.refl _ _⟩
end Go.Proofs.YtbbgagpompgagabDoor
