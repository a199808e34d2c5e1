/- The digest of a leaf, by the pairs over it: the program's own answer. -/
import Derived.Test.YtbbgagpompgagabDoorTrStr
namespace Go.Proofs.YtbbgagpompgagabDoor
open Go.RowKit Go.PlainAid Go.Shelf
set_option linter.unusedVariables false
attribute [local go_sem] Oper.semAt_some

theorem cut_first (s : ByteArray) (n q : Nat) (h : s.size = n) (hq : q ≤ n) : (s.extract 0 n).extract 0 q = s.extract 0 q := by rw [take_all s n (by omega)]
/-- The function value sha.Node. -/
abbrev nodeV : Value := .func (.func 7) #[] #[]
set_option maxRecDepth 20000 in
set_option maxHeartbeats 1000000 in
theorem follow_bad (top : ByteArray) (s : Int) (a : Option Addr) (n cap : Nat) (hn : n ≤ 62) (h : ¬ okS n s) (w : World) : Calls Tryd.prog 14 #[nodeV, .string top, .int .i64 s, .slice a n cap] w fun e w' => e = .returned (.tuple #[.string noB, .int .i64 2]) ∧ Below w.heap.size w w' := by
  have hu := fun z => under_any a n cap hn z
  have hc := fun z => has_any ((2 ^ n : Nat) : Int) s z
  rw [hasB_no n s h] at hc
  generalize ((2 ^ n : Nat) : Int) = N at hu hc
  have HU : Hid _ := hu
  have HC : Hid _ := hc
  clear hu hc
  have b0 := (((Blk.new w 26 #[nodeV]).alloc (.cells #[.slice a n cap] 22)).alloc (.cells #[.string noB] 9)).alloc (.cells #[.int .i64 0] 27)
  have b1 := ((Blk.new (w.alloc (.cells #[nodeV] 26)) 22 #[.slice a n cap]).alloc (.cells #[.string noB] 9)).alloc (.cells #[.int .i64 0] 27)
  have b2 := (Blk.new ((w.alloc (.cells #[nodeV] 26)).alloc (.cells #[.slice a n cap] 22)) 9 #[.string noB]).alloc (.cells #[.int .i64 0] 27)
  have b3 := Blk.new (((w.alloc (.cells #[nodeV] 26)).alloc (.cells #[.slice a n cap] 22)).alloc (.cells #[.string noB] 9)) 27 #[.int .i64 0]
  simp only [World.size_alloc] at b1 b2 b3
  have hB0 : Below w.heap.size w ((((w.alloc (.cells #[nodeV] 26)).alloc (.cells #[.slice a n cap] 22)).alloc (.cells #[.string noB] 9)).alloc (.cells #[.int .i64 0] 27)) := ((((Below.refl _ w).alloc (Nat.le_refl _) _).alloc (by simp) _).alloc (by simp; omega) _).alloc (by simp; omega) _
  have hsz : ((((w.alloc (.cells #[nodeV] 26)).alloc (.cells #[.slice a n cap] 22)).alloc (.cells #[.string noB] 9)).alloc (.cells #[.int .i64 0] 27)).heap.size = w.heap.size + 4 := by simp
  have c1 := b1.cell (i := 0) rfl
  go_enter Tryd.func14, Tryd.ntmps14
  go_wp2_with fail
  refine (HU.out _).mono ?_
  rintro e w' ⟨rfl, hw'⟩
  rw [hw']
  clear hw' w' c1
  generalize (((w.alloc (.cells #[nodeV] 26)).alloc (.cells #[.slice a n cap] 22)).alloc (.cells #[.string noB] 9)).alloc (.cells #[.int .i64 0] 27) = W0 at b0 b1 b2 b3 hB0 hsz ⊢
  go_wp2_with fail
  refine (HC.out _).mono ?_
  rintro e w' ⟨rfl, hw'⟩
  rw [hw']
  clear hw' w'
  have c2 := b2.cell (i := 0) rfl
  have c3 := b3.cell (i := 0) rfl
  have f2 := b2.frozen 0
  have f3 := b3.frozen 0
  have hne : w.heap.size + 1 + 1 ≠ w.heap.size + 1 + 1 + 1 := by omega
  go_wp2_with fail
  refine bodyPost_ret (results_cells2 8 9 9 27 ⟨w.heap.size + 1 + 1, 0, none⟩ ⟨w.heap.size + 1 + 1 + 1, 0, none⟩ rfl rfl rfl (load_text _ _ _ ((b2.setCell 0 _).setOther (by omega) _ _)) (load_err _ _ _ ((b3.setOther (by omega) _ _).setCell 0 _))) rfl ⟨rfl, ?_⟩
  exact (hB0.setCell (p := ⟨w.heap.size + 1 + 1, 0, none⟩) (by show w.heap.size ≤ w.heap.size + 1 + 1; omega) _).setCell (p := ⟨w.heap.size + 1 + 1 + 1, 0, none⟩) (by show w.heap.size ≤ w.heap.size + 1 + 1 + 1; omega) _
set_option maxRecDepth 100000 in
set_option maxHeartbeats 4000000 in
theorem follow_ok (top : ByteArray) (s : Nat) (a : Option Addr) (n cap : Nat) (p : Nat → ByteArray) (h : okS n (s : Int)) (w : World) (hp : Sa w a n p) (ht : Tabs w) : Calls Tryd.prog 14 #[nodeV, .string top, .int .i64 (s : Int), .slice a n cap] w fun e w' =>
    e = .returned (.tuple #[.string (folS n (s : Int) p top), .int .i64 (folE n (s : Int) p top)]) ∧ Below w.heap.size w w' := by
  have hu := fun z => under_any a n cap (by have := h.2.1; omega) z
  have hc := fun z => has_any ((2 ^ n : Nat) : Int) s z
  rw [hasB_yes n s h] at hc
  have hfs : folS n (s : Int) p top = (fol n s p top n).getD noB := by unfold folS; rw [if_pos h, Int.toNat_natCast]
  have hfe : folE n (s : Int) p top = oE (fol n s p top n) := by unfold folE; rw [if_pos h, Int.toNat_natCast]
  rw [hfs, hfe]
  obtain ⟨h1, h2, _, h4⟩ := h
  have h4' : s < 2 ^ n := by omega
  obtain ⟨pb, po, rfl, hcell⟩ := hp.cells h1
  have hpb := cell_blk_lt (hcell 0 h1)
  obtain ⟨N, hN⟩ : ∃ N, 2 ^ n = N := ⟨_, rfl⟩
  rw [hN] at hu hc
  have HU : Hid _ := hu
  have HC : Hid _ := hc
  have HN : Hid (2 ^ n = N) := hN
  clear hu hc hfs hfe hN h4 hp
  have b0 := (((Blk.new w 26 #[nodeV]).alloc (.cells #[.slice (some ⟨pb, po, none⟩) n cap] 22)).alloc (.cells #[.string noB] 9)).alloc (.cells #[.int .i64 0] 27)
  have b1 := ((Blk.new (w.alloc (.cells #[nodeV] 26)) 22 #[.slice (some ⟨pb, po, none⟩) n cap]).alloc (.cells #[.string noB] 9)).alloc (.cells #[.int .i64 0] 27)
  have b2 := (Blk.new ((w.alloc (.cells #[nodeV] 26)).alloc (.cells #[.slice (some ⟨pb, po, none⟩) n cap] 22)) 9 #[.string noB]).alloc (.cells #[.int .i64 0] 27)
  have b3 := Blk.new (((w.alloc (.cells #[nodeV] 26)).alloc (.cells #[.slice (some ⟨pb, po, none⟩) n cap] 22)).alloc (.cells #[.string noB] 9)) 27 #[.int .i64 0]
  simp only [World.size_alloc] at b1 b2 b3
  have hB0 : Below w.heap.size w ((((w.alloc (.cells #[nodeV] 26)).alloc (.cells #[.slice (some ⟨pb, po, none⟩) n cap] 22)).alloc (.cells #[.string noB] 9)).alloc (.cells #[.int .i64 0] 27)) := ((((Below.refl _ w).alloc (Nat.le_refl _) _).alloc (by simp) _).alloc (by simp; omega) _).alloc (by simp; omega) _
  have hsz : ((((w.alloc (.cells #[nodeV] 26)).alloc (.cells #[.slice (some ⟨pb, po, none⟩) n cap] 22)).alloc (.cells #[.string noB] 9)).alloc (.cells #[.int .i64 0] 27)).heap.size = w.heap.size + 4 := by simp
  have c1 := b1.cell (i := 0) rfl
  refine (callsIn_wide (n := 9)).1 ?_
  refine callsIn_of_wp_marks Tryd.func14 rfl trivial ?_ rfl
  simp only [Tryd.ntmps14, List.size_toArray, List.length_cons, List.length_nil, Nat.reduceAdd, Nat.reduceSub, Array.replicate_succ, Array.replicate_zero, List.push_toArray, List.append_toArray, List.nil_append, List.cons_append]
  gi_wp2_with fail
  refine ⟨trivial, (callsIn_wide.2 (HU.out _)).mono ?_⟩
  rintro e w' ⟨rfl, hw'⟩
  rw [hw']
  clear hw' w' c1
  generalize (((w.alloc (.cells #[nodeV] 26)).alloc (.cells #[.slice (some ⟨pb, po, none⟩) n cap] 22)).alloc (.cells #[.string noB] 9)).alloc (.cells #[.int .i64 0] 27) = W0 at b0 b1 b2 b3 hB0 hsz ⊢
  gi_wp2_with fail
  refine ⟨trivial, (callsIn_wide.2 (HC.out _)).mono ?_⟩
  rintro e w' ⟨rfl, hw'⟩
  rw [hw']
  clear hw' w'
  gi_wp2_with fail
  refine ⟨trivial, (callsIn_wide.2 (over_any _ _ _)).mono ?_⟩
  rintro e w' ⟨rfl, hw'⟩
  rw [hw']
  clear hw' w'
  gi_wp2_with fail
  have hb0 := ((b0.alloc (.cells #[.string top] 9)).alloc (.cells #[.int .i64 (N : Int)] 3)).alloc (.cells #[.int .i64 (s : Int)] 3)
  have hb1 := ((b1.alloc (.cells #[.string top] 9)).alloc (.cells #[.int .i64 (N : Int)] 3)).alloc (.cells #[.int .i64 (s : Int)] 3)
  have hb2 := ((b2.alloc (.cells #[.string top] 9)).alloc (.cells #[.int .i64 (N : Int)] 3)).alloc (.cells #[.int .i64 (s : Int)] 3)
  have hb3 := ((b3.alloc (.cells #[.string top] 9)).alloc (.cells #[.int .i64 (N : Int)] 3)).alloc (.cells #[.int .i64 (s : Int)] 3)
  have hb4 := ((Blk.new W0 9 #[.string top]).alloc (.cells #[.int .i64 (N : Int)] 3)).alloc (.cells #[.int .i64 (s : Int)] 3)
  have hb5 := (Blk.new (W0.alloc (.cells #[.string top] 9)) 3 #[.int .i64 (N : Int)]).alloc (.cells #[.int .i64 (s : Int)] 3)
  have hb6 := Blk.new ((W0.alloc (.cells #[.string top] 9)).alloc (.cells #[.int .i64 (N : Int)] 3)) 3 #[.int .i64 (s : Int)]
  simp only [World.size_alloc, hsz] at hb4 hb5 hb6
  have hB1 : Below w.heap.size w (((W0.alloc (.cells #[.string top] 9)).alloc (.cells #[.int .i64 (N : Int)] 3)).alloc (.cells #[.int .i64 (s : Int)] 3)) := ((hB0.alloc (by omega) _).alloc (by simp; omega) _).alloc (by simp; omega) _
  have hsz1 : (((W0.alloc (.cells #[.string top] 9)).alloc (.cells #[.int .i64 (N : Int)] 3)).alloc (.cells #[.int .i64 (s : Int)] 3)).heap.size = w.heap.size + 7 := by simp; omega
  generalize ((W0.alloc (.cells #[.string top] 9)).alloc (.cells #[.int .i64 (N : Int)] 3)).alloc (.cells #[.int .i64 (s : Int)] 3) = W1 at hb0 hb1 hb2 hb3 hb4 hb5 hb6 hB1 hsz1 ⊢
  clear b0 b1 b2 b3 hB0 hsz HU HC
  refine range_law (enc := fun k => #[.agg (stepV n s k)]) (c := 1) (N := n) (MM := fun k => k = w.heap.size + 1 + 1 ∨ k = w.heap.size + 1 + 1 + 1 ∨ k = w.heap.size + 4 ∨ w.heap.size + 10 ≤ k) rfl (enters_of Tryd.func22 (by kernel_rfl) rfl)
    (over_iter 8 n s h2 h4' W1 _ (w.heap.size + 4 + 1) (w.heap.size + 4 + 1 + 1) (by omega) (by omega) (by rw [HN.out]; exact hb5.cell rfl) (hb6.cell rfl) (fun k hk => by omega)) (fun k hk => by omega) (fun _ => rfl)
    (fun k W => ∃ t, fol n s p top k = some t ∧ Blk W w.heap.size 26 [nodeV] ∧ Blk W (w.heap.size + 1) 22 [.slice (some ⟨pb, po, none⟩) n cap] ∧ Blk W (w.heap.size + 1 + 1) 9 [.string noB] ∧ Blk W (w.heap.size + 1 + 1 + 1) 27 [.int .i64 0] ∧ Blk W (w.heap.size + 4) 9 [.string t] ∧ Below w.heap.size w W)
    (fun c k W => c = .ret ∧ fol n s p top k = none ∧ Blk W (w.heap.size + 1 + 1) 9 [.string noB] ∧ Blk W (w.heap.size + 1 + 1 + 1) 27 [.int .i64 22] ∧ Below w.heap.size w W)
    ?hI ?hIx ⟨top, rfl, hb0, hb1, hb2, hb3, hb4, hB1⟩
    (fun k a' W => ∃ Bx, Blk W Bx 44 (stepV n s k).toList ∧ w.heap.size + 10 ≤ Bx ∧ a' = { tmps := #[nodeV, .string top, .int .i64 (s : Int), .slice (some ⟨pb, po, none⟩) n cap, .pointer (some ⟨w.heap.size, 0, none⟩), undef, undef, .pointer (some ⟨w.heap.size + 1, 0, none⟩), .pointer (some ⟨w.heap.size + 1 + 1, 0, none⟩), .pointer (some ⟨w.heap.size + 1 + 1 + 1, 0, none⟩), .int .i64 (N : Int), .pointer (some ⟨w.heap.size + 4, 0, none⟩), .pointer (some ⟨Bx, 0, none⟩), undef, .slice (some ⟨pb, po, none⟩) n cap, .int .i64 (N : Int), .int .i64 (N : Int), .int .i64 (s : Int), .bool true, .bool false, .string top, .int .i64 (N : Int), .int .i64 (s : Int), .func (.func 22) #[] #[.pointer (some ⟨w.heap.size + 4 + 1, 0, none⟩), .pointer (some ⟨w.heap.size + 4 + 1 + 1, 0, none⟩)], .agg (stepV n s k), undef, undef, undef, undef, undef, undef, undef, undef, undef, undef, undef, undef, undef, undef, undef, undef, undef, undef, undef, undef, undef], defers := [] }) ?hA ?assign ?body ?done ?stop
  case hI =>
    rintro k A B ⟨t, q0, q1, q2, q3, q4, q5, q6⟩ hk
    exact ⟨t, q0, q1.kept hk (by omega), q2.kept hk (by omega), q3.kept hk (by omega), q4.kept hk (by omega), q5.kept hk (by omega), hk.below q6 q6.size (fun j hj => by omega)⟩
  case hIx =>
    rintro c k A B ⟨q0, q1, q3, q4, q6⟩ hk
    exact ⟨q0, q1, q3.kept hk (by omega), q4.kept hk (by omega), hk.below q6 q6.size (fun j hj => by omega)⟩
  case hA =>
    rintro k a' A B ⟨Bx, hb, hx, rfl⟩ hk
    exact ⟨Bx, hb.kept hk (by omega), hx, rfl⟩
  case assign =>
    rintro k W K hk _ hs hK
    unfold stepV
    have hb := Blk.new W 44 (stepV n s k)
    unfold stepV at hb
    gi_wp2
    exact hK _ _ ((Kept.refl _ W).alloc _) ⟨W.heap.size, hb, by omega, rfl⟩
  case body =>
    rintro k a' W hk ⟨t, q0, q1, q2, q3, q4, q5, q6⟩ ⟨Bx, hx, hBx, rfl⟩ hs
    have x0 : W.cell? ⟨Bx, 0, none⟩ = some (.int .i64 (k : Int)) := hx.cell (i := 0) rfl
    have x2 : W.cell? ⟨Bx, 2, none⟩ = some (.int .i64 (sd n s k : Int)) := hx.cell (i := 2) rfl
    have c0 := q1.cell (i := 0) rfl
    have c1 := q2.cell (i := 0) rfl
    have c4 := q5.cell (i := 0) rfl
    have cp : W.cell? ⟨pb, po + k, none⟩ = some (.string (p k)) := (q6.cell (p := ⟨pb, po + k, none⟩) hpb).trans (hcell k hk)
    have hki : (k : Int) < (n : Int) := by omega
    generalize stepV n s k = sv at hx ⊢
    gi_wp2_with fail
    have htW : Tabs W := ht.below q6 ht.lt
    have hp8 : (p k).size = 64 → (p k).size ≤ 148000000000000 := fun h => by omega
    by_cases h64 : (p k).size = 64
    · have hnp := notPair_any (p k) W.drew
      rw [decide_eq_false (fun h => h h64)] at hnp
      have hnode := node_any (p k) (hp8 h64) W.drew htW
      rw [show digest (⟨#[1]⟩ ++ p k) = nH (p k) from rfl] at hnode
      have HNode : Hid _ := hnode
      have H64 : Hid ((p k).size = 64) := h64
      clear hnode h64 hp8
      by_cases hq : nH (p k) = t
      all_goals
        have hqb := teq (nH (p k)) t
        simp only [hq, decide_true, decide_false] at hqb
        generalize hY : nH (p k) = Y at HNode hq hqb
        refine region_inRound (S := fun z : World => z.cell? ⟨w.heap.size, 0, none⟩ = some nodeV ∧ z.cell? ⟨w.heap.size + 4, 0, none⟩ = some (.string t)) (by kernel_rfl) (by kernel_rfl) ⟨c0, c4⟩ (fun hHeld => ?_)
        refine wpAnyH_take (i := 0) (v := ?_) rfl (by kernel_rfl) (by kernel_rfl) (by kernel_rfl) (fun _ _ _ h => h) (Or.inl ⟨by rfl, ?_⟩) (by assumption) ?_
        rotate_left
        · intro w hSw; go_simp; try with_reducible rfl
        go_simp
        refine wpAnyH_ready (rs := [1]) (by kernel_rfl) (by simp) (AllReadyH.cons rfl (fun K hK => ?_) AllReadyH.nil)
        go_simp
        go_at_call 21
        refine hnp.mono ?_
        rintro e wa ⟨rfl, hwa⟩
        rw [hwa]
        clear hwa wa hnp
        refine hK.out _ _ ⟨c0, c4⟩ (fun hHeld => ?_)
        clear hK K
        refine wpAnyH_take (i := 2) (v := ?_) rfl (by kernel_rfl) (by kernel_rfl) (by kernel_rfl) (fun _ _ _ h => h) (Or.inl ⟨by rfl, ?_⟩) (by assumption) ?_
        rotate_left
        · intro w hSw; go_simp; try with_reducible rfl
        go_simp
        refine wpAnyH_take (i := 3) (v := ?_) rfl (by kernel_rfl) (by kernel_rfl) (by kernel_rfl) (fun _ _ _ h => h) (Or.inl ⟨by rfl, ?_⟩) (by assumption) ?_
        rotate_left
        · intro w hSw; go_simp; try with_reducible rfl
        go_simp
        refine wpAnyH_take (i := 4) (v := ?_) rfl (by kernel_rfl) (by kernel_rfl) (by kernel_rfl) (fun _ _ _ h => h) (Or.inl ⟨by rfl, ?_⟩) (by assumption) ?_
        rotate_left
        · intro w hSw; go_simp; try with_reducible rfl
        go_simp
        refine wpAnyH_take (i := 6) (v := ?_) rfl (by kernel_rfl) (by kernel_rfl) (by kernel_rfl) (fun _ _ _ h => h) (Or.inl ⟨by rfl, ?_⟩) (by assumption) ?_
        rotate_left
        · intro w hSw; go_simp; try with_reducible rfl
        go_simp
        refine wpAnyH_ready (rs := [5]) (by kernel_rfl) (by simp) (AllReadyH.cons rfl (fun K hK => ?_) AllReadyH.nil)
        go_simp
        go_at_call 7
        refine Calls.mono HNode.out ?_
        rintro e wa ⟨rfl, hba⟩
        have hka : Kept (fun _ => False) W wa := (Kept.refl _ W).drew.thenBelow hba
        clear hba HNode
        refine hK.out _ _ ⟨(hka.cell (p := ⟨w.heap.size, 0, none⟩) q1.lt (fun h => h)).trans c0, (hka.cell (p := ⟨w.heap.size + 4, 0, none⟩) q5.lt (fun h => h)).trans c4⟩ (fun hHeld => ?_)
        clear hK K
        refine wpAnyH_take (i := 7) (v := ?_) rfl (by kernel_rfl) (by kernel_rfl) (by kernel_rfl) (fun _ _ _ h => h) (Or.inl ⟨by rfl, ?_⟩) (by assumption) ?_
        rotate_left
        · intro w hSw; go_simp; try with_reducible rfl
        go_simp
        refine wpAnyH_take (i := 8) (v := ?_) rfl (by kernel_rfl) (by kernel_rfl) (by kernel_rfl) (fun _ _ _ h => h) (Or.inl ⟨by rfl, ?_⟩) (by assumption) ?_
        rotate_left
        · intro w hSw; go_simp; try with_reducible rfl
        go_simp
        refine wpAnyH_done (by kernel_rfl) ?_ _
        refine Onward.mk ?_
        clear hHeld
        have h64 := H64.out
        rw [← hY] at hq
        clear hY
        have r1 := q1.kept hka (fun h => h)
        have r2 := q2.kept hka (fun h => h)
        have r3 := q3.kept hka (fun h => h)
        have r4 := q4.kept hka (fun h => h)
        have r5 := q5.kept hka (fun h => h)
        have rx := hx.kept hka (fun h => h)
      · have hq' := hq
        have hsd := sd_lt n s k
        have hS : sd n s k = 0 ∨ sd n s k = 1 := by omega
        have d4 := r5.cell (i := 0) rfl
        have f4 := r5.frozen 0
        have hy := fol_yes q0 h64 hq
        have y2 : wa.cell? ⟨Bx, 2, none⟩ = some (.int .i64 (sd n s k : Int)) := (hka.cell (p := ⟨Bx, 2, none⟩) (cell_blk_lt x2) (fun h => h)).trans x2
        clear x0 x2 c0 c1 c4 cp
        generalize hX : p k = X at h64 hq hy ⊢
        rcases hS with hS | hS
        · rw [hS] at hy
          have y3 : wa.cell? ⟨Bx, 2, none⟩ = some (.int .i64 0) := by rw [hS] at y2; exact y2
          clear y2
          unfold half at hy
          rw [if_pos rfl] at hy
          gi_wp2_with fail
          have hkk : Kept (fun j => j = w.heap.size + 1 + 1 ∨ j = w.heap.size + 1 + 1 + 1 ∨ j = w.heap.size + 4 ∨ w.heap.size + 10 ≤ j) W (wa.setCell ⟨w.heap.size + 4, 0, none⟩ (.string (X.extract 0 32))) := (hka.mono (fun _ _ h => h.elim)).setCell (.inl (.inr (.inr (.inl rfl)))) _ _
          rw [cut_first X 64 32 h64 (by decide)]
          exact ⟨hkk, _, hy, r1.setOther (by omega) _ _, r2.setOther (by omega) _ _, r3.setOther (by omega) _ _, r4.setOther (by omega) _ _, r5.setCell 0 _, hkk.below q6 q6.size (fun j hj => by omega)⟩
        · rw [hS] at hy
          have y3 : wa.cell? ⟨Bx, 2, none⟩ = some (.int .i64 1) := by rw [hS] at y2; exact y2
          clear y2
          unfold half at hy
          rw [if_neg (by decide)] at hy
          gi_wp2_with fail
          have hkk : Kept (fun j => j = w.heap.size + 1 + 1 ∨ j = w.heap.size + 1 + 1 + 1 ∨ j = w.heap.size + 4 ∨ w.heap.size + 10 ≤ j) W (wa.setCell ⟨w.heap.size + 4, 0, none⟩ (.string (X.extract 32 64))) := (hka.mono (fun _ _ h => h.elim)).setCell (.inl (.inr (.inr (.inl rfl)))) _ _
          rw [take_all (X.extract 32 64) 32 (by rw [ByteArray.size_extract]; omega)]
          exact ⟨hkk, _, hy, r1.setOther (by omega) _ _, r2.setOther (by omega) _ _, r3.setOther (by omega) _ _, r4.setOther (by omega) _ _, r5.setCell 0 _, hkk.below q6 q6.size (fun j hj => by omega)⟩
      · have hno : ¬ ((p k).size = 64 ∧ nH (p k) = t) := fun h => hq h.2
        have g2 := r3.cell (i := 0) rfl
        have g3 := r4.cell (i := 0) rfl
        have f2 := r3.frozen 0
        have f3 := r4.frozen 0
        have hne : w.heap.size + 1 + 1 ≠ w.heap.size + 1 + 1 + 1 := by omega
        gi_wp2_with fail
        have hkk : Kept (fun j => j = w.heap.size + 1 + 1 ∨ j = w.heap.size + 1 + 1 + 1 ∨ j = w.heap.size + 4 ∨ w.heap.size + 10 ≤ j) W ((wa.setCell ⟨w.heap.size + 1 + 1, 0, none⟩ (.string noB)).setCell ⟨w.heap.size + 1 + 1 + 1, 0, none⟩ (.int .i64 22)) := ((hka.mono (fun _ _ h => h.elim)).setCell (.inl (.inl rfl)) _ _).setCell (.inl (.inr (.inl rfl))) _ _
        exact ⟨hkk, rfl, fol_no q0 hno, (r3.setCell 0 _).setOther (by omega) _ _, (r4.setOther (by omega) _ _).setCell 0 _, hkk.below q6 q6.size (fun j hj => by omega)⟩
    · have hnp := notPair_any (p k) W.drew
      rw [decide_eq_true h64] at hnp
      refine region_inRound (S := fun _ => True) (by kernel_rfl) (by kernel_rfl) trivial (fun hHeld => ?_)
      refine wpAnyH_take (i := 0) (v := ?_) rfl (by kernel_rfl) (by kernel_rfl) (by kernel_rfl) (fun _ _ _ h => h) (Or.inl ⟨by rfl, ?_⟩) (by assumption) ?_
      rotate_left
      · intro w hSw; go_simp; try with_reducible rfl
      go_simp
      refine wpAnyH_ready (rs := [1]) (by kernel_rfl) (by simp) (AllReadyH.cons rfl (fun K hK => ?_) AllReadyH.nil)
      go_simp
      go_at_call 21
      refine hnp.mono ?_
      rintro e wa ⟨rfl, hwa⟩
      rw [hwa]
      clear hwa wa hnp
      refine hK.out _ _ trivial (fun hHeld => ?_)
      clear hK K
      refine wpAnyH_take (i := 2) (v := ?_) rfl (by kernel_rfl) (by kernel_rfl) (by kernel_rfl) (fun _ _ _ h => h) (Or.inl ⟨by rfl, ?_⟩) (by assumption) ?_
      rotate_left
      · intro w hSw; go_simp; try with_reducible rfl
      go_simp
      refine wpAnyH_take (i := 3) (v := undef) rfl (by kernel_rfl) (by kernel_rfl) (by kernel_rfl) (fun _ _ _ h => h) (Or.inr ⟨by rfl, rfl⟩) (by assumption) ?_
      go_simp
      refine wpAnyH_take (i := 4) (v := undef) rfl (by kernel_rfl) (by kernel_rfl) (by kernel_rfl) (fun _ _ _ h => h) (Or.inr ⟨by rfl, rfl⟩) (by assumption) ?_
      go_simp
      refine wpAnyH_take (i := 6) (v := undef) rfl (by kernel_rfl) (by kernel_rfl) (by kernel_rfl) (fun _ _ _ h => h) (Or.inr ⟨by rfl, rfl⟩) (by assumption) ?_
      go_simp
      refine wpAnyH_take (i := 5) (v := undef) rfl (by kernel_rfl) (by kernel_rfl) (by kernel_rfl) (fun _ _ _ h => h) (Or.inr ⟨by rfl, rfl⟩) (by assumption) ?_
      go_simp
      refine wpAnyH_take (i := 7) (v := undef) rfl (by kernel_rfl) (by kernel_rfl) (by kernel_rfl) (fun _ _ _ h => h) (Or.inr ⟨by rfl, rfl⟩) (by assumption) ?_
      go_simp
      refine wpAnyH_take (i := 8) (v := ?_) rfl (by kernel_rfl) (by kernel_rfl) (by kernel_rfl) (fun _ _ _ h => h) (Or.inl ⟨by rfl, ?_⟩) (by assumption) ?_
      rotate_left
      · intro w hSw; go_simp; try with_reducible rfl
      go_simp
      refine wpAnyH_done (by kernel_rfl) ?_ _
      refine Onward.mk ?_
      clear hHeld
      have hka : Kept (fun _ => False) W W.drew := (Kept.refl _ W).drew
      have hno : ¬ ((p k).size = 64 ∧ nH (p k) = t) := fun h => h64 h.1
      generalize W.drew = wa at hka ⊢
      have r1 := q1.kept hka (fun h => h)
      have r2 := q2.kept hka (fun h => h)
      have r3 := q3.kept hka (fun h => h)
      have r4 := q4.kept hka (fun h => h)
      have r5 := q5.kept hka (fun h => h)
      have rx := hx.kept hka (fun h => h)
      have g2 := r3.cell (i := 0) rfl
      have g3 := r4.cell (i := 0) rfl
      have f2 := r3.frozen 0
      have f3 := r4.frozen 0
      have hne : w.heap.size + 1 + 1 ≠ w.heap.size + 1 + 1 + 1 := by omega
      gi_wp2_with fail
      have hkk : Kept (fun j => j = w.heap.size + 1 + 1 ∨ j = w.heap.size + 1 + 1 + 1 ∨ j = w.heap.size + 4 ∨ w.heap.size + 10 ≤ j) W ((wa.setCell ⟨w.heap.size + 1 + 1, 0, none⟩ (.string noB)).setCell ⟨w.heap.size + 1 + 1 + 1, 0, none⟩ (.int .i64 22)) := ((hka.mono (fun _ _ h => h.elim)).setCell (.inl (.inl rfl)) _ _).setCell (.inl (.inr (.inl rfl))) _ _
      exact ⟨hkk, rfl, fol_no q0 hno, (r3.setCell 0 _).setOther (by omega) _ _, (r4.setOther (by omega) _ _).setCell 0 _, hkk.below q6 q6.size (fun j hj => by omega)⟩
  case done =>
    rintro W ⟨t, q0, q1, q2, q3, q4, q5, q6⟩ hD
    have c4 := q5.cell (i := 0) rfl
    have c2 := q3.cell (i := 0) rfl
    have c3 := q4.cell (i := 0) rfl
    have f2 := q3.frozen 0
    have f3 := q4.frozen 0
    have hne : w.heap.size + 1 + 1 ≠ w.heap.size + 1 + 1 + 1 := by omega
    have hk0 : Kept (fun k => k = w.heap.size + 1 + 1 ∨ k = w.heap.size + 1 + 1 + 1) W ((W.setCell ⟨w.heap.size + 1 + 1, 0, none⟩ (.string t)).setCell ⟨w.heap.size + 1 + 1 + 1, 0, none⟩ (.int .i64 0)) := ((Kept.refl _ W).setCell (.inl (.inl rfl)) _ _).setCell (.inl (.inr rfl)) _ _
    have hD' := hk0.block' hD (by omega)
    have hp := Kept.put ((W.setCell ⟨w.heap.size + 1 + 1, 0, none⟩ (.string t)).setCell ⟨w.heap.size + 1 + 1 + 1, 0, none⟩ (.int .i64 0)) W1.heap.size (.deferred none)
    gi_wp2_with fail
    refine ⟨by simp, .inl ⟨_, _, rfl, run_takeDeferred hD', ?_⟩⟩
    refine ⟨_, results_cells2 8 9 9 27 ⟨w.heap.size + 1 + 1, 0, none⟩ ⟨w.heap.size + 1 + 1 + 1, 0, none⟩ rfl rfl rfl (load_text _ _ _ (((q3.setCell 0 _).setOther (by omega) _ _).kept hp (by omega))) (load_err _ _ _ (((q4.setOther (by omega) _ _).setCell 0 _).kept hp (by omega))), by rw [q0]; rfl, ?_⟩
    exact hp.below (hk0.below q6 q6.size (fun j hj => by omega)) (by have := hk0.size; have := q6.size; omega) (fun j hj => by omega)
  case stop =>
    rintro c k W hk ⟨rfl, q1, q3, q4, q6⟩ hD
    have hp := Kept.put W W1.heap.size (.deferred none)
    gi_wp2_with fail
    refine ⟨by simp, .inl ⟨_, _, rfl, run_takeDeferred hD, ?_⟩⟩
    refine ⟨_, results_cells2 8 9 9 27 ⟨w.heap.size + 1 + 1, 0, none⟩ ⟨w.heap.size + 1 + 1 + 1, 0, none⟩ rfl rfl rfl (load_text _ _ _ (q3.kept hp (by omega))) (load_err _ _ _ (q4.kept hp (by omega))), by rw [fol_none' q1 hk]; rfl, hp.below q6 q6.size (fun j hj => by omega)⟩
set_option maxRecDepth 20000 in
theorem tfollow_any (top : ByteArray) (s : Int) (a : Option Addr) (n cap : Nat) (hn : n ≤ 62) (p : Nat → ByteArray) (w : World) (hp : Sa w a n p) (ht : Tabs w) : Calls Tryd.prog 14 #[nodeV, .string top, .int .i64 s, .slice a n cap] w fun e w' =>
    e = .returned (.tuple #[.string (folS n s p top), .int .i64 (folE n s p top)]) ∧ Below w.heap.size w w' := by
  by_cases h : okS n s
  · obtain ⟨k, rfl⟩ := Int.eq_ofNat_of_zero_le h.2.2.1
    exact follow_ok top k a n cap p h w hp ht
  · have := follow_bad top s a n cap hn h w
    unfold folS folE
    rw [if_neg h, if_neg h]
    exact this
set_option maxRecDepth 20000 in
theorem follow_any (top : ByteArray) (s : Int) (a : Option Addr) (n cap : Nat) (hn : n ≤ 62) (p : Nat → ByteArray) (w : World) (hp : Sa w a n p) (ht : Tabs w) : Calls Tryd.prog 8 #[.string top, .int .i64 s, .slice a n cap] w fun e w' =>
    e = .returned (.tuple #[.string (folS n s p top), .int .i64 (folE n s p top)]) ∧ Below w.heap.size w w' := by
  have h := tfollow_any top s a n cap hn p w hp ht
  generalize folS n s p top = S at h ⊢
  generalize folE n s p top = E at h ⊢
  go_enter Tryd.func8, Tryd.ntmps8
  go_wp2_with fail
  refine h.mono ?_
  rintro e w' ⟨rfl, hb⟩
  go_wp2_with fail
  go_ret2
  exact ⟨rfl, hb⟩
end Go.Proofs.YtbbgagpompgagabDoor
