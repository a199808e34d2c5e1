/- What the Go function PolyEnds answers: true, for every key, every number and every last byte. -/
import Derived.Test.YtlaafcnfadgkeaaPoSumsLaw
namespace Go.Proofs.Ytlaafcnfadgkeaa
open Go.RowKit Go.PlainAid
set_option linter.unusedVariables false

/-- A row of n bytes of nought, made. -/
theorem made_row (n : Nat) (hn : n ≤ 100000) : ∃ Z : List Value, Z = nr .u8 n (fun _ => 0) ∧ ∀ x : World, (Instr.makeSlice 26 (.int .i64 (n : Int)) (.int .i64 (n : Int))).run Try.prog x = .ok (.slice (some ⟨x.heap.size, 0, none⟩) n n) (x.alloc (.cells Z.toArray 5 (0, 0))) := by
  obtain ⟨i0, hi, hz0, hz1, hz2⟩ := info_parts Try.info5w
  refine ⟨(madeCells (Value.int .u8 0).cells (n * i0.size)).toList, ?_, fun x => ?_⟩
  · rw [hz1, Nat.mul_one]
    have : (madeCells (Value.int .u8 0).cells n).toList = List.replicate n (.int .u8 0) := toList_madeCells_one _ _
    rw [this]
    apply List.ext_getElem?
    intro i
    by_cases h : i < n
    · rw [nr_at _ _ _ i h, List.getElem?_replicate, if_pos h]; rfl
    · rw [List.getElem?_eq_none (by simp; omega), List.getElem?_eq_none (by rw [nr_length]; omega)]
  · have := run_make (P := Try.prog) x 26 5 i0 (.int .u8 0) Try.underlying26 hi hz0 .i64 .i64 (n : Int) (n : Int) (by omega) (Int.le_refl _) (by rw [hz2]; omega) (by omega)
    rw [Int.toNat_natCast] at this
    rw [Array.toArray_toList]; exact this

set_option maxHeartbeats 2000000 in
set_option maxRecDepth 20000 in
theorem polyEnds_walk (f : Nat → Nat) (n last : Int) (hf : ∀ i, f i < 256) (hn : -9223372036854775808 ≤ n ∧ n ≤ 9223372036854775807) (hlast : 0 ≤ last ∧ last ≤ 255) (w : World) :
    Calls Try.prog 5 #[.agg (nr .u8 32 f).toArray, .int .i64 n, .int .u8 last] w fun e w' => e = .returned (.bool true) ∧ Below w.heap.size w w' := by
  have hk := tx_size 32 f
  have HC : Hid (∀ w' g, Blk w' g 31 (nr .u8 32 f) → (convert 26 9 (.slice (some ⟨g, 0, none⟩) 32 32)).run Try.prog w' = .ok (.string (tx 32 f)) w') := fun w' g h => conv_blk h 32 32 (by decide)
  generalize tx 32 f = K at *
  obtain ⟨L, hL⟩ : ∃ L, nr .u8 32 f = L := ⟨_, rfl⟩
  rw [hL] at HC ⊢
  clear hL hf
  obtain ⟨x, rfl⟩ : ∃ x : Nat, last = (x : Int) := ⟨last.toNat, by omega⟩
  have hx : x < 256 := by omega
  clear hlast
  obtain ⟨m, hm⟩ : ∃ m : Nat, (max 0 n % 100).toNat = m := ⟨_, rfl⟩
  have hmI : max 0 n % 100 = (m : Int) := by omega
  have hm1 : m < 100 := by omega
  have hmx : 0 ≤ max 0 n := by omega
  have hmb : max 0 n ≤ 9223372036854775807 := by omega
  obtain ⟨Z, hZ, hmk⟩ := made_row m (by omega)
  have HZ : Hid (Z = nr .u8 m (fun _ => 0)) := hZ
  clear hZ
  have hA0 : Blk (w.alloc (.cells L.toArray 31)) w.heap.size 31 L := Blk.box w 31 L
  have hl0 : Below w.heap.size w (w.alloc (.cells L.toArray 31)) := (Below.refl _ _).alloc (Nat.le_refl _) _
  go_enter Try.func5, Try.ntmps5
  go_wp2_with fail
  have hA1 : Blk ((w.alloc (.cells L.toArray 31)).alloc (.cells Z.toArray 5 (0, 0))) w.heap.size 31 L := hA0.alloc _
  have hB1 : Blk ((w.alloc (.cells L.toArray 31)).alloc (.cells Z.toArray 5 (0, 0))) (w.heap.size + 1) 5 Z := by
    have := Blk.box (w.alloc (.cells L.toArray 31)) 5 Z
    simpa using this
  have hl1 : Below w.heap.size w ((w.alloc (.cells L.toArray 31)).alloc (.cells Z.toArray 5 (0, 0))) := hl0.alloc (by simp) _
  clear hA0 hl0 hmk
  generalize (w.alloc (.cells L.toArray 31)).alloc (.cells Z.toArray 5 (0, 0)) = w0 at *
  obtain ⟨B, hBd⟩ : ∃ B, w.heap.size = B := ⟨_, rfl⟩
  rw [hBd] at hA1 hB1 hl1 ⊢
  have HB : Hid (w.heap.size = B) := hBd
  clear hBd
  rw [HZ.out] at hB1
  clear HZ
  go_loopw [19] (fun v wr => ∃ k : Nat, k ≤ m ∧ v = .int .i64 k ∧ Blk wr B 31 L ∧ Blk wr (B + 1) 5 (nr .u8 m (fun i => if i < k then 255 else 0)) ∧ Below B w wr) (fun v _ => (m - intOf v).toNat)
  case atStart => exact ⟨0, by omega, rfl, hA1, hB1, hl1⟩
  case round =>
    clear hA1 hB1 hl1
    obtain ⟨k, hkm, rfl, hA, hD, hl⟩ := hrel
    by_cases hlt : k < m
    · have hlt' : (k : Int) < (m : Int) := by omega
      have cn : wr.cell? ⟨B + 1, k, none⟩ = some (.int .u8 ((0 : Nat) : Int)) := by
        have := hD.cell (nr_at .u8 m _ k hlt)
        rw [if_neg (by omega)] at this; exact this
      have fn := hD.frozen k
      have hD2 : Hid (Blk (wr.setCell ⟨B + 1, k, none⟩ (.int .u8 255)) (B + 1) 5 (nr .u8 m (fun i => if i < k + 1 then 255 else 0))) := by
        have hh := hD.setCell k (.int .u8 ((255 : Nat) : Int))
        rw [nr_set] at hh
        rw [nr_congr .u8 m (fun i => if i < k + 1 then 255 else 0) (fun i => if i = k then 255 else if i < k then 255 else 0) ?_]
        · exact hh
        · intro i _
          show (if i < k + 1 then 255 else 0) = if i = k then 255 else if i < k then 255 else 0
          by_cases h1 : i = k
          · subst h1; rw [if_pos (by omega), if_pos rfl]
          · rw [if_neg h1]
            by_cases h2 : i < k
            · rw [if_pos h2, if_pos (by omega)]
            · rw [if_neg h2, if_neg (by omega)]
      have hA2 : Hid (Blk (wr.setCell ⟨B + 1, k, none⟩ (.int .u8 255)) B 31 L) := hA.setOther (by omega) k _
      have hl2 : Hid (Below B w (wr.setCell ⟨B + 1, k, none⟩ (.int .u8 255))) := hl.setCell (by show B ≤ B + 1; omega) _
      clear hA hD hl
      go_wp2_with fail
      exact ⟨⟨k + 1, by omega, by go_num, hA2.out, hD2.out, hl2.out⟩, by simp [intOf]; omega⟩
    · have hke : k = m := by omega
      subst hke
      by_cases h0 : 0 < k
      · have h0' : (0 : Int) < (k : Int) := by omega
        obtain ⟨q, rfl⟩ : ∃ q, k = q + 1 := ⟨k - 1, by omega⟩
        have eq1 : ((q + 1 : Nat) : Int) - 1 = (q : Int) := by omega
        have cn := hD.cell (nr_at .u8 (q + 1) _ q (by omega))
        have fn := hD.frozen q
        obtain ⟨y, hy⟩ : ∃ y : Value, (Value.int .u8 (((if q < q + 1 then 255 else 0) : Nat) : Int)) = y := ⟨_, rfl⟩
        rw [hy] at cn
        have hD2 := hD.setCell q (.int .u8 (x : Int))
        rw [nr_set] at hD2
        have HM0 : Hid (∀ w' g, Blk w' g 5 (nr .u8 (q + 1) (fun i => if i = q then x else if i < q + 1 then 255 else 0)) → (convert 26 9 (.slice (some ⟨g, 0, none⟩) (q + 1) (q + 1))).run Try.prog w' = .ok (.string (tx (q + 1) (fun i => if i = q then x else if i < q + 1 then 255 else 0))) w') := fun w' g h => conv_blk h (q + 1) (q + 1) (Nat.le_refl _)
        have hTs := tx_size (q + 1) (fun i => if i = q then x else if i < q + 1 then 255 else 0)
        generalize tx (q + 1) (fun i => if i = q then x else if i < q + 1 then 255 else 0) = T at *
        have hA2 : Blk (wr.setCell ⟨B + 1, q, none⟩ (.int .u8 (x : Int))) B 31 L := hA.setOther (by omega) q _
        have hl2 : Below B w (wr.setCell ⟨B + 1, q, none⟩ (.int .u8 (x : Int))) := hl.setCell (by show B ≤ B + 1; omega) _
        obtain ⟨M, hM⟩ : ∃ M, nr .u8 (q + 1) (fun i => if i = q then x else if i < q + 1 then 255 else 0) = M := ⟨_, rfl⟩
        rw [hM] at HM0 hD2
        have HM := HM0
        clear hM HM0 hA hD hl hy
        go_wp2_with fail
        generalize wr.setCell ⟨B + 1, q, none⟩ (.int .u8 (x : Int)) = w3 at *
        generalize q + 1 = n1 at *
        have c1 := fun w => sum_any K T (by unfold maxLen; omega) (by omega) w
        have c2 := fun w => refSum_any K T (by unfold maxLen; omega) (by omega) w
        generalize (smR K T).1 = X at *
        generalize (smR K T).2 = y at *
        have hs3 : (fun z : World => Blk z B 31 L ∧ Blk z (B + 1) 5 M ∧ Below B w z) w3.drew := ⟨hA2, hD2, hl2.drew⟩
        clear hA2 hD2 hl2
        refine wp_region_noPanic ?_
        refine wp_region_held_drew (S := fun z : World => Blk z B 31 L ∧ Blk z (B + 1) 5 M ∧ Below B w z) (by kernel_rfl) hs3 (fun hHeld => ?_)
        refine wpAnyH_take (i := 0) (v := ?_) rfl (by kernel_rfl) (by kernel_rfl) (by kernel_rfl) (fun _ _ _ h => h) (Or.inl ⟨by rfl, ?_⟩) (by assumption) ?_
        rotate_left
        · intro w hSw; go_simp; try with_reducible rfl
        go_simp
        refine wpAnyH_take (i := 2) (v := ?_) rfl (by kernel_rfl) (by kernel_rfl) (by kernel_rfl) (fun _ _ _ h => h) (Or.inl ⟨by rfl, ?_⟩) (by assumption) ?_
        rotate_left
        · intro w hSw; go_simp; try with_reducible rfl
        go_simp
        refine wpAnyH_take (i := 1) (v := ?_) rfl (by kernel_rfl) (by kernel_rfl) (by kernel_rfl) (fun _ _ _ h => h) (Or.inl ⟨by rfl, ?_⟩) (by assumption) ?_
        rotate_left
        · intro z hSw; have hcz := HC.out z B hSw.1; go_simp; try with_reducible rfl
        go_simp
        refine wpAnyH_take (i := 3) (v := ?_) rfl (by kernel_rfl) (by kernel_rfl) (by kernel_rfl) (fun _ _ _ h => h) (Or.inl ⟨by rfl, ?_⟩) (by assumption) ?_
        rotate_left
        · intro z hSw; have hcz := HM.out z (B + 1) hSw.2.1; go_simp; try with_reducible rfl
        go_simp
        refine wpAnyH_ready (rs := [4]) (by kernel_rfl) (by simp) (AllReadyH.cons rfl (fun K hK => ?_) AllReadyH.nil)
        go_simp
        go_at_call 12
        refine (c1 _).mono ?_
        rintro e w4 ⟨rfl, hb⟩
        have hsw4 : (fun z : World => Blk z B 31 L ∧ Blk z (B + 1) 5 M ∧ Below B w z) w4 := ⟨hs3.1.below hb hs3.1.lt, hs3.2.1.below hb hs3.2.1.lt, hs3.2.2.trans (hb.mono (by have := hs3.1.lt; omega))⟩
        clear hb
        refine hK.out _ _ hsw4 (fun hHeld => ?_)
        clear hK K
        refine wpAnyH_take (i := 5) (v := ?_) rfl (by kernel_rfl) (by kernel_rfl) (by kernel_rfl) (fun _ _ _ h => h) (Or.inl ⟨by rfl, ?_⟩) (by assumption) ?_
        rotate_left
        · intro w hSw; go_simp; try with_reducible rfl
        go_simp
        refine wpAnyH_take (i := 6) (v := ?_) rfl (by kernel_rfl) (by kernel_rfl) (by kernel_rfl) (fun _ _ _ h => h) (Or.inl ⟨by rfl, ?_⟩) (by assumption) ?_
        rotate_left
        · intro w hSw; go_simp; try with_reducible rfl
        go_simp
        refine wpAnyH_take (i := 7) (v := ?_) rfl (by kernel_rfl) (by kernel_rfl) (by kernel_rfl) (fun _ _ _ h => h) (Or.inl ⟨by rfl, ?_⟩) (by assumption) ?_
        rotate_left
        · intro w hSw; go_simp; try with_reducible rfl
        go_simp
        refine wpAnyH_take (i := 8) (v := ?_) rfl (by kernel_rfl) (by kernel_rfl) (by kernel_rfl) (fun _ _ _ h => h) (Or.inl ⟨by rfl, ?_⟩) (by assumption) ?_
        rotate_left
        · intro w hSw; go_simp; try with_reducible rfl
        go_simp
        refine wpAnyH_take (i := 9) (v := ?_) rfl (by kernel_rfl) (by kernel_rfl) (by kernel_rfl) (fun _ _ _ h => h) (Or.inl ⟨by rfl, ?_⟩) (by assumption) ?_
        rotate_left
        · intro w hSw; go_simp; try with_reducible rfl
        go_simp
        refine wpAnyH_done (by kernel_rfl) ?_ _
        refine NoPanic.normal ?_
        clear c1 hs3
        go_wp2_with fail
        have hs5 : (fun z : World => Blk z B 31 L ∧ Blk z (B + 1) 5 M ∧ Below B w z) w4.drew := ⟨hsw4.1, hsw4.2.1, hsw4.2.2.drew⟩
        clear hsw4
        refine wp_region_noPanic ?_
        refine wp_region_held_drew (S := fun z : World => Blk z B 31 L ∧ Blk z (B + 1) 5 M ∧ Below B w z) (by kernel_rfl) hs5 (fun hHeld => ?_)
        refine wpAnyH_take (i := 0) (v := ?_) rfl (by kernel_rfl) (by kernel_rfl) (by kernel_rfl) (fun _ _ _ h => h) (Or.inl ⟨by rfl, ?_⟩) (by assumption) ?_
        rotate_left
        · intro w hSw; go_simp; try with_reducible rfl
        go_simp
        refine wpAnyH_take (i := 2) (v := ?_) rfl (by kernel_rfl) (by kernel_rfl) (by kernel_rfl) (fun _ _ _ h => h) (Or.inl ⟨by rfl, ?_⟩) (by assumption) ?_
        rotate_left
        · intro w hSw; go_simp; try with_reducible rfl
        go_simp
        refine wpAnyH_take (i := 1) (v := ?_) rfl (by kernel_rfl) (by kernel_rfl) (by kernel_rfl) (fun _ _ _ h => h) (Or.inl ⟨by rfl, ?_⟩) (by assumption) ?_
        rotate_left
        · intro z hSw; have hcz := HC.out z B hSw.1; go_simp; try with_reducible rfl
        go_simp
        refine wpAnyH_take (i := 3) (v := ?_) rfl (by kernel_rfl) (by kernel_rfl) (by kernel_rfl) (fun _ _ _ h => h) (Or.inl ⟨by rfl, ?_⟩) (by assumption) ?_
        rotate_left
        · intro z hSw; have hcz := HM.out z (B + 1) hSw.2.1; go_simp; try with_reducible rfl
        go_simp
        refine wpAnyH_ready (rs := [4]) (by kernel_rfl) (by simp) (AllReadyH.cons rfl (fun K hK => ?_) AllReadyH.nil)
        go_simp
        go_at_call 13
        refine (c2 _).mono ?_
        rintro e w5 ⟨rfl, hb⟩
        have hsw5 : (fun z : World => Blk z B 31 L ∧ Blk z (B + 1) 5 M ∧ Below B w z) w5 := ⟨hs5.1.below hb hs5.1.lt, hs5.2.1.below hb hs5.2.1.lt, hs5.2.2.trans (hb.mono (by have := hs5.1.lt; omega))⟩
        clear hb
        refine hK.out _ _ hsw5 (fun hHeld => ?_)
        clear hK K
        refine wpAnyH_take (i := 5) (v := ?_) rfl (by kernel_rfl) (by kernel_rfl) (by kernel_rfl) (fun _ _ _ h => h) (Or.inl ⟨by rfl, ?_⟩) (by assumption) ?_
        rotate_left
        · intro w hSw; go_simp; try with_reducible rfl
        go_simp
        refine wpAnyH_take (i := 6) (v := ?_) rfl (by kernel_rfl) (by kernel_rfl) (by kernel_rfl) (fun _ _ _ h => h) (Or.inl ⟨by rfl, ?_⟩) (by assumption) ?_
        rotate_left
        · intro w hSw; go_simp; try with_reducible rfl
        go_simp
        refine wpAnyH_take (i := 7) (v := ?_) rfl (by kernel_rfl) (by kernel_rfl) (by kernel_rfl) (fun _ _ _ h => h) (Or.inl ⟨by rfl, ?_⟩) (by assumption) ?_
        rotate_left
        · intro w hSw; go_simp; try with_reducible rfl
        go_simp
        refine wpAnyH_take (i := 8) (v := ?_) rfl (by kernel_rfl) (by kernel_rfl) (by kernel_rfl) (fun _ _ _ h => h) (Or.inl ⟨by rfl, ?_⟩) (by assumption) ?_
        rotate_left
        · intro w hSw; go_simp; try with_reducible rfl
        go_simp
        refine wpAnyH_take (i := 9) (v := ?_) rfl (by kernel_rfl) (by kernel_rfl) (by kernel_rfl) (fun _ _ _ h => h) (Or.inl ⟨by rfl, ?_⟩) (by assumption) ?_
        rotate_left
        · intro w hSw; go_simp; try with_reducible rfl
        go_simp
        refine wpAnyH_done (by kernel_rfl) ?_ _
        refine NoPanic.normal ?_
        clear c2 hs5
        go_wp2_with fail
        refine (wakes_any w5).mono ?_
        rintro e w6 ⟨rfl, hb6⟩
        have hl6 := hsw5.2.2.trans (hb6.mono (by have := hsw5.1.lt; omega))
        clear hb6 hsw5
        go_wp2_with fail
        go_ret
        refine ⟨rfl, ?_⟩
        rw [HB.out]; exact hl6
      · have hk0 : k = 0 := by omega
        subst hk0
        rw [show ((0 : Nat) : Int) = 0 from rfl]
        have HM : Hid (∀ w' g, Blk w' g 5 (nr .u8 0 (fun i => if i < 0 then 255 else 0)) → (convert 26 9 (.slice (some ⟨g, 0, none⟩) 0 0)).run Try.prog w' = .ok (.string (tx 0 (fun i => if i < 0 then 255 else 0))) w') := fun w' g h => conv_blk h 0 0 (Nat.le_refl _)
        have hTs := tx_size 0 (fun i => if i < 0 then 255 else 0)
        generalize tx 0 (fun i => if i < 0 then 255 else 0) = T at *
        obtain ⟨M, hM⟩ : ∃ M, nr .u8 0 (fun i => if i < 0 then 255 else 0) = M := ⟨_, rfl⟩
        rw [hM] at HM hD
        clear hM
        have hA2 := hA
        have hD2 := hD
        have hl2 := hl
        clear hA hD hl
        go_wp2_with fail
        generalize wr = w3 at *
        have c1 := fun w => sum_any K T (by unfold maxLen; omega) (by omega) w
        have c2 := fun w => refSum_any K T (by unfold maxLen; omega) (by omega) w
        generalize (smR K T).1 = X at *
        generalize (smR K T).2 = y at *
        have hs3 : (fun z : World => Blk z B 31 L ∧ Blk z (B + 1) 5 M ∧ Below B w z) w3.drew := ⟨hA2, hD2, hl2.drew⟩
        clear hA2 hD2 hl2
        refine wp_region_noPanic ?_
        refine wp_region_held_drew (S := fun z : World => Blk z B 31 L ∧ Blk z (B + 1) 5 M ∧ Below B w z) (by kernel_rfl) hs3 (fun hHeld => ?_)
        refine wpAnyH_take (i := 0) (v := ?_) rfl (by kernel_rfl) (by kernel_rfl) (by kernel_rfl) (fun _ _ _ h => h) (Or.inl ⟨by rfl, ?_⟩) (by assumption) ?_
        rotate_left
        · intro w hSw; go_simp; try with_reducible rfl
        go_simp
        refine wpAnyH_take (i := 2) (v := ?_) rfl (by kernel_rfl) (by kernel_rfl) (by kernel_rfl) (fun _ _ _ h => h) (Or.inl ⟨by rfl, ?_⟩) (by assumption) ?_
        rotate_left
        · intro w hSw; go_simp; try with_reducible rfl
        go_simp
        refine wpAnyH_take (i := 1) (v := ?_) rfl (by kernel_rfl) (by kernel_rfl) (by kernel_rfl) (fun _ _ _ h => h) (Or.inl ⟨by rfl, ?_⟩) (by assumption) ?_
        rotate_left
        · intro z hSw; have hcz := HC.out z B hSw.1; go_simp; try with_reducible rfl
        go_simp
        refine wpAnyH_take (i := 3) (v := ?_) rfl (by kernel_rfl) (by kernel_rfl) (by kernel_rfl) (fun _ _ _ h => h) (Or.inl ⟨by rfl, ?_⟩) (by assumption) ?_
        rotate_left
        · intro z hSw; have hcz := HM.out z (B + 1) hSw.2.1; go_simp; try with_reducible rfl
        go_simp
        refine wpAnyH_ready (rs := [4]) (by kernel_rfl) (by simp) (AllReadyH.cons rfl (fun K hK => ?_) AllReadyH.nil)
        go_simp
        go_at_call 12
        refine (c1 _).mono ?_
        rintro e w4 ⟨rfl, hb⟩
        have hsw4 : (fun z : World => Blk z B 31 L ∧ Blk z (B + 1) 5 M ∧ Below B w z) w4 := ⟨hs3.1.below hb hs3.1.lt, hs3.2.1.below hb hs3.2.1.lt, hs3.2.2.trans (hb.mono (by have := hs3.1.lt; omega))⟩
        clear hb
        refine hK.out _ _ hsw4 (fun hHeld => ?_)
        clear hK K
        refine wpAnyH_take (i := 5) (v := ?_) rfl (by kernel_rfl) (by kernel_rfl) (by kernel_rfl) (fun _ _ _ h => h) (Or.inl ⟨by rfl, ?_⟩) (by assumption) ?_
        rotate_left
        · intro w hSw; go_simp; try with_reducible rfl
        go_simp
        refine wpAnyH_take (i := 6) (v := ?_) rfl (by kernel_rfl) (by kernel_rfl) (by kernel_rfl) (fun _ _ _ h => h) (Or.inl ⟨by rfl, ?_⟩) (by assumption) ?_
        rotate_left
        · intro w hSw; go_simp; try with_reducible rfl
        go_simp
        refine wpAnyH_take (i := 7) (v := ?_) rfl (by kernel_rfl) (by kernel_rfl) (by kernel_rfl) (fun _ _ _ h => h) (Or.inl ⟨by rfl, ?_⟩) (by assumption) ?_
        rotate_left
        · intro w hSw; go_simp; try with_reducible rfl
        go_simp
        refine wpAnyH_take (i := 8) (v := ?_) rfl (by kernel_rfl) (by kernel_rfl) (by kernel_rfl) (fun _ _ _ h => h) (Or.inl ⟨by rfl, ?_⟩) (by assumption) ?_
        rotate_left
        · intro w hSw; go_simp; try with_reducible rfl
        go_simp
        refine wpAnyH_take (i := 9) (v := ?_) rfl (by kernel_rfl) (by kernel_rfl) (by kernel_rfl) (fun _ _ _ h => h) (Or.inl ⟨by rfl, ?_⟩) (by assumption) ?_
        rotate_left
        · intro w hSw; go_simp; try with_reducible rfl
        go_simp
        refine wpAnyH_done (by kernel_rfl) ?_ _
        refine NoPanic.normal ?_
        clear c1 hs3
        go_wp2_with fail
        have hs5 : (fun z : World => Blk z B 31 L ∧ Blk z (B + 1) 5 M ∧ Below B w z) w4.drew := ⟨hsw4.1, hsw4.2.1, hsw4.2.2.drew⟩
        clear hsw4
        refine wp_region_noPanic ?_
        refine wp_region_held_drew (S := fun z : World => Blk z B 31 L ∧ Blk z (B + 1) 5 M ∧ Below B w z) (by kernel_rfl) hs5 (fun hHeld => ?_)
        refine wpAnyH_take (i := 0) (v := ?_) rfl (by kernel_rfl) (by kernel_rfl) (by kernel_rfl) (fun _ _ _ h => h) (Or.inl ⟨by rfl, ?_⟩) (by assumption) ?_
        rotate_left
        · intro w hSw; go_simp; try with_reducible rfl
        go_simp
        refine wpAnyH_take (i := 2) (v := ?_) rfl (by kernel_rfl) (by kernel_rfl) (by kernel_rfl) (fun _ _ _ h => h) (Or.inl ⟨by rfl, ?_⟩) (by assumption) ?_
        rotate_left
        · intro w hSw; go_simp; try with_reducible rfl
        go_simp
        refine wpAnyH_take (i := 1) (v := ?_) rfl (by kernel_rfl) (by kernel_rfl) (by kernel_rfl) (fun _ _ _ h => h) (Or.inl ⟨by rfl, ?_⟩) (by assumption) ?_
        rotate_left
        · intro z hSw; have hcz := HC.out z B hSw.1; go_simp; try with_reducible rfl
        go_simp
        refine wpAnyH_take (i := 3) (v := ?_) rfl (by kernel_rfl) (by kernel_rfl) (by kernel_rfl) (fun _ _ _ h => h) (Or.inl ⟨by rfl, ?_⟩) (by assumption) ?_
        rotate_left
        · intro z hSw; have hcz := HM.out z (B + 1) hSw.2.1; go_simp; try with_reducible rfl
        go_simp
        refine wpAnyH_ready (rs := [4]) (by kernel_rfl) (by simp) (AllReadyH.cons rfl (fun K hK => ?_) AllReadyH.nil)
        go_simp
        go_at_call 13
        refine (c2 _).mono ?_
        rintro e w5 ⟨rfl, hb⟩
        have hsw5 : (fun z : World => Blk z B 31 L ∧ Blk z (B + 1) 5 M ∧ Below B w z) w5 := ⟨hs5.1.below hb hs5.1.lt, hs5.2.1.below hb hs5.2.1.lt, hs5.2.2.trans (hb.mono (by have := hs5.1.lt; omega))⟩
        clear hb
        refine hK.out _ _ hsw5 (fun hHeld => ?_)
        clear hK K
        refine wpAnyH_take (i := 5) (v := ?_) rfl (by kernel_rfl) (by kernel_rfl) (by kernel_rfl) (fun _ _ _ h => h) (Or.inl ⟨by rfl, ?_⟩) (by assumption) ?_
        rotate_left
        · intro w hSw; go_simp; try with_reducible rfl
        go_simp
        refine wpAnyH_take (i := 6) (v := ?_) rfl (by kernel_rfl) (by kernel_rfl) (by kernel_rfl) (fun _ _ _ h => h) (Or.inl ⟨by rfl, ?_⟩) (by assumption) ?_
        rotate_left
        · intro w hSw; go_simp; try with_reducible rfl
        go_simp
        refine wpAnyH_take (i := 7) (v := ?_) rfl (by kernel_rfl) (by kernel_rfl) (by kernel_rfl) (fun _ _ _ h => h) (Or.inl ⟨by rfl, ?_⟩) (by assumption) ?_
        rotate_left
        · intro w hSw; go_simp; try with_reducible rfl
        go_simp
        refine wpAnyH_take (i := 8) (v := ?_) rfl (by kernel_rfl) (by kernel_rfl) (by kernel_rfl) (fun _ _ _ h => h) (Or.inl ⟨by rfl, ?_⟩) (by assumption) ?_
        rotate_left
        · intro w hSw; go_simp; try with_reducible rfl
        go_simp
        refine wpAnyH_take (i := 9) (v := ?_) rfl (by kernel_rfl) (by kernel_rfl) (by kernel_rfl) (fun _ _ _ h => h) (Or.inl ⟨by rfl, ?_⟩) (by assumption) ?_
        rotate_left
        · intro w hSw; go_simp; try with_reducible rfl
        go_simp
        refine wpAnyH_done (by kernel_rfl) ?_ _
        refine NoPanic.normal ?_
        clear c2 hs5
        go_wp2_with fail
        refine (wakes_any w5).mono ?_
        rintro e w6 ⟨rfl, hb6⟩
        have hl6 := hsw5.2.2.trans (hb6.mono (by have := hsw5.1.lt; omega))
        clear hb6 hsw5
        go_wp2_with fail
        go_ret
        refine ⟨rfl, ?_⟩
        rw [HB.out]; exact hl6
end Go.Proofs.Ytlaafcnfadgkeaa
