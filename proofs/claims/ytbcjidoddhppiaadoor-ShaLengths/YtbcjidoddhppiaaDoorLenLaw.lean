/- What the Go function ShaLengths answers: true, for every text and every number. -/
import Derived.Test.YtbcjidoddhppiaaDoorSumsLaw
import Derived.Deep.OwnRows
namespace Go.Proofs.YtbcjidoddhppiaaDoor
open Go.RowKit Go.PlainAid
set_option linter.unusedVariables false

theorem min_to (x : Nat) (c : Nat) : ∃ m : Nat, min (x : Int) (c : Int) = (m : Int) ∧ m ≤ x ∧ m ≤ c := ⟨min x c, by omega, by omega, by omega⟩
/-- A new row of zeros, and its text. -/
theorem made_zeros (w : World) (n : Nat) (hn : n ≤ 1000000) : ∃ C, (Instr.makeSlice 33 (.int .i64 (n : Int)) (.int .i64 (n : Int))).run Tryd.prog w = .ok (.slice (some ⟨w.heap.size, 0, none⟩) n n) (w.alloc (.cells C 5)) ∧
    (convert 33 9 (.slice (some ⟨w.heap.size, 0, none⟩) n n)).run Tryd.prog (w.alloc (.cells C 5)) = .ok (.string (strOfNums (List.replicate n 0))) (w.alloc (.cells C 5)) := by
  have h := run_make_row' (P := Tryd.prog) 33 5 (.int .u8 0) 1 Tryd.underlying33 Tryd.info5 rfl .i64 .i64 n (by omega) (by omega) w
  refine ⟨_, h, ?_⟩
  refine run_convert_bytes_arg (P := Tryd.prog) _ 33 5 Tryd.underlying33 Tryd.underlying5 w.heap.size 0 n n (List.replicate n 0) (by simp) (fun i hi => ?_) 9 Tryd.underlying9
  have hb := Blk.new w 5 (madeCells #[.int .u8 0] n)
  rw [toList_madeCells_one] at hb
  rw [Nat.zero_add, hb.cell (v := .int .u8 0) (by simp [hi])]
  simp [hi]

set_option maxHeartbeats 1000000 in
set_option maxRecDepth 20000 in
theorem lengthsLaw_walk (s : ByteArray) (n0 : Int) (hs : s.size ≤ maxLen) (hn0 : (Lit.int .i64 n0).wf = true) (w : World) (ht : Tabs w) (hr : RTabs w) :
    Calls Tryd.prog 6 #[.string s, .int .i64 n0] w fun e w' => e = .returned (.bool true) ∧ Below w.heap.size w w' := by
  unfold maxLen at hs
  obtain ⟨m, hm, hm1, hm2⟩ := min_to s.size 600
  rw [show ((600 : Nat) : Int) = 600 from rfl] at hm
  have hm0 : (0 : Int) ≤ (m : Int) := by omega
  have hm3 : (m : Int) ≤ (s.size : Int) := by omega
  have h2 := ht.lt
  obtain ⟨n, hn, hn1⟩ : ∃ n : Nat, max 0 n0 % 500 = (n : Int) ∧ n < 500 := ⟨(max 0 n0 % 500).toNat, by omega, by omega⟩
  obtain ⟨C, hmk, hcv0⟩ := made_zeros w.drew 600 (by omega)
  rw [show ((600 : Nat) : Int) = 600 from rfl] at hmk
  have hcv : (convert 33 9 (.slice (some ⟨w.heap.size, 0, none⟩) 600 600)).run Tryd.prog (w.alloc (.cells C 5)).drew = .ok (.string (strOfNums (List.replicate 600 0))) (w.alloc (.cells C 5)).drew := hcv0
  clear hcv0
  obtain ⟨Z, hZ⟩ : ∃ Z, strOfNums (List.replicate 600 0) = Z := ⟨_, rfl⟩
  have hZs : Z.size = 600 := by rw [← hZ, strOfNums_size, List.length_replicate]
  rw [hZ] at hcv
  have hZs1 : Z.size ≤ 600 := by omega
  have HZS : Hid (Z.size = 600) := hZs
  have hAs : (s.extract 0 m).size ≤ 600 := by rw [ByteArray.size_extract]; omega
  obtain ⟨A, hA⟩ : ∃ A, s.extract 0 m = A := ⟨_, rfl⟩
  rw [hA] at hAs
  have hAZ : ¬ 9223372036854775807 < A.size + Z.size := by omega
  have hb0 : Below w.heap.size w (w.drew.alloc (.cells C 5)) := (Below.refl _ w).drew.alloc (by simp) _
  have ht0 := ht.below hb0 h2
  have hr0 := hr.below hb0 (by omega)
  clear hZ hZs
  go_enter Tryd.func6, Tryd.ntmps6
  go_wp2_with fail
  refine wp_region_noPanic ?_
  refine wp_region_held_drew (S := fun _ => True) (by kernel_rfl) trivial (fun hHeld => ?_)
  refine wpAnyH_take (i := 0) (v := ?_) rfl (by kernel_rfl) (by kernel_rfl) (by kernel_rfl) (fun _ _ _ h => h) (Or.inl ⟨by rfl, ?_⟩) (by assumption) ?_
  rotate_left
  · intro w hSw; go_simp; try with_reducible rfl
  go_simp
  refine wpAnyH_take (i := 1) (v := ?_) rfl (by kernel_rfl) (by kernel_rfl) (by kernel_rfl) (fun _ _ _ h => h) (Or.inl ⟨by rfl, ?_⟩) (by assumption) ?_
  rotate_left
  · intro w hSw; go_simp; try with_reducible rfl
  go_simp
  refine wpAnyH_take (i := 2) (v := ?_) rfl (by kernel_rfl) (by kernel_rfl) (by kernel_rfl) (fun _ _ _ h => h) (Or.inl ⟨by rfl, ?_⟩) (by assumption) ?_
  rotate_left
  · intro w hSw; go_simp; try with_reducible rfl
  go_simp
  refine wpAnyH_take (i := 3) (v := ?_) rfl (by kernel_rfl) (by kernel_rfl) (by kernel_rfl) (fun _ _ _ h => h) (Or.inl ⟨by rfl, ?_⟩) (by assumption) ?_
  rotate_left
  · intro w hSw; go_simp; try with_reducible rfl
  go_simp
  refine wpAnyH_take (i := 4) (v := ?_) rfl (by kernel_rfl) (by kernel_rfl) (by kernel_rfl) (fun _ _ _ h => h) (Or.inl ⟨by rfl, ?_⟩) (by assumption) ?_
  rotate_left
  · intro w hSw; go_simp; try with_reducible rfl
  go_simp
  refine wpAnyH_ready (rs := [5]) (by kernel_rfl) (by simp) (AllReadyH.cons rfl (fun K hK => ?_) AllReadyH.nil)
  go_simp
  refine hK.out _ _ trivial (fun hHeld => ?_)
  clear hK K
  refine wpAnyH_ready (rs := [6]) (by kernel_rfl) (by simp) (AllReadyH.cons rfl (fun K hK => ?_) AllReadyH.nil)
  go_simp
  refine hK.out _ _ trivial (fun hHeld => ?_)
  clear hK K
  refine wpAnyH_take (i := 7) (v := ?_) rfl (by kernel_rfl) (by kernel_rfl) (by kernel_rfl) (fun _ _ _ h => h) (Or.inl ⟨by rfl, ?_⟩) (by assumption) ?_
  rotate_left
  · intro w hSw; go_simp; try with_reducible rfl
  go_simp
  refine wpAnyH_take (i := 8) (v := ?_) rfl (by kernel_rfl) (by kernel_rfl) (by kernel_rfl) (fun _ _ _ h => h) (Or.inl ⟨by rfl, ?_⟩) (by assumption) ?_
  rotate_left
  · intro w hSw; go_simp; try with_reducible rfl
  go_simp
  refine wpAnyH_done (by kernel_rfl) ?_ _
  refine NoPanic.normal ?_
  have ht1 : Tabs (w.alloc (.cells C 5)).drew := ht0
  have hr1 : RTabs (w.alloc (.cells C 5)).drew := hr0
  have hb1 : Below w.heap.size w (w.alloc (.cells C 5)).drew := hb0
  clear ht0 hr0 hb0 hmk hcv hm hm1 hm2 hm0 hm3 hA hs ht hr
  generalize (w.alloc (.cells C 5)).drew = w1 at ht1 hr1 hb1 ⊢
  obtain ⟨X, hX⟩ : ∃ X, A ++ Z = X := ⟨_, rfl⟩
  have hXs : 600 ≤ X.size := by rw [← hX, ByteArray.size_append, HZS.out]; omega
  have hXs2 : X.size ≤ 1200 := by rw [← hX, ByteArray.size_append]; omega
  rw [hX]
  clear hX
  go_wp2_with fail
  go_loopw [18] (fun i wr => ∃ k : Nat, k ≤ 12 ∧ i = .int .i64 k ∧ Tabs wr ∧ RTabs wr ∧ Below w.heap.size w wr) (fun i _ => (12 - intOf i).toNat)
  case atStart => exact ⟨0, by omega, rfl, ht1, hr1, hb1⟩
  case round =>
    clear ht1 hr1 hb1
    obtain ⟨k, hk, rfl, ht, hr, hb⟩ := hrel
    by_cases hlt : k < 12
    · have hlt' : (k : Int) < 12 := by omega
      have t0 : ((n : Int) + (k : Int)).toNat = n + k := by omega
      have p0 : (0 : Int) ≤ (n : Int) + (k : Int) := by omega
      have p1 : (n : Int) + (k : Int) ≤ (X.size : Int) := by omega
      obtain ⟨q, hq⟩ : ∃ q, X.extract 0 (n + k) = q := ⟨_, rfl⟩
      have hqs : q.size ≤ 1200 := by rw [← hq, ByteArray.size_extract]; omega
      have hD := digest_size q
      obtain ⟨D, hDe⟩ : ∃ D, digest q = D := ⟨_, rfl⟩
      have c1 := shaSum_any q (by omega) wr ht
      rw [hDe] at hD c1
      have HDE : Hid (digest q = D) := hDe
      clear hDe
      go_wp2_with fail
      refine c1.mono ?_
      rintro e w2 ⟨rfl, hb2⟩
      have ht2 := ht.below hb2 ht.lt
      have hr2 := hr.below hb2 hr.lt
      have hb3 := hb.trans (hb2.mono hb.size)
      have c2 := refSum_any q (by omega) w2 hr2
      rw [HDE.out] at c2
      clear c1 ht hr hb hb2
      go_wp2_with fail
      refine c2.mono ?_
      rintro e w3 ⟨rfl, hb4⟩
      have ht4 := ht2.below hb4 ht2.lt
      have hr4 := hr2.below hb4 hr2.lt
      have hb5 := hb3.trans (hb4.mono hb3.size)
      clear c2 ht2 hr2 hb3 hb4
      go_wp2_with fail
      go_roundw
      case rel => exact ⟨k + 1, by omega, by go_num, ht4, hr4, hb5⟩
      case measure => simp [intOf]; omega
    · have hk12 : k = 12 := by omega
      subst hk12
      go_wp2_with (go_at_call 8; refine (wakes_any _ ht).mono ?_; rintro e w2 ⟨rfl, hb2⟩)
      go_ret
      exact ⟨rfl, hb.trans (hb2.mono hb.size)⟩
end Go.Proofs.YtbcjidoddhppiaaDoor
