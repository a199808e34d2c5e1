/- The schedule that the program makes of a block. -/
import Derived.Test.YtegebaomhbogmaaDoorRound
import Derived.Deep.MidRow
namespace Go.Proofs.YtegebaomhbogmaaDoor
open Go.RowKit Go.PlainAid
set_option linter.unusedVariables false

theorem Tryd.zero112 : (Tryd.prog.info? 112).map (fun i => i.zero) = some (some (.agg (ws 64 (fun _ => 0)).toArray)) := by kernel_rfl
theorem zero112_run (w : World) : (zeroValue 112).run Tryd.prog w = .ok (.agg (ws 64 (fun _ => 0)).toArray) w := by
  obtain ⟨i, hi, hz⟩ := Option.map_eq_some_iff.1 Tryd.zero112
  simp [zeroValue, typeInfo, hi, hz]
theorem Tryd.size112 : (Tryd.prog.info? 112).map (·.size) = some 64 := by kernel_rfl
theorem Tryd.size95 : (Tryd.prog.info? 95).map (·.size) = some 8 := by kernel_rfl
theorem load112 {w : World} {g : Nat} {T : TypeId} {S : Nat → Int} (h : Blk w g T (ws 64 S)) : (loadVar 112 ⟨g, 0, none⟩).run Tryd.prog w = .ok (.agg (ws 64 S).toArray) w :=
  run_loadVar_row w g T 112 _ (0, 0) _ h Tryd.underlying112 rfl (by rw [Tryd.size112]; simp [ws_length])
theorem load95 {w : World} {g : Nat} {T : TypeId} {S : Nat → Int} (h : Blk w g T (ws 8 S)) : (loadVar 95 ⟨g, 0, none⟩).run Tryd.prog w = .ok (.agg (ws 8 S).toArray) w :=
  run_loadVar_row w g T 95 _ (0, 0) _ h Tryd.underlying95 rfl (by rw [Tryd.size95]; simp [ws_length])
theorem loadAt_of {t : TypeId} {g : Nat} {w : World} {v : Value} (h : (loadVar t ⟨g, 0, none⟩).run Tryd.prog w = .ok v w) : (Instr.loadAt t (.pointer (some ⟨g, 0, none⟩))).run Tryd.prog w = .ok v w := by
  simp only [Instr.loadAt, Instr.sureAddr, Sem.run_bind, Sem.run_pure, Result.andThen_ok, h]
theorem store112 {w : World} {g : Nat} {T : TypeId} {R S : Nat → Int} (h : Blk w g T (ws 64 R)) : (Instr.storeAt 112 (.pointer (some ⟨g, 0, none⟩)) (.agg (ws 64 S).toArray)).run Tryd.prog w = .ok () (w.setRow g (ws 64 S).toArray) := by
  have := run_storeVar_row (P := Tryd.prog) w g T 112 _ (ws 64 S).toArray h (by rw [Tryd.size112]; simp [ws_length]) (by simp [ws_length]) (all_oneCell_toArray (ws_one 64 S))
  simp only [Instr.storeAt, Instr.sureAddr, Sem.run_bind, Sem.run_pure, Result.andThen_ok, this]
theorem store95 {w : World} {g : Nat} {T : TypeId} {R S : Nat → Int} (h : Blk w g T (ws 8 R)) : (Instr.storeAt 95 (.pointer (some ⟨g, 0, none⟩)) (.agg (ws 8 S).toArray)).run Tryd.prog w = .ok () (w.setRow g (ws 8 S).toArray) := by
  have := run_storeVar_row (P := Tryd.prog) w g T 95 _ (ws 8 S).toArray h (by rw [Tryd.size95]; simp [ws_length]) (by simp [ws_length]) (all_oneCell_toArray (ws_one 8 S))
  simp only [Instr.storeAt, Instr.sureAddr, Sem.run_bind, Sem.run_pure, Result.andThen_ok, this]
/-- The words behind k rounds. -/
def A64 (f : Nat → Int) (k : Nat) : List Value := ws 64 (fun i => if i < k then Wt f i else 0)
theorem A64_at (f : Nat → Int) (k i : Nat) (h : i < k) (h64 : i < 64) : (A64 f k)[i]? = some (.int .u32 (Wt f i)) := by
  unfold A64; rw [ws_at 64 _ i h64, if_pos h]
theorem A64_set (f : Nat → Int) (k : Nat) : (A64 f k).set k (.int .u32 (Wt f k)) = A64 f (k + 1) := by
  unfold A64
  rw [ws_set]
  apply ws_congr
  intro i _
  by_cases h : i = k
  · subst h; rw [if_pos rfl, if_pos (by omega)]
  · rw [if_neg h]
    by_cases h2 : i < k
    · rw [if_pos h2, if_pos (by omega)]
    · rw [if_neg h2, if_neg (by omega)]
theorem A64_full (f : Nat → Int) : A64 f 64 = ws 64 (Wt f) := by
  unfold A64
  apply ws_congr
  intro i hi
  rw [if_pos hi]
theorem A64_first (f : Nat → Int) : List.take 0 (ws 64 (fun _ => 0)) ++ (ws 16 f ++ List.drop (0 + 16) (ws 64 (fun _ => 0))) = A64 f 16 := by
  apply List.ext_getElem
  · simp [A64, ws_length]
  · intro j h1 h2
    simp only [A64, ws_length] at h2
    simp only [List.take_zero, List.nil_append]
    rw [List.getElem_append]
    simp only [ws_length, A64]
    split
    · rename_i h
      simp only [ws, List.getElem_map, List.getElem_range]
      rw [if_pos h, Wt_first f j h]
    · rename_i h
      simp only [ws, List.getElem_drop, List.getElem_map, List.getElem_range]
      rw [if_neg h]

set_option maxHeartbeats 1000000 in
set_option maxRecDepth 20000 in
theorem sched_any (b : ByteArray) (hb : b.size = 64) (w : World) :
    Calls Tryd.prog 68 #[.string b] w fun e w' => e = .returned (.agg (ws 64 (Wt (wordsL be4 b))).toArray) ∧ Below w.heap.size w w' := by
  have hzr := zero112_run
  obtain ⟨Z, hZ⟩ : ∃ Z, (ws 64 (fun _ => 0)).toArray = Z := ⟨_, rfl⟩
  rw [hZ] at hzr
  have HZ : Hid ((ws 64 (fun _ => 0)).toArray = Z) := hZ
  clear hZ
  go_enter Tryd.func68, Tryd.ntmps68
  go_wp2_with fail
  have hA0 : Blk ((w.alloc (.cells Z 112)).alloc (.cells Z 112)) w.heap.size 112 (ws 64 (fun _ => 0)) := by
    rw [← HZ.out]; exact (Blk.new w 112 _).alloc _
  have hB0 : Blk ((w.alloc (.cells Z 112)).alloc (.cells Z 112)) (w.heap.size + 1) 112 (ws 64 (fun _ => 0)) := by
    rw [← HZ.out]
    have := Blk.new (w.alloc (.cells (ws 64 (fun _ => 0)).toArray 112)) 112 (ws 64 (fun _ => 0)).toArray
    simpa using this
  have hl0 : Below w.heap.size w ((w.alloc (.cells Z 112)).alloc (.cells Z 112)) := ((Below.refl _ w).alloc (Nat.le_refl _) _).alloc (by simp) _
  clear hzr HZ
  generalize (w.alloc (.cells Z 112)).alloc (.cells Z 112) = w0 at hA0 hB0 hl0 ⊢
  have hBig := big_even b w0 (by omega) (by omega)
  rw [hb] at hBig
  obtain ⟨g, hgd⟩ : ∃ g, w.heap.size = g := ⟨_, rfl⟩
  rw [hgd] at hA0 hB0 hl0 ⊢
  have HG : Hid (w.heap.size = g) := hgd
  clear hgd
  refine hBig.mono ?_
  rintro e w1 ⟨rfl, hrow, hbel⟩
  clear hBig
  have hA1 := hA0.below hbel hA0.lt
  have hB1 := hB0.below hbel hB0.lt
  have hl1 : Below g w w1 := hl0.trans (hbel.mono (Nat.le_of_lt hA0.lt))
  obtain ⟨F, hF⟩ : ∃ F, ws 16 (wordsL be4 b) = F := ⟨_, rfl⟩
  have hFl : F.length = 16 := by rw [← hF, ws_length]
  have hFo : ∀ v ∈ F, v.oneCell' = true := by rw [← hF]; exact ws_one _ _
  have hsrc : ∀ (j : Nat) v, F[j]? = some v → w1.cell? ((⟨w0.heap.size, 0, none⟩ : Addr).add j) = some v := by
    intro j v hj
    rw [Addr.add_mid, Nat.zero_add]
    have hj16 : j < 16 := by
      rcases Nat.lt_or_ge j 16 with h | h
      · exact h
      · rw [List.getElem?_eq_none (by rw [hFl]; exact h)] at hj; cases hj
    rw [World.ownsRow.cellAt hrow j (by omega), ← hj, ← hF]
    rfl
  have HF : Hid (ws 16 (wordsL be4 b) = F) := hF
  clear hF hrow hbel hA0 hB0 hl0
  have hrun := run_copy_row Tryd.prog w1 75 75 3 73 (g + 1) 0 64 64 ⟨w0.heap.size, 0, none⟩ 16 16 (ws 64 (fun _ => 0)).toArray 112 F Tryd.underlying75 Tryd.size73 hB1 (by rw [hFl]; rfl) hsrc (by rw [hFl]; simp [ws_length]) hFo
  have e16 := A64_first (wordsL be4 b)
  rw [HF.out] at e16
  rw [hFl, List.toList_toArray, List.append_assoc, e16] at hrun
  go_wp2_with fail
  clear hrun
  have hB2 : Blk (w1.setRow (g + 1) (A64 (wordsL be4 b) 16).toArray) (g + 1) 112 (A64 (wordsL be4 b) 16) := hB1.setRow
  have hA2 : Blk (w1.setRow (g + 1) (A64 (wordsL be4 b) 16).toArray) g 112 (ws 64 (fun _ => 0)) := hA1.setRowOther (by omega) _
  have hl2 : Below g w (w1.setRow (g + 1) (A64 (wordsL be4 b) 16).toArray) := below_setRow hl1 (by omega) _
  generalize w1.setRow (g + 1) (A64 (wordsL be4 b) 16).toArray = w2 at hB2 hA2 hl2 ⊢
  clear hsrc hFl hFo HF hA1 hB1 hl1 e16
  have hw := words_lo b
  obtain ⟨f, hf⟩ : ∃ f, wordsL be4 b = f := ⟨_, rfl⟩
  rw [hf] at hB2
  have HF : Hid (wordsL be4 b = f) := hf
  have hfl : ∀ i, i < 16 → 0 ≤ f i ∧ f i < 4294967296 := by rw [← hf]; exact fun i _ => words_lo b i
  clear hf hw
  go_loopw [6] (fun i wr => ∃ k : Nat, 16 ≤ k ∧ k ≤ 64 ∧ i = .int .i64 k ∧ Blk wr (g + 1) 112 (A64 f k) ∧ Blk wr g 112 (ws 64 (fun _ => 0)) ∧ Below g w wr) (fun i _ => (64 - intOf i).toNat)
  case atStart => exact ⟨16, by omega, by omega, rfl, hB2, hA2, hl2⟩
  case round =>
    clear hB2 hA2 hl2
    obtain ⟨k, hk16, hk, rfl, hB, hA, hl⟩ := hrel
    by_cases hlt : k < 64
    · have hlt' : (k : Int) < 64 := by omega
      have c2 := hB.cell (A64_at f k (k - 2) (by omega) (by omega))
      have c15 := hB.cell (A64_at f k (k - 15) (by omega) (by omega))
      have p2 : (0 : Int) ≤ (k : Int) - 2 := by omega
      have p15 : (0 : Int) ≤ (k : Int) - 15 := by omega
      have q2 : (k : Int) - 2 < 64 := by omega
      have q15 : (k : Int) - 15 < 64 := by omega
      have t2 : ((k : Int) - 2).toNat = k - 2 := by omega
      have t15 : ((k : Int) - 15).toNat = k - 15 := by omega
      go_wp2_with fail
      go_quiet (fail)
      have hB3 : Blk (wr.drewN nq) (g + 1) 112 (A64 f k) := hB
      have hA3 : Blk (wr.drewN nq) g 112 (ws 64 (fun _ => 0)) := hA
      have hl3 : Below g w (wr.drewN nq) := ⟨hl.os, hl.tape, hl.output, hl.size, hl.block⟩
      clear hB hA hl c2 c15 p2 p15 q2 q15 t2 t15
      generalize wr.drewN nq = w3 at hB3 hA3 hl3 ⊢
      obtain ⟨n0, n1⟩ := Wt_lo f hfl (k - 2)
      obtain ⟨m0, m1⟩ := Wt_lo f hfl (k - 15)
      obtain ⟨x2, hx2⟩ : ∃ x2, Wt f (k - 2) = x2 := ⟨_, rfl⟩
      obtain ⟨x15, hx15⟩ : ∃ x15, Wt f (k - 15) = x15 := ⟨_, rfl⟩
      rw [hx2] at n0 n1 ⊢
      rw [hx15] at m0 m1 ⊢
      have HX2 : Hid (Wt f (k - 2) = x2) := hx2
      have HX15 : Hid (Wt f (k - 15) = x15) := hx15
      clear hx2 hx15
      go_wp2_with (first | (go_at_call_of 71 (Value.int .u32 x2); refine (right_any _ _ n0 n1 _).mono ?_; rintro e w' ⟨rfl, hw'⟩; rw [hw']; clear hw') | (go_at_call_of 71 (Value.int .u32 x15); refine (right_any _ _ m0 m1 _).mono ?_; rintro e w' ⟨rfl, hw'⟩; rw [hw']; clear hw'))
      rw [show bits .xor .u32 (bits .xor .u32 (turn 15 x2) (turn 13 x2)) (x2 / 1024) = sg1 x2 from rfl, show bits .xor .u32 (bits .xor .u32 (turn 25 x15) (turn 14 x15)) (x15 / 8) = sg0 x15 from rfl]
      have c7 := hB3.cell (A64_at f k (k - 7) (by omega) (by omega))
      have c16 := hB3.cell (A64_at f k (k - 16) (by omega) (by omega))
      have f0 := hB3.frozen k
      have ck : w3.cell? ⟨g + 1, k, none⟩ = some (.int .u32 0) := by
        refine hB3.cell ?_
        unfold A64; rw [ws_at 64 _ k hlt, if_neg (by omega)]
      have hV : Wt f k = IntKind.u32.wrap (IntKind.u32.wrap (IntKind.u32.wrap (sg1 x2 + Wt f (k - 7)) + sg0 x15) + Wt f (k - 16)) := by
        rw [Wt_step f k hk16, HX2.out, HX15.out, IntKind.wrap_u32', IntKind.wrap_u32', IntKind.wrap_u32']
      obtain ⟨x7, hx7⟩ : ∃ x7, Wt f (k - 7) = x7 := ⟨_, rfl⟩
      obtain ⟨x16, hx16⟩ : ∃ x16, Wt f (k - 16) = x16 := ⟨_, rfl⟩
      have hB4 : Blk (w3.drew.setCell ⟨g + 1, k, none⟩ (.int .u32 (Wt f k))) (g + 1) 112 (A64 f (k + 1)) := by
        rw [← A64_set]; exact hB3.drew.setCell k _
      have hA4 : Blk (w3.drew.setCell ⟨g + 1, k, none⟩ (.int .u32 (Wt f k))) g 112 (ws 64 (fun _ => 0)) := hA3.drew.setOther (by omega) k _
      have hl4 : Below g w (w3.drew.setCell ⟨g + 1, k, none⟩ (.int .u32 (Wt f k))) := hl3.drew.setCell (by show g ≤ g + 1; omega) _
      have e7 := hB4.cell (A64_at f (k + 1) (k - 7) (by omega) (by omega))
      have e16 := hB4.cell (A64_at f (k + 1) (k - 16) (by omega) (by omega))
      rw [hx7] at c7 e7 hV
      rw [hx16] at c16 e16 hV
      have HV : Hid (Wt f k = IntKind.u32.wrap (IntKind.u32.wrap (IntKind.u32.wrap (sg1 x2 + x7) + sg0 x15) + x16)) := hV
      rw [hV] at e7 e16
      clear hV hx7 hx16 hB3 hA3 hl3
      have s7 : (7 : Int) ≤ (k : Int) := by omega
      have s16 : (16 : Int) ≤ (k : Int) := by omega
      have p7 : (0 : Int) ≤ (k : Int) - 7 := by omega
      have p16 : (0 : Int) ≤ (k : Int) - 16 := by omega
      have q7 : (k : Int) - 7 < 64 := by omega
      have q16 : (k : Int) - 16 < 64 := by omega
      have t7 : ((k : Int) - 7).toNat = k - 7 := by omega
      have t16 : ((k : Int) - 16).toNat = k - 16 := by omega
      have z7 : IntKind.i64.wrap ((k : Int) - 7) = (k : Int) - 7 := IntWalk.i64_in _ ⟨by omega, by omega⟩
      have z16 : IntKind.i64.wrap ((k : Int) - 16) = (k : Int) - 16 := IntWalk.i64_in _ ⟨by omega, by omega⟩
      go_wp2_with fail
      refine wp_region_noPanic ?_
      refine wp_region_held_drew (S := fun z => z.cell? ⟨g + 1, k - 7, none⟩ = some (.int .u32 x7) ∧ z.cell? ⟨g + 1, k - 16, none⟩ = some (.int .u32 x16)) (by kernel_rfl) ⟨c7, c16⟩ (fun hHeld => ?_)
      refine wpAnyH_take (i := 0) (v := ?_) rfl (by kernel_rfl) (by kernel_rfl) (by kernel_rfl) (fun _ _ _ h => h) (Or.inl ⟨by rfl, ?_⟩) (by assumption) ?_
      rotate_left
      · intro w hSw; go_simp; try with_reducible rfl
      go_simp
      refine wpAnyH_take (i := 1) (v := ?_) rfl (by kernel_rfl) (by kernel_rfl) (by kernel_rfl) (fun _ _ _ h => h) (Or.inl ⟨by rfl, ?_⟩) (by assumption) ?_
      rotate_left
      · intro w hSw; go_simp; try with_reducible rfl
      go_simp
      refine wpAnyH_take (i := 2) (v := ?_) rfl (by kernel_rfl) (by kernel_rfl) (by kernel_rfl) (fun _ _ _ h => h) (Or.inl ⟨by rfl, ?_⟩) (by assumption) ?_
      rotate_left
      · intro w hSw; go_simp; try with_reducible rfl
      go_simp
      refine wpAnyH_take (i := 3) (v := ?_) rfl (by kernel_rfl) (by kernel_rfl) (by kernel_rfl) (fun _ _ _ h => h) (Or.inl ⟨by rfl, ?_⟩) (by assumption) ?_
      rotate_left
      · intro w hSw; go_simp; try with_reducible rfl
      go_simp
      refine wpAnyH_take (i := 4) (v := ?_) rfl (by kernel_rfl) (by kernel_rfl) (by kernel_rfl) (fun _ _ _ h => h) (Or.inl ⟨by rfl, ?_⟩) (by assumption) ?_
      rotate_left
      · intro w hSw; go_simp; try with_reducible rfl
      go_simp
      refine wpAnyH_take (i := 5) (v := ?_) rfl (by kernel_rfl) (by kernel_rfl) (by kernel_rfl) (fun _ _ _ h => h) (Or.inl ⟨by rfl, ?_⟩) (by assumption) ?_
      rotate_left
      · intro w hSw; go_simp; try with_reducible rfl
      go_simp
      refine wpAnyH_take (i := 6) (v := ?_) rfl (by kernel_rfl) (by kernel_rfl) (by kernel_rfl) (fun _ _ _ h => h) (Or.inl ⟨by rfl, ?_⟩) (by assumption) ?_
      rotate_left
      · intro w hSw; go_simp; try with_reducible rfl
      go_simp
      refine wpAnyH_take (i := 7) (v := ?_) rfl (by kernel_rfl) (by kernel_rfl) (by kernel_rfl) (fun _ _ _ h => h) (Or.inl ⟨by rfl, ?_⟩) (by assumption) ?_
      rotate_left
      · intro w hSw; go_simp; try with_reducible rfl
      go_simp
      refine wpAnyH_take (i := 8) (v := ?_) rfl (by kernel_rfl) (by kernel_rfl) (by kernel_rfl) (fun _ _ _ h => h) (Or.inl ⟨by rfl, ?_⟩) (by assumption) ?_
      rotate_left
      · intro w hSw; go_simp; try with_reducible rfl
      go_simp
      refine wpAnyH_take (i := 9) (v := ?_) rfl (by kernel_rfl) (by kernel_rfl) (by kernel_rfl) (fun _ _ _ h => h) (Or.inl ⟨by rfl, ?_⟩) (by assumption) ?_
      rotate_left
      · intro w hSw; go_simp; try with_reducible rfl
      go_simp
      refine wpAnyH_take (i := 10) (v := ?_) rfl (by kernel_rfl) (by kernel_rfl) (by kernel_rfl) (fun _ _ _ h => h) (Or.inl ⟨by rfl, ?_⟩) (by assumption) ?_
      rotate_left
      · intro w hSw; go_simp; try with_reducible rfl
      go_simp
      refine wpAnyH_take (i := 11) (v := ?_) rfl (by kernel_rfl) (by kernel_rfl) (by kernel_rfl) (fun _ _ _ h => h) (Or.inl ⟨by rfl, ?_⟩) (by assumption) ?_
      rotate_left
      · intro w hSw; go_simp; try with_reducible rfl
      go_simp
      refine wpAnyH_take (i := 12) (v := ?_) rfl (by kernel_rfl) (by kernel_rfl) (by kernel_rfl) (fun _ _ _ h => h) (Or.inl ⟨by rfl, ?_⟩) (by assumption) ?_
      rotate_left
      · intro w hSw; go_simp; try with_reducible rfl
      go_simp
      refine wpAnyH_take (i := 13) (v := ?_) rfl (by kernel_rfl) (by kernel_rfl) (by kernel_rfl) (fun _ _ _ h => h) (Or.inl ⟨by rfl, ?_⟩) (by assumption) ?_
      rotate_left
      · intro w hSw; go_simp; try with_reducible rfl
      go_simp
      refine wpAnyH_take (i := 14) (v := ?_) rfl (by kernel_rfl) (by kernel_rfl) (by kernel_rfl) (fun _ _ _ h => h) (Or.inl ⟨by rfl, ?_⟩) (by assumption) ?_
      rotate_left
      · intro w hSw; go_simp; try with_reducible rfl
      go_simp
      refine wpAnyH_ready (rs := [15]) (by kernel_rfl) (by simp) (AllReadyH.cons rfl (fun K hK => ?_) AllReadyH.nil)
      go_simp
      refine hK.out _ _ ⟨e7, e16⟩ (fun hHeld => ?_)
      clear hK K
      refine wpAnyH_done (by kernel_rfl) ?_ _
      refine NoPanic.normal ?_
      rw [← HV.out]
      have hB5 : Blk (w3.setCell ⟨g + 1, k, none⟩ (.int .u32 (Wt f k))).drew (g + 1) 112 (A64 f (k + 1)) := hB4
      have hA5 : Blk (w3.setCell ⟨g + 1, k, none⟩ (.int .u32 (Wt f k))).drew g 112 (ws 64 (fun _ => 0)) := hA4
      have hl5 : Below g w (w3.setCell ⟨g + 1, k, none⟩ (.int .u32 (Wt f k))).drew := hl4
      clear hB4 hA4 hl4 e7 e16 c7 c16 ck f0 HV
      generalize (w3.setCell ⟨g + 1, k, none⟩ (.int .u32 (Wt f k))).drew = w4 at hB5 hA5 hl5 ⊢
      go_wp2_with fail
      go_roundw
      case rel => exact ⟨k + 1, by omega, by omega, by go_num, hB5, hA5, hl5⟩
      case measure => simp [intOf]; omega
    · have hk64 : k = 64 := by omega
      subst hk64
      rw [A64_full, ← HF.out] at hB
      have hA' : Blk (wr.setRow g (ws 64 (Wt (wordsL be4 b))).toArray) g 112 (ws 64 (Wt (wordsL be4 b))) := hA.setRow
      have hR := load112 hA'
      have hl' : Below g w (wr.setRow g (ws 64 (Wt (wordsL be4 b))).toArray) := below_setRow hl (Nat.le_refl _) _
      obtain ⟨Y, hY⟩ : ∃ Y, ws 64 (Wt (wordsL be4 b)) = Y := ⟨_, rfl⟩
      have hYl : Y.length = 64 := by rw [← hY, ws_length]
      have hYo : ∀ v ∈ Y, v.oneCell' = true := by rw [← hY]; exact ws_one _ _
      rw [hY] at hB hR hl'
      have HY : Hid (ws 64 (Wt (wordsL be4 b)) = Y) := hY
      clear hA' hl HF hY
      go_wp2_with (first | (refine wpList_load_blk rfl 112 _ rfl (g + 1) rfl 112 Y _ hB Tryd.underlying112 rfl (by rw [Tryd.size112, hYl]) ?_) | (refine wpList_store_blk rfl 112 _ _ rfl g _ Y rfl rfl 112 hA (by rw [Tryd.size112, hYl]) (by rw [ws_length, hYl]) hYo ?_))
      refine bodyPost_ret_by (v := .agg Y.toArray) (results_cell 2 112 ⟨g, 0, none⟩ Tryd.results68 rfl hR) rfl ⟨by rw [HY.out], ?_⟩
      rw [HG.out]; exact hl'
end Go.Proofs.YtegebaomhbogmaaDoor
