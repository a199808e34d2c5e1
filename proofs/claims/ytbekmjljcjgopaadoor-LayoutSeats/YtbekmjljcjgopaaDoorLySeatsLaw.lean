/- LayoutSeats: its walk. -/
import Derived.Test.YtbekmjljcjgopaaDoorLyAls
namespace Go.Proofs.YtbekmjljcjgopaaDoor
open Go.RowKit Go.PlainAid
set_option linter.unusedVariables false
set_option maxRecDepth 20000

set_option maxHeartbeats 4000000 in
theorem layoutSeats_law (D S M : Int) (G : Bool) (t c : Int) (w : World) (hD1 : D ≤ 9223372036854775807) (hM1 : M ≤ 9223372036854775807) (ht : Tabs w) : Calls Tryd.prog 5 #[.agg #[.int .i64 D, .int .i64 S, .int .i64 M, .bool G], .int .i64 t, .int .i64 c] w fun e w' => e = .returned (.bool true) ∧ Below w.heap.size w w' := by
  have X0 : Hid (Bx w (w.alloc (.cells #[.int .i64 D, .int .i64 S, .int .i64 M, .bool G] 23)).drew w.heap.size 23 (lyL D S M G)) := (Bx.box w ht 23 (lyL D S M G)).next (Below.refl _ _).drew
  have q0 : Hid (∀ z, Calls Tryd.prog 15 #[.agg #[.int .i64 D, .int .i64 S, .int .i64 M, .bool G]] z fun e w' => e = .returned (.agg #[.int .i64 (goD D), .int .i64 (goS S), .int .i64 (goM S M G), .bool G]) ∧ Below z.heap.size z w') := fun z => good18_any z hD1 hM1
  have qw : Hid (∀ z, Tabs z → Calls Tryd.prog 10 #[] z fun e w' => e = .returned (.bool true) ∧ Below z.heap.size z w') := fun z hz => wakes18_any z hz
  have HSZ : Hid ((Tryd.prog.info? 24).map (·.size) = some 4) := Tryd.size24
  have qa : Hid (∀ z, Tabs z → ∀ (D S M : Int) (G : Bool) (t c : Int), Calls Tryd.prog 18 #[.agg #[.int .i64 D, .int .i64 S, .int .i64 M, .bool G], .int .i64 t, .int .i64 c] z fun e w' => e = .returned (.tuple #[.int .i64 (seV D S M G t c), .int .i64 (seE D S M G t c)]) ∧ Below z.heap.size z w') := fun z hz D S M G t c => seat_any z hz t c
  have qb : Hid (∀ z, Tabs z → ∀ (D S M : Int) (G : Bool) (t c : Int), Calls Tryd.prog 19 #[.agg #[.int .i64 D, .int .i64 S, .int .i64 M, .bool G], .int .i64 t, .int .i64 c] z fun e w' => e = .returned (.tuple #[.int .i64 (seV D S M G t c), .int .i64 (seE D S M G t c)]) ∧ Below z.heap.size z w') := fun z hz D S M G t c => rseat_any z hz t c
  have qc : Hid (∀ z, Tabs z → ∀ (D S M : Int) (G : Bool) (t c : Int), Calls Tryd.prog 20 #[.agg #[.int .i64 D, .int .i64 S, .int .i64 M, .bool G], .int .i64 t, .int .i64 c] z fun e w' => e = .returned (.tuple #[.int .i64 (ckV D S M G t c), .bool (ckB D S M G t c)]) ∧ Below z.heap.size z w') := fun z hz D S M G t c => chunk_any z hz t c
  have qd : Hid (∀ z, Tabs z → ∀ (D S M : Int) (G : Bool) (t c : Int), Calls Tryd.prog 21 #[.agg #[.int .i64 D, .int .i64 S, .int .i64 M, .bool G], .int .i64 t, .int .i64 c] z fun e w' => e = .returned (.tuple #[.int .i64 (ckV D S M G t c), .bool (ckB D S M G t c)]) ∧ Below z.heap.size z w') := fun z hz D S M G t c => rchunk_any z hz t c
  have HS2 : Hid ((Tryd.prog.info? 40).map (·.size) = some 2) := (by kernel_rfl : (Tryd.prog.info? 40).map (·.size) = some 2)
  clear ht hD1 hM1
  go_enter Tryd.func5, Tryd.ntmps5
  go_upto_region 1 with fail
  generalize goD D = D2 at *
  generalize goS S = S2 at *
  generalize goM S M G = M2 at *
  refine wp_region_noPanic ?_
  refine wp_region_held_drew (S := fun z : World => z.cell? ⟨w.heap.size, 0, none⟩ = some (.int .i64 D) ∧ z.cell? ⟨w.heap.size, 1, none⟩ = some (.int .i64 S) ∧ z.cell? ⟨w.heap.size, 2, none⟩ = some (.int .i64 M) ∧ z.cell? ⟨w.heap.size, 3, none⟩ = some (.bool G)) (by kernel_rfl) X0.out.cells (fun hHeld => ?_)
  refine wpAnyH_take (i := 0) (v := ?_) rfl (by kernel_rfl) (by kernel_rfl) (by kernel_rfl) (fun _ _ _ h => h) (Or.inl ⟨by rfl, ?_⟩) (by assumption) ?_
  rotate_left
  · intro w hSw; go_simp; try with_reducible rfl
  go_simp
  refine wpAnyH_take (i := 1) (v := ?_) rfl (by kernel_rfl) (by kernel_rfl) (by kernel_rfl) (fun _ _ _ h => h) (Or.inl ⟨by rfl, ?_⟩) (by assumption) ?_
  rotate_left
  · intro w hSw; go_simp; try with_reducible rfl
  go_simp
  refine wpAnyH_take (i := 5) (v := ?_) rfl (by kernel_rfl) (by kernel_rfl) (by kernel_rfl) (fun _ _ _ h => h) (Or.inl ⟨by rfl, ?_⟩) (by assumption) ?_
  rotate_left
  · intro w hSw; go_simp; try with_reducible rfl
  go_simp
  refine wpAnyH_ready (rs := [2]) (by kernel_rfl) (by simp) (AllReadyH.cons rfl (fun K hK => ?_) AllReadyH.nil)
  go_simp
  go_at_call 15
  refine (q0.out _).mono ?_
  rintro x w1 ⟨rfl, h1⟩
  have X1 : Hid (Bx w w1 w.heap.size 23 (lyL D S M G)) := X0.out.next h1
  clear h1 X0
  refine hK.out _ _ X1.out.cells (fun hHeld => ?_)
  clear hK K
  have X2 : Hid (Als w (w1.alloc (.cells #[.int .i64 D, .int .i64 S, .int .i64 M, .bool G, .int .i64 D2, .int .i64 S2, .int .i64 M2, .bool G] 24)) [(w1.heap.size, 24, [.int .i64 D, .int .i64 S, .int .i64 M, .bool G, .int .i64 D2, .int .i64 S2, .int .i64 M2, .bool G])]) := Als.box (bs := []) ⟨⟨X1.out.low, X1.out.tabs, X1.out.2.2.2⟩, fun b hb => by cases hb⟩ 24 [.int .i64 D, .int .i64 S, .int .i64 M, .bool G, .int .i64 D2, .int .i64 S2, .int .i64 M2, .bool G]
  refine wpAnyH_ready (rs := [3]) (by kernel_rfl) (by simp) (AllReadyH.cons rfl (fun K hK => ?_) AllReadyH.nil)
  go_simp
  refine hK.out _ _ (X1.out.next (bx w1 24 [.int .i64 D, .int .i64 S, .int .i64 M, .bool G, .int .i64 D2, .int .i64 S2, .int .i64 M2, .bool G])).cells (fun hHeld => ?_)
  clear hK K
  have hsc := (X1.out.next (bx w1 24 [.int .i64 D, .int .i64 S, .int .i64 M, .bool G, .int .i64 D2, .int .i64 S2, .int .i64 M2, .bool G])).cells
  refine wpAnyH_take (i := 4) (v := ?_) rfl (by kernel_rfl) (by kernel_rfl) (by kernel_rfl) (fun _ _ _ h => h) (Or.inl ⟨by rfl, ?_⟩) (by assumption) ?_
  rotate_left
  · intro w hSw; go_simp; try with_reducible rfl
  go_simp
  refine wpAnyH_done (by kernel_rfl) ?_ _
  refine NoPanic.normal ?_
  clear hsc X1 q0
  generalize w1.alloc (.cells #[.int .i64 D, .int .i64 S, .int .i64 M, .bool G, .int .i64 D2, .int .i64 S2, .int .i64 M2, .bool G] 24) = w2 at *
  generalize w1.heap.size = gb at *
  go_wp2_with fail
  go_loopw [25] (fun j wr => ∃ k : Nat, j = .int .i64 (k : Int) ∧ Hid (k ≤ 2 ∧ Als w wr [(gb, 24, [.int .i64 D, .int .i64 S, .int .i64 M, .bool G, .int .i64 D2, .int .i64 S2, .int .i64 M2, .bool G])])) (fun j _ => 2 - (intOf j).toNat)
  case atStart => exact ⟨0, rfl, by decide, X2.out⟩
  case round =>
    clear X2
    obtain ⟨k, rfl, hk⟩ := hrel
    have hk2 := hk.out.1
    by_cases hlt : k < 2
    · have hk' : (k : Int) < 2 := by omega
      obtain ⟨D', S', M', G', -, hrow⟩ := hk.out.2.mid k hlt
      have HROW : Hid (wr.rangeAt gb (k * 4) [.int .i64 D', .int .i64 S', .int .i64 M', .bool G']) := hrow
      have X3 : Hid (Als w ((wr.alloc (.cells #[.int .i64 D', .int .i64 S', .int .i64 M', .bool G'] 24)).alloc (.cells #[.int .i64 t, .int .i64 c, .int .i64 (bits BinOp.and IntKind.i64 t 15), .int .i64 (bits BinOp.and IntKind.i64 c 15)] 40)) [((wr.alloc (.cells #[.int .i64 D', .int .i64 S', .int .i64 M', .bool G'] 24)).heap.size, 40, [.int .i64 t, .int .i64 c, .int .i64 (bits BinOp.and IntKind.i64 t 15), .int .i64 (bits BinOp.and IntKind.i64 c 15)]), (wr.heap.size, 24, lyL D' S' M' G'), (gb, 24, [.int .i64 D, .int .i64 S, .int .i64 M, .bool G, .int .i64 D2, .int .i64 S2, .int .i64 M2, .bool G])]) := (hk.out.2.box 24 (lyL D' S' M' G')).box 40 [.int .i64 t, .int .i64 c, .int .i64 (bits BinOp.and IntKind.i64 t 15), .int .i64 (bits BinOp.and IntKind.i64 c 15)]
      rw [World.size_alloc] at X3
      clear hk hrow
      go_wp2_with (first
        | (refine wpList_load_mid rfl 24 _ rfl gb (k * 4) rfl [.int .i64 D', .int .i64 S', .int .i64 M', .bool G'] _ HROW.out Tryd.underlying24 rfl HSZ.out ?_))
      generalize bits BinOp.and IntKind.i64 t 15 = t7 at *
      generalize bits BinOp.and IntKind.i64 c 15 = c7 at *
      generalize hw3 : (wr.alloc (.cells #[.int .i64 D', .int .i64 S', .int .i64 M', .bool G'] 24)).alloc (.cells #[.int .i64 t, .int .i64 c, .int .i64 t7, .int .i64 c7] 40) = w3 at *
      generalize hgl : wr.heap.size = gl at *
      clear hw3 hgl HROW
      go_loopw [39] (fun j wr => ∃ i : Nat, j = .int .i64 (i : Int) ∧ Hid (i ≤ 2 ∧ Als w wr [(gl + 1, 40, [.int .i64 t, .int .i64 c, .int .i64 t7, .int .i64 c7]), (gl, 24, lyL D' S' M' G'), (gb, 24, [.int .i64 D, .int .i64 S, .int .i64 M, .bool G, .int .i64 D2, .int .i64 S2, .int .i64 M2, .bool G])])) (fun j _ => 2 - (intOf j).toNat)
      case atStart => exact ⟨0, rfl, by decide, X3.out⟩
      case round =>
        clear X3
        obtain ⟨i, rfl, hi⟩ := hrel
        have hi2 := hi.out.1
        have X5 : Hid (Als w wr [(gl + 1, 40, [.int .i64 t, .int .i64 c, .int .i64 t7, .int .i64 c7]), (gl, 24, lyL D' S' M' G'), (gb, 24, [.int .i64 D, .int .i64 S, .int .i64 M, .bool G, .int .i64 D2, .int .i64 S2, .int .i64 M2, .bool G])]) := hi.out.2
        clear hi
        by_cases hil : i < 2
        · have hi' : (i : Int) < 2 := by omega
          obtain ⟨a, e, hrow⟩ : ∃ a e, wr.rangeAt (gl + 1) (i * 2) [.int .i64 a, .int .i64 e] := by
            have hb := X5.out.hd
            match i, hil with
            | 0, _ => exact ⟨t, c, fun j v hv => by
                match j, hv with
                | 0, hv => cases hv; exact hb.cell (i := 0) rfl
                | 1, hv => cases hv; exact hb.cell (i := 1) rfl
                | j + 2, hv => simp at hv⟩
            | 1, _ => exact ⟨t7, c7, fun j v hv => by
                match j, hv with
                | 0, hv => cases hv; exact hb.cell (i := 2) rfl
                | 1, hv => cases hv; exact hb.cell (i := 3) rfl
                | j + 2, hv => simp at hv⟩
          have HR2 : Hid (wr.rangeAt (gl + 1) (i * 2) [.int .i64 a, .int .i64 e]) := hrow
          have X6 : Hid (Als w ((wr.alloc (.cells #[.int .i64 a, .int .i64 e] 40)).alloc (.cells #[.int .i64 D', .int .i64 S', .int .i64 M', .bool G'] 25)) [((wr.alloc (.cells #[.int .i64 a, .int .i64 e] 40)).heap.size, 25, lyL D' S' M' G'), (wr.heap.size, 40, [.int .i64 a, .int .i64 e]), (gl + 1, 40, [.int .i64 t, .int .i64 c, .int .i64 t7, .int .i64 c7]), (gl, 24, lyL D' S' M' G'), (gb, 24, [.int .i64 D, .int .i64 S, .int .i64 M, .bool G, .int .i64 D2, .int .i64 S2, .int .i64 M2, .bool G])]) := (X5.out.box 40 [.int .i64 a, .int .i64 e]).box 25 (lyL D' S' M' G')
          rw [World.size_alloc] at X6
          obtain ⟨c50, c51, c52, c53⟩ := (X5.out.box 40 [.int .i64 a, .int .i64 e]).tl.tl.ly
          clear hrow
          go_upto_region 8 with (first
            | (refine wpList_load_mid rfl 40 _ rfl (gl + 1) (i * 2) rfl [.int .i64 a, .int .i64 e] _ HR2.out Tryd.underlying40 rfl HS2.out ?_))
          generalize hw6 : (wr.alloc (.cells #[.int .i64 a, .int .i64 e] 40)).alloc (.cells #[.int .i64 D', .int .i64 S', .int .i64 M', .bool G'] 25) = w6 at *
          clear c50 c51 c52 c53 HR2 hw6
          generalize wr.heap.size = gy at *
          have hy := X6.out.tl.hd
          have y0 := hy.cell (i := 0) rfl
          have y1 := hy.cell (i := 1) rfl
          obtain ⟨r60, r61, r62, r63⟩ := X6.out.ly
          obtain ⟨l60, l61, l62, l63⟩ := X6.out.tl.tl.tl.ly
          clear hy X5
          go_wp2_with (first
            | (go_at_call 18; refine (qa.out _ X6.out.tabs D' S' M' G' a e).mono ?_; rintro x w7 ⟨rfl, h7⟩; have X7 : Hid (Als w w7 [(gy + 1, 25, lyL D' S' M' G'), (gy, 40, [.int .i64 a, .int .i64 e]), (gl + 1, 40, [.int .i64 t, .int .i64 c, .int .i64 t7, .int .i64 c7]), (gl, 24, lyL D' S' M' G'), (gb, 24, [.int .i64 D, .int .i64 S, .int .i64 M, .bool G, .int .i64 D2, .int .i64 S2, .int .i64 M2, .bool G])]) := X6.out.next h7; have hy7 := X7.out.tl.hd; have y70 := hy7.cell (i := 0) rfl; have y71 := hy7.cell (i := 1) rfl; obtain ⟨r70, r71, r72, r73⟩ := X7.out.ly; obtain ⟨l70, l71, l72, l73⟩ := X7.out.tl.tl.tl.ly; clear hy7; clear h7 X6)
            | (go_at_call 19; refine (qb.out _ X7.out.tabs D' S' M' G' a e).mono ?_; rintro x w8 ⟨rfl, h8⟩; have X8 : Hid (Als w w8 [(gy + 1, 25, lyL D' S' M' G'), (gy, 40, [.int .i64 a, .int .i64 e]), (gl + 1, 40, [.int .i64 t, .int .i64 c, .int .i64 t7, .int .i64 c7]), (gl, 24, lyL D' S' M' G'), (gb, 24, [.int .i64 D, .int .i64 S, .int .i64 M, .bool G, .int .i64 D2, .int .i64 S2, .int .i64 M2, .bool G])]) := X7.out.next h8; have hy8 := X8.out.tl.hd; have y80 := hy8.cell (i := 0) rfl; have y81 := hy8.cell (i := 1) rfl; obtain ⟨r80, r81, r82, r83⟩ := X8.out.ly; obtain ⟨l80, l81, l82, l83⟩ := X8.out.tl.tl.tl.ly; clear hy8; clear h8 X7)
            | (go_at_call 20; refine (qc.out _ X8.out.tabs D' S' M' G' a e).mono ?_; rintro x w9 ⟨rfl, h9⟩; have X9 : Hid (Als w w9 [(gy + 1, 25, lyL D' S' M' G'), (gy, 40, [.int .i64 a, .int .i64 e]), (gl + 1, 40, [.int .i64 t, .int .i64 c, .int .i64 t7, .int .i64 c7]), (gl, 24, lyL D' S' M' G'), (gb, 24, [.int .i64 D, .int .i64 S, .int .i64 M, .bool G, .int .i64 D2, .int .i64 S2, .int .i64 M2, .bool G])]) := X8.out.next h9; have hy9 := X9.out.tl.hd; have y90 := hy9.cell (i := 0) rfl; have y91 := hy9.cell (i := 1) rfl; obtain ⟨r90, r91, r92, r93⟩ := X9.out.ly; obtain ⟨l90, l91, l92, l93⟩ := X9.out.tl.tl.tl.ly; clear hy9; clear h9 X8)
            | (go_at_call 21; refine (qd.out _ X9.out.tabs D' S' M' G' a e).mono ?_; rintro x w10 ⟨rfl, h10⟩; have X10 : Hid (Als w w10 [(gy + 1, 25, lyL D' S' M' G'), (gy, 40, [.int .i64 a, .int .i64 e]), (gl + 1, 40, [.int .i64 t, .int .i64 c, .int .i64 t7, .int .i64 c7]), (gl, 24, lyL D' S' M' G'), (gb, 24, [.int .i64 D, .int .i64 S, .int .i64 M, .bool G, .int .i64 D2, .int .i64 S2, .int .i64 M2, .bool G])]) := X9.out.next h10; have hy10 := X10.out.tl.hd; have y100 := hy10.cell (i := 0) rfl; have y101 := hy10.cell (i := 1) rfl; obtain ⟨r100, r101, r102, r103⟩ := X10.out.ly; obtain ⟨l100, l101, l102, l103⟩ := X10.out.tl.tl.tl.ly; clear hy10; clear h10 X9))
          go_roundw
          case rel => exact ⟨i + 1, by go_num, by omega, X10.out.tl.tl⟩
          case measure => simp [intOf]; omega
        · obtain rfl : i = 2 := by omega
          go_wp2_with fail
          go_roundw
          case rel => exact ⟨k + 1, by go_num, by omega, X5.out.tl.tl⟩
          case measure => simp [intOf]; omega
    · obtain rfl : k = 2 := by omega
      go_wp2_with (go_at_call 10; refine (qw.out _ hk.out.2.tabs).mono ?_; rintro x w9 ⟨rfl, h9⟩; have X9 : Hid (Als w w9 [(gb, 24, [.int .i64 D, .int .i64 S, .int .i64 M, .bool G, .int .i64 D2, .int .i64 S2, .int .i64 M2, .bool G])]) := hk.out.2.next h9; clear h9)
      go_ret
      exact ⟨rfl, X9.out.low⟩
end Go.Proofs.YtbekmjljcjgopaaDoor
