/- What the program's block of a state is: twenty rounds, the state added, its bytes. -/
import Derived.Test.YtnpebabffnjmmaaChRound
namespace Go.Proofs.Ytnpebabffnjmmaa
open Go.RowKit Go.PlainAid
set_option linter.unusedVariables false

set_option maxHeartbeats 1000000 in
set_option maxRecDepth 20000 in
theorem bloc_any (S : Nat → Int) (w : World) :
    Calls Try.prog 26 #[.agg (ws 16 S).toArray] w fun e w' => e = .returned (.string (blkB S)) ∧ Below w.heap.size w w' := by
  have hzr := zero45_run
  obtain ⟨Z, hZ⟩ : ∃ Z, ws 16 (fun _ => 0) = Z := ⟨_, rfl⟩
  obtain ⟨Y, hY⟩ : ∃ Y, ws 16 S = Y := ⟨_, rfl⟩
  rw [hZ] at hzr
  rw [hY]
  have hYs : Y.length = 16 := by rw [← hY, ws_length]
  have hZs : Z.length = 16 := by rw [← hZ, ws_length]
  have hYo : ∀ v ∈ Y, v.oneCell' = true := by rw [← hY]; exact ws_one _ _
  have HY : Hid (ws 16 S = Y) := hY
  clear hY hZ
  have hL0 : Blk (w.alloc (.cells Y.toArray 45)) w.heap.size 45 Y := by
    have := Blk.new w 45 Y.toArray
    simpa using this
  have hS0 : Blk ((w.alloc (.cells Y.toArray 45)).alloc (.cells Z.toArray 45)) (w.heap.size + 1) 45 Z := by
    have := Blk.new (w.alloc (.cells Y.toArray 45)) 45 Z.toArray
    simpa using this
  have hb0 : Below w.heap.size w ((w.alloc (.cells Y.toArray 45)).alloc (.cells Z.toArray 45)) := ((Below.refl _ w).alloc (Nat.le_refl _) _).alloc (by simp) _
  go_enter Try.func26, Try.ntmps26
  go_wp2_with (first | (refine wpList_load_blk rfl 45 _ rfl w.heap.size rfl 45 Y _ hL0 Try.underlying45 rfl (by rw [Try.size45, hYs]) ?_) | (refine wpList_store_blk rfl 45 _ _ rfl (w.heap.size + 1) Z Y rfl rfl 45 hS0 (by rw [Try.size45, hYs]) (by rw [hZs, hYs]) hYo ?_))
  have hn : Blk (((w.alloc (.cells Y.toArray 45)).alloc (.cells Z.toArray 45)).setRow (w.heap.size + 1) Y.toArray) (w.heap.size + 1) 45 (ws 16 S) := by
    rw [HY.out]; exact hS0.setRow
  have hs : Blk (((w.alloc (.cells Y.toArray 45)).alloc (.cells Z.toArray 45)).setRow (w.heap.size + 1) Y.toArray) w.heap.size 45 (ws 16 S) := by
    rw [HY.out]; exact (hL0.alloc _).setRowOther (by omega) _
  have hb1 : Below w.heap.size w (((w.alloc (.cells Y.toArray 45)).alloc (.cells Z.toArray 45)).setRow (w.heap.size + 1) Y.toArray) := below_setRow hb0 (by omega) _
  clear hL0 hS0 hb0 hzr hYs hZs hYo HY
  generalize (((w.alloc (.cells Y.toArray 45)).alloc (.cells Z.toArray 45)).setRow (w.heap.size + 1) Y.toArray) = w0 at hn hs hb1 ⊢
  obtain ⟨g, hgd⟩ : ∃ g, w.heap.size = g := ⟨_, rfl⟩
  rw [hgd] at hn hs hb1 ⊢
  have HG : Hid (w.heap.size = g) := hgd
  clear hgd
  go_loopw [7] (fun i wr => ∃ k : Nat, k ≤ 20 ∧ i = .int .i64 k ∧ Blk wr (g + 1) 45 (ws 16 (rn S k)) ∧ Blk wr g 45 (ws 16 S) ∧ Below g w wr) (fun i _ => (20 - intOf i).toNat)
  case atStart => exact ⟨0, by omega, rfl, hn, hs, hb1⟩
  case round =>
    clear hn hs hb1
    obtain ⟨k, hk, rfl, hn, hs, hl⟩ := hrel
    by_cases hlt : k < 20
    · have hlt' : (k : Int) < 20 := by omega
      obtain ⟨m, hm⟩ : ∃ m : Nat, k % 2 = m := ⟨_, rfl⟩
      have em : (k : Int) % 2 = (m : Int) := by omega
      have hcall := turn16_any (rn S k) m (by omega) wr
      have HQ : Hid (ws 16 (rn S (k + 1)) = ws 16 (rq (rn S k) m 4)) := by rw [← hm]; exact rfl
      obtain ⟨U, hU⟩ : ∃ U, ws 16 (rn S k) = U := ⟨_, rfl⟩
      obtain ⟨V, hV⟩ : ∃ V, ws 16 (rq (rn S k) m 4) = V := ⟨_, rfl⟩
      have hUl : U.length = 16 := by rw [← hU, ws_length]
      have hVl : V.length = 16 := by rw [← hV, ws_length]
      have hVo : ∀ v ∈ V, v.oneCell' = true := by rw [← hV]; exact ws_one _ _
      rw [hU] at hcall hn
      rw [hV] at hcall HQ
      clear hU hV hm
      have hfin : ∀ w2, Below wr.heap.size wr w2 → Blk w2 (g + 1) 45 U ∧ Blk (w2.setRow (g + 1) V.toArray) (g + 1) 45 V ∧ Blk (w2.setRow (g + 1) V.toArray) g 45 (ws 16 S) ∧ Below g w (w2.setRow (g + 1) V.toArray) := by
        intro w2 hb
        have h1 := hn.below hb hn.lt
        refine ⟨h1, h1.setRow, (hs.below hb hs.lt).setRowOther (by omega) _, below_setRow (hl.trans (hb.mono (Nat.le_of_lt hs.lt))) (by omega) _⟩
      go_wp2_with (first | (refine wpList_load_blk rfl 45 _ rfl (g + 1) rfl 45 U _ hn Try.underlying45 rfl (by rw [Try.size45, hUl]) ?_) | (go_at_call 40; refine hcall.mono ?_; rintro e w2 ⟨rfl, hb2⟩; obtain ⟨hU2, hV2, hs2, hl2⟩ := hfin w2 hb2) | (refine wpList_store_blk rfl 45 _ _ rfl (g + 1) U V rfl rfl 45 hU2 (by rw [Try.size45, hVl]) (by rw [hUl, hVl]) hVo ?_))
      clear hcall hfin hU2 hb2 hn hs hl
      generalize w2.setRow (g + 1) V.toArray = w3 at hV2 hs2 hl2 ⊢
      go_roundw
      case rel => exact ⟨k + 1, by omega, by go_num, by rw [HQ.out]; exact hV2, hs2, hl2⟩
      case measure => simp [intOf]; omega
    · have hk20 : k = 20 := by omega
      subst hk20
      rw [show ((20 : Nat) : Int) = (20 : Int) from rfl]
      have HO : Hid (∀ i, out S i = (rn S 20 i + S i) % 4294967296) := fun i => rfl
      generalize rn S 20 = R at hn HO
      go_wp2_with fail
      go_loopw [15] (fun i wr => ∃ q : Nat, q ≤ 16 ∧ i = .int .i64 q ∧ Blk wr (g + 1) 45 (ws 16 (fun i => if i < q then (R i + S i) % 4294967296 else R i)) ∧ Blk wr g 45 (ws 16 S) ∧ Below g w wr) (fun i _ => (16 - intOf i).toNat)
      case atStart => exact ⟨0, by omega, rfl, hn, hs, hl⟩
      case round =>
        clear hn hs hl
        obtain ⟨q, hq, rfl, hn, hs, hl⟩ := hrel
        by_cases hlt2 : q < 16
        · have hq' : (q : Int) < 16 := by omega
          have cn : wr.cell? ⟨g + 1, q, none⟩ = some (.int .u32 (R q)) := by
            have := hn.cell (ws_at 16 _ q hlt2)
            rw [if_neg (by omega)] at this; exact this
          have cs := hs.cell (ws_at 16 S q hlt2)
          have fn := hn.frozen q
          obtain ⟨V, hV⟩ : ∃ V, IntKind.u32.wrap (R q + S q) = V := ⟨_, rfl⟩
          have HV : Hid ((R q + S q) % 4294967296 = V) := by rw [← hV, IntKind.wrap_u32']; exact rfl
          have hn2 : Blk (wr.drew.setCell ⟨g + 1, q, none⟩ (.int .u32 V)) (g + 1) 45 (ws 16 (fun i => if i < q + 1 then (R i + S i) % 4294967296 else R i)) := by
            have hh := hn.drew.setCell q (.int .u32 V)
            rw [ws_set] at hh
            rw [ws_congr 16 (fun i => if i < q + 1 then (R i + S i) % 4294967296 else R i) (fun i => if i = q then V else if i < q then (R i + S i) % 4294967296 else R i) ?_]
            · exact hh
            · intro i _
              show (if i < q + 1 then (R i + S i) % 4294967296 else R i) = if i = q then V else if i < q then (R i + S i) % 4294967296 else R i
              by_cases h1 : i = q
              · subst h1; rw [if_pos (by omega), if_pos rfl, HV.out]
              · rw [if_neg h1]
                by_cases h2 : i < q
                · rw [if_pos h2, if_pos (by omega)]
                · rw [if_neg h2, if_neg (by omega)]
          have hs2 : Blk (wr.drew.setCell ⟨g + 1, q, none⟩ (.int .u32 V)) g 45 (ws 16 S) := hs.drew.setOther (by omega) q _
          have hl2 : Below g w (wr.drew.setCell ⟨g + 1, q, none⟩ (.int .u32 V)) := hl.drew.setCell (by show g ≤ g + 1; omega) _
          have es := hs2.cell (ws_at 16 S q hlt2)
          clear hn hs hl HV
          go_wp2_with fail
          refine wp_region_noPanic ?_
          refine wp_region_held_drew (S := fun z => z.cell? ⟨g, q, none⟩ = some (.int .u32 (S q))) (by kernel_rfl) cs (fun hHeld => ?_)
          refine wpAnyH_take (i := 0) (v := ?_) rfl (by kernel_rfl) (by kernel_rfl) (by kernel_rfl) (fun _ _ _ h => h) (Or.inl ⟨by rfl, ?_⟩) (by assumption) ?_
          rotate_left
          · intro w hSw; go_simp; try with_reducible rfl
          go_simp
          refine wpAnyH_take (i := 1) (v := ?_) rfl (by kernel_rfl) (by kernel_rfl) (by kernel_rfl) (fun _ _ _ h => h) (Or.inl ⟨by rfl, ?_⟩) (by assumption) ?_
          rotate_left
          · intro w hSw; go_simp; try with_reducible rfl
          go_simp
          refine wpAnyH_take (i := 3) (v := ?_) rfl (by kernel_rfl) (by kernel_rfl) (by kernel_rfl) (fun _ _ _ h => h) (Or.inl ⟨by rfl, ?_⟩) (by assumption) ?_
          rotate_left
          · intro w hSw; go_simp; try with_reducible rfl
          go_simp
          refine wpAnyH_take (i := 4) (v := ?_) rfl (by kernel_rfl) (by kernel_rfl) (by kernel_rfl) (fun _ _ _ h => h) (Or.inl ⟨by rfl, ?_⟩) (by assumption) ?_
          rotate_left
          · intro w hSw; go_simp; try with_reducible rfl
          go_simp
          refine wpAnyH_take (i := 5) (v := ?_) rfl (by kernel_rfl) (by kernel_rfl) (by kernel_rfl) (fun _ _ _ h => h) (Or.inl ⟨by rfl, ?_⟩) (by assumption) ?_
          rotate_left
          · intro w hSw; go_simp; try with_reducible rfl
          go_simp
          refine wpAnyH_ready (rs := [2]) (by kernel_rfl) (by simp) (AllReadyH.cons rfl (fun K hK => ?_) AllReadyH.nil)
          go_simp
          refine hK.out _ _ cs (fun hHeld => ?_)
          clear hK K
          refine wpAnyH_take (i := 6) (v := ?_) rfl (by kernel_rfl) (by kernel_rfl) (by kernel_rfl) (fun _ _ _ h => h) (Or.inl ⟨by rfl, ?_⟩) (by assumption) ?_
          rotate_left
          · intro w hSw; go_simp; try with_reducible rfl
          go_simp
          refine wpAnyH_take (i := 7) (v := ?_) rfl (by kernel_rfl) (by kernel_rfl) (by kernel_rfl) (fun _ _ _ h => h) (Or.inl ⟨by rfl, ?_⟩) (by assumption) ?_
          rotate_left
          · intro w hSw; go_simp; try with_reducible rfl
          go_simp
          refine wpAnyH_ready (rs := [8]) (by kernel_rfl) (by simp) (AllReadyH.cons rfl (fun K hK => ?_) AllReadyH.nil)
          go_simp
          refine hK.out _ _ es (fun hHeld => ?_)
          clear hK K
          refine wpAnyH_done (by kernel_rfl) ?_ _
          refine NoPanic.normal ?_
          have hn3 : Blk (wr.setCell ⟨g + 1, q, none⟩ (.int .u32 V)).drew (g + 1) 45 _ := hn2
          have hs3 : Blk (wr.setCell ⟨g + 1, q, none⟩ (.int .u32 V)).drew g 45 _ := hs2
          have hl3 : Below g w (wr.setCell ⟨g + 1, q, none⟩ (.int .u32 V)).drew := hl2
          clear hn2 hs2 hl2 es cs cn fn hV
          generalize (wr.setCell ⟨g + 1, q, none⟩ (.int .u32 V)).drew = w4 at hn3 hs3 hl3 ⊢
          go_wp2_with fail
          go_roundw
          case rel => exact ⟨q + 1, by omega, by go_num, hn3, hs3, hl3⟩
          case measure => simp [intOf]; omega
        · have hq16 : q = 16 := by omega
          subst hq16
          have hat : At wr (some ⟨g + 1, 0, none⟩) 16 (out S) := .inr ⟨g + 1, 0, rfl, fun i hi => by
            rw [Nat.zero_add, HO.out i]
            have := hn.cell (ws_at 16 _ i hi)
            rw [if_pos hi] at this; exact this⟩
          have hcall := fromLittle_any (some ⟨g + 1, 0, none⟩) 16 16 (out S) wr (by omega) hat (fun i _ => out_lo S i)
          rw [show strOfNums (joinF four (out S) 16) = blkB S from rfl] at hcall
          have hgl : g ≤ wr.heap.size := Nat.le_of_lt hs.lt
          clear hat hn hs HO
          go_wp2_with (go_at_call 38; refine hcall.mono ?_; rintro e w5 ⟨rfl, hb5⟩)
          go_ret
          refine ⟨rfl, ?_⟩
          rw [HG.out]
          exact hl.trans (hb5.mono hgl)
end Go.Proofs.Ytnpebabffnjmmaa
