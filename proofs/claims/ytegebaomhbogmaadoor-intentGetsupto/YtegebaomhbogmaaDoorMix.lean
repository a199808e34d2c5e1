/- The state behind one more block, as the program makes it. -/
import Derived.Test.YtegebaomhbogmaaDoorSched
namespace Go.Proofs.YtegebaomhbogmaaDoor
open Go.RowKit Go.PlainAid
set_option linter.unusedVariables false

/-- The program's table of the rounds' constants, a package-level variable. -/
def Tabs (w : World) : Prop := ∀ i, i < 64 → w.cell? ⟨2, i, none⟩ = some (.int .u32 (kc i))
theorem Tabs.lt {w : World} (h : Tabs w) : 2 < w.heap.size := cell_lt (h 0 (by decide))
theorem Tabs.below {w w' : World} {B : Nat} (h : Tabs w) (hb : Below B w w') (hB : 2 < B) : Tabs w' := fun i hi => (hb.cell (p := ⟨2, i, none⟩) hB).trans (h i hi)
theorem Tabs.only {w w' : World} {g : Nat} (h : Tabs w) (ho : Only g w w') (hg : g ≠ 2) : Tabs w' := fun i hi =>
  (World.cell?_of_block (ho.block 2 h.lt (fun e => hg (Option.some.inj e).symm))).trans (h i hi)
theorem Tabs.alloc {w : World} (h : Tabs w) (o : Obj) : Tabs (w.alloc o) := h.below ((Below.refl w.heap.size w).alloc (Nat.le_refl _) o) h.lt

theorem index_words (S : Nat → Int) (k : Nat) (hk : k < 64) (w : World) : (Instr.index 112 (.agg (ws 64 S).toArray) (.int .i64 (k : Int))).run Tryd.prog w = .ok (.int .u32 (S k)) w := by
  have h2 : (ws 64 S)[k]? = some (.int .u32 (S k)) := ws_at 64 S k hk
  simp [Instr.index, asIntOf, run_underlying Tryd.underlying112, part, go_sem, hk, h2]

theorem Tryd.zero95 : (Tryd.prog.info? 95).map (fun i => i.zero) = some (some (.agg (ws 8 (fun _ => 0)).toArray)) := by kernel_rfl
theorem zero95_run (w : World) : (zeroValue 95).run Tryd.prog w = .ok (.agg (ws 8 (fun _ => 0)).toArray) w := by
  obtain ⟨i, hi, hz⟩ := Option.map_eq_some_iff.1 Tryd.zero95
  simp [zeroValue, typeInfo, hi, hz]

set_option maxHeartbeats 1000000 in
set_option maxRecDepth 20000 in
theorem mix_any (S : Nat → Int) (hS : Ok S) (b : ByteArray) (hb : b.size = 64) (w : World) (ht : Tabs w) :
    Calls Tryd.prog 65 #[.agg (ws 8 S).toArray, .string b] w fun e w' => e = .returned (.agg (ws 8 (cpr S (wordsL be4 b))).toArray) ∧ Below w.heap.size w w' := by
  have hzr := zero95_run
  obtain ⟨Z, hZ⟩ : ∃ Z, ws 8 (fun _ => 0) = Z := ⟨_, rfl⟩
  obtain ⟨Y, hY⟩ : ∃ Y, ws 8 S = Y := ⟨_, rfl⟩
  rw [hZ] at hzr
  rw [hY]
  have hYs : Y.length = 8 := by rw [← hY, ws_length]
  have hZs : Z.length = 8 := by rw [← hZ, ws_length]
  have hYo : ∀ v ∈ Y, v.oneCell' = true := by rw [← hY]; exact ws_one _ _
  have HY : Hid (ws 8 S = Y) := hY
  have HZ : Hid (ws 8 (fun _ => 0) = Z) := hZ
  clear hY hZ
  have hL0 : Blk ((w.alloc (.cells Y.toArray 95)).alloc (.cells Z.toArray 95)) w.heap.size 95 Y := by
    have := (Blk.new w 95 Y.toArray).alloc (.cells Z.toArray 95)
    simpa using this
  have hS0 : Blk (((w.alloc (.cells Y.toArray 95)).alloc (.cells Z.toArray 95)).alloc (.cells Z.toArray 95)) (w.heap.size + 1 + 1) 95 Z := by
    have := Blk.new ((w.alloc (.cells Y.toArray 95)).alloc (.cells Z.toArray 95)) 95 Z.toArray
    simpa using this
  have hR0 : Blk (((w.alloc (.cells Y.toArray 95)).alloc (.cells Z.toArray 95)).alloc (.cells Z.toArray 95)) (w.heap.size + 1) 95 Z := by
    have := (Blk.new (w.alloc (.cells Y.toArray 95)) 95 Z.toArray).alloc (.cells Z.toArray 95)
    simpa using this
  have hb0 : Below w.heap.size w (((w.alloc (.cells Y.toArray 95)).alloc (.cells Z.toArray 95)).alloc (.cells Z.toArray 95)) := (((Below.refl _ w).alloc (Nat.le_refl _) _).alloc (by simp) _).alloc (by simp; omega) _
  go_enter Tryd.func65, Tryd.ntmps65
  go_wp2_with (first | (refine wpList_load_blk rfl 95 _ rfl w.heap.size rfl 95 Y _ hL0 Tryd.underlying95 rfl (by rw [Tryd.size95, hYs]) ?_) | (refine wpList_store_blk rfl 95 _ _ rfl (w.heap.size + 1 + 1) Z Y rfl rfl 95 hS0 (by rw [Tryd.size95, hYs]) (by rw [hZs, hYs]) hYo ?_))
  have hn : Blk ((((w.alloc (.cells Y.toArray 95)).alloc (.cells Z.toArray 95)).alloc (.cells Z.toArray 95)).setRow (w.heap.size + 1 + 1) Y.toArray) (w.heap.size + 1 + 1) 95 (ws 8 S) := by
    rw [HY.out]; exact hS0.setRow
  have hs : Blk ((((w.alloc (.cells Y.toArray 95)).alloc (.cells Z.toArray 95)).alloc (.cells Z.toArray 95)).setRow (w.heap.size + 1 + 1) Y.toArray) w.heap.size 95 (ws 8 S) := by
    rw [HY.out]; exact (hL0.alloc _).setRowOther (by omega) _
  have hr : Blk ((((w.alloc (.cells Y.toArray 95)).alloc (.cells Z.toArray 95)).alloc (.cells Z.toArray 95)).setRow (w.heap.size + 1 + 1) Y.toArray) (w.heap.size + 1) 95 (ws 8 (fun _ => 0)) := by
    rw [HZ.out]; exact hR0.setRowOther (by omega) _
  have hb1 : Below w.heap.size w ((((w.alloc (.cells Y.toArray 95)).alloc (.cells Z.toArray 95)).alloc (.cells Z.toArray 95)).setRow (w.heap.size + 1 + 1) Y.toArray) := below_setRow hb0 (by omega) _
  clear hL0 hS0 hR0 hb0 hzr hYs hZs hYo HY HZ
  generalize ((((w.alloc (.cells Y.toArray 95)).alloc (.cells Z.toArray 95)).alloc (.cells Z.toArray 95)).setRow (w.heap.size + 1 + 1) Y.toArray) = w0 at hn hs hr hb1 ⊢
  have h2g := ht.lt
  have ht0 : Tabs w0 := ht.below hb1 h2g
  obtain ⟨g, hgd⟩ : ∃ g, w.heap.size = g := ⟨_, rfl⟩
  rw [hgd] at hn hs hr hb1 h2g ⊢
  have HG : Hid (w.heap.size = g) := hgd
  clear hgd ht
  have hsz : g + 3 ≤ w0.heap.size := hn.lt
  go_wp2_with (go_at_call 68; refine (sched_any b hb _).mono ?_; rintro e w1 ⟨rfl, hbs⟩)
  have hn1 := hn.below hbs hn.lt
  have hs1 := hs.below hbs hs.lt
  have hr1 := hr.below hbs hr.lt
  have ht1 := ht0.below hbs ht0.lt
  have hb2 : Below g w w1 := hb1.trans (hbs.mono (by omega))
  clear hn hs hr ht0 hb1 hbs hsz
  obtain ⟨f, hf⟩ : ∃ f, wordsL be4 b = f := ⟨_, rfl⟩
  have hfl : ∀ i, i < 16 → 0 ≤ f i ∧ f i < 4294967296 := by rw [← hf]; exact fun i _ => words_lo b i
  have HF : Hid (wordsL be4 b = f) := hf
  rw [hf]
  clear hf
  have hix := fun k (hk : k < 64) w => index_words (Wt f) k hk w
  obtain ⟨X, hX⟩ : ∃ X, (ws 64 (Wt f)).toArray = X := ⟨_, rfl⟩
  rw [hX] at hix ⊢
  clear hX
  go_wp2_with fail
  go_loopw [12] (fun i wr => ∃ k : Nat, k ≤ 64 ∧ i = .int .i64 k ∧ Blk wr (g + 1 + 1) 95 (ws 8 (rds S (fun t => (Wt f t + kc t) % 4294967296) k)) ∧ Blk wr g 95 (ws 8 S) ∧ Blk wr (g + 1) 95 (ws 8 (fun _ => 0)) ∧ Tabs wr ∧ Below g w wr) (fun i _ => (64 - intOf i).toNat)
  case atStart => exact ⟨0, by omega, rfl, hn1, hs1, hr1, ht1, hb2⟩
  case round =>
    clear hn1 hs1 hr1 ht1 hb2
    obtain ⟨k, hk, rfl, hn, hs, hr, ht, hl⟩ := hrel
    by_cases hlt : k < 64
    · have hlt' : (k : Int) < 64 := by omega
      have hi := fun w => hix k hlt w
      have hc := ht k hlt
      have hx : 0 ≤ (Wt f k + kc k) % 4294967296 ∧ (Wt f k + kc k) % 4294967296 < 4294967296 := by omega
      have hcall := round_any (g + 1 + 1) (rds S (fun t => (Wt f t + kc t) % 4294967296) k) ((Wt f k + kc k) % 4294967296) (rds_ok _ _ k hS) hx wr hn
      rw [← rds_succ S (fun t => (Wt f t + kc t) % 4294967296) k] at hcall
      have HC := hcall
      clear hix hcall
      go_wp2_with (go_at_call 69; refine HC.mono ?_; rintro e w2 ⟨rfl, hn2, ho⟩)
      have hs2 := hs.only ho (by omega)
      have hr2 := hr.only ho (by omega)
      have ht2 := ht.only ho (by omega)
      have hl2 : Below g w w2 := Below.only hl ho (Nat.le_of_lt hs.lt) (by omega)
      clear hn hs hr ht hl ho HC hi hc
      go_wp2_with fail
      go_roundw
      case rel => exact ⟨k + 1, by omega, by go_num, hn2, hs2, hr2, ht2, hl2⟩
      case measure => simp [intOf]; omega
    · have hk64 : k = 64 := by omega
      subst hk64
      rw [show ((64 : Nat) : Int) = (64 : Int) from rfl]
      clear hix ht
      obtain ⟨R, hR⟩ : ∃ R, rds S (fun t => (Wt f t + kc t) % 4294967296) 64 = R := ⟨_, rfl⟩
      rw [hR] at hn
      have HR : Hid (cpr S (wordsL be4 b) = fun i => (R i + S i) % 4294967296) := by rw [HF.out, ← hR]; rfl
      clear hR HF
      go_wp2_with fail
      go_loopw [23] (fun i wr => ∃ q : Nat, q ≤ 8 ∧ i = .int .i64 q ∧ Blk wr (g + 1 + 1) 95 (ws 8 (fun i => if i < q then (R i + S i) % 4294967296 else R i)) ∧ Blk wr g 95 (ws 8 S) ∧ Blk wr (g + 1) 95 (ws 8 (fun _ => 0)) ∧ Below g w wr) (fun i _ => (8 - intOf i).toNat)
      case atStart => exact ⟨0, by omega, rfl, hn, hs, hr, hl⟩
      case round =>
        clear hn hs hr hl
        obtain ⟨q, hq, rfl, hn, hs, hr, hl⟩ := hrel
        by_cases hlt2 : q < 8
        · have hq' : (q : Int) < 8 := by omega
          have cn : wr.cell? ⟨g + 1 + 1, q, none⟩ = some (.int .u32 (R q)) := by
            have := hn.cell (ws_at 8 _ q hlt2)
            rw [if_neg (by omega)] at this; exact this
          have cs := hs.cell (ws_at 8 S q hlt2)
          have fn := hn.frozen q
          obtain ⟨V, hV⟩ : ∃ V, IntKind.u32.wrap (R q + S q) = V := ⟨_, rfl⟩
          have HV : Hid ((R q + S q) % 4294967296 = V) := by rw [← hV, IntKind.wrap_u32']; exact rfl
          have hn2 : Blk (wr.drew.setCell ⟨g + 1 + 1, q, none⟩ (.int .u32 V)) (g + 1 + 1) 95 (ws 8 (fun i => if i < q + 1 then (R i + S i) % 4294967296 else R i)) := by
            have hh := hn.drew.setCell q (.int .u32 V)
            rw [ws_set] at hh
            rw [ws_congr 8 (fun i => if i < q + 1 then (R i + S i) % 4294967296 else R i) (fun i => if i = q then V else if i < q then (R i + S i) % 4294967296 else R i) ?_]
            · exact hh
            · intro i _
              show (if i < q + 1 then (R i + S i) % 4294967296 else R i) = if i = q then V else if i < q then (R i + S i) % 4294967296 else R i
              by_cases h1 : i = q
              · subst h1; rw [if_pos (by omega), if_pos rfl, HV.out]
              · rw [if_neg h1]
                by_cases h2 : i < q
                · rw [if_pos h2, if_pos (by omega)]
                · rw [if_neg h2, if_neg (by omega)]
          have hs2 : Blk (wr.drew.setCell ⟨g + 1 + 1, q, none⟩ (.int .u32 V)) g 95 (ws 8 S) := hs.drew.setOther (by omega) q _
          have hr2 : Blk (wr.drew.setCell ⟨g + 1 + 1, q, none⟩ (.int .u32 V)) (g + 1) 95 (ws 8 (fun _ => 0)) := hr.drew.setOther (by omega) q _
          have hl2 : Below g w (wr.drew.setCell ⟨g + 1 + 1, q, none⟩ (.int .u32 V)) := hl.drew.setCell (by show g ≤ g + 1 + 1; omega) _
          have es := hs2.cell (ws_at 8 S q hlt2)
          clear hn hs hr hl HV
          go_wp2_with fail
          refine wp_region_noPanic ?_
          refine wp_region_held_drew (S := fun z => z.cell? ⟨g, q, none⟩ = some (.int .u32 (S q))) (by kernel_rfl) cs (fun hHeld => ?_)
          refine wpAnyH_take (i := 0) (v := ?_) rfl (by kernel_rfl) (by kernel_rfl) (by kernel_rfl) (fun _ _ _ h => h) (Or.inl ⟨by rfl, ?_⟩) (by assumption) ?_
          rotate_left
          · intro w hSw; go_simp; try with_reducible rfl
          go_simp
          refine wpAnyH_take (i := 1) (v := ?_) rfl (by kernel_rfl) (by kernel_rfl) (by kernel_rfl) (fun _ _ _ h => h) (Or.inl ⟨by rfl, ?_⟩) (by assumption) ?_
          rotate_left
          · intro w hSw; go_simp; try with_reducible rfl
          go_simp
          refine wpAnyH_take (i := 3) (v := ?_) rfl (by kernel_rfl) (by kernel_rfl) (by kernel_rfl) (fun _ _ _ h => h) (Or.inl ⟨by rfl, ?_⟩) (by assumption) ?_
          rotate_left
          · intro w hSw; go_simp; try with_reducible rfl
          go_simp
          refine wpAnyH_take (i := 4) (v := ?_) rfl (by kernel_rfl) (by kernel_rfl) (by kernel_rfl) (fun _ _ _ h => h) (Or.inl ⟨by rfl, ?_⟩) (by assumption) ?_
          rotate_left
          · intro w hSw; go_simp; try with_reducible rfl
          go_simp
          refine wpAnyH_take (i := 5) (v := ?_) rfl (by kernel_rfl) (by kernel_rfl) (by kernel_rfl) (fun _ _ _ h => h) (Or.inl ⟨by rfl, ?_⟩) (by assumption) ?_
          rotate_left
          · intro w hSw; go_simp; try with_reducible rfl
          go_simp
          refine wpAnyH_ready (rs := [2]) (by kernel_rfl) (by simp) (AllReadyH.cons rfl (fun K hK => ?_) AllReadyH.nil)
          go_simp
          refine hK.out _ _ cs (fun hHeld => ?_)
          clear hK K
          refine wpAnyH_take (i := 6) (v := ?_) rfl (by kernel_rfl) (by kernel_rfl) (by kernel_rfl) (fun _ _ _ h => h) (Or.inl ⟨by rfl, ?_⟩) (by assumption) ?_
          rotate_left
          · intro w hSw; go_simp; try with_reducible rfl
          go_simp
          refine wpAnyH_take (i := 7) (v := ?_) rfl (by kernel_rfl) (by kernel_rfl) (by kernel_rfl) (fun _ _ _ h => h) (Or.inl ⟨by rfl, ?_⟩) (by assumption) ?_
          rotate_left
          · intro w hSw; go_simp; try with_reducible rfl
          go_simp
          refine wpAnyH_ready (rs := [8]) (by kernel_rfl) (by simp) (AllReadyH.cons rfl (fun K hK => ?_) AllReadyH.nil)
          go_simp
          refine hK.out _ _ es (fun hHeld => ?_)
          clear hK K
          refine wpAnyH_done (by kernel_rfl) ?_ _
          refine NoPanic.normal ?_
          have hn3 : Blk (wr.setCell ⟨g + 1 + 1, q, none⟩ (.int .u32 V)).drew (g + 1 + 1) 95 _ := hn2
          have hs3 : Blk (wr.setCell ⟨g + 1 + 1, q, none⟩ (.int .u32 V)).drew g 95 _ := hs2
          have hr3 : Blk (wr.setCell ⟨g + 1 + 1, q, none⟩ (.int .u32 V)).drew (g + 1) 95 _ := hr2
          have hl3 : Below g w (wr.setCell ⟨g + 1 + 1, q, none⟩ (.int .u32 V)).drew := hl2
          clear hn2 hs2 hr2 hl2 es cs cn fn hV
          generalize (wr.setCell ⟨g + 1 + 1, q, none⟩ (.int .u32 V)).drew = w4 at hn3 hs3 hr3 hl3 ⊢
          go_wp2_with fail
          go_roundw
          case rel => exact ⟨q + 1, by omega, by go_num, hn3, hs3, hr3, hl3⟩
          case measure => simp [intOf]; omega
        · have hq8 : q = 8 := by omega
          subst hq8
          have eV : ws 8 (fun i => if i < 8 then (R i + S i) % 4294967296 else R i) = ws 8 (cpr S (wordsL be4 b)) := by
            rw [HR.out]
            apply ws_congr
            intro i hi
            rw [if_pos hi]
          rw [eV] at hn
          have hA' : Blk (wr.setRow (g + 1) (ws 8 (cpr S (wordsL be4 b))).toArray) (g + 1) 95 (ws 8 (cpr S (wordsL be4 b))) := hr.setRow
          have hR := load95 hA'
          have hl' : Below g w (wr.setRow (g + 1) (ws 8 (cpr S (wordsL be4 b))).toArray) := below_setRow hl (by omega) _
          obtain ⟨U, hU⟩ : ∃ U, ws 8 (cpr S (wordsL be4 b)) = U := ⟨_, rfl⟩
          have hUl : U.length = 8 := by rw [← hU, ws_length]
          have hUo : ∀ v ∈ U, v.oneCell' = true := by rw [← hU]; exact ws_one _ _
          rw [hU] at hn hR hl'
          have HU : Hid (ws 8 (cpr S (wordsL be4 b)) = U) := hU
          clear hA' hl hU eV HR hs
          go_wp2_with (first | (refine wpList_load_blk rfl 95 _ rfl (g + 1 + 1) rfl 95 U _ hn Tryd.underlying95 rfl (by rw [Tryd.size95, hUl]) ?_) | (refine wpList_store_blk rfl 95 _ _ rfl (g + 1) _ U rfl rfl 95 hr (by rw [Tryd.size95, hUl]) (by rw [ws_length, hUl]) hUo ?_))
          refine bodyPost_ret_by (v := .agg U.toArray) (results_cell 4 95 ⟨g + 1, 0, none⟩ Tryd.results65 rfl hR) rfl ⟨by rw [HU.out], ?_⟩
          rw [HG.out]; exact hl'
end Go.Proofs.YtegebaomhbogmaaDoor
