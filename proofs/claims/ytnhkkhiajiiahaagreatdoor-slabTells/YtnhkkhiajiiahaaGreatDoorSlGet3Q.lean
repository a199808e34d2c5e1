/- A chunk that is had, by the program. -/
import Derived.Test.YtnhkkhiajiiahaaGreatDoorSlGet2Q
namespace Go.Proofs.YtnhkkhiajiiahaaGreatDoor
open Go.RowKit Go.PlainAid
set_option linter.unusedVariables false
set_option maxRecDepth 20000
theorem chg_nil (w : World) (top : ByteArray) : ChgIs w (.map none) (sl0 top).ch := .inl ⟨rfl, fun _ => rfl⟩
set_option maxHeartbeats 2000000 in
theorem sget_any {w : World} {g N : Nat} {D : Nat → Dk} {sn : Nat} {p : Option Nat} (hB : Bk w g N D sn p) (ht : Tabs w) {i : Nat} (hi : i < N) (hi2 : i ≤ 1000) (hdn : 140 ≤ (D i).n) (hsz : ∀ a, (rdS p (D i) a).size ≤ 2048) {d n : Nat} (hn : 2 ^ d = n) (hd : 1 ≤ d ∧ d ≤ 4) {key : ByteArray} (hky : key.size = 32) (top : ByteArray) {s : Nat} (hs : s < n)
    (hf : FaultIs w (slV (.pointer (some ⟨g, 0, none⟩)) (i : Int) (n : Int) key) (s : Int) 0) :
    Calls Tryz.prog 15 #[slV (.pointer (some ⟨g, 0, none⟩)) (i : Int) (n : Int) key, .string top, .int .i64 (s : Int)] w fun e w' => e = .returned (.tuple #[.string (slGT (rdS p (D i)) (eR p (D i)) d s top (opT key (plc i s))), .int .i64 (slGE (rdS p (D i)) (eR p (D i)) d s top (opE key (plc i s)))]) ∧ Below w.heap.size w w' := by
  have h16 : n ≤ 16 := by rw [← hn]; exact pow_le16 d hd.2
  have hb : Hid (Below w.heap.size w (w.alloc (.cells #[.pointer (some ⟨g, 0, none⟩), .int .i64 (i : Int), .int .i64 (n : Int), .string key] 41))) := (Below.refl _ _).alloc (Nat.le_refl _) _
  have hBx : Hid (Blk _ _ _ _) := Blk.box w 41 [.pointer (some ⟨g, 0, none⟩), .int .i64 (i : Int), .int .i64 (n : Int), .string key]
  have hc : Hid (Calls _ _ _ _ _) := hf _ hb.out
  have hz : Hid ((Tryz.prog.info? 41).map (·.size) = some 4) := Tryz.size41
  have hz3 : Hid ((Tryz.prog.info? 98).map (·.size) = some 3) := Tryz.sizeWay17
  have hzw := zeroWay
  have hle : Hid (∀ z, Below w.heap.size w z → Calls Tryz.prog 42 #[slV (.pointer (some ⟨g, 0, none⟩)) (i : Int) (n : Int) key, .string top, .int .i64 (s : Int), .map none] z fun e w' => (∃ a1 n1 c1 a2 n2 c2 lf, e = .returned (.tuple #[.agg #[.slice a1 n1 c1, .slice a2 n2 c2, .string lf], .int .i64 (ovE (rdS p (D i)) (eR p (D i)) (sl0 top) d s)]) ∧
      (ovE (rdS p (D i)) (eR p (D i)) (sl0 top) d s = 0 → fol d s (slk (rdS p (D i)) (sl0 top) d s) top d = some lf)) ∧ Below z.heap.size z w') := fun z hz => (slead_any (hB.below hz) (ht.below hz ht.lt) hi hdn hn hd key (sl0 top) (chg_nil z top) hs).mono fun e w' ⟨⟨a1, n1, c1, a2, n2, c2, lf, h1, h2⟩, h3⟩ => ⟨⟨a1, n1, c1, a2, n2, c2, lf, h1, fun h => (h2 h).2.2.1⟩, h3⟩
  have hca : Hid (∀ z, Calls Tryz.prog 46 #[.int .i64 (s : Int)] z fun e w' => e = .returned (.int .i64 ((120 + s : Nat) : Int)) ∧ w' = z) := fun z => cellAt_any s (by omega) z
  have hrd : Hid (∀ z, Below w.heap.size w z → Calls Tryz.prog 51 #[.pointer (some ⟨g, 0, none⟩), .int .i64 (i : Int), .int .i64 ((120 + s : Nat) : Int)] z fun e w' => e = .returned (.tuple #[.string (rdS p (D i) (120 + s)), .int .i64 (eR p (D i))]) ∧ w' = z) := fun z hz => bread_at (hB.below hz) hi (by omega)
  have hlf : Hid (∀ z, Below w.heap.size w z → Calls Tryz.prog 44 #[.string (rdS p (D i) (120 + s))] z fun e w' => e = .returned (.string (lH (rdS p (D i) (120 + s)))) ∧ Below z.heap.size z w') := fun z hz => leaf_any _ (Nat.le_trans (hsz _) (by decide)) z (ht.below hz ht.lt)
  have hop : Hid (∀ z, Calls Tryz.prog 52 #[slV (.pointer (some ⟨g, 0, none⟩)) (i : Int) (n : Int) key, .int .i64 (s : Int), .string (rdS p (D i) (120 + s))] z fun e w' => e = .returned (.tuple #[.string (opT key (plc i s) (rdS p (D i) (120 + s))), .int .i64 (opE key (plc i s) (rdS p (D i) (120 + s)))]) ∧ Below z.heap.size z w') := fun z => sopen_any _ _ hi2 (by omega) hky (hsz _)
  have G1 : Hid (ovE (rdS p (D i)) (eR p (D i)) (sl0 top) d s ≠ 0 → slGE (rdS p (D i)) (eR p (D i)) d s top (opE key (plc i s)) = ovE (rdS p (D i)) (eR p (D i)) (sl0 top) d s ∧ slGT (rdS p (D i)) (eR p (D i)) d s top (opT key (plc i s)) = noB) := fun h => slG_bad hd.1 h
  have G2 : Hid (ovE (rdS p (D i)) (eR p (D i)) (sl0 top) d s = 0 → eR p (D i) = 0) := fun h => ovE_zero hd.1 h
  have G3 : Hid (∀ lf, eR p (D i) = 0 → fol d s (slk (rdS p (D i)) (sl0 top) d s) top d = some lf → lH (rdS p (D i) (120 + s)) ≠ lf → slGE (rdS p (D i)) (eR p (D i)) d s top (opE key (plc i s)) = 22 ∧ slGT (rdS p (D i)) (eR p (D i)) d s top (opT key (plc i s)) = noB) := fun lf e h1 h2 => by rw [e]; exact slG_sum h1 h2
  have G4 : Hid (∀ lf, eR p (D i) = 0 → fol d s (slk (rdS p (D i)) (sl0 top) d s) top d = some lf → lH (rdS p (D i) (120 + s)) = lf → slGE (rdS p (D i)) (eR p (D i)) d s top (opE key (plc i s)) = opE key (plc i s) (rdS p (D i) (120 + s)) ∧ slGT (rdS p (D i)) (eR p (D i)) d s top (opT key (plc i s)) = opT key (plc i s) (rdS p (D i) (120 + s))) := fun lf e h1 h2 => by rw [e]; exact slG_ok (h2 ▸ h1)
  generalize slGE (rdS p (D i)) (eR p (D i)) d s top (opE key (plc i s)) = GE at *
  generalize slGT (rdS p (D i)) (eR p (D i)) d s top (opT key (plc i s)) = GT at *
  generalize ovE (rdS p (D i)) (eR p (D i)) (sl0 top) d s = OV at *
  generalize fol d s (slk (rdS p (D i)) (sl0 top) d s) top d = FO at *
  generalize lH (rdS p (D i) (120 + s)) = LH at *
  generalize opT key (plc i s) (rdS p (D i) (120 + s)) = OT at *
  generalize opE key (plc i s) (rdS p (D i) (120 + s)) = OE at *
  generalize rdS p (D i) (120 + s) = cl at *
  generalize eR p (D i) = E at *
  generalize ((120 + s : Nat) : Int) = A at *
  generalize hpv : Value.pointer (some ⟨g, 0, none⟩) = pv at *
  clear hpv hsz hB ht hi hdn hn hd hs hf hky hi2 h16
  have tokA : True := trivial
  go_enter Tryz.func15, Tryz.ntmps15
  generalize hw0 : w.alloc (.cells #[pv, .int .i64 (i : Int), .int .i64 (n : Int), .string key] 41) = w0 at *
  have hgl : Hid (w.heap.size < w0.heap.size) := hBx.out.lt
  by_cases hOV : OV = 0
  · have hE := G2.out hOV
    have g3 : Hid (∀ lf, FO = some lf → LH ≠ lf → GE = 22 ∧ GT = noB) := fun lf => G3.out lf hE
    have g4 : Hid (∀ lf, FO = some lf → LH = lf → GE = OE ∧ GT = OT) := fun lf => G4.out lf hE
    clear G1 G2 G3 G4
    subst hOV
    subst hE
    go_wp2_with (first
      | (have _t := tokA; refine wpList_load_blk rfl 41 _ rfl w.heap.size rfl 41 [pv, .int .i64 (i : Int), .int .i64 (n : Int), .string key] _ hBx.out Tryz.underlying41 rfl hz.out ?_; clear tokA)
      | (go_at_call 38; refine hc.out.mono ?_; rintro e w1 ⟨rfl, hw⟩; have LL : Hid (Below w0.heap.size w0 w1) := hw; have hB1 : Hid (Blk w1 w.heap.size 41 [pv, .int .i64 (i : Int), .int .i64 (n : Int), .string key]) := hBx.out.below hw hgl.out; clear hw)
      | (refine wpList_load_blk rfl 41 _ rfl w.heap.size rfl 41 [pv, .int .i64 (i : Int), .int .i64 (n : Int), .string key] _ hB1.out Tryz.underlying41 rfl hz.out ?_)
      | (go_at_call 42; refine (hle.out _ (hb.out.trans (LL.out.mono hb.out.size))).mono ?_; rintro e w2 ⟨⟨a1, n1, c1, a2, n2, c2, lf, rfl, hlf2⟩, hw⟩; have hfo1 : FO = some lf := (by simpa using hlf2); have HFO : Hid (FO = some lf) := hfo1; clear hfo1; have L2 : Hid (Below w0.heap.size w0 w2) := LL.out.trans (hw.mono LL.out.size); clear hw hlf2)
      | (refine wpList_store_blk rfl 98 _ _ rfl w2.heap.size [.slice none 0 0, .slice none 0 0, .string noB] [.slice a1 n1 c1, .slice a2 n2 c2, .string lf] rfl rfl 98 (Blk.box _ _ _) hz3.out rfl (way_one _ _ _ _ _ _ _) ?_; rw [set_over]))
    have hgl2 : Hid (w0.heap.size ≤ w2.heap.size) := L2.out.size
    have L3 : Hid (Below w0.heap.size w0 (w2.alloc (.cells [.slice a1 n1 c1, .slice a2 n2 c2, .string lf].toArray 98))) := L2.out.alloc L2.out.size _
    have hBw : Hid (Blk (w2.alloc (.cells [.slice a1 n1 c1, .slice a2 n2 c2, .string lf].toArray 98)) w2.heap.size 98 [.slice a1 n1 c1, .slice a2 n2 c2, .string lf]) := Blk.box _ _ _
    generalize hw3 : w2.alloc (.cells [.slice a1 n1 c1, .slice a2 n2 c2, .string lf].toArray 98) = w3 at *
    generalize hgw : w2.heap.size = gw at *
    have hS : Hid (∀ z, Below w3.heap.size w3 z → (z.cell? ⟨w.heap.size, 0, none⟩ = some pv ∧ z.cell? ⟨w.heap.size, 1, none⟩ = some (.int .i64 (i : Int)) ∧ z.cell? ⟨gw, 2, none⟩ = some (.string lf)) ∧ Blk z w.heap.size 41 [pv, .int .i64 (i : Int), .int .i64 (n : Int), .string key] ∧ Below w.heap.size w z) := fun z hz => by
      have hq : Below w0.heap.size w0 z := L3.out.trans (hz.mono L3.out.size)
      have h1 := hBx.out.below hq hgl.out
      have h2 := hBw.out.below hz hBw.out.lt
      exact ⟨⟨h1.cell (i := 0) rfl, h1.cell (i := 1) rfl, h2.cell (i := 2) rfl⟩, h1, hb.out.trans (hq.mono hb.out.size)⟩
    have M0 : Hid (Below w3.heap.size w3 w3.drew) := (Below.refl _ _).drew
    clear hw3 hgw hBw L3 L2 LL hB1 hle hc
    refine wp_region_noPanic ?_
    refine wp_region_held_drew (S := fun z : World => z.cell? ⟨w.heap.size, 0, none⟩ = some pv ∧ z.cell? ⟨w.heap.size, 1, none⟩ = some (.int .i64 (i : Int)) ∧ z.cell? ⟨gw, 2, none⟩ = some (.string lf)) (by kernel_rfl) (hS.out _ M0.out).1 (fun hHeld => ?_)
    refine wpAnyH_take (i := 0) (v := ?_) rfl (by kernel_rfl) (by kernel_rfl) (by kernel_rfl) (fun _ _ _ h => h) (Or.inl ⟨by rfl, ?_⟩) (by assumption) ?_
    rotate_left
    · intro w hSw; go_simp; try with_reducible rfl
    go_simp
    refine wpAnyH_take (i := 1) (v := ?_) rfl (by kernel_rfl) (by kernel_rfl) (by kernel_rfl) (fun _ _ _ h => h) (Or.inl ⟨by rfl, ?_⟩) (by assumption) ?_
    rotate_left
    · intro w hSw; go_simp; try with_reducible rfl
    go_simp
    refine wpAnyH_take (i := 2) (v := ?_) rfl (by kernel_rfl) (by kernel_rfl) (by kernel_rfl) (fun _ _ _ h => h) (Or.inl ⟨by rfl, ?_⟩) (by assumption) ?_
    rotate_left
    · intro w hSw; go_simp; try with_reducible rfl
    go_simp
    refine wpAnyH_take (i := 3) (v := ?_) rfl (by kernel_rfl) (by kernel_rfl) (by kernel_rfl) (fun _ _ _ h => h) (Or.inl ⟨by rfl, ?_⟩) (by assumption) ?_
    rotate_left
    · intro w hSw; go_simp; try with_reducible rfl
    go_simp
    refine wpAnyH_take (i := 4) (v := ?_) rfl (by kernel_rfl) (by kernel_rfl) (by kernel_rfl) (fun _ _ _ h => h) (Or.inl ⟨by rfl, ?_⟩) (by assumption) ?_
    rotate_left
    · intro w hSw; go_simp; try with_reducible rfl
    go_simp
    refine wpAnyH_ready (rs := [5]) (by kernel_rfl) (by simp) (AllReadyH.cons rfl (fun K hK => ?_) AllReadyH.nil)
    go_simp
    go_at_call 46
    refine (hca.out _).mono ?_
    rintro x wa ⟨rfl, hw⟩
    rw [hw]
    clear hw wa
    refine hK.out _ _ (hS.out _ M0.out).1 (fun hHeld => ?_)
    clear hK K
    refine wpAnyH_ready (rs := [6]) (by kernel_rfl) (by simp) (AllReadyH.cons rfl (fun K hK => ?_) AllReadyH.nil)
    go_simp
    go_at_call 51
    refine (hrd.out _ (hS.out _ M0.out).2.2).mono ?_
    rintro x wa ⟨rfl, hw⟩
    rw [hw]
    clear hw wa
    refine hK.out _ _ (hS.out _ M0.out).1 (fun hHeld => ?_)
    clear hK K
    refine wpAnyH_take (i := 7) (v := ?_) rfl (by kernel_rfl) (by kernel_rfl) (by kernel_rfl) (fun _ _ _ h => h) (Or.inl ⟨by rfl, ?_⟩) (by assumption) ?_
    rotate_left
    · intro w hSw; go_simp; try with_reducible rfl
    go_simp
    refine wpAnyH_take (i := 8) (v := ?_) rfl (by kernel_rfl) (by kernel_rfl) (by kernel_rfl) (fun _ _ _ h => h) (Or.inl ⟨by rfl, ?_⟩) (by assumption) ?_
    rotate_left
    · intro w hSw; go_simp; try with_reducible rfl
    go_simp
    refine wpAnyH_take (i := 9) (v := ?_) rfl (by kernel_rfl) (by kernel_rfl) (by kernel_rfl) (fun _ _ _ h => h) (Or.inl ⟨by rfl, ?_⟩) (by assumption) ?_
    rotate_left
    · intro w hSw; go_simp; try with_reducible rfl
    go_simp
    refine wpAnyH_take (i := 10) (v := ?_) rfl (by kernel_rfl) (by kernel_rfl) (by kernel_rfl) (fun _ _ _ h => h) (Or.inl ⟨by rfl, ?_⟩) (by assumption) ?_
    rotate_left
    · intro w hSw; go_simp; try with_reducible rfl
    go_simp
    refine wpAnyH_take (i := 11) (v := ?_) rfl (by kernel_rfl) (by kernel_rfl) (by kernel_rfl) (fun _ _ _ h => h) (Or.inl ⟨by rfl, ?_⟩) (by assumption) ?_
    rotate_left
    · intro w hSw; go_simp; try with_reducible rfl
    go_simp
    refine wpAnyH_done (by kernel_rfl) ?_ _
    refine NoPanic.normal ?_
    go_wp2
    have M1 : Hid (Below w3.heap.size w3 w3.drew.drew) := M0.out.drew
    refine wp_region_noPanic ?_
    refine wp_region_held_drew (S := fun z : World => z.cell? ⟨w.heap.size, 0, none⟩ = some pv ∧ z.cell? ⟨w.heap.size, 1, none⟩ = some (.int .i64 (i : Int)) ∧ z.cell? ⟨gw, 2, none⟩ = some (.string lf)) (by kernel_rfl) (hS.out _ M1.out).1 (fun hHeld => ?_)
    refine wpAnyH_take (i := 0) (v := ?_) rfl (by kernel_rfl) (by kernel_rfl) (by kernel_rfl) (fun _ _ _ h => h) (Or.inl ⟨by rfl, ?_⟩) (by assumption) ?_
    rotate_left
    · intro w hSw; go_simp; try with_reducible rfl
    go_simp
    refine wpAnyH_take (i := 2) (v := ?_) rfl (by kernel_rfl) (by kernel_rfl) (by kernel_rfl) (fun _ _ _ h => h) (Or.inl ⟨by rfl, ?_⟩) (by assumption) ?_
    rotate_left
    · intro w hSw; go_simp; try with_reducible rfl
    go_simp
    refine wpAnyH_take (i := 3) (v := ?_) rfl (by kernel_rfl) (by kernel_rfl) (by kernel_rfl) (fun _ _ _ h => h) (Or.inl ⟨by rfl, ?_⟩) (by assumption) ?_
    rotate_left
    · intro w hSw; go_simp; try with_reducible rfl
    go_simp
    refine wpAnyH_ready (rs := [1]) (by kernel_rfl) (by simp) (AllReadyH.cons rfl (fun K hK => ?_) AllReadyH.nil)
    go_simp
    go_at_call 44
    refine (hlf.out _ (hS.out _ M1.out).2.2).mono ?_
    rintro x wa ⟨rfl, hba⟩
    have M2 : Hid (Below w3.heap.size w3 wa) := M1.out.trans (hba.mono M1.out.size)
    clear hba
    refine hK.out _ _ (hS.out _ M2.out).1 (fun hHeld => ?_)
    clear hK K
    refine wpAnyH_take (i := 4) (v := ?_) rfl (by kernel_rfl) (by kernel_rfl) (by kernel_rfl) (fun _ _ _ h => h) (Or.inl ⟨by rfl, ?_⟩) (by assumption) ?_
    rotate_left
    · intro w hSw; go_simp; try with_reducible rfl
    go_simp
    refine wpAnyH_done (by kernel_rfl) ?_ _
    refine NoPanic.normal ?_
    by_cases hL : LH = lf
    · have HG : Hid (GE = OE ∧ GT = OT) := g4.out lf HFO.out hL
      have heq : (LH.toList == lf.toList) = true := by rw [teq]; exact decide_eq_true hL
      have HL : Hid (LH = lf) := hL
      clear hL
      rw [heq]
      have hBz : Hid (Blk wa w.heap.size 41 [pv, .int .i64 (i : Int), .int .i64 (n : Int), .string key]) := (hS.out _ M2.out).2.1
      go_wp2_with (first
        | (refine wpList_load_blk rfl 41 _ rfl w.heap.size rfl 41 [pv, .int .i64 (i : Int), .int .i64 (n : Int), .string key] _ hBz.out Tryz.underlying41 rfl hz.out ?_)
        | (go_at_call 52; refine (hop.out _).mono ?_; rintro e wb ⟨rfl, hbb⟩; have M3 : Hid (Below w3.heap.size w3 wb) := M2.out.trans (hbb.mono M2.out.size); clear hbb))
      go_ret2
      exact ⟨by rw [HG.out.1, HG.out.2]; rfl, (hS.out _ M3.out).2.2⟩
    · have HG : Hid (GE = 22 ∧ GT = noB) := g3.out lf HFO.out hL
      have heq : (LH.toList == lf.toList) = false := by rw [teq]; exact decide_eq_false hL
      rw [heq]
      go_wp2
      go_ret2
      exact ⟨by rw [HG.out.1, HG.out.2]; rfl, (hS.out _ M2.out).2.2⟩
  · have HG : Hid (GE = OV ∧ GT = noB) := G1.out hOV
    have hE' : (OV != 0) = true := by simpa using hOV
    go_wp2_with (first
      | (have _t := tokA; refine wpList_load_blk rfl 41 _ rfl w.heap.size rfl 41 [pv, .int .i64 (i : Int), .int .i64 (n : Int), .string key] _ hBx.out Tryz.underlying41 rfl hz.out ?_; clear tokA)
      | (go_at_call 38; refine hc.out.mono ?_; rintro e w1 ⟨rfl, hw⟩; have LL : Hid (Below w0.heap.size w0 w1) := hw; have hB1 : Hid (Blk w1 w.heap.size 41 [pv, .int .i64 (i : Int), .int .i64 (n : Int), .string key]) := hBx.out.below hw hgl.out; clear hw)
      | (refine wpList_load_blk rfl 41 _ rfl w.heap.size rfl 41 [pv, .int .i64 (i : Int), .int .i64 (n : Int), .string key] _ hB1.out Tryz.underlying41 rfl hz.out ?_)
      | (go_at_call 42; refine (hle.out _ (hb.out.trans (LL.out.mono hb.out.size))).mono ?_; rintro e w2 ⟨⟨a1, n1, c1, a2, n2, c2, lf, rfl, hlf2⟩, hw⟩; have L2 : Hid (Below w0.heap.size w0 w2) := LL.out.trans (hw.mono LL.out.size); clear hw hlf2)
      | (refine wpList_store_blk rfl 98 _ _ rfl w2.heap.size [.slice none 0 0, .slice none 0 0, .string noB] [.slice a1 n1 c1, .slice a2 n2 c2, .string lf] rfl rfl 98 (Blk.box _ _ _) hz3.out rfl (way_one _ _ _ _ _ _ _) ?_; rw [set_over]))
    go_ret2
    exact ⟨by rw [HG.out.1, HG.out.2]; rfl, (hb.out.trans (L2.out.mono hb.out.size)).alloc (Nat.le_trans hb.out.size L2.out.size) _⟩
end Go.Proofs.YtnhkkhiajiiahaaGreatDoor
