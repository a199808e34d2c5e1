/- What the program asks of a record: all of it. -/
import Derived.Test.YtbjmhpbelkndpaaDoorSuSeats
namespace Go.Proofs.YtbjmhpbelkndpaaDoor
open Go.RowKit Go.PlainAid
set_option linter.unusedVariables false

/-- A row out of a block that is known whole, behind a guard that says yes. -/
theorem yields_row_w {P : Program} {ops : Array Oper} {S : World → Prop} {o : Oper} {a : Act} (hw : Region.wanted o (yielded ops a.tmps) = true) (ty : TypeId) (x : Operand) (ho : o.op = .load ty x)
    (g : Nat) (hx : a.eval x = .pointer (some ⟨g, 0, none⟩)) (t : TypeId) (L : List Value) (d : TypeDesc) (hg : ∀ w, S w → Blk w g t L)
    (hu : P.underlying ty = some d) (hd : (match d with | .struct _ | .array _ _ => true | _ => false) = true) (hi : (P.info? ty).map (·.size) = some L.length) : YieldsIf P ops S o (.agg L.toArray) a :=
  Or.inl ⟨hw, fun w hS => by
    unfold execOp
    simp only [ho, hx, Instr.loadAt, Instr.sureAddr, Sem.run_bind, Sem.run_pure, Result.andThen_ok, run_loadVar_row w g t ty L.toArray (0, 0) d (hg w hS) hu hd (by simpa using hi)]⟩
theorem zeroUnit (w : World) : (zeroValue 96).run Tryd.prog w = .ok (.agg #[]) w := by
  obtain ⟨j, hj, hz⟩ := Option.map_eq_some_iff.1 (show (Tryd.prog.info? 96).map (fun i => i.zero) = some (some (.agg #[])) by kernel_rfl)
  simp [zeroValue, typeInfo, hj, hz]
section
variable {R : Rec} {sa ma : Option Addr} {sc mc : Nat} {w : World}
set_option maxRecDepth 20000 in
set_option maxHeartbeats 2000000 in
theorem sgoodMarks_any (hn : R.nm ≤ 100) (hL : Lies w R sa ma) : Calls Tryd.prog 27 #[.agg (supV R sa ma sc mc).toArray] w fun e w' => e = .returned (.bool (gdC R)) ∧ Below w.heap.size w w' := by
  have hB : Hid (Below w.heap.size w (w.alloc (.cells (supV R sa ma sc mc).toArray 26))) := Below.refl w.heap.size w |>.alloc (Nat.le_refl _) (.cells (supV R sa ma sc mc).toArray 26)
  have hK : Hid (Blk _ w.heap.size 26 (supV R sa ma sc mc)) := Blk.box w 26 (supV R sa ma sc mc)
  have HL : Hid (Lies w R sa ma) := hL
  have HU : Hid (∀ wr, Below w.heap.size w wr → Calls Tryd.prog 44 #[.agg (supV R sa ma sc mc).toArray] wr fun e w' => e = .returned (.int .i64 ((bld R R.nm : Nat) : Int)) ∧ Below wr.heap.size wr w') := fun wr hb => sbuilding_any hn (hL.below hb)
  have HM : Hid (∀ n u wr, Calls Tryd.prog 45 #[.agg (supV R sa ma sc mc).toArray, .int .i64 n, .bool u] wr fun e w' => e = .returned (.bool (okMark n R.slots u)) ∧ Below wr.heap.size wr w') := fun n u wr => sgoodMark_any n u wr
  obtain ⟨L, hLL⟩ : ∃ L, supV R sa ma sc mc = L := ⟨_, rfl⟩
  have c4 : L[4]? = some (.int .i64 R.mark) := by rw [← hLL]; rfl
  have c5 : L[5]? = some (.int .i64 R.built) := by rw [← hLL]; rfl
  have c6 : L[6]? = some (.bool R.grow) := by rw [← hLL]; rfl
  have hl9 : L.length = 9 := by rw [← hLL]; rfl
  have HL9 : Hid ((Tryd.prog.info? 26).map (·.size) = some L.length) := by rw [hl9]; exact Tryd.size26
  have hS : Hid (∀ z : World, Blk z w.heap.size 26 L → (fun z : World => Blk z w.heap.size 26 L ∧ z.cell? ⟨w.heap.size, 4, none⟩ = some (.int .i64 R.mark) ∧ z.cell? ⟨w.heap.size, 5, none⟩ = some (.int .i64 R.built) ∧ z.cell? ⟨w.heap.size, 6, none⟩ = some (.bool R.grow)) z) := fun z hz => ⟨hz, hz.cell c4, hz.cell c5, hz.cell c6⟩
  rw [hLL] at hB hK HU HM ⊢
  have hm1 := HM.out R.mark R.grow
  have hm2 := HM.out R.built (decide (0 < bld R R.nm))
  have HG : Hid (gdC R = (okMark R.mark R.slots R.grow && okMark R.built R.slots (decide (0 < bld R R.nm)))) := rfl
  have hd : decide ((0 : Int) < ((bld R R.nm : Nat) : Int)) = decide (0 < bld R R.nm) := decide_eq_decide.2 (by omega)
  generalize okMark R.built R.slots (decide (0 < bld R R.nm)) = q2 at *
  rw [← hd] at hm2
  clear hd
  generalize ((bld R R.nm : Nat) : Int) = zz at *
  clear c4 c5 c6 hl9 hLL HM hL HL
  obtain ⟨W1, hW1⟩ : ∃ W1, w.alloc (.cells L.toArray 26) = W1 := ⟨_, rfl⟩
  rw [hW1] at hB hK
  cases hq : okMark R.mark R.slots R.grow
  · rw [hq] at hm1
    go_enter Tryd.func27, Tryd.ntmps27
    go_wp2
    clear hW1
    have hK2 : Hid (Blk W1.drew w.heap.size 26 L) := hK.out.drew
    have hB2 : Hid (Below w.heap.size w W1.drew) := hB.out.drew
    clear hK hB
    refine wp_region_noPanic ?_
    refine wp_region_held_drew (S := fun z : World => Blk z w.heap.size 26 L ∧ z.cell? ⟨w.heap.size, 4, none⟩ = some (.int .i64 R.mark) ∧ z.cell? ⟨w.heap.size, 5, none⟩ = some (.int .i64 R.built) ∧ z.cell? ⟨w.heap.size, 6, none⟩ = some (.bool R.grow)) (by kernel_rfl) (hS.out _ hK2.out) (fun hHeld => ?_)
    refine wpAnyH_take (i := 0) (v := .agg L.toArray) rfl (by kernel_rfl) (by kernel_rfl) (by kernel_rfl) (fun _ _ _ h => h) (yields_row rfl 26 _ rfl w.heap.size rfl 26 L _ (fun _ h => h.1) Tryd.underlying26 rfl HL9.out) (by assumption) ?_
    go_simp
    refine wpAnyH_take (i := 1) (v := ?_) rfl (by kernel_rfl) (by kernel_rfl) (by kernel_rfl) (fun _ _ _ h => h) (Or.inl ⟨by rfl, ?_⟩) (by assumption) ?_
    rotate_left
    · intro w hSw; go_simp; try with_reducible rfl
    go_simp
    refine wpAnyH_take (i := 2) (v := ?_) rfl (by kernel_rfl) (by kernel_rfl) (by kernel_rfl) (fun _ _ _ h => h) (Or.inl ⟨by rfl, ?_⟩) (by assumption) ?_
    rotate_left
    · intro w hSw; go_simp; try with_reducible rfl
    go_simp
    refine wpAnyH_take (i := 3) (v := ?_) rfl (by kernel_rfl) (by kernel_rfl) (by kernel_rfl) (fun _ _ _ h => h) (Or.inl ⟨by rfl, ?_⟩) (by assumption) ?_
    rotate_left
    · intro w hSw; go_simp; try with_reducible rfl
    go_simp
    refine wpAnyH_take (i := 4) (v := ?_) rfl (by kernel_rfl) (by kernel_rfl) (by kernel_rfl) (fun _ _ _ h => h) (Or.inl ⟨by rfl, ?_⟩) (by assumption) ?_
    rotate_left
    · intro w hSw; go_simp; try with_reducible rfl
    go_simp
    refine wpAnyH_ready (rs := [5]) (by kernel_rfl) (by simp) (AllReadyH.cons rfl (fun K hK => ?_) AllReadyH.nil)
    go_simp
    go_at_call 45
    refine (hm1 _).mono ?_
    rintro e wa ⟨rfl, hba⟩
    have hB3 : Hid (Below w.heap.size w wa) := hB2.out.trans (hba.mono hB2.out.size)
    have hK3 : Hid (Blk wa w.heap.size 26 L) := hK2.out.below hba hK2.out.lt
    clear hba hB2 hK2
    refine hK.out _ _ (hS.out _ hK3.out) (fun hHeld => ?_)
    clear hK K
    refine wpAnyH_take (i := 6) (v := ?_) rfl (by kernel_rfl) (by kernel_rfl) (by kernel_rfl) (fun _ _ _ h => h) (Or.inl ⟨by rfl, ?_⟩) (by assumption) ?_
    rotate_left
    · intro w hSw; go_simp; try with_reducible rfl
    go_simp
    refine wpAnyH_take (i := 7) (v := undef) rfl (by kernel_rfl) (by kernel_rfl) (by kernel_rfl) (fun _ _ _ h => h) (Or.inr ⟨by rfl, rfl⟩) (by assumption) ?_
    go_simp
    refine wpAnyH_take (i := 8) (v := undef) rfl (by kernel_rfl) (by kernel_rfl) (by kernel_rfl) (fun _ _ _ h => h) (Or.inr ⟨by rfl, rfl⟩) (by assumption) ?_
    go_simp
    refine wpAnyH_take (i := 9) (v := undef) rfl (by kernel_rfl) (by kernel_rfl) (by kernel_rfl) (fun _ _ _ h => h) (Or.inr ⟨by rfl, rfl⟩) (by assumption) ?_
    go_simp
    refine wpAnyH_take (i := 10) (v := undef) rfl (by kernel_rfl) (by kernel_rfl) (by kernel_rfl) (fun _ _ _ h => h) (Or.inr ⟨by rfl, rfl⟩) (by assumption) ?_
    go_simp
    refine wpAnyH_take (i := 11) (v := undef) rfl (by kernel_rfl) (by kernel_rfl) (by kernel_rfl) (fun _ _ _ h => h) (Or.inr ⟨by rfl, rfl⟩) (by assumption) ?_
    go_simp
    refine wpAnyH_take (i := 12) (v := undef) rfl (by kernel_rfl) (by kernel_rfl) (by kernel_rfl) (fun _ _ _ h => h) (Or.inr ⟨by rfl, rfl⟩) (by assumption) ?_
    go_simp
    refine wpAnyH_take (i := 13) (v := undef) rfl (by kernel_rfl) (by kernel_rfl) (by kernel_rfl) (fun _ _ _ h => h) (Or.inr ⟨by rfl, rfl⟩) (by assumption) ?_
    go_simp
    refine wpAnyH_take (i := 14) (v := ?_) rfl (by kernel_rfl) (by kernel_rfl) (by kernel_rfl) (fun _ _ _ h => h) (Or.inl ⟨by rfl, ?_⟩) (by assumption) ?_
    rotate_left
    · intro w hSw; go_simp; try with_reducible rfl
    go_simp
    refine wpAnyH_take (i := 15) (v := ?_) rfl (by kernel_rfl) (by kernel_rfl) (by kernel_rfl) (fun _ _ _ h => h) (Or.inl ⟨by rfl, ?_⟩) (by assumption) ?_
    rotate_left
    · intro w hSw; go_simp; try with_reducible rfl
    go_simp
    refine wpAnyH_done (by kernel_rfl) ?_ _
    refine NoPanic.normal ?_
    go_wp2
    go_ret
    exact ⟨by rw [HG.out, hq]; rfl, hB3.out⟩
  · rw [hq] at hm1
    go_enter Tryd.func27, Tryd.ntmps27
    go_wp2
    clear hW1
    have hK2 : Hid (Blk W1.drew w.heap.size 26 L) := hK.out.drew
    have hB2 : Hid (Below w.heap.size w W1.drew) := hB.out.drew
    clear hK hB
    refine wp_region_noPanic ?_
    refine wp_region_held_drew (S := fun z : World => Blk z w.heap.size 26 L ∧ z.cell? ⟨w.heap.size, 4, none⟩ = some (.int .i64 R.mark) ∧ z.cell? ⟨w.heap.size, 5, none⟩ = some (.int .i64 R.built) ∧ z.cell? ⟨w.heap.size, 6, none⟩ = some (.bool R.grow)) (by kernel_rfl) (hS.out _ hK2.out) (fun hHeld => ?_)
    refine wpAnyH_take (i := 0) (v := .agg L.toArray) rfl (by kernel_rfl) (by kernel_rfl) (by kernel_rfl) (fun _ _ _ h => h) (yields_row rfl 26 _ rfl w.heap.size rfl 26 L _ (fun _ h => h.1) Tryd.underlying26 rfl HL9.out) (by assumption) ?_
    go_simp
    refine wpAnyH_take (i := 1) (v := ?_) rfl (by kernel_rfl) (by kernel_rfl) (by kernel_rfl) (fun _ _ _ h => h) (Or.inl ⟨by rfl, ?_⟩) (by assumption) ?_
    rotate_left
    · intro w hSw; go_simp; try with_reducible rfl
    go_simp
    refine wpAnyH_take (i := 2) (v := ?_) rfl (by kernel_rfl) (by kernel_rfl) (by kernel_rfl) (fun _ _ _ h => h) (Or.inl ⟨by rfl, ?_⟩) (by assumption) ?_
    rotate_left
    · intro w hSw; go_simp; try with_reducible rfl
    go_simp
    refine wpAnyH_take (i := 3) (v := ?_) rfl (by kernel_rfl) (by kernel_rfl) (by kernel_rfl) (fun _ _ _ h => h) (Or.inl ⟨by rfl, ?_⟩) (by assumption) ?_
    rotate_left
    · intro w hSw; go_simp; try with_reducible rfl
    go_simp
    refine wpAnyH_take (i := 4) (v := ?_) rfl (by kernel_rfl) (by kernel_rfl) (by kernel_rfl) (fun _ _ _ h => h) (Or.inl ⟨by rfl, ?_⟩) (by assumption) ?_
    rotate_left
    · intro w hSw; go_simp; try with_reducible rfl
    go_simp
    refine wpAnyH_ready (rs := [5]) (by kernel_rfl) (by simp) (AllReadyH.cons rfl (fun K hK => ?_) AllReadyH.nil)
    go_simp
    go_at_call 45
    refine (hm1 _).mono ?_
    rintro e wa ⟨rfl, hba⟩
    have hB3 : Hid (Below w.heap.size w wa) := hB2.out.trans (hba.mono hB2.out.size)
    have hK3 : Hid (Blk wa w.heap.size 26 L) := hK2.out.below hba hK2.out.lt
    clear hba hB2 hK2
    refine hK.out _ _ (hS.out _ hK3.out) (fun hHeld => ?_)
    clear hK K
    refine wpAnyH_take (i := 6) (v := ?_) rfl (by kernel_rfl) (by kernel_rfl) (by kernel_rfl) (fun _ _ _ h => h) (Or.inl ⟨by rfl, ?_⟩) (by assumption) ?_
    rotate_left
    · intro w hSw; go_simp; try with_reducible rfl
    go_simp
    refine wpAnyH_take (i := 7) (v := .agg L.toArray) rfl (by kernel_rfl) (by kernel_rfl) (by kernel_rfl) (fun _ _ _ h => h) (yields_row_w rfl 26 _ rfl w.heap.size rfl 26 L _ (fun _ h => h.1) Tryd.underlying26 rfl HL9.out) (by assumption) ?_
    go_simp
    refine wpAnyH_take (i := 8) (v := ?_) rfl (by kernel_rfl) (by kernel_rfl) (by kernel_rfl) (fun _ _ _ h => h) (Or.inl ⟨by rfl, ?_⟩) (by assumption) ?_
    rotate_left
    · intro w hSw; go_simp; try with_reducible rfl
    go_simp
    refine wpAnyH_take (i := 9) (v := ?_) rfl (by kernel_rfl) (by kernel_rfl) (by kernel_rfl) (fun _ _ _ h => h) (Or.inl ⟨by rfl, ?_⟩) (by assumption) ?_
    rotate_left
    · intro w hSw; go_simp; try with_reducible rfl
    go_simp
    refine wpAnyH_take (i := 10) (v := .agg L.toArray) rfl (by kernel_rfl) (by kernel_rfl) (by kernel_rfl) (fun _ _ _ h => h) (yields_row_w rfl 26 _ rfl w.heap.size rfl 26 L _ (fun _ h => h.1) Tryd.underlying26 rfl HL9.out) (by assumption) ?_
    go_simp
    refine wpAnyH_ready (rs := [11]) (by kernel_rfl) (by simp) (AllReadyH.cons rfl (fun K hK => ?_) AllReadyH.nil)
    go_simp
    go_at_call 44
    refine (HU.out _ hB3.out).mono ?_
    rintro e wb ⟨rfl, hbb⟩
    have hB4 : Hid (Below w.heap.size w wb) := hB3.out.trans (hbb.mono hB3.out.size)
    have hK4 : Hid (Blk wb w.heap.size 26 L) := hK3.out.below hbb hK3.out.lt
    clear hbb hB3 hK3
    refine hK.out _ _ (hS.out _ hK4.out) (fun hHeld => ?_)
    clear hK K
    refine wpAnyH_take (i := 12) (v := ?_) rfl (by kernel_rfl) (by kernel_rfl) (by kernel_rfl) (fun _ _ _ h => h) (Or.inl ⟨by rfl, ?_⟩) (by assumption) ?_
    rotate_left
    · intro w hSw; go_simp; try with_reducible rfl
    go_simp
    refine wpAnyH_ready (rs := [13]) (by kernel_rfl) (by simp) (AllReadyH.cons rfl (fun K hK => ?_) AllReadyH.nil)
    go_simp
    go_at_call 45
    refine (hm2 _).mono ?_
    rintro e wc ⟨rfl, hbc⟩
    have hB5 : Hid (Below w.heap.size w wc) := hB4.out.trans (hbc.mono hB4.out.size)
    have hK5 : Hid (Blk wc w.heap.size 26 L) := hK4.out.below hbc hK4.out.lt
    clear hbc hB4 hK4
    refine hK.out _ _ (hS.out _ hK5.out) (fun hHeld => ?_)
    clear hK K
    refine wpAnyH_take (i := 14) (v := ?_) rfl (by kernel_rfl) (by kernel_rfl) (by kernel_rfl) (fun _ _ _ h => h) (Or.inl ⟨by rfl, ?_⟩) (by assumption) ?_
    rotate_left
    · intro w hSw; go_simp; try with_reducible rfl
    go_simp
    refine wpAnyH_take (i := 15) (v := ?_) rfl (by kernel_rfl) (by kernel_rfl) (by kernel_rfl) (fun _ _ _ h => h) (Or.inl ⟨by rfl, ?_⟩) (by assumption) ?_
    rotate_left
    · intro w hSw; go_simp; try with_reducible rfl
    go_simp
    refine wpAnyH_done (by kernel_rfl) ?_ _
    refine NoPanic.normal ?_
    go_wp2
    go_ret
    exact ⟨by rw [HG.out, hq]; rfl, hB5.out⟩
set_option maxRecDepth 20000 in
set_option maxHeartbeats 1000000 in
theorem sgoodSeats_any (hf : R.Fine) (hd : 2 ≤ R.data ∧ R.data ≤ 8) (hL : Lies w R sa ma) : Calls Tryd.prog 28 #[.agg (supV R sa ma sc mc).toArray] w fun e w' => e = .returned (.bool (gdD R)) ∧ Below w.heap.size w w' := by
  have hn := hf.nm
  have hs := hf.ns
  have hB : Hid (Below w.heap.size w (w.alloc (.cells (supV R sa ma sc mc).toArray 26))) := Below.refl w.heap.size w |>.alloc (Nat.le_refl _) (.cells (supV R sa ma sc mc).toArray 26)
  have hK : Hid (Blk _ w.heap.size 26 (supV R sa ma sc mc)) := Blk.box w 26 (supV R sa ma sc mc)
  have HL : Hid (Lies w R sa ma) := hL
  have HW : Hid (∀ wr, Calls Tryd.prog 46 #[.agg (supV R sa ma sc mc).toArray] wr fun e w' => e = .returned (.int .i64 (wid R)) ∧ Below wr.heap.size wr w') := fun wr => swidth_any hd wr
  have HI : Hid (∀ wr, Below w.heap.size w wr → Calls Tryd.prog 47 #[.agg (supV R sa ma sc mc).toArray] wr fun e w' => ∃ b, e = .returned (.map (some b)) ∧ wr.heap.size ≤ b ∧ Sit R w' b R.ns ∧ Below wr.heap.size wr w') := fun wr hb => ssitting_any hs hn (hL.below hb)
  obtain ⟨Z, hZl, hZ⟩ := zeroMem
  have HZ : Hid (Z.length = 3) := hZl
  have hZU := zeroUnit
  have hF := hf.st
  have HFS : Hid (∀ i, i < R.nm → _) := hF
  have HG : Hid (gdD R = (decide ((R.ns : Int) = wid R) && decide (gdF R) && nOf (fresh R) R.ns == R.ns)) := rfl
  obtain ⟨L, hLL⟩ : ∃ L, supV R sa ma sc mc = L := ⟨_, rfl⟩
  have c7 : L[7]? = some (.slice sa R.ns sc) := by rw [← hLL]; rfl
  have c8 : L[8]? = some (.slice ma R.nm mc) := by rw [← hLL]; rfl
  have hl9 : L.length = 9 := by rw [← hLL]; rfl
  have HL9 : Hid ((Tryd.prog.info? 26).map (·.size) = some L.length) := by rw [hl9]; exact Tryd.size26
  have HC7 : Hid (L[7]? = some (.slice sa R.ns sc)) := c7
  have HC8 : Hid (L[8]? = some (.slice ma R.nm mc)) := c8
  have hS : Hid (∀ z : World, Blk z w.heap.size 26 L → (fun z : World => Blk z w.heap.size 26 L ∧ z.cell? ⟨w.heap.size, 7, none⟩ = some (.slice sa R.ns sc)) z) := fun z hz => ⟨hz, hz.cell c7⟩
  rw [hLL] at hB hK HW HI ⊢
  generalize wid R = V at *
  clear c7 c8 hl9 hLL hL hZl hd hF hf
  obtain ⟨W1, hW1⟩ : ∃ W1, w.alloc (.cells L.toArray 26) = W1 := ⟨_, rfl⟩
  rw [hW1] at hB hK
  have hK2 : Hid (Blk W1.drew w.heap.size 26 L) := hK.out.drew
  have hB2 : Hid (Below w.heap.size w W1.drew) := hB.out.drew
  clear hK hB
  by_cases hV : (R.ns : Int) = V
  · have hV' : ((R.ns : Int) == V) = true := by simpa using hV
    have HV : Hid ((R.ns : Int) = V) := hV
    clear hV
    go_enter Tryd.func28, Tryd.ntmps28
    go_wp2
    clear hW1
    refine wp_region_noPanic ?_
    refine wp_region_held_drew (S := fun z : World => Blk z w.heap.size 26 L ∧ z.cell? ⟨w.heap.size, 7, none⟩ = some (.slice sa R.ns sc)) (by kernel_rfl) (hS.out _ hK2.out) (fun hHeld => ?_)
    refine wpAnyH_take (i := 0) (v := ?_) rfl (by kernel_rfl) (by kernel_rfl) (by kernel_rfl) (fun _ _ _ h => h) (Or.inl ⟨by rfl, ?_⟩) (by assumption) ?_
    rotate_left
    · intro w hSw; go_simp; try with_reducible rfl
    go_simp
    refine wpAnyH_take (i := 1) (v := ?_) rfl (by kernel_rfl) (by kernel_rfl) (by kernel_rfl) (fun _ _ _ h => h) (Or.inl ⟨by rfl, ?_⟩) (by assumption) ?_
    rotate_left
    · intro w hSw; go_simp; try with_reducible rfl
    go_simp
    refine wpAnyH_take (i := 2) (v := ?_) rfl (by kernel_rfl) (by kernel_rfl) (by kernel_rfl) (fun _ _ _ h => h) (Or.inl ⟨by rfl, ?_⟩) (by assumption) ?_
    rotate_left
    · intro w hSw; go_simp; try with_reducible rfl
    go_simp
    refine wpAnyH_take (i := 3) (v := .agg L.toArray) rfl (by kernel_rfl) (by kernel_rfl) (by kernel_rfl) (fun _ _ _ h => h) (yields_row rfl 26 _ rfl w.heap.size rfl 26 L _ (fun _ h => h.1) Tryd.underlying26 rfl HL9.out) (by assumption) ?_
    go_simp
    refine wpAnyH_ready (rs := [4]) (by kernel_rfl) (by simp) (AllReadyH.cons rfl (fun K hK => ?_) AllReadyH.nil)
    go_simp
    go_at_call 46
    refine (HW.out _).mono ?_
    rintro e wa ⟨rfl, hba⟩
    have hB3 : Hid (Below w.heap.size w wa) := hB2.out.trans (hba.mono hB2.out.size)
    have hK3 : Hid (Blk wa w.heap.size 26 L) := hK2.out.below hba hK2.out.lt
    clear hba hB2 hK2
    refine hK.out _ _ (hS.out _ hK3.out) (fun hHeld => ?_)
    clear hK K
    refine wpAnyH_take (i := 5) (v := ?_) rfl (by kernel_rfl) (by kernel_rfl) (by kernel_rfl) (fun _ _ _ h => h) (Or.inl ⟨by rfl, ?_⟩) (by assumption) ?_
    rotate_left
    · intro w hSw; go_simp; try with_reducible rfl
    go_simp
    refine wpAnyH_done (by kernel_rfl) ?_ _
    refine NoPanic.normal ?_
    clear hHeld hS
    go_wp2_with (first
      | (refine wpList_load_blk rfl 26 _ rfl w.heap.size rfl 26 L _ hK3.out Tryd.underlying26 rfl HL9.out ?_)
      | (go_at_call 47; refine (HI.out _ hB3.out).mono ?_; rintro e wb ⟨mb, rfl, hmb, hsit, hbb⟩; have hB4 : Hid (Below w.heap.size w wb) := hB3.out.trans (hbb.mono hB3.out.size); have hK4 : Hid (Blk wb w.heap.size 26 L) := hK3.out.below hbb hK3.out.lt; have hS4 : Hid (Sit R wb mb R.ns) := hsit; have c8' := hK4.out.cell HC8.out; clear hbb hB3 hK3 hsit hmb))
    clear c8'
    go_loopw [19] (fun i wr => ∃ k : Nat, k ≤ R.nm ∧ i = .int .i64 (k : Int) ∧ Hid (∀ j, j < k → fitB (R.st j) (decide (0 < cnt R (j : Int) R.ns)) = true) ∧ Hid (Below w.heap.size w wr) ∧ Hid (Blk wr w.heap.size 26 L) ∧ Hid (Sit R wr mb R.ns)) (fun i _ => R.nm - (intOf i).toNat)
    case atStart => exact ⟨0, Nat.zero_le _, rfl, fun j hj => by omega, hB4.out, hK4.out, hS4.out⟩
    case round =>
      clear hB4 hK4 hS4
      obtain ⟨k, hk, rfl, ht, hb, hbx, hsit⟩ := hrel
      by_cases hlt : k < R.nm
      · have hk' : (k : Int) < (R.nm : Int) := by omega
        obtain ⟨b, o, rfl, hr⟩ := HL.out.2.at hb.out k hlt
        have HR : Hid (wr.rangeAt b (o + k * 3) _) := hr
        have hxx := Below.boxed wr 64 Z (mrow (R.st k) (R.top k) (R.log k))
        have hx : Hid (Below _ _ _) := hb.out.trans (hxx.mono hb.out.size)
        have hxk : Hid (Blk _ w.heap.size 26 L) := hbx.out.below hxx hbx.out.lt
        have hxs : Hid (Sit R _ mb R.ns) := hsit.out.below hxx
        have hxb : Hid (Blk _ wr.heap.size 64 _) := Blk.boxed wr 64 Z (mrow (R.st k) (R.top k) (R.log k))
        clear hr hb hbx hxx hsit
        obtain ⟨wx, hwx⟩ : ∃ wx, (wr.alloc (.cells Z.toArray 64)).setRow wr.heap.size (mrow (R.st k) (R.top k) (R.log k)).toArray = wx := ⟨_, rfl⟩
        rw [hwx] at hx hxk hxs hxb
        have hlk := hxs.out.look k hlt hn
        have c0 := (hxb.out.alloc (.cells #[] 96)).cell (i := 0) rfl
        have hyb : Below wx.heap.size wx (wx.alloc (.cells #[] 96)) := (Below.refl _ _).alloc (Nat.le_refl _) _
        have hx2 : Hid (Below _ _ _) := hx.out.trans (hyb.mono hx.out.size)
        have hxk2 : Hid (Blk _ w.heap.size 26 L) := hxk.out.below hyb hxk.out.lt
        have hxs2 : Hid (Sit R _ mb R.ns) := hxs.out.below hyb
        have hft := sfits_any (R.st k) (decide (0 < cnt R (k : Int) R.ns))
        clear hx hxk hxs hyb hxb
        obtain ⟨u, hu⟩ : ∃ u, decide (0 < cnt R (k : Int) R.ns) = u := ⟨_, rfl⟩
        have HU : Hid (decide (0 < cnt R (k : Int) R.ns) = u) := hu
        rw [hu] at hlk hft
        clear hu
        cases hq : fitB (R.st k) u
        · rw [hq] at hft
          have hno : ¬ gdF R := fun h => by have := h k hlt; rw [HU.out, hq] at this; exact absurd this (by decide)
          have HN : Hid (gdD R = false) := by rw [HG.out, decide_eq_false hno, Bool.and_false]; rfl
          clear hno
          go_wp2_with (first
            | (refine wpList_load_mid rfl 64 _ rfl b (o + k * 3) rfl _ _ HR.out Tryd.underlying64 rfl Tryd.size64 ?_)
            | (refine wpList_store_blk rfl 64 _ _ rfl wr.heap.size Z (mrow (R.st k) (R.top k) (R.log k)) rfl rfl 64 (Blk.box _ _ _) Tryd.size64 (by rw [HZ.out]; rfl) (mrow_one _ _ _) ?_; rw [hwx]; clear hwx)
            | (go_at_call 48; refine (hft _).mono ?_; rintro e w2 ⟨rfl, rfl⟩))
          go_ret
          exact ⟨by rw [HN.out]; rfl, hx2.out⟩
        · rw [hq] at hft
          go_wp2_with (first
            | (refine wpList_load_mid rfl 64 _ rfl b (o + k * 3) rfl _ _ HR.out Tryd.underlying64 rfl Tryd.size64 ?_)
            | (refine wpList_store_blk rfl 64 _ _ rfl wr.heap.size Z (mrow (R.st k) (R.top k) (R.log k)) rfl rfl 64 (Blk.box _ _ _) Tryd.size64 (by rw [HZ.out]; rfl) (mrow_one _ _ _) ?_; rw [hwx]; clear hwx)
            | (go_at_call 48; refine (hft _).mono ?_; rintro e w2 ⟨rfl, rfl⟩))
          go_roundw
          case rel => exact ⟨k + 1, by omega, by go_num, fun j hj => by
            by_cases e : j = k
            · rw [e, HU.out]; exact hq
            · exact ht.out j (by omega), hx2.out, hxk2.out, hxs2.out⟩
          case measure => simp [intOf]; omega
      · obtain rfl : k = R.nm := by omega
        have hk' : ¬ (R.nm : Int) < (R.nm : Int) := by omega
        have hyes : gdF R := ht.out
        have c7' := hbx.out.cell HC7.out
        have hlen := fun ty => hsit.out.len ty
        have hle := nOf_le (fresh R) R.ns
        have HN1 : gdD R = decide (((nOf (fresh R) R.ns : Nat) : Int) = (R.ns : Int)) := by
          rw [HG.out, decide_eq_true hyes, decide_eq_true HV.out, Bool.true_and, Bool.true_and, Bool.eq_iff_iff, decide_eq_true_eq, beq_iff_eq]; omega
        have HN : Hid (gdD R = decide (((nOf (fresh R) R.ns : Nat) : Int) = (R.ns : Int))) := HN1
        clear HN1
        generalize nOf (fresh R) R.ns = q at *
        clear hyes
        by_cases hqq : (q : Int) = (R.ns : Int)
        · have HQ : Hid (gdD R = true) := HN.out.trans (decide_eq_true hqq)
          have hq2 : ((q : Int) == (R.ns : Int)) = true := by simpa using hqq
          clear hqq HN
          go_wp2
          go_ret
          exact ⟨by rw [HQ.out]; rfl, hb.out⟩
        · have HQ : Hid (gdD R = false) := HN.out.trans (decide_eq_false hqq)
          have hq2 : ((q : Int) == (R.ns : Int)) = false := by simpa using hqq
          clear HN
          go_wp2
          go_ret
          exact ⟨by rw [HQ.out]; rfl, hb.out⟩
  · have hV' : ((R.ns : Int) == V) = false := by simpa using hV
    have hV2 : ((R.ns : Int) != V) = true := by simpa using hV
    have HN : Hid (gdD R = false) := by rw [HG.out, decide_eq_false hV]; rfl
    go_enter Tryd.func28, Tryd.ntmps28
    go_wp2
    clear hW1
    refine wp_region_noPanic ?_
    refine wp_region_held_drew (S := fun z : World => Blk z w.heap.size 26 L ∧ z.cell? ⟨w.heap.size, 7, none⟩ = some (.slice sa R.ns sc)) (by kernel_rfl) (hS.out _ hK2.out) (fun hHeld => ?_)
    refine wpAnyH_take (i := 0) (v := ?_) rfl (by kernel_rfl) (by kernel_rfl) (by kernel_rfl) (fun _ _ _ h => h) (Or.inl ⟨by rfl, ?_⟩) (by assumption) ?_
    rotate_left
    · intro w hSw; go_simp; try with_reducible rfl
    go_simp
    refine wpAnyH_take (i := 1) (v := ?_) rfl (by kernel_rfl) (by kernel_rfl) (by kernel_rfl) (fun _ _ _ h => h) (Or.inl ⟨by rfl, ?_⟩) (by assumption) ?_
    rotate_left
    · intro w hSw; go_simp; try with_reducible rfl
    go_simp
    refine wpAnyH_take (i := 2) (v := ?_) rfl (by kernel_rfl) (by kernel_rfl) (by kernel_rfl) (fun _ _ _ h => h) (Or.inl ⟨by rfl, ?_⟩) (by assumption) ?_
    rotate_left
    · intro w hSw; go_simp; try with_reducible rfl
    go_simp
    refine wpAnyH_take (i := 3) (v := .agg L.toArray) rfl (by kernel_rfl) (by kernel_rfl) (by kernel_rfl) (fun _ _ _ h => h) (yields_row rfl 26 _ rfl w.heap.size rfl 26 L _ (fun _ h => h.1) Tryd.underlying26 rfl HL9.out) (by assumption) ?_
    go_simp
    refine wpAnyH_ready (rs := [4]) (by kernel_rfl) (by simp) (AllReadyH.cons rfl (fun K hK => ?_) AllReadyH.nil)
    go_simp
    go_at_call 46
    refine (HW.out _).mono ?_
    rintro e wa ⟨rfl, hba⟩
    have hB3 : Hid (Below w.heap.size w wa) := hB2.out.trans (hba.mono hB2.out.size)
    have hK3 : Hid (Blk wa w.heap.size 26 L) := hK2.out.below hba hK2.out.lt
    clear hba hB2 hK2
    refine hK.out _ _ (hS.out _ hK3.out) (fun hHeld => ?_)
    clear hK K
    refine wpAnyH_take (i := 5) (v := ?_) rfl (by kernel_rfl) (by kernel_rfl) (by kernel_rfl) (fun _ _ _ h => h) (Or.inl ⟨by rfl, ?_⟩) (by assumption) ?_
    rotate_left
    · intro w hSw; go_simp; try with_reducible rfl
    go_simp
    refine wpAnyH_done (by kernel_rfl) ?_ _
    refine NoPanic.normal ?_
    clear hHeld hS
    go_wp2
    go_ret
    exact ⟨by rw [HN.out]; rfl, hB3.out⟩
set_option maxRecDepth 20000 in
set_option maxHeartbeats 1000000 in
theorem sgood_any (hf : R.Fine) (hL : Lies w R sa ma) : Calls Tryd.prog 13 #[.agg (supV R sa ma sc mc).toArray] w fun e w' => e = .returned (.bool (gd R)) ∧ Below w.heap.size w w' := by
  have hB : Hid (Below w.heap.size w (w.alloc (.cells (supV R sa ma sc mc).toArray 26))) := Below.refl w.heap.size w |>.alloc (Nat.le_refl _) (.cells (supV R sa ma sc mc).toArray 26)
  have hK : Hid (Blk _ w.heap.size 26 (supV R sa ma sc mc)) := Blk.box w 26 (supV R sa ma sc mc)
  have HA : Hid (∀ wr, Calls Tryd.prog 25 #[.agg (supV R sa ma sc mc).toArray] wr fun e w' => e = .returned (.bool (gdA R)) ∧ Below wr.heap.size wr w') := fun wr => sgoodSizes_any wr
  have HB : Hid (∀ wr, Below w.heap.size w wr → Calls Tryd.prog 26 #[.agg (supV R sa ma sc mc).toArray] wr fun e w' => e = .returned (.bool (gdB R)) ∧ Below wr.heap.size wr w') := fun wr hb => sgoodMembers_any hf.nm (hL.below hb)
  have HC : Hid (∀ wr, Below w.heap.size w wr → Calls Tryd.prog 27 #[.agg (supV R sa ma sc mc).toArray] wr fun e w' => e = .returned (.bool (gdC R)) ∧ Below wr.heap.size wr w') := fun wr hb => sgoodMarks_any hf.nm (hL.below hb)
  have HD : Hid (gdA R = true → ∀ wr, Below w.heap.size w wr → Calls Tryd.prog 28 #[.agg (supV R sa ma sc mc).toArray] wr fun e w' => e = .returned (.bool (gdD R)) ∧ Below wr.heap.size wr w') := fun ha wr hb => sgoodSeats_any hf (by
    simp only [gdA, Bool.and_eq_true, decide_eq_true_eq] at ha
    obtain ⟨⟨h1, h2⟩, -⟩ := ha
    have h3 : mst R ≤ 8 := by unfold mst; cases R.grow <;> decide
    exact ⟨h1, by omega⟩) (hL.below hb)
  obtain ⟨L, hLL⟩ : ∃ L, supV R sa ma sc mc = L := ⟨_, rfl⟩
  have hl9 : L.length = 9 := by rw [← hLL]; rfl
  have HL9 : Hid ((Tryd.prog.info? 26).map (·.size) = some L.length) := by rw [hl9]; exact Tryd.size26
  unfold gd
  rw [hLL] at hB hK HA HB HC HD ⊢
  obtain ⟨W1, hW1⟩ : ∃ W1, w.alloc (.cells L.toArray 26) = W1 := ⟨_, rfl⟩
  rw [hW1] at hB hK
  clear hLL hl9 hL hf
  generalize gdA R = qa at *
  generalize gdB R = qb at *
  generalize gdC R = qc at *
  generalize gdD R = qd at *
  cases qa
  · go_enter Tryd.func13, Tryd.ntmps13
    go_wp2_with (first
      | (refine wpList_load_blk rfl 26 _ rfl w.heap.size rfl 26 L _ hK.out Tryd.underlying26 rfl HL9.out ?_)
      | (go_at_call 25; refine (HA.out _).mono ?_; rintro e wa ⟨rfl, hba⟩; have hB2 : Hid (Below w.heap.size w wa) := hB.out.trans (hba.mono hB.out.size); clear hba))
    go_ret
    exact ⟨rfl, hB2.out⟩
  · have HD2 : Hid _ := HD.out rfl
    cases qb
    · go_enter Tryd.func13, Tryd.ntmps13
      go_wp2_with (first
        | (refine wpList_load_blk rfl 26 _ rfl w.heap.size rfl 26 L _ hK.out Tryd.underlying26 rfl HL9.out ?_)
        | (refine wpList_load_want 26 _ rfl ?_ w.heap.size rfl 26 L _ hK2.out Tryd.underlying26 rfl HL9.out ?_)
        | (go_at_call 25; refine (HA.out _).mono ?_; rintro e wa ⟨rfl, hba⟩; have hB2 : Hid (Below w.heap.size w wa) := hB.out.trans (hba.mono hB.out.size); have hK2 : Hid (Blk wa w.heap.size 26 L) := hK.out.below hba hK.out.lt; clear hba)
        | (go_at_call 26; refine (HB.out _ hB2.out).mono ?_; rintro e wb ⟨rfl, hba⟩; have hB3 : Hid (Below w.heap.size w wb) := hB2.out.trans (hba.mono hB2.out.size); have hK3 : Hid (Blk wb w.heap.size 26 L) := hK2.out.below hba hK2.out.lt; clear hba))
      go_ret
      exact ⟨rfl, hB3.out⟩
    · cases qc
      · go_enter Tryd.func13, Tryd.ntmps13
        go_wp2_with (first
          | (refine wpList_load_blk rfl 26 _ rfl w.heap.size rfl 26 L _ hK.out Tryd.underlying26 rfl HL9.out ?_)
          | (refine wpList_load_want 26 _ rfl ?_ w.heap.size rfl 26 L _ hK2.out Tryd.underlying26 rfl HL9.out ?_)
          | (refine wpList_load_want 26 _ rfl ?_ w.heap.size rfl 26 L _ hK3.out Tryd.underlying26 rfl HL9.out ?_)
          | (go_at_call 25; refine (HA.out _).mono ?_; rintro e wa ⟨rfl, hba⟩; have hB2 : Hid (Below w.heap.size w wa) := hB.out.trans (hba.mono hB.out.size); have hK2 : Hid (Blk wa w.heap.size 26 L) := hK.out.below hba hK.out.lt; clear hba)
          | (go_at_call 26; refine (HB.out _ hB2.out).mono ?_; rintro e wb ⟨rfl, hba⟩; have hB3 : Hid (Below w.heap.size w wb) := hB2.out.trans (hba.mono hB2.out.size); have hK3 : Hid (Blk wb w.heap.size 26 L) := hK2.out.below hba hK2.out.lt; clear hba)
          | (go_at_call 27; refine (HC.out _ hB3.out).mono ?_; rintro e wc ⟨rfl, hba⟩; have hB4 : Hid (Below w.heap.size w wc) := hB3.out.trans (hba.mono hB3.out.size); have hK4 : Hid (Blk wc w.heap.size 26 L) := hK3.out.below hba hK3.out.lt; clear hba))
        go_ret
        exact ⟨rfl, hB4.out⟩
      · go_enter Tryd.func13, Tryd.ntmps13
        go_wp2_with (first
          | (refine wpList_load_blk rfl 26 _ rfl w.heap.size rfl 26 L _ hK.out Tryd.underlying26 rfl HL9.out ?_)
          | (refine wpList_load_want 26 _ rfl ?_ w.heap.size rfl 26 L _ hK2.out Tryd.underlying26 rfl HL9.out ?_)
          | (refine wpList_load_want 26 _ rfl ?_ w.heap.size rfl 26 L _ hK3.out Tryd.underlying26 rfl HL9.out ?_)
          | (refine wpList_load_want 26 _ rfl ?_ w.heap.size rfl 26 L _ hK4.out Tryd.underlying26 rfl HL9.out ?_)
          | (go_at_call 25; refine (HA.out _).mono ?_; rintro e wa ⟨rfl, hba⟩; have hB2 : Hid (Below w.heap.size w wa) := hB.out.trans (hba.mono hB.out.size); have hK2 : Hid (Blk wa w.heap.size 26 L) := hK.out.below hba hK.out.lt; clear hba)
          | (go_at_call 26; refine (HB.out _ hB2.out).mono ?_; rintro e wb ⟨rfl, hba⟩; have hB3 : Hid (Below w.heap.size w wb) := hB2.out.trans (hba.mono hB2.out.size); have hK3 : Hid (Blk wb w.heap.size 26 L) := hK2.out.below hba hK2.out.lt; clear hba)
          | (go_at_call 27; refine (HC.out _ hB3.out).mono ?_; rintro e wc ⟨rfl, hba⟩; have hB4 : Hid (Below w.heap.size w wc) := hB3.out.trans (hba.mono hB3.out.size); have hK4 : Hid (Blk wc w.heap.size 26 L) := hK3.out.below hba hK3.out.lt; clear hba)
          | (go_at_call 28; refine (HD2.out _ hB4.out).mono ?_; rintro e wd ⟨rfl, hba⟩; have hB5 : Hid (Below w.heap.size w wd) := hB4.out.trans (hba.mono hB4.out.size); clear hba))
        go_ret
        exact ⟨rfl, hB5.out⟩
end
end Go.Proofs.YtbjmhpbelkndpaaDoor
