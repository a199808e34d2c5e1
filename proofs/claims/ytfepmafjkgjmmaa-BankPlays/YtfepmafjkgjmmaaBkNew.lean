/- New banks, the program's and the document's; one more value for a row. -/
import Derived.Test.YtfepmafjkgjmmaaBkRef
namespace Go.Proofs.Ytfepmafjkgjmmaa
open Go.RowKit Go.PlainAid
set_option linter.unusedVariables false

theorem Try.info38 : (Try.prog.info? 38).map (fun i => (i.zero, i.size, i.bytes)) = some (some (.pointer none), 1, 8) := by kernel_rfl
theorem Try.info36 : (Try.prog.info? 36).map (fun i => (i.zero, i.size, i.bytes)) = some (some (.pointer none), 1, 8) := by kernel_rfl
theorem Try.info80 : (Try.prog.info? 80).map (fun i => (i.zero, i.size, i.bytes)) = some (some (.slice none 0 0), 1, 24) := by kernel_rfl
/-- A row of one more value. -/
theorem row_push {B : Nat} {w0 w : World} {R : Asn} (hR : Firm R) (sl T ty : TypeId) (z : Value) (by_ : Nat) (hu : Try.prog.underlying sl = some (.slice T)) (hT : (Try.prog.info? T).map (fun i => (i.zero, i.size, i.bytes)) = some (some z, 1, by_)) (hz : z.cells.size = 1) (hby : by_ ≤ 24)
    {v : Value} {m : Nat} {xs : List Value} (h : Hold B w0 w (star (rowA T v m xs) R)) (x : Value) (hx : x.oneCell' = true) (hm : m ≤ 1000000) :
    ∃ g' cap' w', (Builtin.append_ #[sl, sl] ty #[v, .slice (some ⟨w.heap.size, 0, none⟩) 1 1]).run Try.prog (w.alloc (.cells #[x] T)) = .ok (.slice (some ⟨g', 0, none⟩) (m + 1) cap') w' ∧
      Hold B w0 w' (star (rowA T (.slice (some ⟨g', 0, none⟩) (m + 1) cap') (m + 1) (xs ++ [x])) R) := by
  obtain ⟨i0, hi, hz0, hz1, hz2⟩ := info_parts hT
  have hnews : ∀ (i : Nat) u, [x][i]? = some u → (w.alloc (.cells #[x] T)).cell? ((⟨w.heap.size, 0, none⟩ : Addr).add i) = some u := fun i u hi => by
    match i, hi with
    | 0, hi => simp at hi; subst hi; simp only [Addr.add]; exact (Blk.new w T #[x]).cell rfl
  have hb : (m + 1) * by_ ≤ 140737488355328 := Nat.le_trans (Nat.mul_le_mul (by omega : m + 1 ≤ 1000001) hby) (by decide)
  obtain ⟨v', w', hrun, hown, hgrow, _, hat⟩ := run_append_own_at (P := Try.prog) (w.alloc (.cells #[x] T)) 0 sl ty T i0 z 1 by_ hu hi hz0 hz1 hz2 hz (by decide) v m xs (World.ownsRow.alloc h.row _)
    ⟨w.heap.size, 0, none⟩ 1 1 [x] rfl hnews (fun u hu => by simp at hu; subst hu; exact hx) (by unfold maxLen; omega) hb (Nat.zero_le _)
  have hown' := hown
  rcases hown.2 with ⟨_, h0⟩ | ⟨g', cap', cur, rfl, _⟩
  · omega
  · refine ⟨g', cap', w', hrun, ?_⟩
    obtain ⟨h1, h2, F, ⟨G, H, h3, h4, h5, h6⟩, h7⟩ := h
    refine Hold.turned hR h1 h2 h4 h5 (fun k hk => h7 k ((h6 k).2 hk)) ⟨fun k => k = g', ⟨hown', fun k => ⟨fun e => by rw [e]; rfl, fun e => (Option.some.inj e).symm⟩⟩, ?_, ?_⟩
    · exact ((Kept.refl G w).alloc _).grown hgrow (fun k e => .inl ((h3.2 k).2 e))
    · rintro k rfl
      rcases hat with e | e
      · exact .inl ((h3.2 k).2 e.symm)
      · have h2 : k = (w.alloc (.cells #[x] T)).heap.size := Option.some.inj e
        rw [World.size_alloc] at h2
        exact .inr (by omega)
theorem Hold.addNought {B : Nat} {w0 w : World} {R : Asn} (h : Hold B w0 w R) : Hold B w0 w (star nought R) := h.mono (fun F h => ⟨fun _ => False, F, fun _ h => h, h, fun _ h => h.elim, fun k => ⟨.inr, fun h => h.elim (fun h => h.elim) id⟩⟩)
theorem Hold.newBlk {B : Nat} {w0 w : World} {R : Asn} (hR : Firm R) (h : Hold B w0 w R) (T : TypeId) (A : Array Value) : Hold B w0 (w.alloc (.cells A T)) (star (blkA w.heap.size T A.toList) R) :=
  Hold.new hR h ((Below.refl _ _).alloc (Nat.le_refl _) _) (G := fun k => k = w.heap.size) ⟨Blk.new w T A, fun k => Iff.rfl⟩ (fun k hk => by rw [hk]; exact Nat.le_refl _)
/-- How many disks New makes. -/
def newB (c : Int) : Nat := if c < 1 then 1 else if 12 < c then 12 else c.toNat
theorem newB_low (c : Int) : 1 ≤ newB c ∧ newB c ≤ 12 := by
  unfold newB
  split
  · omega
  · split <;> omega
/-- A disk as New makes it. -/
def Fresh (d : Dk) (c : Int) : Prop := d.n = newN c ∧ d.l = (fun _ => noB) ∧ d.q = [] ∧ d.dead = false
def freshD (g : Nat) (c : Int) : Dk := ⟨g, newN c, fun _ => noB, [], false⟩
/-- Some disks are named, the others not yet. -/
def ptrsX (N j : Nat) (D : Nat → Dk) : List Value := (List.range N).map fun i => if i < j then (D i).ptr else .pointer none
theorem ptrsX_end (N : Nat) (D : Nat → Dk) : ptrsX N N D = ptrs N D := by
  unfold ptrsX ptrs; exact List.map_congr_left fun i hi => by rw [if_pos (List.mem_range.1 hi)]
theorem ptrsX_at (N j : Nat) (D : Nat → Dk) (i : Nat) (hi : i < N) (h : j ≤ i) : (ptrsX N j D)[i]? = some (.pointer none) := by
  have : ¬ i < j := by omega
  simp [ptrsX, hi, this]
theorem ptrsX_set (N j : Nat) (D : Nat → Dk) (d : Dk) : (ptrsX N j D).set j d.ptr = ptrsX N (j + 1) (updD D j d) := by
  apply List.ext_getElem
  · simp [ptrsX]
  · intro i h1 h2
    rw [List.getElem_set]
    simp only [ptrsX, List.getElem_map, List.getElem_range]
    by_cases e : j = i
    · subst e; rw [if_pos rfl, if_pos (by omega), updD_same]
    · rw [if_neg e, updD_ne _ _ _ _ (fun h => e h.symm)]
      by_cases h : i < j
      · rw [if_pos h, if_pos (by omega)]
      · rw [if_neg h, if_neg (by omega)]
theorem made_ptrs (n : Nat) (D : Nat → Dk) : madeCells (Value.pointer none).cells (n * 1) = (ptrsX n 0 D).toArray := by
  apply Array.ext
  · simp [madeCells, ptrsX]
  · intro i h1 h2
    simp [madeCells, ptrsX, Value.cells, Nat.mod_one]
theorem make_ptrs (n : Nat) (D : Nat → Dk) (h : n ≤ 12) (w : World) : (Instr.makeSlice 60 (.int .i64 (n : Int)) (.int .i64 (n : Int))).run Try.prog w = .ok (.slice (some ⟨w.heap.size, 0, none⟩) n n) (w.alloc (.cells (ptrsX n 0 D).toArray 38)) := by
  obtain ⟨i0, hi, hz0, hz1, hz2⟩ := info_parts Try.info38
  have hr := run_make (P := Try.prog) w 60 38 i0 (.pointer none) Try.underlying60 hi hz0 .i64 .i64 n n (by omega) (by omega) (by rw [hz2]; omega) (by omega)
  rw [hz1, Int.toNat_natCast, made_ptrs n D] at hr
  exact hr
/-- A bank that is being made: j disks are there. -/
def Making (B : Nat) (w0 w : World) (R : Asn) (g gd N j : Nat) (c : Int) : Prop := ∃ D : Nat → Dk, (∀ i, i < j → Fresh (D i) c) ∧ Hold B w0 w (star (blkA g 62 [.slice (some ⟨gd, 0, none⟩) N N, .int .i64 0, .bool false, .int .i64 0]) (star (blkA gd 38 (ptrsX N j D)) (star (each (fun i => i < j) fun i => dk (D i)) R)))
theorem Making.start {B : Nat} {w0 w : World} {R : Asn} (hR : Firm R) (h : Hold B w0 w R) (N : Nat) (c : Int) (D : Nat → Dk) : Making B w0 ((w.alloc (.cells (ptrsX N 0 D).toArray 38)).alloc (.cells #[.slice (some ⟨w.heap.size, 0, none⟩) N N, .int .i64 0, .bool false, .int .i64 0] 62)) R (w.heap.size + 1) w.heap.size N 0 c := by
  have h0 : Hold B w0 w (star (each (fun i => i < 0) fun i => dk (D i)) R) := h.addNought.monoL (fun F h => each_none (fun i hi => by omega) h)
  have f0 : Firm (star (each (fun i => i < 0) fun i => dk (D i)) R) := (firm_each fun _ => firm_dk _).star hR
  have h1 := h0.newBlk f0 38 (ptrsX N 0 D).toArray
  have h2 := h1.newBlk ((firm_blk _ _ _).star f0) 62 #[.slice (some ⟨w.heap.size, 0, none⟩) N N, .int .i64 0, .bool false, .int .i64 0]
  rw [World.size_alloc, List.toList_toArray] at h2
  exact ⟨D, fun i hi => by omega, h2⟩
theorem Making.firm {R : Asn} (hR : Firm R) (g gd N j : Nat) (D : Nat → Dk) : Firm (star (blkA g 62 [.slice (some ⟨gd, 0, none⟩) N N, .int .i64 0, .bool false, .int .i64 0]) (star (blkA gd 38 (ptrsX N j D)) (star (each (fun i => i < j) fun i => dk (D i)) R))) := (firm_blk _ _ _).star ((firm_blk _ _ _).star ((firm_each fun _ => firm_dk _).star hR))
theorem Making.drew {B : Nat} {w0 w : World} {R : Asn} (hR : Firm R) {g gd N j : Nat} {c : Int} (h : Making B w0 w R g gd N j c) : Making B w0 w.drew R g gd N j c := by
  obtain ⟨D, h1, h2⟩ := h
  exact ⟨D, h1, h2.drew (Making.firm hR g gd N j D)⟩
/-- One more disk, in a cell of the list. -/
theorem Making.more {B : Nat} {w0 w : World} {R : Asn} (hR : Firm R) {g gd N j : Nat} {c : Int} {D : Nat → Dk} (hj : j < N) (hD : ∀ i, i < j → Fresh (D i) c) {gj : Nat} (h : Hold B w0 w (star (dsk gj (newN c) (fun _ => noB) [] false) (star (blkA g 62 [.slice (some ⟨gd, 0, none⟩) N N, .int .i64 0, .bool false, .int .i64 0]) (star (blkA gd 38 (ptrsX N j D)) (star (each (fun i => i < j) fun i => dk (D i)) R))))) :
    w.cell? ⟨g, 0, none⟩ = some (.slice (some ⟨gd, 0, none⟩) N N) ∧ w.cell? ⟨gd, j, none⟩ = some (.pointer none) ∧ w.frozen? ⟨gd, j, none⟩ = false ∧ Making B w0 (w.setCell ⟨gd, j, none⟩ (.pointer (some ⟨gj, 0, none⟩))) R g gd N (j + 1) c ∧ (w.setCell ⟨gd, j, none⟩ (.pointer (some ⟨gj, 0, none⟩))).cell? ⟨g, 0, none⟩ = some (.slice (some ⟨gd, 0, none⟩) N N) := by
  have hg := h.swap.blk
  have h1 := h.swap.monoR (fun F h => star_swap h)
  have h2 := h1.swap
  have hd := h2.blk
  have h3 := h2.setBlk ((firm_blk _ _ _).star ((firm_dsk _ _ _ _ _).star ((firm_each fun _ => firm_dk _).star hR))) j (.pointer (some ⟨gj, 0, none⟩))
  have hg3 := h3.swap.blk
  refine ⟨hg.cell (i := 0) rfl, hd.cell (ptrsX_at N j D j hj (Nat.le_refl _)), hd.frozen j, ⟨updD D j (freshD gj c), fun i hi => ?_, ?_⟩, hg3.cell (i := 0) rfl⟩
  · by_cases e : i = j
    · subst e; rw [updD_same]; exact ⟨rfl, rfl, rfl, rfl⟩
    · rw [updD_ne _ _ _ _ e]; exact hD i (by omega)
  · rw [← ptrsX_set N j D (freshD gj c)]
    refine h3.swap.monoR (fun F h => star_monoR h (fun F h => star_monoL (star_unassoc h) (fun F h => each_more (P := fun i => dk (D i)) j (fun i hi => by rw [updD_ne _ _ _ _ (by omega)]) (star_monoL h (fun F h => by rw [updD_same]; exact h)))))
theorem Making.done {B : Nat} {w0 w : World} {R : Asn} {g gd N : Nat} {c : Int} (hN : 1 ≤ N ∧ N ≤ 12) (h : Making B w0 w R g gd N N c) : ∃ D, (∀ i, i < N → Fresh (D i) c) ∧ Hold B w0 w (star (bnk g N D 0 none) R) := by
  obtain ⟨D, h1, h2⟩ := h
  rw [ptrsX_end] at h2
  exact ⟨D, h1, (h2.monoR (fun F h => star_unassoc h)).ofTop ⟨hN, fun k e => by cases e⟩ gd rfl⟩
theorem Making.read {B : Nat} {w0 w : World} {R : Asn} {g gd N j : Nat} {c : Int} (h : Making B w0 w R g gd N j c) : w.cell? ⟨g, 0, none⟩ = some (.slice (some ⟨gd, 0, none⟩) N N) := by
  obtain ⟨D, h1, h2⟩ := h
  exact h2.blk.cell (i := 0) rfl
set_option maxRecDepth 20000 in
set_option maxHeartbeats 1000000 in
theorem bnew_any {B : Nat} {w0 w : World} {R : Asn} (hR : Firm R) (h : Hold B w0 w R) (d c : Int) : Calls Try.prog 8 #[.int .i64 d, .int .i64 c] w fun e w' => ∃ g, e = .returned (.pointer (some ⟨g, 0, none⟩)) ∧ ∃ D, (∀ i, i < newB d → Fresh (D i) c) ∧ Hold B w0 w' (star (bnk g (newB d) D 0 none) R) := by
  obtain ⟨N, hN⟩ : ∃ N, newB d = N := ⟨_, rfl⟩
  have hl := newB_low d
  rw [hN] at hl ⊢
  have D0 : Nat → Dk := fun _ => freshD 0 c
  have hmk := make_ptrs N D0 hl.2
  have HM : Hid (Making _ _ _ _ _ _ _ _ _) := Making.start hR h N c D0
  obtain ⟨Z, hZ⟩ : ∃ Z, ptrsX N 0 D0 = Z := ⟨_, rfl⟩
  rw [hZ] at hmk HM
  have HR : Hid _ := hR
  clear hZ h hR
  obtain ⟨a, ha⟩ : ∃ a : Int, (if d < 1 then (1 : Int) else d) = a := ⟨_, rfl⟩
  have hb : (if 12 < a then (12 : Int) else a) = (N : Int) := by
    rw [← ha, ← hN]; unfold newB
    by_cases h1 : d < 1
    · rw [if_pos h1, if_pos h1]; rfl
    · rw [if_neg h1, if_neg h1]
      by_cases h2 : 12 < d
      · rw [if_pos h2, if_pos h2]; rfl
      · rw [if_neg h2, if_neg h2]; omega
  go_enter Try.func8, Try.ntmps8
  go_wp2_with fail
  clear hmk ha hb hN
  obtain ⟨gd, hgd⟩ : ∃ gd, w.heap.size = gd := ⟨_, rfl⟩
  rw [hgd] at HM ⊢
  go_loopw [18] (fun i wr => ∃ j : Nat, j ≤ N ∧ i = .int .i64 (j : Int) ∧ Hid (Making B w0 wr R (gd + 1) gd N j c)) (fun i _ => N - (intOf i).toNat)
  case atStart => exact ⟨0, Nat.zero_le _, rfl, HM.out⟩
  case round =>
    clear HM
    obtain ⟨j, hj, rfl, hrr⟩ := hrel
    by_cases hlt : j < N
    · have hj' : (j : Int) < (N : Int) := by omega
      obtain ⟨D, hD, hH⟩ := Making.drew HR.out hrr.out
      have c0 := hH.blk.cell (i := 0) rfl
      have hnew := h_new (Making.firm HR.out (gd + 1) gd N j D) hH c
      have HD : Hid _ := hD
      have HL : Hid _ := hlt
      clear hrr hH hD
      go_wp2_with fail
      refine wp_region_noPanic ?_
      refine wp_region_held_drew (S := fun z => z.cell? ⟨gd + 1, 0, none⟩ = some (.slice (some ⟨gd, 0, none⟩) N N)) (by kernel_rfl) c0 (fun hHeld => ?_)
      refine wpAnyH_take (i := 0) (v := ?_) rfl (by kernel_rfl) (by kernel_rfl) (by kernel_rfl) (fun _ _ _ h => h) (Or.inl ⟨by rfl, ?_⟩) (by assumption) ?_
      rotate_left
      · intro w hSw; go_simp; try with_reducible rfl
      go_simp
      refine wpAnyH_take (i := 1) (v := ?_) rfl (by kernel_rfl) (by kernel_rfl) (by kernel_rfl) (fun _ _ _ h => h) (Or.inl ⟨by rfl, ?_⟩) (by assumption) ?_
      rotate_left
      · intro w hSw; go_simp; try with_reducible rfl
      go_simp
      refine wpAnyH_take (i := 2) (v := ?_) rfl (by kernel_rfl) (by kernel_rfl) (by kernel_rfl) (fun _ _ _ h => h) (Or.inl ⟨by rfl, ?_⟩) (by assumption) ?_
      rotate_left
      · intro w hSw; go_simp; try with_reducible rfl
      go_simp
      refine wpAnyH_take (i := 3) (v := ?_) rfl (by kernel_rfl) (by kernel_rfl) (by kernel_rfl) (fun _ _ _ h => h) (Or.inl ⟨by rfl, ?_⟩) (by assumption) ?_
      rotate_left
      · intro w hSw; go_simp; try with_reducible rfl
      go_simp
      refine wpAnyH_take (i := 4) (v := ?_) rfl (by kernel_rfl) (by kernel_rfl) (by kernel_rfl) (fun _ _ _ h => h) (Or.inl ⟨by rfl, ?_⟩) (by assumption) ?_
      rotate_left
      · intro w hSw; go_simp; try with_reducible rfl
      go_simp
      refine wpAnyH_take (i := 5) (v := ?_) rfl (by kernel_rfl) (by kernel_rfl) (by kernel_rfl) (fun _ _ _ h => h) (Or.inl ⟨by rfl, ?_⟩) (by assumption) ?_
      rotate_left
      · intro w hSw; go_simp; try with_reducible rfl
      go_simp
      refine wpAnyH_ready (rs := [6]) (by kernel_rfl) (by simp) (AllReadyH.cons rfl (fun K hK => ?_) AllReadyH.nil)
      go_simp
      go_at_call 27
      refine hnew.mono ?_
      rintro e wz ⟨gj, rfl, hz⟩
      obtain ⟨z0, z1, z2, z3, z4⟩ := Making.more HR.out HL.out HD.out hz
      clear hz hnew
      have z3 : Hid _ := z3
      refine hK.out _ _ z0 (fun hHeld => ?_)
      clear hK K
      refine wpAnyH_take (i := 7) (v := ?_) rfl (by kernel_rfl) (by kernel_rfl) (by kernel_rfl) (fun _ _ _ h => h) (Or.inl ⟨by rfl, ?_⟩) (by assumption) ?_
      rotate_left
      · intro w hSw; go_simp; try with_reducible rfl
      go_simp
      refine wpAnyH_ready (rs := [8]) (by kernel_rfl) (by simp) (AllReadyH.cons rfl (fun K hK => ?_) AllReadyH.nil)
      go_simp
      refine hK.out _ _ z4 (fun hHeld => ?_)
      clear hK K
      refine wpAnyH_done (by kernel_rfl) ?_ _
      refine NoPanic.normal ?_
      go_wp2_with fail
      go_roundw
      case rel => exact ⟨j + 1, by omega, by go_num, z3.out⟩
      case measure => simp [intOf]; omega
    · obtain rfl : j = N := by omega
      have HT : Hid _ := Making.done hl hrr.out
      clear hrr
      go_wp2_with fail
      go_ret
      exact ⟨_, rfl, HT.out⟩
/-- The document's bank that is being made. -/
def RMaking (B : Nat) (w0 w : World) (R : Asn) (g j : Nat) (c : Int) : Prop := ∃ (D : Nat → Dk) (v : Value), (∀ i, i < j → Fresh (D i) c) ∧ Hold B w0 w (star (blkA g 31 [v, .int .i64 0, .int .i64 (-1)]) (star (rowA 36 v j (ptrs j D)) (star (each (fun i => i < j) fun i => rk (D i)) R)))
theorem RMaking.start {B : Nat} {w0 w : World} {R : Asn} (hR : Firm R) (h : Hold B w0 w R) (c : Int) : RMaking B w0 (w.alloc (.cells #[.slice none 0 0, .int .i64 0, .int .i64 (-1)] 31)) R w.heap.size 0 c := by
  have h0 : Hold B w0 w (star (each (fun i => i < 0) fun i => rk (freshD 0 c)) R) := h.addNought.monoL (fun F h => each_none (fun i hi => by omega) h)
  have f0 : Firm (star (each (fun i => i < 0) fun i => rk (freshD 0 c)) R) := (firm_each fun _ => firm_rk _).star hR
  have h1 : Hold B w0 w (star (rowA 36 (.slice none 0 0) 0 []) (star (each (fun i => i < 0) fun i => rk (freshD 0 c)) R)) := h0.addNought.monoL (fun F h => ⟨World.ownsRow_nil _ _ _ _, fun k => ⟨fun hk => absurd hk (h k), fun e => by cases e⟩⟩)
  have h2 := h1.newBlk ((firm_row _ _ _ _).star f0) 31 #[.slice none 0 0, .int .i64 0, .int .i64 (-1)]
  exact ⟨fun _ => freshD 0 c, .slice none 0 0, fun i hi => by omega, h2⟩
theorem RMaking.firm {R : Asn} (hR : Firm R) (g j : Nat) (v : Value) (D : Nat → Dk) : Firm (star (blkA g 31 [v, .int .i64 0, .int .i64 (-1)]) (star (rowA 36 v j (ptrs j D)) (star (each (fun i => i < j) fun i => rk (D i)) R))) := (firm_blk _ _ _).star ((firm_row _ _ _ _).star ((firm_each fun _ => firm_rk _).star hR))
/-- One more disk, appended. -/
theorem RMaking.more {B : Nat} {w0 w : World} {R : Asn} (hR : Firm R) {g j : Nat} {c : Int} {D : Nat → Dk} {v : Value} (hj : j < 12) (hD : ∀ i, i < j → Fresh (D i) c) {gj : Nat} (h : Hold B w0 w (star (rf gj (newN c) (fun _ => noB) [] false) (star (blkA g 31 [v, .int .i64 0, .int .i64 (-1)]) (star (rowA 36 v j (ptrs j D)) (star (each (fun i => i < j) fun i => rk (D i)) R))))) :
    w.cell? ⟨g, 0, none⟩ = some v ∧ ∃ g' cap' w', (Builtin.append_ #[29, 29] 29 #[v, .slice (some ⟨w.heap.size, 0, none⟩) 1 1]).run Try.prog (w.alloc (.cells #[.pointer (some ⟨gj, 0, none⟩)] 36)) = .ok (.slice (some ⟨g', 0, none⟩) (j + 1) cap') w' ∧ w'.cell? ⟨g, 0, none⟩ = some v ∧ w'.frozen? ⟨g, 0, none⟩ = false ∧ RMaking B w0 (w'.setCell ⟨g, 0, none⟩ (.slice (some ⟨g', 0, none⟩) (j + 1) cap')) R g (j + 1) c := by
  have hg := h.swap.blk
  have h1 := (h.swap.monoR (fun F h => star_swap h)).swap
  obtain ⟨g', cap', w', hrun, h2⟩ := row_push ((firm_blk _ _ _).star ((firm_rf _ _ _ _ _).star ((firm_each fun _ => firm_rk _).star hR))) 29 36 29 (.pointer none) 8 Try.underlying29 Try.info36 rfl (by decide) h1 (.pointer (some ⟨gj, 0, none⟩)) rfl (by omega)
  have h3 := h2.swap
  have hg3 := h3.blk
  have h4 := h3.setBlk ((firm_row _ _ _ _).star ((firm_rf _ _ _ _ _).star ((firm_each fun _ => firm_rk _).star hR))) 0 (.slice (some ⟨g', 0, none⟩) (j + 1) cap')
  refine ⟨hg.cell (i := 0) rfl, g', cap', w', hrun, hg3.cell (i := 0) rfl, hg3.frozen 0, updD D j (freshD gj c), .slice (some ⟨g', 0, none⟩) (j + 1) cap', fun i hi => ?_, ?_⟩
  · by_cases e : i = j
    · subst e; rw [updD_same]; exact ⟨rfl, rfl, rfl, rfl⟩
    · rw [updD_ne _ _ _ _ e]; exact hD i (by omega)
  · rw [ptrs_succ, updD_same, ← ptrs_congr j D (updD D j (freshD gj c)) (fun i hi => by rw [updD_ne _ _ _ _ (by omega)])]
    exact h4.monoR (fun F h => star_monoR h (fun F h => star_monoL (star_unassoc h) (fun F h => each_more (P := fun i => rk (D i)) j (fun i hi => by rw [updD_ne _ _ _ _ (by omega)]) (star_monoL h (fun F h => by rw [updD_same]; exact h)))))
theorem RMaking.done {B : Nat} {w0 w : World} {R : Asn} {g N : Nat} {c : Int} (hN : 1 ≤ N ∧ N ≤ 12) (h : RMaking B w0 w R g N c) : ∃ D, (∀ i, i < N → Fresh (D i) c) ∧ Hold B w0 w (star (rbk g N D 0 none) R) := by
  obtain ⟨D, v, h1, h2⟩ := h
  have hr := h2.swap.row
  rcases hr.2 with ⟨_, h0⟩ | ⟨gd, cap, cur, rfl, _⟩
  · omega
  · exact ⟨D, h1, (h2.monoR (fun F h => star_unassoc h)).ofRTop ⟨hN, fun k e => by cases e⟩ gd cap rfl⟩
set_option maxRecDepth 20000 in
set_option maxHeartbeats 1000000 in
theorem rnew_any {B : Nat} {w0 w : World} {R : Asn} (hR : Firm R) (h : Hold B w0 w R) (d c : Int) : Calls Try.prog 9 #[.int .i64 d, .int .i64 c] w fun e w' => ∃ g, e = .returned (.pointer (some ⟨g, 0, none⟩)) ∧ ∃ D, (∀ i, i < newB d → Fresh (D i) c) ∧ Hold B w0 w' (star (rbk g (newB d) D 0 none) R) := by
  obtain ⟨N, hN⟩ : ∃ N, newB d = N := ⟨_, rfl⟩
  have hl := newB_low d
  rw [hN] at hl ⊢
  have HM : Hid (RMaking _ _ _ _ _ _ _) := RMaking.start hR h c
  have HR : Hid _ := hR
  clear h hR
  obtain ⟨gr, hgr⟩ : ∃ gr, w.heap.size = gr := ⟨_, rfl⟩
  unfold newB at hN
  by_cases h1 : d < 1
  · rw [if_pos h1] at hN
    have HN : Hid (1 = N) := hN
    clear hN
    go_enter Try.func9, Try.ntmps9
    go_wp2_with fail
    try rw [hgr] at HM
    try rw [hgr]
    go_loopw [6] (fun i wr => ∃ j : Nat, j ≤ N ∧ i = .int .i64 (j : Int) ∧ Hid (RMaking B w0 wr R gr j c)) (fun i _ => N - (intOf i).toNat)
    case atStart => exact ⟨0, Nat.zero_le _, rfl, HM.out⟩
    case round =>
      clear HM
      obtain ⟨j, hj, rfl, hrr⟩ := hrel
      by_cases hlt : j < N
      · have hj' : (j : Int) < (1 : Int) := by have := HN.out; omega
        obtain ⟨D, v, hD, hH⟩ := hrr.out
        have hnew := h_rnew (RMaking.firm HR.out gr j v D) hH c
        have HD : Hid _ := hD
        have HL : Hid (j < 12) := by have := hl.2; exact (by omega : j < 12)
        clear hrr hH hD
        go_wp2_with (first
          | (go_at_call 28; refine hnew.mono ?_; rintro e wz ⟨gj, rfl, hz⟩; obtain ⟨z0, g', cap', w2, hrun, z1, z2, z3⟩ := RMaking.more HR.out HL.out HD.out hz; clear hz hnew; have z3 : Hid _ := z3)
          | (at_builtin; refine wpList_append_run rfl _ _ 29 29 rfl _ _ rfl rfl _ _ hrun ?_))
        go_roundw
        case rel => exact ⟨j + 1, by omega, by go_num, z3.out⟩
        case measure => simp [intOf]; omega
      · have hj' : ¬ (j : Int) < (1 : Int) := by have := HN.out; omega
        obtain rfl : j = N := by omega
        have HT : Hid _ := RMaking.done hl hrr.out
        clear hrr
        go_wp2_with fail
        go_ret
        exact ⟨_, rfl, HT.out⟩
  · rw [if_neg h1] at hN
    by_cases h2 : 12 < d
    · rw [if_pos h2] at hN
      have HN : Hid (12 = N) := hN
      clear hN
      go_enter Try.func9, Try.ntmps9
      go_wp2_with fail
      try rw [hgr] at HM
      try rw [hgr]
      go_loopw [6] (fun i wr => ∃ j : Nat, j ≤ N ∧ i = .int .i64 (j : Int) ∧ Hid (RMaking B w0 wr R gr j c)) (fun i _ => N - (intOf i).toNat)
      case atStart => exact ⟨0, Nat.zero_le _, rfl, HM.out⟩
      case round =>
        clear HM
        obtain ⟨j, hj, rfl, hrr⟩ := hrel
        by_cases hlt : j < N
        · have hj' : (j : Int) < (12 : Int) := by have := HN.out; omega
          obtain ⟨D, v, hD, hH⟩ := hrr.out
          have hnew := h_rnew (RMaking.firm HR.out gr j v D) hH c
          have HD : Hid _ := hD
          have HL : Hid (j < 12) := by have := hl.2; exact (by omega : j < 12)
          clear hrr hH hD
          go_wp2_with (first
            | (go_at_call 28; refine hnew.mono ?_; rintro e wz ⟨gj, rfl, hz⟩; obtain ⟨z0, g', cap', w2, hrun, z1, z2, z3⟩ := RMaking.more HR.out HL.out HD.out hz; clear hz hnew; have z3 : Hid _ := z3)
            | (at_builtin; refine wpList_append_run rfl _ _ 29 29 rfl _ _ rfl rfl _ _ hrun ?_))
          go_roundw
          case rel => exact ⟨j + 1, by omega, by go_num, z3.out⟩
          case measure => simp [intOf]; omega
        · have hj' : ¬ (j : Int) < (12 : Int) := by have := HN.out; omega
          obtain rfl : j = N := by omega
          have HT : Hid _ := RMaking.done hl hrr.out
          clear hrr
          go_wp2_with fail
          go_ret
          exact ⟨_, rfl, HT.out⟩
    · rw [if_neg h2] at hN
      obtain rfl : d = (N : Int) := by omega
      go_enter Try.func9, Try.ntmps9
      go_wp2_with fail
      try rw [hgr] at HM
      try rw [hgr]
      clear h1 h2
      go_loopw [6] (fun i wr => ∃ j : Nat, j ≤ N ∧ i = .int .i64 (j : Int) ∧ Hid (RMaking B w0 wr R gr j c)) (fun i _ => N - (intOf i).toNat)
      case atStart => exact ⟨0, Nat.zero_le _, rfl, HM.out⟩
      case round =>
        clear HM
        obtain ⟨j, hj, rfl, hrr⟩ := hrel
        by_cases hlt : j < N
        · have hj' : (j : Int) < (N : Int) := by omega
          obtain ⟨D, v, hD, hH⟩ := hrr.out
          have hnew := h_rnew (RMaking.firm HR.out gr j v D) hH c
          have HD : Hid _ := hD
          have HL : Hid (j < 12) := by have := hl.2; exact (by omega : j < 12)
          clear hrr hH hD
          go_wp2_with (first
            | (go_at_call 28; refine hnew.mono ?_; rintro e wz ⟨gj, rfl, hz⟩; obtain ⟨z0, g', cap', w2, hrun, z1, z2, z3⟩ := RMaking.more HR.out HL.out HD.out hz; clear hz hnew; have z3 : Hid _ := z3)
            | (at_builtin; refine wpList_append_run rfl _ _ 29 29 rfl _ _ rfl rfl _ _ hrun ?_))
          go_roundw
          case rel => exact ⟨j + 1, by omega, by go_num, z3.out⟩
          case measure => simp [intOf]; omega
        · have hj' : ¬ (j : Int) < (N : Int) := by omega
          obtain rfl : j = N := by omega
          have HT : Hid _ := RMaking.done hl hrr.out
          clear hrr
          go_wp2_with fail
          go_ret
          exact ⟨_, rfl, HT.out⟩
end Go.Proofs.Ytfepmafjkgjmmaa
