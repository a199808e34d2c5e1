/- The law AnchorPlays, walked. -/
import Derived.Test.YtnfdpcinifppcaaAnArg
namespace Go.Proofs.Ytnfdpcinifppcaa
open Go.RowKit Go.PlainAid
set_option linter.unusedVariables false

theorem Try.size32 : (Try.prog.info? 32).map (·.size) = some 35 := by kernel_rfl
theorem zeroCall : ∃ Z : List Value, Z.length = 35 ∧ ∀ w, (zeroValue 32).run Try.prog w = .ok (.agg Z.toArray) w := by
  refine ⟨noCl.row, Cl.len _, fun w => ?_⟩
  obtain ⟨i, hi, hz⟩ := Option.map_eq_some_iff.1 (show (Try.prog.info? 32).map (fun i => i.zero) = some (some (.agg noCl.row.toArray)) by kernel_rfl)
  simp [zeroValue, typeInfo, hi, hz]
theorem Cl.one (A : Cl) : ∀ v ∈ A.row, v.oneCell' = true := by
  intro v hv
  unfold Cl.row at hv
  rcases List.mem_cons.1 hv with rfl | hv
  · rfl
  · rcases List.mem_append.1 hv with hv | hv
    · exact nr_one _ _ _ v hv
    · simp at hv; rcases hv with rfl | rfl <;> rfl
/-- The program's anchor and the document's have the same. -/
def Pl (R : Asn) (W w : World) (g r : Nat) : Prop := ∃ c d, Hold W.heap.size W w (star (anc g c d) (star (ranc r c d) R))
/-- .. and behind the program's Set, that answered E. -/
def Pm (R : Asn) (W w : World) (g r : Nat) (n : Int) (t : ByteArray) (E : Int) : Prop := ∃ c d, E = ancE c n t ∧ Hold W.heap.size W w (star (anc g (ancC c n t) (ancD c d n t)) (star (ranc r c d) R))
section
variable {W w : World} {g r : Nat} {R : Asn} {n : Int} {t : ByteArray} {E : Int}
theorem Pl.low (h : Pl R W w g r) : Below W.heap.size W w := by obtain ⟨c, d, h⟩ := h; exact h.low
theorem Pl.below {w' : World} (hR : Firm R) (h : Pl R W w g r) (hb : Below w.heap.size w w') : Pl R W w' g r := by
  obtain ⟨c, d, h⟩ := h
  exact ⟨c, d, h.below ((firm_anc _ _ _).star ((firm_ranc _ _ _).star hR)) hb⟩
theorem Pm.below {w' : World} (hR : Firm R) (h : Pm R W w g r n t E) (hb : Below w.heap.size w w') : Pm R W w' g r n t E := by
  obtain ⟨c, d, e, h⟩ := h
  exact ⟨c, d, e, h.below ((firm_anc _ _ _).star ((firm_ranc _ _ _).star hR)) hb⟩
theorem Pl.blk {bx : Nat} {T : TypeId} {L : List Value} (h : Pl (star (blkA bx T L) R) W w g r) : Blk w bx T L := by
  obtain ⟨c, d, h⟩ := h; exact h.right.right.blk
theorem Pm.blk {bx : Nat} {T : TypeId} {L : List Value} (h : Pm (star (blkA bx T L) R) W w g r n t E) : Blk w bx T L := by
  obtain ⟨c, d, e, h⟩ := h; exact h.right.right.blk
theorem Pl.box (h : Pl nought W w g r) (T : TypeId) (Z : Array Value) (L : List Value) : Pl (star (blkA w.heap.size T L) nought) W ((w.alloc (.cells Z T)).setRow w.heap.size L.toArray) g r := by
  obtain ⟨c, d, h⟩ := h
  have f := (firm_anc g c d).star ((firm_ranc r c d).star firm_nought)
  have h1 := (h.newBlk f T Z).setRowBlk f L
  exact ⟨c, d, h1.swap.mono (fun F h => star_monoR h (fun F h => star_swap h))⟩
theorem Pl.unbox {bx : Nat} {T : TypeId} {L : List Value} (h : Pl (star (blkA bx T L) nought) W w g r) : Pl nought W w g r := by
  obtain ⟨c, d, h⟩ := h
  exact ⟨c, d, h.mono (fun F h => star_monoR h (fun F h => h)) |>.swap.monoR (fun F h => star_monoR h (fun F h => h)) |>.swap |> fun h => by
    have h1 : Hold W.heap.size W w (star (blkA bx T L) (star (anc g c d) (star (ranc r c d) nought))) := (h.mono (fun F h => star_monoR h (fun F h => star_swap h))).swap
    exact h1.right⟩
theorem pl_set (hR : Firm R) (h : Pl R W w g r) (n : Int) (t : ByteArray) : Calls Try.prog 8 #[.pointer (some ⟨g, 0, none⟩), .int .u64 n, .string t] w fun e w' => ∃ E, e = .returned (.int .i64 E) ∧ Pm R W w' g r n t E := by
  obtain ⟨c, d, h⟩ := h
  exact (aset_any ((firm_ranc r c d).star hR) h n t).mono fun e w' ⟨he, h'⟩ => ⟨_, he, c, d, rfl, h'⟩
theorem pl_rset (hR : Firm R) (h : Pm R W w g r n t E) : Calls Try.prog 10 #[.pointer (some ⟨r, 0, none⟩), .int .u64 n, .string t] w fun e w' => e = .returned (.int .i64 E) ∧ Pl R W w' g r := by
  obtain ⟨c, d, rfl, h⟩ := h
  exact (rset_any ((firm_anc _ _ _).star hR) h.swap n t).mono fun e w' ⟨he, h'⟩ => ⟨he, _, _, h'.swap⟩
theorem pl_get (hR : Firm R) (h : Pl R W w g r) : Calls Try.prog 11 #[.pointer (some ⟨g, 0, none⟩)] w fun e w' => ∃ c d, e = .returned (.tuple #[.int .u64 c, .string d]) ∧ w'.cell? ⟨r, 0, none⟩ = some (.int .u64 c) ∧ w'.cell? ⟨r, 1, none⟩ = some (.string d) ∧ Pl R W w' g r := by
  obtain ⟨c, d, h⟩ := h
  exact (aget_any ((firm_ranc r c d).star hR) h).mono fun e w' ⟨he, h'⟩ => ⟨c, d, he, h'.swap.blk.cell rfl, h'.swap.blk.cell rfl, c, d, h'⟩
end
set_option maxRecDepth 20000 in
set_option maxHeartbeats 4000000 in
theorem anchorPlays_law (s : Option Addr) (len cap : Nat) (W : World) (hs : Came ClOk Cl.row 35 W s len cap) : Calls Try.prog 3 #[.slice s len cap] W fun e w' => e = .returned (.bool true) ∧ Below W.heap.size W w' := by
  have hl1 := hs.1
  have hl2 := hs.2.1
  have HS : Hid (Came ClOk Cl.row 35 W s len cap) := hs
  have hnew := anew_any firm_nought (hold_nought W.heap.size W W (Nat.le_refl _) (Below.refl _ _))
  obtain ⟨Z, hZl, hZ⟩ := zeroCall
  have HZ : Hid (Z.length = 35) := hZl
  clear hs hZl
  obtain ⟨C, hC1, hC2, hC3⟩ : ∃ C : Nat, (if (100 : Int) < (len : Int) then (100 : Int) else (len : Int)) = (C : Int) ∧ C ≤ 100 ∧ C ≤ len := ⟨min len 100, by split <;> omega, by omega, by omega⟩
  have hC4 : C ≤ cap := by omega
  go_enter Try.func3, Try.ntmps3
  go_wp2_with (first
    | (go_at_call 6; refine hnew.mono ?_; rintro e w1 ⟨g, rfl, h1⟩; clear hnew; have h2 : Hid (Hold _ _ _ _) := h1.newBlk ((firm_anc _ _ _).star firm_nought) 28 #[.int .u64 0, .string noB]; clear h1)
    | (go_at_call 7; refine (anWakes_any _).mono ?_; rintro e w2 ⟨rfl, hb2⟩; have hx : Hid (Pl nought W w2 g w1.heap.size) := ⟨_, _, (h2.out.below ((firm_blk _ _ _).star ((firm_anc _ _ _).star firm_nought)) hb2).swap⟩; clear h2 hb2))
  generalize w1.heap.size = r at *
  clear hC1
  go_loopw [22] (fun i wr => ∃ j : Nat, j ≤ C ∧ i = .int .i64 (j : Int) ∧ Hid (Pl nought W wr g r)) (fun i _ => C - (intOf i).toNat)
  case atStart => exact ⟨0, Nat.zero_le _, rfl, hx.out⟩
  case round =>
    clear hx
    obtain ⟨j, hj, rfl, hrr⟩ := hrel
    by_cases hlt : j < C
    · have hj' : (j : Int) < (C : Int) := by omega
      obtain ⟨sb, so, A, hsa, hA, hra⟩ := came_at HS.out hrr.out.low j (by omega)
      subst hsa
      have htx := text_any A
      obtain ⟨L, hL⟩ : ∃ L, A.row = L := ⟨_, rfl⟩
      have hL0 := A.at0
      have hLl := A.len
      have hL1 := A.one
      rw [hL] at hra htx hL0 hLl hL1
      obtain ⟨n, hn⟩ : ∃ n, A.n = n := ⟨_, rfl⟩
      obtain ⟨t, ht⟩ : ∃ t, A.t = t := ⟨_, rfl⟩
      rw [hn] at hL0
      rw [ht] at htx
      clear hL hA hn ht
      have hp : Hid (Pl (star (blkA _ _ _) _) _ _ _ _) := hrr.out.box 32 Z.toArray L
      have HR : Hid (wr.rangeAt sb (so + j * 35) L) := hra
      have HL : Hid (L.length = 35) := hLl
      have HL1 : Hid (∀ v ∈ L, v.oneCell' = true) := hL1
      clear hrr hLl hL1 hra
      go_wp2_with (first
        | (refine wpList_load_mid rfl 32 _ rfl sb (so + j * 35) rfl L _ HR.out Try.underlying32 rfl (by rw [Try.size32, HL.out]) ?_)
        | (refine wpList_store_blk rfl 32 _ _ rfl wr.heap.size Z L rfl rfl 32 (Blk.box _ _ _) (by rw [Try.size32, HL.out]) (by rw [HZ.out, HL.out]) HL1.out ?_))
      generalize (wr.alloc (.cells Z.toArray 32)).setRow wr.heap.size L.toArray = wx at *
      generalize wr.heap.size = bx at *
      have hp2 : Hid (Pl (star (blkA bx 32 L) nought) W wx.drew g r) := hp.out.below ((firm_blk _ _ _).star firm_nought) (Below.refl _ _).drew
      have hS : Hid (∀ z, Blk z bx 32 L → (fun z : World => Blk z bx 32 L ∧ z.cell? ⟨bx, 0, none⟩ = some (.int .u64 n)) z) := fun z hz => ⟨hz, hz.cell hL0⟩
      clear hp HR HL1 hL0
      refine wp_region_noPanic ?_
      refine wp_region_held_drew (S := fun z : World => Blk z bx 32 L ∧ z.cell? ⟨bx, 0, none⟩ = some (.int .u64 n)) (by kernel_rfl) (hS.out _ hp2.out.blk) (fun hHeld => ?_)
      refine wpAnyH_take (i := 0) (v := ?_) rfl (by kernel_rfl) (by kernel_rfl) (by kernel_rfl) (fun _ _ _ h => h) (Or.inl ⟨by rfl, ?_⟩) (by assumption) ?_
      rotate_left
      · intro w hSw; go_simp; try with_reducible rfl
      go_simp
      refine wpAnyH_take (i := 1) (v := ?_) rfl (by kernel_rfl) (by kernel_rfl) (by kernel_rfl) (fun _ _ _ h => h) (Or.inl ⟨by rfl, ?_⟩) (by assumption) ?_
      rotate_left
      · intro w hSw; go_simp; try with_reducible rfl
      go_simp
      refine wpAnyH_take (i := 2) (v := ?_) rfl (by kernel_rfl) (by kernel_rfl) (by kernel_rfl) (fun _ _ _ h => h) (Or.inl ⟨by rfl, ?_⟩) (by assumption) ?_
      rotate_left
      · intro w hSw; go_simp; try with_reducible rfl
      go_simp
      refine wpAnyH_take (i := 6) (v := ?_) rfl (by kernel_rfl) (by kernel_rfl) (by kernel_rfl) (fun _ _ _ h => h) (Or.inl ⟨by rfl, ?_⟩) (by assumption) ?_
      rotate_left
      · intro w hSw; go_simp; try with_reducible rfl
      go_simp
      refine wpAnyH_take (i := 7) (v := ?_) rfl (by kernel_rfl) (by kernel_rfl) (by kernel_rfl) (fun _ _ _ h => h) (Or.inl ⟨by rfl, ?_⟩) (by assumption) ?_
      rotate_left
      · intro w hSw; go_simp; try with_reducible rfl
      go_simp
      refine wpAnyH_take (i := 8) (v := ?_) rfl (by kernel_rfl) (by kernel_rfl) (by kernel_rfl) (fun _ _ _ h => h) (Or.inl ⟨by rfl, ?_⟩) (by assumption) ?_
      rotate_left
      · intro w hSw; go_simp; try with_reducible rfl
      go_simp
      refine wpAnyH_take (i := 3) (v := .agg L.toArray) rfl (by kernel_rfl) (by kernel_rfl) (by kernel_rfl) (fun _ _ _ h => h) (yields_row rfl 32 _ rfl bx rfl 32 L _ (fun _ h => h.1) Try.underlying32 rfl (by rw [Try.size32, HL.out])) (by assumption) ?_
      go_simp
      refine wpAnyH_take (i := 9) (v := .agg L.toArray) rfl (by kernel_rfl) (by kernel_rfl) (by kernel_rfl) (fun _ _ _ h => h) (yields_row rfl 32 _ rfl bx rfl 32 L _ (fun _ h => h.1) Try.underlying32 rfl (by rw [Try.size32, HL.out])) (by assumption) ?_
      go_simp
      refine wpAnyH_ready (rs := [4]) (by kernel_rfl) (by simp) (AllReadyH.cons rfl (fun K hK => ?_) AllReadyH.nil)
      go_simp
      go_at_call 9
      refine (htx _).mono ?_
      rintro e wa ⟨rfl, hba⟩
      have h3 : Hid (Pl _ _ _ _ _) := hp2.out.below ((firm_blk _ _ _).star firm_nought) hba
      clear hp2 hba
      refine hK.out _ _ (hS.out _ h3.out.blk) (fun hHeld => ?_)
      clear hK K
      refine wpAnyH_ready (rs := [5]) (by kernel_rfl) (by simp) (AllReadyH.cons rfl (fun K hK => ?_) AllReadyH.nil)
      go_simp
      go_at_call 8
      refine (pl_set ((firm_blk _ _ _).star firm_nought) h3.out n t).mono ?_
      rintro e wb ⟨E, rfl, h4⟩
      clear h3
      have h4 : Hid (Pm _ _ _ _ _ _ _ _) := h4
      refine hK.out _ _ (hS.out _ h4.out.blk) (fun hHeld => ?_)
      clear hK K
      refine wpAnyH_ready (rs := [10]) (by kernel_rfl) (by simp) (AllReadyH.cons rfl (fun K hK => ?_) AllReadyH.nil)
      go_simp
      go_at_call 9
      refine (htx _).mono ?_
      rintro e wc ⟨rfl, hbc⟩
      have h5 : Hid (Pm _ _ _ _ _ _ _ _) := h4.out.below ((firm_blk _ _ _).star firm_nought) hbc
      clear h4 hbc
      refine hK.out _ _ (hS.out _ h5.out.blk) (fun hHeld => ?_)
      clear hK K
      refine wpAnyH_ready (rs := [11]) (by kernel_rfl) (by simp) (AllReadyH.cons rfl (fun K hK => ?_) AllReadyH.nil)
      go_simp
      go_at_call 10
      refine (pl_rset ((firm_blk _ _ _).star firm_nought) h5.out).mono ?_
      rintro e wd ⟨rfl, h6⟩
      clear h5
      have h6 : Hid (Pl _ _ _ _ _) := h6
      refine hK.out _ _ (hS.out _ h6.out.blk) (fun hHeld => ?_)
      clear hK K
      refine wpAnyH_take (i := 12) (v := ?_) rfl (by kernel_rfl) (by kernel_rfl) (by kernel_rfl) (fun _ _ _ h => h) (Or.inl ⟨by rfl, ?_⟩) (by assumption) ?_
      rotate_left
      · intro w hSw; go_simp; try with_reducible rfl
      go_simp
      refine wpAnyH_take (i := 13) (v := ?_) rfl (by kernel_rfl) (by kernel_rfl) (by kernel_rfl) (fun _ _ _ h => h) (Or.inl ⟨by rfl, ?_⟩) (by assumption) ?_
      rotate_left
      · intro w hSw; go_simp; try with_reducible rfl
      go_simp
      refine wpAnyH_done (by kernel_rfl) ?_ _
      refine NoPanic.normal ?_
      clear hHeld hS
      have hg := pl_get firm_nought h6.out.unbox
      clear h6
      go_wp2_with (go_at_call 11; refine hg.mono ?_; rintro e we ⟨c, d, rfl, r0, r1, h7⟩; clear hg; have h7 : Hid (Pl _ _ _ _ _) := h7)
      go_roundw
      case rel => exact ⟨j + 1, by omega, by go_num, h7.out⟩
      case measure => simp [intOf]; omega
    · have hj' : ¬ (j : Int) < (C : Int) := by omega
      go_wp2_with fail
      go_ret
      exact ⟨rfl, hrr.out.low⟩
end Go.Proofs.Ytnfdpcinifppcaa
