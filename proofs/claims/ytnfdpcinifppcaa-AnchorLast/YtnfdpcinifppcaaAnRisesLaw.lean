/- The law AnchorRises, walked. -/
import Derived.Test.YtnfdpcinifppcaaAnPlaysLaw
namespace Go.Proofs.Ytnfdpcinifppcaa
open Go.RowKit Go.PlainAid
set_option linter.unusedVariables false

/-- An anchor with a count and a digest, and what is beside it. -/
def Ri (R : Asn) (W w : World) (g : Nat) (c : Int) (d : ByteArray) : Prop := Hold W.heap.size W w (star (anc g c d) R)
section
variable {W w : World} {g : Nat} {R : Asn} {c : Int} {d : ByteArray}
theorem Ri.low (h : Ri R W w g c d) : Below W.heap.size W w := Hold.low h
theorem Ri.below {w' : World} (hR : Firm R) (h : Ri R W w g c d) (hb : Below w.heap.size w w') : Ri R W w' g c d := Hold.below h ((firm_anc _ _ _).star hR) hb
theorem Ri.blk {bx : Nat} {T : TypeId} {L : List Value} (h : Ri (star (blkA bx T L) R) W w g c d) : Blk w bx T L := (Hold.right h).blk
theorem Ri.box (h : Ri nought W w g c d) (T : TypeId) (Z : Array Value) (L : List Value) : Ri (star (blkA w.heap.size T L) nought) W ((w.alloc (.cells Z T)).setRow w.heap.size L.toArray) g c d :=
  (((Hold.newBlk ((firm_anc g c d).star firm_nought) h T Z).setRowBlk ((firm_anc g c d).star firm_nought) L)).swap
theorem Ri.unbox {bx : Nat} {T : TypeId} {L : List Value} (h : Ri (star (blkA bx T L) nought) W w g c d) : Ri nought W w g c d := Hold.right (Hold.swap h)
theorem ri_get (hR : Firm R) (h : Ri R W w g c d) : Calls Try.prog 11 #[.pointer (some ⟨g, 0, none⟩)] w fun e w' => e = .returned (.tuple #[.int .u64 c, .string d]) ∧ Ri R W w' g c d := aget_any hR h
theorem ri_set (hR : Firm R) (h : Ri R W w g c d) (n : Int) (t : ByteArray) : Calls Try.prog 8 #[.pointer (some ⟨g, 0, none⟩), .int .u64 n, .string t] w fun e w' => e = .returned (.int .i64 (ancE c n t)) ∧ Ri R W w' g (ancC c n t) (ancD c d n t) := aset_any hR h n t
end
theorem ancE_low (c n : Int) (t : ByteArray) (h : ancE c n t = 0) : ¬ n ≤ c := by
  unfold ancE at h
  split at h
  · omega
  · split at h
    · omega
    · assumption
set_option maxRecDepth 20000 in
set_option maxHeartbeats 4000000 in
theorem anchorRises_law (s : Option Addr) (len cap : Nat) (W : World) (hs : Came ClOk Cl.row 35 W s len cap) : Calls Try.prog 4 #[.slice s len cap] W fun e w' => e = .returned (.bool true) ∧ Below W.heap.size W w' := by
  have hl1 := hs.1
  have hl2 := hs.2.1
  have HS : Hid (Came ClOk Cl.row 35 W s len cap) := hs
  have hnew := anew_any firm_nought (hold_nought W.heap.size W W (Nat.le_refl _) (Below.refl _ _))
  obtain ⟨Z, hZl, hZ⟩ := zeroCall
  have HZ : Hid (Z.length = 35) := hZl
  clear hs hZl
  obtain ⟨C, hC1, hC2, hC3⟩ : ∃ C : Nat, (if (100 : Int) < (len : Int) then (100 : Int) else (len : Int)) = (C : Int) ∧ C ≤ 100 ∧ C ≤ len := ⟨min len 100, by split <;> omega, by omega, by omega⟩
  have hC4 : C ≤ cap := by omega
  go_enter Try.func4, Try.ntmps4
  go_wp2_with (go_at_call 6; refine hnew.mono ?_; rintro e w1 ⟨g, rfl, h1⟩; clear hnew; have hx : Hid (Ri nought W w1 g _ _) := h1; clear h1)
  clear hC1
  go_loopw [21] (fun i wr => ∃ j : Nat, j ≤ C ∧ i = .int .i64 (j : Int) ∧ ∃ c d, Hid (Ri nought W wr g c d)) (fun i _ => C - (intOf i).toNat)
  case atStart => exact ⟨0, Nat.zero_le _, rfl, _, _, hx.out⟩
  case round =>
    clear hx
    obtain ⟨j, hj, rfl, c, d, hrr⟩ := hrel
    by_cases hlt : j < C
    · have hj' : (j : Int) < (C : Int) := by omega
      obtain ⟨sb, so, A, hsa, hA, hra⟩ := came_at HS.out hrr.out.low j (by omega)
      subst hsa
      have htx := text_any A
      obtain ⟨L, hL⟩ : ∃ L, A.row = L := ⟨_, rfl⟩
      have hL0 := A.at0
      have hLl := A.len
      have hL1 := A.one
      rw [hL] at hra htx hL0 hLl hL1
      obtain ⟨n, hn⟩ : ∃ n, A.n = n := ⟨_, rfl⟩
      obtain ⟨t, ht⟩ : ∃ t, A.t = t := ⟨_, rfl⟩
      rw [hn] at hL0
      rw [ht] at htx
      clear hL hA hn ht
      have hp : Hid (Ri (star (blkA _ _ _) _) _ _ _ _ _) := hrr.out.box 32 Z.toArray L
      have HR : Hid (wr.rangeAt sb (so + j * 35) L) := hra
      have HL : Hid (L.length = 35) := hLl
      have HL1 : Hid (∀ v ∈ L, v.oneCell' = true) := hL1
      have hS0 : Hid (∀ bx z, Blk z bx 32 L → (fun z : World => Blk z bx 32 L ∧ z.cell? ⟨bx, 0, none⟩ = some (.int .u64 n)) z) := fun bx z hz => ⟨hz, hz.cell hL0⟩
      clear hrr hLl hL1 hra hL0
      go_wp2_with (first
        | (refine wpList_load_mid rfl 32 _ rfl sb (so + j * 35) rfl L _ HR.out Try.underlying32 rfl (by rw [Try.size32, HL.out]) ?_)
        | (refine wpList_store_blk rfl 32 _ _ rfl wr.heap.size Z L rfl rfl 32 (Blk.box _ _ _) (by rw [Try.size32, HL.out]) (by rw [HZ.out, HL.out]) HL1.out ?_)
        | (go_at_call 11; refine (ri_get ((firm_blk _ _ _).star firm_nought) hp.out).mono ?_; rintro e wa ⟨rfl, h1⟩; clear hp; have h1 : Hid (Ri _ _ _ _ _ _) := h1))
      generalize wr.heap.size = bx at *
      have h2 : Hid (Ri _ _ _ _ _ _) := h1.out.below ((firm_blk _ _ _).star firm_nought) (Below.refl _ _).drew
      have hS : Hid (∀ z, Blk z bx 32 L → (fun z : World => Blk z bx 32 L ∧ z.cell? ⟨bx, 0, none⟩ = some (.int .u64 n)) z) := hS0.out bx
      clear h1 HR HL1 hS0
      refine wp_region_noPanic ?_
      refine wp_region_held_drew (S := fun z : World => Blk z bx 32 L ∧ z.cell? ⟨bx, 0, none⟩ = some (.int .u64 n)) (by kernel_rfl) (hS.out _ h2.out.blk) (fun hHeld => ?_)
      refine wpAnyH_take (i := 0) (v := ?_) rfl (by kernel_rfl) (by kernel_rfl) (by kernel_rfl) (fun _ _ _ h => h) (Or.inl ⟨by rfl, ?_⟩) (by assumption) ?_
      rotate_left
      · intro w hSw; go_simp; try with_reducible rfl
      go_simp
      refine wpAnyH_take (i := 1) (v := ?_) rfl (by kernel_rfl) (by kernel_rfl) (by kernel_rfl) (fun _ _ _ h => h) (Or.inl ⟨by rfl, ?_⟩) (by assumption) ?_
      rotate_left
      · intro w hSw; go_simp; try with_reducible rfl
      go_simp
      refine wpAnyH_take (i := 2) (v := ?_) rfl (by kernel_rfl) (by kernel_rfl) (by kernel_rfl) (fun _ _ _ h => h) (Or.inl ⟨by rfl, ?_⟩) (by assumption) ?_
      rotate_left
      · intro w hSw; go_simp; try with_reducible rfl
      go_simp
      refine wpAnyH_take (i := 3) (v := .agg L.toArray) rfl (by kernel_rfl) (by kernel_rfl) (by kernel_rfl) (fun _ _ _ h => h) (yields_row rfl 32 _ rfl bx rfl 32 L _ (fun _ h => h.1) Try.underlying32 rfl (by rw [Try.size32, HL.out])) (by assumption) ?_
      go_simp
      refine wpAnyH_ready (rs := [4]) (by kernel_rfl) (by simp) (AllReadyH.cons rfl (fun K hK => ?_) AllReadyH.nil)
      go_simp
      go_at_call 9
      refine (htx _).mono ?_
      rintro e wb ⟨rfl, hbb⟩
      have h3 : Hid (Ri _ _ _ _ _ _) := h2.out.below ((firm_blk _ _ _).star firm_nought) hbb
      clear h2 hbb
      refine hK.out _ _ (hS.out _ h3.out.blk) (fun hHeld => ?_)
      clear hK K
      refine wpAnyH_ready (rs := [5]) (by kernel_rfl) (by simp) (AllReadyH.cons rfl (fun K hK => ?_) AllReadyH.nil)
      go_simp
      go_at_call 8
      refine (ri_set ((firm_blk _ _ _).star firm_nought) h3.out n t).mono ?_
      rintro e wc ⟨rfl, h4⟩
      clear h3
      have h4 : Hid (Ri _ _ _ _ _ _) := h4
      refine hK.out _ _ (hS.out _ h4.out.blk) (fun hHeld => ?_)
      clear hK K
      refine wpAnyH_take (i := 6) (v := ?_) rfl (by kernel_rfl) (by kernel_rfl) (by kernel_rfl) (fun _ _ _ h => h) (Or.inl ⟨by rfl, ?_⟩) (by assumption) ?_
      rotate_left
      · intro w hSw; go_simp; try with_reducible rfl
      go_simp
      refine wpAnyH_done (by kernel_rfl) ?_ _
      refine NoPanic.normal ?_
      clear hHeld
      obtain ⟨E, hE⟩ : ∃ E, ancE c n t = E := ⟨_, rfl⟩
      by_cases h0 : E = 0
      · obtain ⟨e1, e2⟩ := anc_new c d n t (hE.trans h0)
        have hlow := ancE_low c n t (hE.trans h0)
        rw [e1, e2] at h4
        rw [hE, h0]
        clear hE h0 e1 e2
        go_wp2_with (first
          | (go_at_call 11; refine (ri_get ((firm_blk _ _ _).star firm_nought) h4.out).mono ?_; rintro e wd ⟨rfl, h5⟩; clear h4; have h5 : Hid (Ri _ _ _ _ _ _) := h5; have c0 := (hS.out _ h5.out.blk).2)
          | (refine wpList_load_want 32 _ rfl ?_ bx rfl 32 L _ h5.out.blk Try.underlying32 rfl (by rw [Try.size32, HL.out]) ?_)
          | (go_at_call 9; refine (htx _).mono ?_; rintro e wf ⟨rfl, hbf⟩; have h6 : Hid (Ri _ _ _ _ _ _) := h5.out.below ((firm_blk _ _ _).star firm_nought) hbf; clear h5 hbf))
        have h7 : Hid (Ri _ _ _ _ _ _) := h6.out.below ((firm_blk _ _ _).star firm_nought) (Below.refl _ _).drew
        clear h6
        refine wp_region_noPanic ?_
        refine wp_region_held_drew (S := fun z : World => Blk z bx 32 L ∧ z.cell? ⟨bx, 0, none⟩ = some (.int .u64 n)) (by kernel_rfl) (hS.out _ h7.out.blk) (fun hHeld => ?_)
        refine wpAnyH_take (i := 0) (v := ?_) rfl (by kernel_rfl) (by kernel_rfl) (by kernel_rfl) (fun _ _ _ h => h) (Or.inl ⟨by rfl, ?_⟩) (by assumption) ?_
        rotate_left
        · intro w hSw; go_simp; try with_reducible rfl
        go_simp
        refine wpAnyH_take (i := 1) (v := ?_) rfl (by kernel_rfl) (by kernel_rfl) (by kernel_rfl) (fun _ _ _ h => h) (Or.inl ⟨by rfl, ?_⟩) (by assumption) ?_
        rotate_left
        · intro w hSw; go_simp; try with_reducible rfl
        go_simp
        refine wpAnyH_take (i := 2) (v := ?_) rfl (by kernel_rfl) (by kernel_rfl) (by kernel_rfl) (fun _ _ _ h => h) (Or.inl ⟨by rfl, ?_⟩) (by assumption) ?_
        rotate_left
        · intro w hSw; go_simp; try with_reducible rfl
        go_simp
        refine wpAnyH_take (i := 3) (v := .agg L.toArray) rfl (by kernel_rfl) (by kernel_rfl) (by kernel_rfl) (fun _ _ _ h => h) (yields_row rfl 32 _ rfl bx rfl 32 L _ (fun _ h => h.1) Try.underlying32 rfl (by rw [Try.size32, HL.out])) (by assumption) ?_
        go_simp
        refine wpAnyH_ready (rs := [4]) (by kernel_rfl) (by simp) (AllReadyH.cons rfl (fun K hK => ?_) AllReadyH.nil)
        go_simp
        go_at_call 9
        refine (htx _).mono ?_
        rintro e wg ⟨rfl, hbg⟩
        have h8 : Hid (Ri _ _ _ _ _ _) := h7.out.below ((firm_blk _ _ _).star firm_nought) hbg
        clear h7 hbg
        refine hK.out _ _ (hS.out _ h8.out.blk) (fun hHeld => ?_)
        clear hK K
        refine wpAnyH_ready (rs := [5]) (by kernel_rfl) (by simp) (AllReadyH.cons rfl (fun K hK => ?_) AllReadyH.nil)
        go_simp
        go_at_call 8
        refine (aset_nil _ _ _).mono ?_
        rintro e wh ⟨rfl, hw'⟩
        rw [hw']
        clear hw' wh
        refine hK.out _ _ (hS.out _ h8.out.blk) (fun hHeld => ?_)
        clear hK K
        refine wpAnyH_take (i := 6) (v := ?_) rfl (by kernel_rfl) (by kernel_rfl) (by kernel_rfl) (fun _ _ _ h => h) (Or.inl ⟨by rfl, ?_⟩) (by assumption) ?_
        rotate_left
        · intro w hSw; go_simp; try with_reducible rfl
        go_simp
        refine wpAnyH_done (by kernel_rfl) ?_ _
        refine NoPanic.normal ?_
        clear hHeld hS
        have h9 : Hid (Ri _ _ _ _ _ _) := h8.out.unbox
        clear h8
        go_wp2_with fail
        go_roundw
        case rel => exact ⟨j + 1, by omega, by go_num, _, _, h9.out⟩
        case measure => simp [intOf]; omega
      · obtain ⟨e1, e2⟩ := anc_same c d n t (fun h => h0 (hE.symm.trans h))
        have h0' : (E == 0) = false := by simpa using h0
        rw [e1, e2] at h4
        rw [hE]
        clear hE e1 e2
        go_wp2_with (go_at_call 11; refine (ri_get ((firm_blk _ _ _).star firm_nought) h4.out).mono ?_; rintro e wd ⟨rfl, h5⟩; clear h4; have h5 : Hid (Ri _ _ _ _ _ _) := h5)
        have h6 : Hid (Ri _ _ _ _ _ _) := h5.out
        clear h5
        go_wp2_with fail
        have h7 : Hid (Ri _ _ _ _ _ _) := h6.out.below ((firm_blk _ _ _).star firm_nought) (Below.refl _ _).drew
        clear h6
        refine wp_region_noPanic ?_
        refine wp_region_held_drew (S := fun z : World => Blk z bx 32 L ∧ z.cell? ⟨bx, 0, none⟩ = some (.int .u64 n)) (by kernel_rfl) (hS.out _ h7.out.blk) (fun hHeld => ?_)
        refine wpAnyH_take (i := 0) (v := ?_) rfl (by kernel_rfl) (by kernel_rfl) (by kernel_rfl) (fun _ _ _ h => h) (Or.inl ⟨by rfl, ?_⟩) (by assumption) ?_
        rotate_left
        · intro w hSw; go_simp; try with_reducible rfl
        go_simp
        refine wpAnyH_take (i := 1) (v := ?_) rfl (by kernel_rfl) (by kernel_rfl) (by kernel_rfl) (fun _ _ _ h => h) (Or.inl ⟨by rfl, ?_⟩) (by assumption) ?_
        rotate_left
        · intro w hSw; go_simp; try with_reducible rfl
        go_simp
        refine wpAnyH_take (i := 2) (v := ?_) rfl (by kernel_rfl) (by kernel_rfl) (by kernel_rfl) (fun _ _ _ h => h) (Or.inl ⟨by rfl, ?_⟩) (by assumption) ?_
        rotate_left
        · intro w hSw; go_simp; try with_reducible rfl
        go_simp
        refine wpAnyH_take (i := 3) (v := .agg L.toArray) rfl (by kernel_rfl) (by kernel_rfl) (by kernel_rfl) (fun _ _ _ h => h) (yields_row rfl 32 _ rfl bx rfl 32 L _ (fun _ h => h.1) Try.underlying32 rfl (by rw [Try.size32, HL.out])) (by assumption) ?_
        go_simp
        refine wpAnyH_ready (rs := [4]) (by kernel_rfl) (by simp) (AllReadyH.cons rfl (fun K hK => ?_) AllReadyH.nil)
        go_simp
        go_at_call 9
        refine (htx _).mono ?_
        rintro e wg ⟨rfl, hbg⟩
        have h8 : Hid (Ri _ _ _ _ _ _) := h7.out.below ((firm_blk _ _ _).star firm_nought) hbg
        clear h7 hbg
        refine hK.out _ _ (hS.out _ h8.out.blk) (fun hHeld => ?_)
        clear hK K
        refine wpAnyH_ready (rs := [5]) (by kernel_rfl) (by simp) (AllReadyH.cons rfl (fun K hK => ?_) AllReadyH.nil)
        go_simp
        go_at_call 8
        refine (aset_nil _ _ _).mono ?_
        rintro e wh ⟨rfl, hw'⟩
        rw [hw']
        clear hw' wh
        refine hK.out _ _ (hS.out _ h8.out.blk) (fun hHeld => ?_)
        clear hK K
        refine wpAnyH_take (i := 6) (v := ?_) rfl (by kernel_rfl) (by kernel_rfl) (by kernel_rfl) (fun _ _ _ h => h) (Or.inl ⟨by rfl, ?_⟩) (by assumption) ?_
        rotate_left
        · intro w hSw; go_simp; try with_reducible rfl
        go_simp
        refine wpAnyH_done (by kernel_rfl) ?_ _
        refine NoPanic.normal ?_
        clear hHeld hS
        have h9 : Hid (Ri _ _ _ _ _ _) := h8.out.unbox
        clear h8
        go_wp2_with fail
        go_roundw
        case rel => exact ⟨j + 1, by omega, by go_num, _, _, h9.out⟩
        case measure => simp [intOf]; omega
    · have hj' : ¬ (j : Int) < (C : Int) := by omega
      go_wp2_with (first
        | (go_at_call 11; refine (aget_nil _).mono ?_; rintro e wd ⟨rfl, hw'⟩; rw [hw']; clear hw' wd)
        | (go_at_call 7; refine (anWakes_any _).mono ?_; rintro e we ⟨rfl, hbe⟩; have h1 : Hid (Ri _ _ _ _ _ _) := hrr.out.below firm_nought hbe; clear hrr hbe))
      go_ret
      exact ⟨rfl, h1.out.low⟩
end Go.Proofs.Ytnfdpcinifppcaa
