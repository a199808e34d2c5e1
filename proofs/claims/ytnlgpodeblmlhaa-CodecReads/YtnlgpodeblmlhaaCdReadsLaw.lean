/- The law CodecReads, walked. (Written by gen_cdreads.py.) -/
import Derived.Test.YtnlgpodeblmlhaaCdWakes
import Derived.Test.YtnlgpodeblmlhaaCdRef
namespace Go.Proofs.Ytnlgpodeblmlhaa
open Go.RowKit Go.PlainAid
set_option linter.unusedVariables false

/-- The program's reader and the document's have the same. -/
def Rb (W w : World) (g r : Nat) (S : ByteArray) : Prop := ∃ p e, p ≤ S.size ∧ Hold W.heap.size W w (star (rdr g (lft S p) e) (star (rrd r S p e) nought))
/-- .. and behind the program's call, that answered V: Num, Below, Text. -/
def RbN (W w : World) (g r : Nat) (S : ByteArray) (V : Int) : Prop := ∃ p e, p ≤ S.size ∧ V = nmV (lft S p) e ∧ Hold W.heap.size W w (star (rdr g (nmL (lft S p) e) (nmE (lft S p) e)) (star (rrd r S p e) nought))
def RbB (W w : World) (g r : Nat) (S : ByteArray) (b V : Int) : Prop := ∃ p e, p ≤ S.size ∧ V = blV (lft S p) e b ∧ Hold W.heap.size W w (star (rdr g (nmL (lft S p) e) (blE (lft S p) e b)) (star (rrd r S p e) nought))
def RbT (W w : World) (g r : Nat) (S V : ByteArray) : Prop := ∃ p e, p ≤ S.size ∧ V = txV (lft S p) e ∧ Hold W.heap.size W w (star (rdr g (txL (lft S p) e) (txE (lft S p) e)) (star (rrd r S p e) nought))
section
variable {W w : World} {g r : Nat} {S : ByteArray}
theorem lft_le (S : ByteArray) (p : Nat) (hS : S.size ≤ 140737488355328) : (lft S p).size ≤ 140737488355328 := by rw [lft_size]; omega
theorem Rb.low (h : Rb W w g r S) : Below W.heap.size W w := by obtain ⟨p, e, -, h⟩ := h; exact h.low
theorem rb_num (hS : S.size ≤ 140737488355328) (h : Rb W w g r S) : Calls Try.prog 15 #[.pointer (some ⟨g, 0, none⟩)] w fun x w' => ∃ V, x = .returned (.int .u64 V) ∧ RbN W w' g r S V := by
  obtain ⟨p, e, hp, h⟩ := h
  exact (cnum_any ((firm_rrd _ _ _ _).star firm_nought) h (lft_le S p hS)).mono fun x w' ⟨hx, h'⟩ => ⟨_, hx, p, e, hp, rfl, h'⟩
theorem rb_rnum {V : Int} (hS : S.size ≤ 140737488355328) (h : RbN W w g r S V) : Calls Try.prog 16 #[.pointer (some ⟨r, 0, none⟩)] w fun x w' => x = .returned (.int .u64 V) ∧ Rb W w' g r S := by
  obtain ⟨p, e, hp, rfl, h⟩ := h
  exact (rnumber_any ((firm_rdr _ _ _).star firm_nought) h.swap hS hp).mono fun x w' ⟨hx, q, hq, hl, h'⟩ => ⟨hx, q, _, hq, by rw [hl]; exact h'.swap⟩
theorem rb_bel (hS : S.size ≤ 140737488355328) (h : Rb W w g r S) (b : Int) (hb : -9223372036854775808 ≤ b ∧ b ≤ 9223372036854775807) : Calls Try.prog 17 #[.pointer (some ⟨g, 0, none⟩), .int .i64 b] w fun x w' => ∃ V, x = .returned (.int .i64 V) ∧ RbB W w' g r S b V := by
  obtain ⟨p, e, hp, h⟩ := h
  exact (cbelow_any ((firm_rrd _ _ _ _).star firm_nought) h (lft_le S p hS) b hb).mono fun x w' ⟨hx, h'⟩ => ⟨_, hx, p, e, hp, rfl, h'⟩
theorem rb_rbel {b V : Int} (hS : S.size ≤ 140737488355328) (h : RbB W w g r S b V) (hb : -9223372036854775808 ≤ b ∧ b ≤ 9223372036854775807) : Calls Try.prog 18 #[.pointer (some ⟨r, 0, none⟩), .int .i64 b] w fun x w' => x = .returned (.int .i64 V) ∧ Rb W w' g r S := by
  obtain ⟨p, e, hp, rfl, h⟩ := h
  exact (rbelow_any ((firm_rdr _ _ _).star firm_nought) h.swap hS hp b hb).mono fun x w' ⟨hx, q, hq, hl, h'⟩ => ⟨hx, q, _, hq, by rw [hl]; exact h'.swap⟩
theorem rb_txt (hS : S.size ≤ 140737488355328) (h : Rb W w g r S) : Calls Try.prog 19 #[.pointer (some ⟨g, 0, none⟩)] w fun x w' => ∃ V, x = .returned (.string V) ∧ RbT W w' g r S V := by
  obtain ⟨p, e, hp, h⟩ := h
  exact (ctext_any ((firm_rrd _ _ _ _).star firm_nought) h (lft_le S p hS)).mono fun x w' ⟨hx, h'⟩ => ⟨_, hx, p, e, hp, rfl, h'⟩
theorem rb_rtxt {V : ByteArray} (hS : S.size ≤ 140737488355328) (h : RbT W w g r S V) : Calls Try.prog 20 #[.pointer (some ⟨r, 0, none⟩)] w fun x w' => x = .returned (.string V) ∧ Rb W w' g r S := by
  obtain ⟨p, e, hp, rfl, h⟩ := h
  exact (rwords_any ((firm_rdr _ _ _).star firm_nought) h.swap hS hp).mono fun x w' ⟨hx, q, hq, hl, h'⟩ => ⟨hx, q, _, hq, by rw [hl]; exact h'.swap⟩
end
set_option maxRecDepth 20000 in
set_option maxHeartbeats 4000000 in
theorem codecReads_law (S : ByteArray) (s : Option Addr) (len cap : Nat) (b : Int) (W : World) (hS : S.size ≤ 140737488351232) (hs : Came i64Ok (fun n => [.int .i64 n]) 1 W s len cap) (hb : -9223372036854775808 ≤ b ∧ b ≤ 9223372036854775807) : Calls Try.prog 4 #[.string S, .slice s len cap, .int .i64 b] W fun e w' => e = .returned (.bool true) ∧ Below W.heap.size W w' := by
  have hl1 := hs.1
  have hl2 := hs.2.1
  have HC : Hid (Came i64Ok (fun n => [.int .i64 n]) 1 W s len cap) := hs
  have HS : Hid (S.size ≤ 140737488355328) := (by omega : S.size ≤ 140737488355328)
  have HB : Hid (-9223372036854775808 ≤ b ∧ b ≤ 9223372036854775807) := hb
  have hnew := cnew_any firm_nought (hold_nought W.heap.size W W (Nat.le_refl _) (Below.refl _ _)) S
  clear hs hb
  obtain ⟨C, hC1, hC2, hC3⟩ : ∃ C : Nat, (if (40 : Int) < (len : Int) then (40 : Int) else (len : Int)) = (C : Int) ∧ C ≤ 40 ∧ C ≤ len := ⟨min len 40, by split <;> omega, by omega, by omega⟩
  have hC4 : C ≤ cap := by omega
  go_enter Try.func4, Try.ntmps4
  go_wp2_with (first
    | (go_at_call 14; refine hnew.mono ?_; rintro e w1 ⟨g, rfl, h1⟩; clear hnew; have h2 : Hid (Hold _ _ _ _) := h1.newBlk ((firm_rdr _ _ _).star firm_nought) 32 #[.string S, .int .i64 0, .int .i64 0]; clear h1)
    | (go_at_call 9; refine (cwakes_any _).mono ?_; rintro e w2 ⟨rfl, hb2⟩; have hx : Hid (Rb W w2 g w1.heap.size S) := ⟨0, 0, Nat.zero_le _, by rw [lft_zero]; exact (h2.out.below ((firm_blk _ _ _).star ((firm_rdr _ _ _).star firm_nought)) hb2).swap⟩; clear h2 hb2))
  generalize w1.heap.size = r at *
  clear hC1
  go_loopw [24] (fun i wr => ∃ j : Nat, j ≤ C ∧ i = .int .i64 (j : Int) ∧ Hid (Rb W wr g r S)) (fun i _ => C - (intOf i).toNat)
  case atStart => exact ⟨0, Nat.zero_le _, rfl, hx.out⟩
  case round =>
    clear hx
    obtain ⟨j, hj, rfl, hrr⟩ := hrel
    by_cases hlt : j < C
    · have hj' : (j : Int) < (C : Int) := by omega
      obtain ⟨sb, so, k, hsa, hk, hra⟩ := came_at HC.out hrr.out.low j (by omega)
      subst hsa
      have hcell : wr.cell? ⟨sb, so + j, none⟩ = some (.int .i64 k) := by have := hra 0 _ rfl; simpa using this
      obtain ⟨m, hm⟩ : ∃ m, Int.tmod k 4 = m := ⟨_, rfl⟩
      clear hra hk
      by_cases m1 : m = 1
      · subst m1
        go_wp2_with (first
        | (go_at_call 15; refine (rb_num HS.out hrr.out).mono ?_; rintro e wa ⟨V, rfl, h1⟩; clear hrr; have h1 : Hid (RbN _ _ _ _ _ _) := h1)
        | (go_at_call 16; refine (rb_rnum HS.out h1.out).mono ?_; rintro e wb ⟨rfl, h2⟩; clear h1; have h2 : Hid (Rb _ _ _ _ _) := h2))
        obtain ⟨p, e, hp, h3⟩ := h2.out
        have hd := cdone_any (h3.drew ((firm_rdr _ _ _).star ((firm_rrd _ _ _ _).star firm_nought)))
        have hq := lft_size S p
        have hrc : wb.cell? ⟨r, 1, none⟩ = some (.int .i64 (p : Int)) := h3.swap.blk.cell (i := 1) rfl
        have H3 : Hid (Hold _ _ _ _) := h3.drew ((firm_rdr _ _ _).star ((firm_rrd _ _ _ _).star firm_nought))
        have z0 : IntKind.i64.wrap ((S.size : Int) - (p : Int)) = (S.size : Int) - (p : Int) := IntWalk.i64_in _ ⟨by omega, by omega⟩
        have z1 : ((lft S p).size : Int) = (S.size : Int) - (p : Int) := by omega
        have hS1 : Hid (∀ z, Hold W.heap.size W z (star (rdr g (lft S p) e) (star (rrd r S p e) nought)) → z.cell? ⟨r, 1, none⟩ = some (.int .i64 (p : Int))) := fun z hz => hz.swap.blk.cell (i := 1) rfl
        have HP : Hid (p ≤ S.size) := hp
        obtain ⟨D, hD⟩ : ∃ D, dnE (lft S p) e = D := ⟨_, rfl⟩
        have HD : Hid (dnE (lft S p) e = D) := hD
        rw [hD] at hd
        clear h2 h3 hq hp hD
        refine wp_region_noPanic ?_
        refine wp_region_held_drew (S := fun z : World => z.cell? ⟨r, 1, none⟩ = some (.int .i64 (p : Int))) (by kernel_rfl) (hS1.out _ H3.out) (fun hHeld => ?_)
        refine wpAnyH_take (i := 0) (v := ?_) rfl (by kernel_rfl) (by kernel_rfl) (by kernel_rfl) (fun _ _ _ h => h) (Or.inl ⟨by rfl, ?_⟩) (by assumption) ?_
        rotate_left
        · intro w hSw; go_simp; try with_reducible rfl
        go_simp
        refine wpAnyH_take (i := 2) (v := ?_) rfl (by kernel_rfl) (by kernel_rfl) (by kernel_rfl) (fun _ _ _ h => h) (Or.inl ⟨by rfl, ?_⟩) (by assumption) ?_
        rotate_left
        · intro w hSw; go_simp; try with_reducible rfl
        go_simp
        refine wpAnyH_ready (rs := [1]) (by kernel_rfl) (by simp) (AllReadyH.cons rfl (fun K hK => ?_) AllReadyH.nil)
        go_simp
        go_at_call 21
        refine hd.mono ?_
        rintro e1 wc ⟨rfl, hw⟩
        rw [hw]
        clear hw wc hd
        refine hK.out _ _ (hS1.out _ H3.out) (fun hHeld => ?_)
        clear hK K
        refine wpAnyH_ready (rs := [3]) (by kernel_rfl) (by simp) (AllReadyH.cons rfl (fun K hK => ?_) AllReadyH.nil)
        go_simp
        go_at_call 22
        refine (rdone_any ((firm_rdr _ _ _).star firm_nought) H3.out.swap HS.out HP.out).mono ?_
        rw [HD.out]
        rintro e2 wd ⟨rfl, h4⟩
        have H4 : Hid (Hold _ _ _ _) := h4.swap
        clear h4 H3
        refine hK.out _ _ (hS1.out _ H4.out) (fun hHeld => ?_)
        clear hK K
        refine wpAnyH_take (i := 4) (v := ?_) rfl (by kernel_rfl) (by kernel_rfl) (by kernel_rfl) (fun _ _ _ h => h) (Or.inl ⟨by rfl, ?_⟩) (by assumption) ?_
        rotate_left
        · intro w hSw; go_simp; try with_reducible rfl
        go_simp
        refine wpAnyH_take (i := 5) (v := ?_) rfl (by kernel_rfl) (by kernel_rfl) (by kernel_rfl) (fun _ _ _ h => h) (Or.inl ⟨by rfl, ?_⟩) (by assumption) ?_
        rotate_left
        · intro w hSw; go_simp; try with_reducible rfl
        go_simp
        refine wpAnyH_take (i := 6) (v := ?_) rfl (by kernel_rfl) (by kernel_rfl) (by kernel_rfl) (fun _ _ _ h => h) (Or.inl ⟨by rfl, ?_⟩) (by assumption) ?_
        rotate_left
        · intro w hSw; go_simp; try with_reducible rfl
        go_simp
        refine wpAnyH_take (i := 8) (v := ?_) rfl (by kernel_rfl) (by kernel_rfl) (by kernel_rfl) (fun _ _ _ h => h) (Or.inl ⟨by rfl, ?_⟩) (by assumption) ?_
        rotate_left
        · intro w hSw; go_simp; try with_reducible rfl
        go_simp
        refine wpAnyH_take (i := 9) (v := ?_) rfl (by kernel_rfl) (by kernel_rfl) (by kernel_rfl) (fun _ _ _ h => h) (Or.inl ⟨by rfl, ?_⟩) (by assumption) ?_
        rotate_left
        · intro w hSw; go_simp; try with_reducible rfl
        go_simp
        refine wpAnyH_take (i := 10) (v := ?_) rfl (by kernel_rfl) (by kernel_rfl) (by kernel_rfl) (fun _ _ _ h => h) (Or.inl ⟨by rfl, ?_⟩) (by assumption) ?_
        rotate_left
        · intro w hSw; go_simp; try with_reducible rfl
        go_simp
        refine wpAnyH_take (i := 11) (v := ?_) rfl (by kernel_rfl) (by kernel_rfl) (by kernel_rfl) (fun _ _ _ h => h) (Or.inl ⟨by rfl, ?_⟩) (by assumption) ?_
        rotate_left
        · intro w hSw; go_simp; try with_reducible rfl
        go_simp
        refine wpAnyH_take (i := 12) (v := ?_) rfl (by kernel_rfl) (by kernel_rfl) (by kernel_rfl) (fun _ _ _ h => h) (Or.inl ⟨by rfl, ?_⟩) (by assumption) ?_
        rotate_left
        · intro w hSw; go_simp; try with_reducible rfl
        go_simp
        refine wpAnyH_take (i := 13) (v := ?_) rfl (by kernel_rfl) (by kernel_rfl) (by kernel_rfl) (fun _ _ _ h => h) (Or.inl ⟨by rfl, ?_⟩) (by assumption) ?_
        rotate_left
        · intro w hSw; go_simp; try with_reducible rfl
        go_simp
        refine wpAnyH_take (i := 14) (v := ?_) rfl (by kernel_rfl) (by kernel_rfl) (by kernel_rfl) (fun _ _ _ h => h) (Or.inl ⟨by rfl, ?_⟩) (by assumption) ?_
        rotate_left
        · intro w hSw; go_simp; try with_reducible rfl
        go_simp
        refine wpAnyH_ready (rs := [7]) (by kernel_rfl) (by simp) (AllReadyH.cons rfl (fun K hK => ?_) AllReadyH.nil)
        go_simp
        go_at_call 23
        refine (cleft_any H4.out).mono ?_
        rw [z1]
        rintro e3 wf ⟨rfl, hw⟩
        rw [hw]
        clear hw wf
        refine hK.out _ _ (hS1.out _ H4.out) (fun hHeld => ?_)
        clear hK K
        refine wpAnyH_take (i := 15) (v := ?_) rfl (by kernel_rfl) (by kernel_rfl) (by kernel_rfl) (fun _ _ _ h => h) (Or.inl ⟨by rfl, ?_⟩) (by assumption) ?_
        rotate_left
        · intro w hSw; go_simp; try with_reducible rfl
        go_simp
        refine wpAnyH_take (i := 16) (v := ?_) rfl (by kernel_rfl) (by kernel_rfl) (by kernel_rfl) (fun _ _ _ h => h) (Or.inl ⟨by rfl, ?_⟩) (by assumption) ?_
        rotate_left
        · intro w hSw; go_simp; try with_reducible rfl
        go_simp
        refine wpAnyH_done (by kernel_rfl) ?_ _
        refine NoPanic.normal ?_
        have H5 : Hid (Rb W wd g r S) := ⟨p, e, HP.out, H4.out⟩
        clear hHeld hS1 H4 hrc z0 z1
        go_wp2_with fail
        go_roundw
        case rel => exact ⟨j + 1, by omega, by go_num, H5.out⟩
        case measure => simp [intOf]; omega
      by_cases m2 : m = -1
      · subst m2
        go_wp2_with (first
        | (go_at_call 15; refine (rb_num HS.out hrr.out).mono ?_; rintro e wa ⟨V, rfl, h1⟩; clear hrr; have h1 : Hid (RbN _ _ _ _ _ _) := h1)
        | (go_at_call 16; refine (rb_rnum HS.out h1.out).mono ?_; rintro e wb ⟨rfl, h2⟩; clear h1; have h2 : Hid (Rb _ _ _ _ _) := h2))
        obtain ⟨p, e, hp, h3⟩ := h2.out
        have hd := cdone_any (h3.drew ((firm_rdr _ _ _).star ((firm_rrd _ _ _ _).star firm_nought)))
        have hq := lft_size S p
        have hrc : wb.cell? ⟨r, 1, none⟩ = some (.int .i64 (p : Int)) := h3.swap.blk.cell (i := 1) rfl
        have H3 : Hid (Hold _ _ _ _) := h3.drew ((firm_rdr _ _ _).star ((firm_rrd _ _ _ _).star firm_nought))
        have z0 : IntKind.i64.wrap ((S.size : Int) - (p : Int)) = (S.size : Int) - (p : Int) := IntWalk.i64_in _ ⟨by omega, by omega⟩
        have z1 : ((lft S p).size : Int) = (S.size : Int) - (p : Int) := by omega
        have hS1 : Hid (∀ z, Hold W.heap.size W z (star (rdr g (lft S p) e) (star (rrd r S p e) nought)) → z.cell? ⟨r, 1, none⟩ = some (.int .i64 (p : Int))) := fun z hz => hz.swap.blk.cell (i := 1) rfl
        have HP : Hid (p ≤ S.size) := hp
        obtain ⟨D, hD⟩ : ∃ D, dnE (lft S p) e = D := ⟨_, rfl⟩
        have HD : Hid (dnE (lft S p) e = D) := hD
        rw [hD] at hd
        clear h2 h3 hq hp hD
        refine wp_region_noPanic ?_
        refine wp_region_held_drew (S := fun z : World => z.cell? ⟨r, 1, none⟩ = some (.int .i64 (p : Int))) (by kernel_rfl) (hS1.out _ H3.out) (fun hHeld => ?_)
        refine wpAnyH_take (i := 0) (v := ?_) rfl (by kernel_rfl) (by kernel_rfl) (by kernel_rfl) (fun _ _ _ h => h) (Or.inl ⟨by rfl, ?_⟩) (by assumption) ?_
        rotate_left
        · intro w hSw; go_simp; try with_reducible rfl
        go_simp
        refine wpAnyH_take (i := 2) (v := ?_) rfl (by kernel_rfl) (by kernel_rfl) (by kernel_rfl) (fun _ _ _ h => h) (Or.inl ⟨by rfl, ?_⟩) (by assumption) ?_
        rotate_left
        · intro w hSw; go_simp; try with_reducible rfl
        go_simp
        refine wpAnyH_ready (rs := [1]) (by kernel_rfl) (by simp) (AllReadyH.cons rfl (fun K hK => ?_) AllReadyH.nil)
        go_simp
        go_at_call 21
        refine hd.mono ?_
        rintro e1 wc ⟨rfl, hw⟩
        rw [hw]
        clear hw wc hd
        refine hK.out _ _ (hS1.out _ H3.out) (fun hHeld => ?_)
        clear hK K
        refine wpAnyH_ready (rs := [3]) (by kernel_rfl) (by simp) (AllReadyH.cons rfl (fun K hK => ?_) AllReadyH.nil)
        go_simp
        go_at_call 22
        refine (rdone_any ((firm_rdr _ _ _).star firm_nought) H3.out.swap HS.out HP.out).mono ?_
        rw [HD.out]
        rintro e2 wd ⟨rfl, h4⟩
        have H4 : Hid (Hold _ _ _ _) := h4.swap
        clear h4 H3
        refine hK.out _ _ (hS1.out _ H4.out) (fun hHeld => ?_)
        clear hK K
        refine wpAnyH_take (i := 4) (v := ?_) rfl (by kernel_rfl) (by kernel_rfl) (by kernel_rfl) (fun _ _ _ h => h) (Or.inl ⟨by rfl, ?_⟩) (by assumption) ?_
        rotate_left
        · intro w hSw; go_simp; try with_reducible rfl
        go_simp
        refine wpAnyH_take (i := 5) (v := ?_) rfl (by kernel_rfl) (by kernel_rfl) (by kernel_rfl) (fun _ _ _ h => h) (Or.inl ⟨by rfl, ?_⟩) (by assumption) ?_
        rotate_left
        · intro w hSw; go_simp; try with_reducible rfl
        go_simp
        refine wpAnyH_take (i := 6) (v := ?_) rfl (by kernel_rfl) (by kernel_rfl) (by kernel_rfl) (fun _ _ _ h => h) (Or.inl ⟨by rfl, ?_⟩) (by assumption) ?_
        rotate_left
        · intro w hSw; go_simp; try with_reducible rfl
        go_simp
        refine wpAnyH_take (i := 8) (v := ?_) rfl (by kernel_rfl) (by kernel_rfl) (by kernel_rfl) (fun _ _ _ h => h) (Or.inl ⟨by rfl, ?_⟩) (by assumption) ?_
        rotate_left
        · intro w hSw; go_simp; try with_reducible rfl
        go_simp
        refine wpAnyH_take (i := 9) (v := ?_) rfl (by kernel_rfl) (by kernel_rfl) (by kernel_rfl) (fun _ _ _ h => h) (Or.inl ⟨by rfl, ?_⟩) (by assumption) ?_
        rotate_left
        · intro w hSw; go_simp; try with_reducible rfl
        go_simp
        refine wpAnyH_take (i := 10) (v := ?_) rfl (by kernel_rfl) (by kernel_rfl) (by kernel_rfl) (fun _ _ _ h => h) (Or.inl ⟨by rfl, ?_⟩) (by assumption) ?_
        rotate_left
        · intro w hSw; go_simp; try with_reducible rfl
        go_simp
        refine wpAnyH_take (i := 11) (v := ?_) rfl (by kernel_rfl) (by kernel_rfl) (by kernel_rfl) (fun _ _ _ h => h) (Or.inl ⟨by rfl, ?_⟩) (by assumption) ?_
        rotate_left
        · intro w hSw; go_simp; try with_reducible rfl
        go_simp
        refine wpAnyH_take (i := 12) (v := ?_) rfl (by kernel_rfl) (by kernel_rfl) (by kernel_rfl) (fun _ _ _ h => h) (Or.inl ⟨by rfl, ?_⟩) (by assumption) ?_
        rotate_left
        · intro w hSw; go_simp; try with_reducible rfl
        go_simp
        refine wpAnyH_take (i := 13) (v := ?_) rfl (by kernel_rfl) (by kernel_rfl) (by kernel_rfl) (fun _ _ _ h => h) (Or.inl ⟨by rfl, ?_⟩) (by assumption) ?_
        rotate_left
        · intro w hSw; go_simp; try with_reducible rfl
        go_simp
        refine wpAnyH_take (i := 14) (v := ?_) rfl (by kernel_rfl) (by kernel_rfl) (by kernel_rfl) (fun _ _ _ h => h) (Or.inl ⟨by rfl, ?_⟩) (by assumption) ?_
        rotate_left
        · intro w hSw; go_simp; try with_reducible rfl
        go_simp
        refine wpAnyH_ready (rs := [7]) (by kernel_rfl) (by simp) (AllReadyH.cons rfl (fun K hK => ?_) AllReadyH.nil)
        go_simp
        go_at_call 23
        refine (cleft_any H4.out).mono ?_
        rw [z1]
        rintro e3 wf ⟨rfl, hw⟩
        rw [hw]
        clear hw wf
        refine hK.out _ _ (hS1.out _ H4.out) (fun hHeld => ?_)
        clear hK K
        refine wpAnyH_take (i := 15) (v := ?_) rfl (by kernel_rfl) (by kernel_rfl) (by kernel_rfl) (fun _ _ _ h => h) (Or.inl ⟨by rfl, ?_⟩) (by assumption) ?_
        rotate_left
        · intro w hSw; go_simp; try with_reducible rfl
        go_simp
        refine wpAnyH_take (i := 16) (v := ?_) rfl (by kernel_rfl) (by kernel_rfl) (by kernel_rfl) (fun _ _ _ h => h) (Or.inl ⟨by rfl, ?_⟩) (by assumption) ?_
        rotate_left
        · intro w hSw; go_simp; try with_reducible rfl
        go_simp
        refine wpAnyH_done (by kernel_rfl) ?_ _
        refine NoPanic.normal ?_
        have H5 : Hid (Rb W wd g r S) := ⟨p, e, HP.out, H4.out⟩
        clear hHeld hS1 H4 hrc z0 z1
        go_wp2_with fail
        go_roundw
        case rel => exact ⟨j + 1, by omega, by go_num, H5.out⟩
        case measure => simp [intOf]; omega
      by_cases m3 : m = 2
      · subst m3
        go_wp2_with (first
        | (go_at_call 17; refine (rb_bel HS.out hrr.out b HB.out).mono ?_; rintro e wa ⟨V, rfl, h1⟩; clear hrr; have h1 : Hid (RbB _ _ _ _ _ _ _) := h1)
        | (go_at_call 18; refine (rb_rbel HS.out h1.out HB.out).mono ?_; rintro e wb ⟨rfl, h2⟩; clear h1; have h2 : Hid (Rb _ _ _ _ _) := h2))
        obtain ⟨p, e, hp, h3⟩ := h2.out
        have hd := cdone_any (h3.drew ((firm_rdr _ _ _).star ((firm_rrd _ _ _ _).star firm_nought)))
        have hq := lft_size S p
        have hrc : wb.cell? ⟨r, 1, none⟩ = some (.int .i64 (p : Int)) := h3.swap.blk.cell (i := 1) rfl
        have H3 : Hid (Hold _ _ _ _) := h3.drew ((firm_rdr _ _ _).star ((firm_rrd _ _ _ _).star firm_nought))
        have z0 : IntKind.i64.wrap ((S.size : Int) - (p : Int)) = (S.size : Int) - (p : Int) := IntWalk.i64_in _ ⟨by omega, by omega⟩
        have z1 : ((lft S p).size : Int) = (S.size : Int) - (p : Int) := by omega
        have hS1 : Hid (∀ z, Hold W.heap.size W z (star (rdr g (lft S p) e) (star (rrd r S p e) nought)) → z.cell? ⟨r, 1, none⟩ = some (.int .i64 (p : Int))) := fun z hz => hz.swap.blk.cell (i := 1) rfl
        have HP : Hid (p ≤ S.size) := hp
        obtain ⟨D, hD⟩ : ∃ D, dnE (lft S p) e = D := ⟨_, rfl⟩
        have HD : Hid (dnE (lft S p) e = D) := hD
        rw [hD] at hd
        clear h2 h3 hq hp hD
        refine wp_region_noPanic ?_
        refine wp_region_held_drew (S := fun z : World => z.cell? ⟨r, 1, none⟩ = some (.int .i64 (p : Int))) (by kernel_rfl) (hS1.out _ H3.out) (fun hHeld => ?_)
        refine wpAnyH_take (i := 0) (v := ?_) rfl (by kernel_rfl) (by kernel_rfl) (by kernel_rfl) (fun _ _ _ h => h) (Or.inl ⟨by rfl, ?_⟩) (by assumption) ?_
        rotate_left
        · intro w hSw; go_simp; try with_reducible rfl
        go_simp
        refine wpAnyH_take (i := 2) (v := ?_) rfl (by kernel_rfl) (by kernel_rfl) (by kernel_rfl) (fun _ _ _ h => h) (Or.inl ⟨by rfl, ?_⟩) (by assumption) ?_
        rotate_left
        · intro w hSw; go_simp; try with_reducible rfl
        go_simp
        refine wpAnyH_ready (rs := [1]) (by kernel_rfl) (by simp) (AllReadyH.cons rfl (fun K hK => ?_) AllReadyH.nil)
        go_simp
        go_at_call 21
        refine hd.mono ?_
        rintro e1 wc ⟨rfl, hw⟩
        rw [hw]
        clear hw wc hd
        refine hK.out _ _ (hS1.out _ H3.out) (fun hHeld => ?_)
        clear hK K
        refine wpAnyH_ready (rs := [3]) (by kernel_rfl) (by simp) (AllReadyH.cons rfl (fun K hK => ?_) AllReadyH.nil)
        go_simp
        go_at_call 22
        refine (rdone_any ((firm_rdr _ _ _).star firm_nought) H3.out.swap HS.out HP.out).mono ?_
        rw [HD.out]
        rintro e2 wd ⟨rfl, h4⟩
        have H4 : Hid (Hold _ _ _ _) := h4.swap
        clear h4 H3
        refine hK.out _ _ (hS1.out _ H4.out) (fun hHeld => ?_)
        clear hK K
        refine wpAnyH_take (i := 4) (v := ?_) rfl (by kernel_rfl) (by kernel_rfl) (by kernel_rfl) (fun _ _ _ h => h) (Or.inl ⟨by rfl, ?_⟩) (by assumption) ?_
        rotate_left
        · intro w hSw; go_simp; try with_reducible rfl
        go_simp
        refine wpAnyH_take (i := 5) (v := ?_) rfl (by kernel_rfl) (by kernel_rfl) (by kernel_rfl) (fun _ _ _ h => h) (Or.inl ⟨by rfl, ?_⟩) (by assumption) ?_
        rotate_left
        · intro w hSw; go_simp; try with_reducible rfl
        go_simp
        refine wpAnyH_take (i := 6) (v := ?_) rfl (by kernel_rfl) (by kernel_rfl) (by kernel_rfl) (fun _ _ _ h => h) (Or.inl ⟨by rfl, ?_⟩) (by assumption) ?_
        rotate_left
        · intro w hSw; go_simp; try with_reducible rfl
        go_simp
        refine wpAnyH_take (i := 8) (v := ?_) rfl (by kernel_rfl) (by kernel_rfl) (by kernel_rfl) (fun _ _ _ h => h) (Or.inl ⟨by rfl, ?_⟩) (by assumption) ?_
        rotate_left
        · intro w hSw; go_simp; try with_reducible rfl
        go_simp
        refine wpAnyH_take (i := 9) (v := ?_) rfl (by kernel_rfl) (by kernel_rfl) (by kernel_rfl) (fun _ _ _ h => h) (Or.inl ⟨by rfl, ?_⟩) (by assumption) ?_
        rotate_left
        · intro w hSw; go_simp; try with_reducible rfl
        go_simp
        refine wpAnyH_take (i := 10) (v := ?_) rfl (by kernel_rfl) (by kernel_rfl) (by kernel_rfl) (fun _ _ _ h => h) (Or.inl ⟨by rfl, ?_⟩) (by assumption) ?_
        rotate_left
        · intro w hSw; go_simp; try with_reducible rfl
        go_simp
        refine wpAnyH_take (i := 11) (v := ?_) rfl (by kernel_rfl) (by kernel_rfl) (by kernel_rfl) (fun _ _ _ h => h) (Or.inl ⟨by rfl, ?_⟩) (by assumption) ?_
        rotate_left
        · intro w hSw; go_simp; try with_reducible rfl
        go_simp
        refine wpAnyH_take (i := 12) (v := ?_) rfl (by kernel_rfl) (by kernel_rfl) (by kernel_rfl) (fun _ _ _ h => h) (Or.inl ⟨by rfl, ?_⟩) (by assumption) ?_
        rotate_left
        · intro w hSw; go_simp; try with_reducible rfl
        go_simp
        refine wpAnyH_take (i := 13) (v := ?_) rfl (by kernel_rfl) (by kernel_rfl) (by kernel_rfl) (fun _ _ _ h => h) (Or.inl ⟨by rfl, ?_⟩) (by assumption) ?_
        rotate_left
        · intro w hSw; go_simp; try with_reducible rfl
        go_simp
        refine wpAnyH_take (i := 14) (v := ?_) rfl (by kernel_rfl) (by kernel_rfl) (by kernel_rfl) (fun _ _ _ h => h) (Or.inl ⟨by rfl, ?_⟩) (by assumption) ?_
        rotate_left
        · intro w hSw; go_simp; try with_reducible rfl
        go_simp
        refine wpAnyH_ready (rs := [7]) (by kernel_rfl) (by simp) (AllReadyH.cons rfl (fun K hK => ?_) AllReadyH.nil)
        go_simp
        go_at_call 23
        refine (cleft_any H4.out).mono ?_
        rw [z1]
        rintro e3 wf ⟨rfl, hw⟩
        rw [hw]
        clear hw wf
        refine hK.out _ _ (hS1.out _ H4.out) (fun hHeld => ?_)
        clear hK K
        refine wpAnyH_take (i := 15) (v := ?_) rfl (by kernel_rfl) (by kernel_rfl) (by kernel_rfl) (fun _ _ _ h => h) (Or.inl ⟨by rfl, ?_⟩) (by assumption) ?_
        rotate_left
        · intro w hSw; go_simp; try with_reducible rfl
        go_simp
        refine wpAnyH_take (i := 16) (v := ?_) rfl (by kernel_rfl) (by kernel_rfl) (by kernel_rfl) (fun _ _ _ h => h) (Or.inl ⟨by rfl, ?_⟩) (by assumption) ?_
        rotate_left
        · intro w hSw; go_simp; try with_reducible rfl
        go_simp
        refine wpAnyH_done (by kernel_rfl) ?_ _
        refine NoPanic.normal ?_
        have H5 : Hid (Rb W wd g r S) := ⟨p, e, HP.out, H4.out⟩
        clear hHeld hS1 H4 hrc z0 z1
        go_wp2_with fail
        go_roundw
        case rel => exact ⟨j + 1, by omega, by go_num, H5.out⟩
        case measure => simp [intOf]; omega
      by_cases m4 : m = -2
      · subst m4
        go_wp2_with (first
        | (go_at_call 17; refine (rb_bel HS.out hrr.out b HB.out).mono ?_; rintro e wa ⟨V, rfl, h1⟩; clear hrr; have h1 : Hid (RbB _ _ _ _ _ _ _) := h1)
        | (go_at_call 18; refine (rb_rbel HS.out h1.out HB.out).mono ?_; rintro e wb ⟨rfl, h2⟩; clear h1; have h2 : Hid (Rb _ _ _ _ _) := h2))
        obtain ⟨p, e, hp, h3⟩ := h2.out
        have hd := cdone_any (h3.drew ((firm_rdr _ _ _).star ((firm_rrd _ _ _ _).star firm_nought)))
        have hq := lft_size S p
        have hrc : wb.cell? ⟨r, 1, none⟩ = some (.int .i64 (p : Int)) := h3.swap.blk.cell (i := 1) rfl
        have H3 : Hid (Hold _ _ _ _) := h3.drew ((firm_rdr _ _ _).star ((firm_rrd _ _ _ _).star firm_nought))
        have z0 : IntKind.i64.wrap ((S.size : Int) - (p : Int)) = (S.size : Int) - (p : Int) := IntWalk.i64_in _ ⟨by omega, by omega⟩
        have z1 : ((lft S p).size : Int) = (S.size : Int) - (p : Int) := by omega
        have hS1 : Hid (∀ z, Hold W.heap.size W z (star (rdr g (lft S p) e) (star (rrd r S p e) nought)) → z.cell? ⟨r, 1, none⟩ = some (.int .i64 (p : Int))) := fun z hz => hz.swap.blk.cell (i := 1) rfl
        have HP : Hid (p ≤ S.size) := hp
        obtain ⟨D, hD⟩ : ∃ D, dnE (lft S p) e = D := ⟨_, rfl⟩
        have HD : Hid (dnE (lft S p) e = D) := hD
        rw [hD] at hd
        clear h2 h3 hq hp hD
        refine wp_region_noPanic ?_
        refine wp_region_held_drew (S := fun z : World => z.cell? ⟨r, 1, none⟩ = some (.int .i64 (p : Int))) (by kernel_rfl) (hS1.out _ H3.out) (fun hHeld => ?_)
        refine wpAnyH_take (i := 0) (v := ?_) rfl (by kernel_rfl) (by kernel_rfl) (by kernel_rfl) (fun _ _ _ h => h) (Or.inl ⟨by rfl, ?_⟩) (by assumption) ?_
        rotate_left
        · intro w hSw; go_simp; try with_reducible rfl
        go_simp
        refine wpAnyH_take (i := 2) (v := ?_) rfl (by kernel_rfl) (by kernel_rfl) (by kernel_rfl) (fun _ _ _ h => h) (Or.inl ⟨by rfl, ?_⟩) (by assumption) ?_
        rotate_left
        · intro w hSw; go_simp; try with_reducible rfl
        go_simp
        refine wpAnyH_ready (rs := [1]) (by kernel_rfl) (by simp) (AllReadyH.cons rfl (fun K hK => ?_) AllReadyH.nil)
        go_simp
        go_at_call 21
        refine hd.mono ?_
        rintro e1 wc ⟨rfl, hw⟩
        rw [hw]
        clear hw wc hd
        refine hK.out _ _ (hS1.out _ H3.out) (fun hHeld => ?_)
        clear hK K
        refine wpAnyH_ready (rs := [3]) (by kernel_rfl) (by simp) (AllReadyH.cons rfl (fun K hK => ?_) AllReadyH.nil)
        go_simp
        go_at_call 22
        refine (rdone_any ((firm_rdr _ _ _).star firm_nought) H3.out.swap HS.out HP.out).mono ?_
        rw [HD.out]
        rintro e2 wd ⟨rfl, h4⟩
        have H4 : Hid (Hold _ _ _ _) := h4.swap
        clear h4 H3
        refine hK.out _ _ (hS1.out _ H4.out) (fun hHeld => ?_)
        clear hK K
        refine wpAnyH_take (i := 4) (v := ?_) rfl (by kernel_rfl) (by kernel_rfl) (by kernel_rfl) (fun _ _ _ h => h) (Or.inl ⟨by rfl, ?_⟩) (by assumption) ?_
        rotate_left
        · intro w hSw; go_simp; try with_reducible rfl
        go_simp
        refine wpAnyH_take (i := 5) (v := ?_) rfl (by kernel_rfl) (by kernel_rfl) (by kernel_rfl) (fun _ _ _ h => h) (Or.inl ⟨by rfl, ?_⟩) (by assumption) ?_
        rotate_left
        · intro w hSw; go_simp; try with_reducible rfl
        go_simp
        refine wpAnyH_take (i := 6) (v := ?_) rfl (by kernel_rfl) (by kernel_rfl) (by kernel_rfl) (fun _ _ _ h => h) (Or.inl ⟨by rfl, ?_⟩) (by assumption) ?_
        rotate_left
        · intro w hSw; go_simp; try with_reducible rfl
        go_simp
        refine wpAnyH_take (i := 8) (v := ?_) rfl (by kernel_rfl) (by kernel_rfl) (by kernel_rfl) (fun _ _ _ h => h) (Or.inl ⟨by rfl, ?_⟩) (by assumption) ?_
        rotate_left
        · intro w hSw; go_simp; try with_reducible rfl
        go_simp
        refine wpAnyH_take (i := 9) (v := ?_) rfl (by kernel_rfl) (by kernel_rfl) (by kernel_rfl) (fun _ _ _ h => h) (Or.inl ⟨by rfl, ?_⟩) (by assumption) ?_
        rotate_left
        · intro w hSw; go_simp; try with_reducible rfl
        go_simp
        refine wpAnyH_take (i := 10) (v := ?_) rfl (by kernel_rfl) (by kernel_rfl) (by kernel_rfl) (fun _ _ _ h => h) (Or.inl ⟨by rfl, ?_⟩) (by assumption) ?_
        rotate_left
        · intro w hSw; go_simp; try with_reducible rfl
        go_simp
        refine wpAnyH_take (i := 11) (v := ?_) rfl (by kernel_rfl) (by kernel_rfl) (by kernel_rfl) (fun _ _ _ h => h) (Or.inl ⟨by rfl, ?_⟩) (by assumption) ?_
        rotate_left
        · intro w hSw; go_simp; try with_reducible rfl
        go_simp
        refine wpAnyH_take (i := 12) (v := ?_) rfl (by kernel_rfl) (by kernel_rfl) (by kernel_rfl) (fun _ _ _ h => h) (Or.inl ⟨by rfl, ?_⟩) (by assumption) ?_
        rotate_left
        · intro w hSw; go_simp; try with_reducible rfl
        go_simp
        refine wpAnyH_take (i := 13) (v := ?_) rfl (by kernel_rfl) (by kernel_rfl) (by kernel_rfl) (fun _ _ _ h => h) (Or.inl ⟨by rfl, ?_⟩) (by assumption) ?_
        rotate_left
        · intro w hSw; go_simp; try with_reducible rfl
        go_simp
        refine wpAnyH_take (i := 14) (v := ?_) rfl (by kernel_rfl) (by kernel_rfl) (by kernel_rfl) (fun _ _ _ h => h) (Or.inl ⟨by rfl, ?_⟩) (by assumption) ?_
        rotate_left
        · intro w hSw; go_simp; try with_reducible rfl
        go_simp
        refine wpAnyH_ready (rs := [7]) (by kernel_rfl) (by simp) (AllReadyH.cons rfl (fun K hK => ?_) AllReadyH.nil)
        go_simp
        go_at_call 23
        refine (cleft_any H4.out).mono ?_
        rw [z1]
        rintro e3 wf ⟨rfl, hw⟩
        rw [hw]
        clear hw wf
        refine hK.out _ _ (hS1.out _ H4.out) (fun hHeld => ?_)
        clear hK K
        refine wpAnyH_take (i := 15) (v := ?_) rfl (by kernel_rfl) (by kernel_rfl) (by kernel_rfl) (fun _ _ _ h => h) (Or.inl ⟨by rfl, ?_⟩) (by assumption) ?_
        rotate_left
        · intro w hSw; go_simp; try with_reducible rfl
        go_simp
        refine wpAnyH_take (i := 16) (v := ?_) rfl (by kernel_rfl) (by kernel_rfl) (by kernel_rfl) (fun _ _ _ h => h) (Or.inl ⟨by rfl, ?_⟩) (by assumption) ?_
        rotate_left
        · intro w hSw; go_simp; try with_reducible rfl
        go_simp
        refine wpAnyH_done (by kernel_rfl) ?_ _
        refine NoPanic.normal ?_
        have H5 : Hid (Rb W wd g r S) := ⟨p, e, HP.out, H4.out⟩
        clear hHeld hS1 H4 hrc z0 z1
        go_wp2_with fail
        go_roundw
        case rel => exact ⟨j + 1, by omega, by go_num, H5.out⟩
        case measure => simp [intOf]; omega
      have n1 : (m == 1) = false := by simpa using m1
      have n2 : (m == -1) = false := by simpa using m2
      have n3 : (m == 2) = false := by simpa using m3
      have n4 : (m == -2) = false := by simpa using m4
      go_wp2_with (first
        | (go_at_call 19; refine (rb_txt HS.out hrr.out).mono ?_; rintro e wa ⟨V, rfl, h1⟩; clear hrr; have h1 : Hid (RbT _ _ _ _ _ _) := h1)
        | (go_at_call 20; refine (rb_rtxt HS.out h1.out).mono ?_; rintro e wb ⟨rfl, h2⟩; clear h1; have h2 : Hid (Rb _ _ _ _ _) := h2))
      obtain ⟨p, e, hp, h3⟩ := h2.out
      have hd := cdone_any (h3.drew ((firm_rdr _ _ _).star ((firm_rrd _ _ _ _).star firm_nought)))
      have hq := lft_size S p
      have hrc : wb.cell? ⟨r, 1, none⟩ = some (.int .i64 (p : Int)) := h3.swap.blk.cell (i := 1) rfl
      have H3 : Hid (Hold _ _ _ _) := h3.drew ((firm_rdr _ _ _).star ((firm_rrd _ _ _ _).star firm_nought))
      have z0 : IntKind.i64.wrap ((S.size : Int) - (p : Int)) = (S.size : Int) - (p : Int) := IntWalk.i64_in _ ⟨by omega, by omega⟩
      have z1 : ((lft S p).size : Int) = (S.size : Int) - (p : Int) := by omega
      have hS1 : Hid (∀ z, Hold W.heap.size W z (star (rdr g (lft S p) e) (star (rrd r S p e) nought)) → z.cell? ⟨r, 1, none⟩ = some (.int .i64 (p : Int))) := fun z hz => hz.swap.blk.cell (i := 1) rfl
      have HP : Hid (p ≤ S.size) := hp
      obtain ⟨D, hD⟩ : ∃ D, dnE (lft S p) e = D := ⟨_, rfl⟩
      have HD : Hid (dnE (lft S p) e = D) := hD
      rw [hD] at hd
      clear h2 h3 hq hp hD
      refine wp_region_noPanic ?_
      refine wp_region_held_drew (S := fun z : World => z.cell? ⟨r, 1, none⟩ = some (.int .i64 (p : Int))) (by kernel_rfl) (hS1.out _ H3.out) (fun hHeld => ?_)
      refine wpAnyH_take (i := 0) (v := ?_) rfl (by kernel_rfl) (by kernel_rfl) (by kernel_rfl) (fun _ _ _ h => h) (Or.inl ⟨by rfl, ?_⟩) (by assumption) ?_
      rotate_left
      · intro w hSw; go_simp; try with_reducible rfl
      go_simp
      refine wpAnyH_take (i := 2) (v := ?_) rfl (by kernel_rfl) (by kernel_rfl) (by kernel_rfl) (fun _ _ _ h => h) (Or.inl ⟨by rfl, ?_⟩) (by assumption) ?_
      rotate_left
      · intro w hSw; go_simp; try with_reducible rfl
      go_simp
      refine wpAnyH_ready (rs := [1]) (by kernel_rfl) (by simp) (AllReadyH.cons rfl (fun K hK => ?_) AllReadyH.nil)
      go_simp
      go_at_call 21
      refine hd.mono ?_
      rintro e1 wc ⟨rfl, hw⟩
      rw [hw]
      clear hw wc hd
      refine hK.out _ _ (hS1.out _ H3.out) (fun hHeld => ?_)
      clear hK K
      refine wpAnyH_ready (rs := [3]) (by kernel_rfl) (by simp) (AllReadyH.cons rfl (fun K hK => ?_) AllReadyH.nil)
      go_simp
      go_at_call 22
      refine (rdone_any ((firm_rdr _ _ _).star firm_nought) H3.out.swap HS.out HP.out).mono ?_
      rw [HD.out]
      rintro e2 wd ⟨rfl, h4⟩
      have H4 : Hid (Hold _ _ _ _) := h4.swap
      clear h4 H3
      refine hK.out _ _ (hS1.out _ H4.out) (fun hHeld => ?_)
      clear hK K
      refine wpAnyH_take (i := 4) (v := ?_) rfl (by kernel_rfl) (by kernel_rfl) (by kernel_rfl) (fun _ _ _ h => h) (Or.inl ⟨by rfl, ?_⟩) (by assumption) ?_
      rotate_left
      · intro w hSw; go_simp; try with_reducible rfl
      go_simp
      refine wpAnyH_take (i := 5) (v := ?_) rfl (by kernel_rfl) (by kernel_rfl) (by kernel_rfl) (fun _ _ _ h => h) (Or.inl ⟨by rfl, ?_⟩) (by assumption) ?_
      rotate_left
      · intro w hSw; go_simp; try with_reducible rfl
      go_simp
      refine wpAnyH_take (i := 6) (v := ?_) rfl (by kernel_rfl) (by kernel_rfl) (by kernel_rfl) (fun _ _ _ h => h) (Or.inl ⟨by rfl, ?_⟩) (by assumption) ?_
      rotate_left
      · intro w hSw; go_simp; try with_reducible rfl
      go_simp
      refine wpAnyH_take (i := 8) (v := ?_) rfl (by kernel_rfl) (by kernel_rfl) (by kernel_rfl) (fun _ _ _ h => h) (Or.inl ⟨by rfl, ?_⟩) (by assumption) ?_
      rotate_left
      · intro w hSw; go_simp; try with_reducible rfl
      go_simp
      refine wpAnyH_take (i := 9) (v := ?_) rfl (by kernel_rfl) (by kernel_rfl) (by kernel_rfl) (fun _ _ _ h => h) (Or.inl ⟨by rfl, ?_⟩) (by assumption) ?_
      rotate_left
      · intro w hSw; go_simp; try with_reducible rfl
      go_simp
      refine wpAnyH_take (i := 10) (v := ?_) rfl (by kernel_rfl) (by kernel_rfl) (by kernel_rfl) (fun _ _ _ h => h) (Or.inl ⟨by rfl, ?_⟩) (by assumption) ?_
      rotate_left
      · intro w hSw; go_simp; try with_reducible rfl
      go_simp
      refine wpAnyH_take (i := 11) (v := ?_) rfl (by kernel_rfl) (by kernel_rfl) (by kernel_rfl) (fun _ _ _ h => h) (Or.inl ⟨by rfl, ?_⟩) (by assumption) ?_
      rotate_left
      · intro w hSw; go_simp; try with_reducible rfl
      go_simp
      refine wpAnyH_take (i := 12) (v := ?_) rfl (by kernel_rfl) (by kernel_rfl) (by kernel_rfl) (fun _ _ _ h => h) (Or.inl ⟨by rfl, ?_⟩) (by assumption) ?_
      rotate_left
      · intro w hSw; go_simp; try with_reducible rfl
      go_simp
      refine wpAnyH_take (i := 13) (v := ?_) rfl (by kernel_rfl) (by kernel_rfl) (by kernel_rfl) (fun _ _ _ h => h) (Or.inl ⟨by rfl, ?_⟩) (by assumption) ?_
      rotate_left
      · intro w hSw; go_simp; try with_reducible rfl
      go_simp
      refine wpAnyH_take (i := 14) (v := ?_) rfl (by kernel_rfl) (by kernel_rfl) (by kernel_rfl) (fun _ _ _ h => h) (Or.inl ⟨by rfl, ?_⟩) (by assumption) ?_
      rotate_left
      · intro w hSw; go_simp; try with_reducible rfl
      go_simp
      refine wpAnyH_ready (rs := [7]) (by kernel_rfl) (by simp) (AllReadyH.cons rfl (fun K hK => ?_) AllReadyH.nil)
      go_simp
      go_at_call 23
      refine (cleft_any H4.out).mono ?_
      rw [z1]
      rintro e3 wf ⟨rfl, hw⟩
      rw [hw]
      clear hw wf
      refine hK.out _ _ (hS1.out _ H4.out) (fun hHeld => ?_)
      clear hK K
      refine wpAnyH_take (i := 15) (v := ?_) rfl (by kernel_rfl) (by kernel_rfl) (by kernel_rfl) (fun _ _ _ h => h) (Or.inl ⟨by rfl, ?_⟩) (by assumption) ?_
      rotate_left
      · intro w hSw; go_simp; try with_reducible rfl
      go_simp
      refine wpAnyH_take (i := 16) (v := ?_) rfl (by kernel_rfl) (by kernel_rfl) (by kernel_rfl) (fun _ _ _ h => h) (Or.inl ⟨by rfl, ?_⟩) (by assumption) ?_
      rotate_left
      · intro w hSw; go_simp; try with_reducible rfl
      go_simp
      refine wpAnyH_done (by kernel_rfl) ?_ _
      refine NoPanic.normal ?_
      have H5 : Hid (Rb W wd g r S) := ⟨p, e, HP.out, H4.out⟩
      clear hHeld hS1 H4 hrc z0 z1
      go_wp2_with fail
      go_roundw
      case rel => exact ⟨j + 1, by omega, by go_num, H5.out⟩
      case measure => simp [intOf]; omega
    · have hj' : ¬ (j : Int) < (C : Int) := by omega
      go_wp2_with fail
      go_ret
      exact ⟨rfl, hrr.out.low⟩
end Go.Proofs.Ytnlgpodeblmlhaa
