/- What the Go function IntentBack answers: true, for all writes, texts behind them, and digests. -/
import Derived.Test.YtegebaomhbogmaaDoorInWrites
namespace Go.Proofs.YtegebaomhbogmaaDoor
open Go.RowKit Go.PlainAid
set_option linter.unusedVariables false
set_option maxRecDepth 20000

/-- Texts behind the others, however many; nil too. -/
theorem push_more {B : Nat} {w0 w : World} {R : Asn} (hR : Firm R) {a : Option Addr} {k ca : Nat} {f : Nat → ByteArray} (h : Hold B w0 w (star (rowK 9 1 (.slice a k ca) k (txs k f)) R)) (hk : k ≤ 1000) (s : Option Addr) (n c : Nat) (hn : n ≤ 1000) (hno : s = none → c = 0 ∧ n = 0) {g : Nat → ByteArray} (hs : Cs w s n g) (hfg : ∀ i, i < n → f (k + i) = g i) (ty : TypeId) :
    ∃ a' c' w', (Builtin.append_ #[27, 27] ty #[.slice a k ca, .slice s n c]).run Tryd.prog w = .ok (.slice a' (k + n) c') w' ∧ Hold B w0 w' (star (rowK 9 1 (.slice a' (k + n) c') (k + n) (txs (k + n) f)) R) := by
  by_cases h0 : 0 < n
  · exact push_txts hR h hk s n c hn hs hfg h0 ty
  · obtain rfl : n = 0 := by omega
    cases s with
    | none =>
      obtain ⟨rfl, -⟩ := hno rfl
      obtain ⟨i0, hi, hz0, hz1, hz2⟩ := info_parts Tryd.info9w
      exact ⟨a, ca, w, run_append_owned_none w 0 27 ty 9 i0 1 Tryd.underlying27 hi _ k _ h.rowK, h⟩
    | some ad =>
      obtain ⟨v', w', hrun, h3⟩ := rowK_app hR 27 9 ty (.string noB) 1 16 Tryd.underlying27 Tryd.info9w rfl (by decide) (by decide) h ad 0 c [] rfl (fun j u hu => by simp at hu) (fun u hu => by cases hu) (by omega)
      obtain ⟨a', c', rfl⟩ := own_form h3.rowK
      rw [List.append_nil] at h3
      exact ⟨a', c', w', hrun, h3⟩
/-- The log's cells, others behind. -/
def fF (n : Nat) (F T : Nat → ByteArray) (i : Nat) : ByteArray := if i < n then F i else T (i - n)
theorem fF_lo {n : Nat} {F T : Nat → ByteArray} {i : Nat} (h : i < n) : fF n F T i = F i := if_pos h
theorem fF_hi {n : Nat} {F T : Nat → ByteArray} (i : Nat) : fF n F T (n + i) = T i := by unfold fF; rw [if_neg (by omega), Nat.add_sub_cancel_left]
set_option maxHeartbeats 8000000 in
theorem intentBack_law (s : Option Addr) (len cap : Nat) (s2 : Option Addr) (len2 cap2 : Nat) (dg : ByteArray) (W : World) (hs : LCame W s len cap) (hs2 : TxArg 140737488351232 W s2 len2 cap2) (ht : Tabs W) : Calls Tryd.prog 5 #[.slice s len cap, .slice s2 len2 cap2, .string dg] W fun e w' => e = .returned (.bool true) ∧ Below W.heap.size W w' := by
  obtain ⟨hc1, hc2, hno, T, hT, hTz⟩ := hs2
  obtain ⟨x, hx⟩ := writes15_any hs
  have hw := hx W (Below.refl _ _)
  have HT : Hid (Tabs W) := ht
  have h2 : Hid (2 < W.heap.size) := ht.lt
  have hN : min len 120 ≤ 120 := Nat.min_le_right _ _
  have HP : Hid (∀ z a c, Below W.heap.size W z → Wx z a (min len 120) (lwA x) (lwC x) → Calls Tryd.prog 8 #[.slice a (min len 120) c] z fun e w' => ∃ a' c', e = .returned (.tuple #[.slice a' (lgN (min len 120) (lwA x) (lwC x)) c', .string (lgD (min len 120) (lwA x) (lwC x)), .int .i64 (lgE (min len 120) (lwA x) (lwC x))]) ∧ Cs w' a' (lgN (min len 120) (lwA x) (lwC x)) (celF (min len 120) (lwA x) (lwC x)) ∧ lgN (min len 120) (lwA x) (lwC x) ≤ c' ∧ Below z.heap.size z w') := fun z a c hz h => iput_any h (by omega) (HT.out.below hz h2.out)
  have HW : Hid (∀ z, Below W.heap.size W z → Calls Tryd.prog 10 #[] z fun e w' => e = .returned (.bool true) ∧ Below z.heap.size z w') := fun z hz => wakes15_any (HT.out.below hz h2.out)
  have H0 : Hid (Below W.heap.size W W) := Below.refl _ _
  clear hs ht hx
  by_cases hE : lgE (min len 120) (lwA x) (lwC x) = 0
  · have hNE : lgN (min len 120) (lwA x) (lwC x) = min len 120 + 1 := lgN_ok hE
    have h95 := (lgE_le hE).1
    rw [hE, hNE] at HP
    obtain ⟨F, hF⟩ : ∃ F, celF (min len 120) (lwA x) (lwC x) = F := ⟨_, rfl⟩
    obtain ⟨D, hD⟩ : ∃ D, lgD (min len 120) (lwA x) (lwC x) = D := ⟨_, rfl⟩
    obtain ⟨N, hNN⟩ : ∃ N, min len 120 = N := ⟨_, rfl⟩
    rw [hNN] at hE hF hD HP hw h95 hN
    rw [hF, hD] at HP
    have hFe : ∀ i, i < N + 1 → F i = celF N (lwA x) (lwC x) i := fun i _ => by rw [← hF]
    obtain ⟨Q, hQ1, hQ2, hQ3, hQ4⟩ : ∃ Q : Nat, (if (20 : Int) < (len2 : Int) then (20 : Int) else (len2 : Int)) = (Q : Int) ∧ min (len2 : Int) 20 = (Q : Int) ∧ Q ≤ 20 ∧ Q ≤ len2 := ⟨min len2 20, by split <;> omega, by omega, by omega, by omega⟩
    have hQ5 : Q ≤ cap2 := by omega
    have hGe : ∀ i, i < N + 1 → fF (N + 1) F T i = celF N (lwA x) (lwC x) i := fun i hi => by rw [fF_lo hi]; exact hFe i hi
    have hfit1 : LogFit (N + 1 + Q) (fF (N + 1) F T) := bk_fit hE hGe (by omega) (fun i hi hge => by
      obtain ⟨j, rfl⟩ : ∃ j, i = N + 1 + j := ⟨i - (N + 1), by omega⟩
      rw [fF_hi]; exact Nat.le_trans (hTz j (by omega)) (by decide))
    have hy := bk_yes (m := N + 1 + Q) hE hGe (by omega)
    have hval := (bk_first hE hGe).2.2.2.2
    rw [hD] at hy
    have G1 : Hid (∀ z a c, Below W.heap.size W z → Cs z a (N + 1 + Q) (fF (N + 1) F T) → Calls Tryd.prog 15 #[.slice a (N + 1 + Q) c, .string D] z fun e w' => ∃ a' c', e = .returned (.tuple #[.slice a' N c', .int .i64 0]) ∧ Wx w' a' N (lwA x) (lwC x) ∧ Below z.heap.size z w') := fun z a c hz h => by
      have := iget_any (cap := c) h hfit1 D (HT.out.below hz h2.out)
      rw [hy.1, hy.2] at this
      exact this.mono fun e w' ⟨a', c', he, hx, hb⟩ => ⟨a', c', he, hx.congr hval, hb⟩
    have hfit2 : LogFit N F := bk_fit hE hFe (by omega) (fun i hi hge => by omega)
    have hfw := bk_fewer hE hFe D
    have G2 : Hid (∀ z a c, Below W.heap.size W z → Cs z a (N + 1) F → Calls Tryd.prog 15 #[.slice a N c, .string D] z fun e w' => ∃ a' n' c', e = .returned (.tuple #[.slice a' n' c', .int .i64 (if N = 0 then 4 else 3)]) ∧ Below z.heap.size z w') := fun z a c hz h => by
      have := iget_any (cap := c) (h.cut (Nat.le_succ N)) hfit2 D (HT.out.below hz h2.out)
      rw [hfw] at this
      exact this.mono fun e w' ⟨a', c', he, hx, hb⟩ => ⟨a', _, c', he, hb⟩
    have hfit3 : LogFit (N + 1) F := bk_fit hE hFe (by omega) (fun i hi hge => by omega)
    obtain ⟨EH, hEH⟩ : ∃ EH, gtE (N + 1) F dg = EH := ⟨_, rfl⟩
    have hq : (dg = D ∧ EH = 0) ∨ (dg ≠ D ∧ EH = 22) := by
      by_cases h : dg = D
      · refine .inl ⟨h, ?_⟩
        have := (bk_yes (m := N + 1) hE hFe (Nat.le_refl _)).1
        rw [hD, ← h, hEH] at this; exact this
      · refine .inr ⟨h, ?_⟩
        rw [← hEH]; exact bk_other hE hFe (Nat.le_refl _) (by rw [hD]; exact h)
    have G3 : Hid (∀ z a c, Below W.heap.size W z → Cs z a (N + 1) F → Calls Tryd.prog 15 #[.slice a (N + 1) c, .string dg] z fun e w' => ∃ a' n' c', e = .returned (.tuple #[.slice a' n' c', .int .i64 EH]) ∧ Below z.heap.size z w') := fun z a c hz h => by
      have := iget_any (cap := c) h hfit3 dg (HT.out.below hz h2.out)
      rw [hEH] at this
      exact this.mono fun e w' ⟨a', c', he, hx, hb⟩ => ⟨a', _, c', he, hb⟩
    have HQ : Hid ((dg = D ∧ EH = 0) ∨ (dg ≠ D ∧ EH = 22)) := hq
    have R1 : Hid (∀ z a c, Below W.heap.size W z → Cs z a (N + 1) F → ∃ a' c' w', (Builtin.append_ #[27, 27] 27 #[.slice none 0 0, .slice a (N + 1) c]).run Tryd.prog z = .ok (.slice a' (N + 1) c') w' ∧ Hold z.heap.size z w' (star (rowK 9 1 (.slice a' (N + 1) c') (N + 1) (txs (N + 1) (fF (N + 1) F T))) nought)) := fun z a c hz h => by
      have h0 : Hold z.heap.size z z (star (rowK 9 1 (.slice none 0 0) 0 (txs 0 (fF (N + 1) F T))) nought) := (hold_nought z.heap.size z z (Nat.le_refl _) (Below.refl _ _)).mono fun F h => star_nilR h
      have := push_txts (k := 0) firm_nought h0 (by omega) a (N + 1) c (by omega) h (fun i hi => by rw [Nat.zero_add]; exact fF_lo hi) (by omega) 27
      rw [Nat.zero_add] at this
      exact this
    have R2 : Hid (∀ z0 z a c, Below W.heap.size W z0 → Hold z0.heap.size z0 z (star (rowK 9 1 (.slice a (N + 1) c) (N + 1) (txs (N + 1) (fF (N + 1) F T))) nought) → ∃ a' c' w', (Builtin.append_ #[27, 27] 27 #[.slice a (N + 1) c, .slice s2 Q cap2]).run Tryd.prog z = .ok (.slice a' (N + 1 + Q) c') w' ∧ Cs w' a' (N + 1 + Q) (fF (N + 1) F T) ∧ Below z0.heap.size z0 w') := fun z0 z a c hz h => by
      have hb : Below W.heap.size W z := hz.trans (h.low.mono hz.size)
      obtain ⟨a', c', w', h1, h2⟩ := push_more firm_nought h (by omega) s2 Q cap2 (by omega) (fun e => ⟨hno e, by have := hno e; omega⟩) ((hT.below hb).cut hQ4) (fun i hi => fF_hi i) 27
      exact ⟨a', c', w', h1, own_cs h2.rowK, h2.low⟩
    have HN1 : Hid (N ≤ 95) := h95
    have hn1 : (N : Int) ≤ 95 := by omega
    generalize fF (N + 1) F T = FF at *
    have t1 := text_self
    have hn2 : ((N + 1 : Nat) : Int) = (N : Int) + 1 := by omega
    clear hE hNE hF hD hNN hfit1 hfit2 hfit3 hy hval hfw hq hEH hFe hGe hTz hT hN h95 hno
    go_enter Tryd.func5, Tryd.ntmps5
    go_wp2_with (first
      | (go_at_call 7; refine hw.mono ?_; rintro e w1 ⟨a, b, ca, cb, rfl, ha, -, hl⟩; have L1 : Hid (Below W.heap.size W w1) := H0.out.trans (hl.mono H0.out.size); have A1 : Hid (Wx w1 a N (lwA x) (lwC x)) := ha; clear hw ha hl H0)
      | (go_at_call 8; refine (HP.out _ _ _ L1.out A1.out).mono ?_; rintro e w2 ⟨a2, c2, rfl, hc2, hcap2, hb2⟩; have L2 : Hid (Below W.heap.size W w2) := L1.out.trans (hb2.mono L1.out.size); have A2 : Hid (Wx w2 a N (lwA x) (lwC x)) := A1.out.below hb2; have C2 : Hid (Cs w2 a2 (N + 1) F) := hc2; have HC2 : Hid (N + 1 ≤ c2) := hcap2; clear hb2 hc2 hcap2 L1 A1 HP)
      | (go_at_call 10; refine (HW.out _ L2.out).mono ?_; rintro e w3 ⟨rfl, hb3⟩; have L3 : Hid (Below W.heap.size W w3) := L2.out.trans (hb3.mono L2.out.size); have A3 : Hid (Wx w3 a N (lwA x) (lwC x)) := A2.out.below hb3; have C3 : Hid (Cs w3 a2 (N + 1) F) := C2.out.below hb3; clear hb3 L2 A2 C2 HW))
    obtain ⟨a4, c4, w4, hr1, h4⟩ := R1.out w3.drew a2 c2 L3.out.drew (C3.out.below (Below.refl _ _).drew)
    obtain ⟨a5, c5, w5, hr2, hc5, hb5⟩ := R2.out w3.drew w4 a4 c4 L3.out.drew h4
    have L5 : Hid (Below W.heap.size W w5) := L3.out.drew.trans (hb5.mono L3.out.drew.size)
    have A5 : Hid (Wx w5 a N (lwA x) (lwC x)) := (A3.out.below (Below.refl _ _).drew).below hb5
    have C5 : Hid (Cs w5 a2 (N + 1) F) := (C3.out.below (Below.refl _ _).drew).below hb5
    have K5 : Hid (Cs w5 a5 (N + 1 + Q) FF) := hc5
    clear h4 hc5 hb5 R1 R2 L3 A3 C3
    refine wp_region_noPanic ?_
    refine wp_region_held_drew (S := fun _ => True) (by kernel_rfl) trivial (fun hHeld => ?_)
    generalize w3.drew = wd at *
    refine wpAnyH_take (i := 0) (v := ?_) rfl (by kernel_rfl) (by kernel_rfl) (by kernel_rfl) (fun _ _ _ h => h) (Or.inl ⟨by rfl, ?_⟩) (by assumption) ?_
    rotate_left
    · intro w hSw; go_simp; try with_reducible rfl
    go_simp
    refine wpAnyH_take (i := 2) (v := ?_) rfl (by kernel_rfl) (by kernel_rfl) (by kernel_rfl) (fun _ _ _ h => h) (Or.inl ⟨by rfl, ?_⟩) (by assumption) ?_
    rotate_left
    · intro w hSw; go_simp; try with_reducible rfl
    go_simp
    refine wpAnyH_take (i := 3) (v := ?_) rfl (by kernel_rfl) (by kernel_rfl) (by kernel_rfl) (fun _ _ _ h => h) (Or.inl ⟨by rfl, ?_⟩) (by assumption) ?_
    rotate_left
    · intro w hSw; go_simp; try with_reducible rfl
    go_simp
    refine wpAnyH_take (i := 4) (v := ?_) rfl (by kernel_rfl) (by kernel_rfl) (by kernel_rfl) (fun _ _ _ h => h) (Or.inl ⟨by rfl, ?_⟩) (by assumption) ?_
    rotate_left
    · intro w hSw; go_simp; try with_reducible rfl
    go_simp
    refine wpAnyH_take (i := 5) (v := ?_) rfl (by kernel_rfl) (by kernel_rfl) (by kernel_rfl) (fun _ _ _ h => h) (Or.inl ⟨by rfl, ?_⟩) (by assumption) ?_
    rotate_left
    · intro w hSw; go_simp; try with_reducible rfl
    go_simp
    refine wpAnyH_take (i := 6) (v := ?_) rfl (by kernel_rfl) (by kernel_rfl) (by kernel_rfl) (fun _ _ _ h => h) (Or.inl ⟨by rfl, ?_⟩) (by assumption) ?_
    rotate_left
    · intro w hSw; go_simp; try with_reducible rfl
    go_simp
    refine wpAnyH_take (i := 8) (v := ?_) rfl (by kernel_rfl) (by kernel_rfl) (by kernel_rfl) (fun _ _ _ h => h) (Or.inl ⟨by rfl, ?_⟩) (by assumption) ?_
    rotate_left
    · intro w hSw; go_simp; try with_reducible rfl
    go_simp
    refine wpAnyH_ready (rs := [1]) (by kernel_rfl) (by simp) (AllReadyH.cons rfl (fun K hK => ?_) AllReadyH.nil)
    refine step_append_ty rfl _ _ 27 27 rfl _ _ rfl rfl _ _ hr1 ?_
    refine hK.out _ _ trivial (fun hHeld => ?_)
    clear hK K
    refine wpAnyH_ready (rs := [7]) (by kernel_rfl) (by simp) (AllReadyH.cons rfl (fun K hK => ?_) AllReadyH.nil)
    refine step_append_ty rfl _ _ 27 27 rfl _ _ rfl rfl _ _ hr2 ?_
    refine hK.out _ _ trivial (fun hHeld => ?_)
    clear hK K hr1 hr2
    refine wpAnyH_ready (rs := [9]) (by kernel_rfl) (by simp) (AllReadyH.cons rfl (fun K hK => ?_) AllReadyH.nil)
    go_simp
    go_at_call 15
    refine (G1.out _ _ _ L5.out K5.out).mono ?_
    rintro e w6 ⟨a6, c6, rfl, hx6, hb6⟩
    have L6 : Hid (Below W.heap.size W w6) := L5.out.trans (hb6.mono L5.out.size)
    have A6 : Hid (Wx w6 a N (lwA x) (lwC x)) := A5.out.below hb6
    have B6 : Hid (Wx w6 a6 N (lwA x) (lwC x)) := hx6
    have C6 : Hid (Cs w6 a2 (N + 1) F) := C5.out.below hb6
    clear hb6 hx6 L5 A5 C5 K5 G1
    refine hK.out _ _ trivial (fun hHeld => ?_)
    clear hK K
    refine wpAnyH_take (i := 10) (v := ?_) rfl (by kernel_rfl) (by kernel_rfl) (by kernel_rfl) (fun _ _ _ h => h) (Or.inl ⟨by rfl, ?_⟩) (by assumption) ?_
    rotate_left
    · intro w hSw; go_simp; try with_reducible rfl
    go_simp
    refine wpAnyH_take (i := 11) (v := ?_) rfl (by kernel_rfl) (by kernel_rfl) (by kernel_rfl) (fun _ _ _ h => h) (Or.inl ⟨by rfl, ?_⟩) (by assumption) ?_
    rotate_left
    · intro w hSw; go_simp; try with_reducible rfl
    go_simp
    refine wpAnyH_take (i := 12) (v := ?_) rfl (by kernel_rfl) (by kernel_rfl) (by kernel_rfl) (fun _ _ _ h => h) (Or.inl ⟨by rfl, ?_⟩) (by assumption) ?_
    rotate_left
    · intro w hSw; go_simp; try with_reducible rfl
    go_simp
    refine wpAnyH_take (i := 13) (v := ?_) rfl (by kernel_rfl) (by kernel_rfl) (by kernel_rfl) (fun _ _ _ h => h) (Or.inl ⟨by rfl, ?_⟩) (by assumption) ?_
    rotate_left
    · intro w hSw; go_simp; try with_reducible rfl
    go_simp
    refine wpAnyH_take (i := 14) (v := ?_) rfl (by kernel_rfl) (by kernel_rfl) (by kernel_rfl) (fun _ _ _ h => h) (Or.inl ⟨by rfl, ?_⟩) (by assumption) ?_
    rotate_left
    · intro w hSw; go_simp; try with_reducible rfl
    go_simp
    refine wpAnyH_done (by kernel_rfl) ?_ _
    refine NoPanic.normal ?_
    clear hHeld
    go_wp2
    go_loopw [70] (fun i wr => ∃ k : Nat, k ≤ N ∧ i = .int .i64 (k : Int) ∧ Hid (Below w6.heap.size w6 wr)) (fun i _ => N - (intOf i).toNat)
    case atStart => exact ⟨0, Nat.zero_le _, rfl, Below.refl _ _⟩
    case round =>
      obtain ⟨k, hk, rfl, hlo⟩ := hrel
      by_cases hlt : k < N
      · have hk' : (k : Int) < (N : Int) := by omega
        obtain ⟨b1, o1, e1, r1⟩ := B6.out.at hlo.out k hlt
        obtain ⟨b2, o2, e2, r2⟩ := A6.out.at hlo.out k hlt
        subst e1
        subst e2
        have m1 : wr.cell? ⟨b1, o1 + k * 2, none⟩ = some (.int .i64 (lwA x k)) := by have := r1 0 _ rfl; simpa using this
        have m2 : wr.cell? ⟨b1, o1 + k * 2 + 1, none⟩ = some (.string (lwC x k)) := r1 1 _ rfl
        have m3 : wr.cell? ⟨b2, o2 + k * 2, none⟩ = some (.int .i64 (lwA x k)) := by have := r2 0 _ rfl; simpa using this
        have m4 : wr.cell? ⟨b2, o2 + k * 2 + 1, none⟩ = some (.string (lwC x k)) := r2 1 _ rfl
        have tk := t1 (lwC x k)
        have hlo2 : Hid (∀ n, Below w6.heap.size w6 (wr.drewN n)) := fun n => ⟨hlo.out.os, hlo.out.tape, hlo.out.output, hlo.out.size, hlo.out.block⟩
        generalize lwA x k = ak at *
        generalize lwC x k = ck at *
        clear hlo r1 r2 t1
        go_wp2
        go_quiet (fail)
        go_wp2
        go_roundw
        case rel => exact ⟨k + 1, by omega, by go_num, hlo2.out _⟩
        case measure => simp [intOf]; omega
      · obtain rfl : k = N := by omega
        have hk' : ¬ (k : Int) < (k : Int) := by omega
        have L7 : Hid (Below W.heap.size W wr) := L6.out.trans (hlo.out.mono L6.out.size)
        have C7 : Hid (Cs wr a2 (k + 1) F) := C6.out.below hlo.out
        have hcap := HC2.out
        have hcap1 : (k : Int) ≤ (c2 : Int) := by omega
        have hcap2 : k ≤ c2 := by omega
        have hkk : (k : Int) + 1 - 1 = (k : Int) := by omega
        obtain ⟨EG, hEG⟩ : ∃ EG : Int, (if k = 0 then 4 else 3) = EG := ⟨_, rfl⟩
        rw [hEG] at G2
        have HEG : Hid ((if k = 0 then (4 : Int) else 3) = EG) := hEG
        clear hlo C6 A6 B6 hEG
        go_wp2_with (first
          | (go_at_call 15; refine (G2.out _ _ _ L7.out C7.out).mono ?_; rintro e w8 ⟨a8, n8, c8, rfl, hb8⟩; have L8 : Hid (Below W.heap.size W w8) := L7.out.trans (hb8.mono L7.out.size); have C8 : Hid (Cs w8 a2 (k + 1) F) := C7.out.below hb8; clear hb8 L7 C7 G2))
        go_at_call 15
        refine (G3.out _ _ _ L8.out C8.out).mono ?_
        rintro e w9 ⟨a9, n9, c9, rfl, hb9⟩
        have L9 : Hid (Below W.heap.size W w9) := L8.out.trans (hb9.mono L8.out.size)
        clear hb9 L8 C8 G3
        by_cases hk0 : k = 0
        · have he := HEG.out
          rw [if_pos hk0] at he
          subst he
          subst hk0
          rcases HQ.out with ⟨q1, q2⟩ | ⟨q1, q2⟩
          · have tq : (dg.toList == D.toList) = true := by rw [eq_text]; exact decide_eq_true q1
            subst q2
            clear q1
            go_wp2
            go_ret
            exact ⟨rfl, L9.out⟩
          · have tq : (dg.toList == D.toList) = false := by rw [eq_text]; exact decide_eq_false q1
            subst q2
            clear q1
            go_wp2
            go_ret
            exact ⟨rfl, L9.out⟩
        · have he := HEG.out
          rw [if_neg hk0] at he
          subst he
          rcases HQ.out with ⟨q1, q2⟩ | ⟨q1, q2⟩
          · have tq : (dg.toList == D.toList) = true := by rw [eq_text]; exact decide_eq_true q1
            subst q2
            clear q1
            go_wp2
            go_ret
            exact ⟨rfl, L9.out⟩
          · have tq : (dg.toList == D.toList) = false := by rw [eq_text]; exact decide_eq_false q1
            subst q2
            clear q1
            go_wp2
            go_ret
            exact ⟨rfl, L9.out⟩
  · have hNE : lgN (min len 120) (lwA x) (lwC x) = 0 := if_neg hE
    have hDE : lgD (min len 120) (lwA x) (lwC x) = noB := if_neg hE
    rw [hNE, hDE] at HP
    have hE' : (lgE (min len 120) (lwA x) (lwC x) != 0) = true := by simpa using hE
    generalize lgE (min len 120) (lwA x) (lwC x) = E at *
    generalize celF (min len 120) (lwA x) (lwC x) = F at *
    generalize min len 120 = N at *
    have HW2 := HW
    have hnb : noB = ⟨#[]⟩ := rfl
    rw [hnb] at HP
    clear hE hNE hDE hTz hT hnb
    go_enter Tryd.func5, Tryd.ntmps5
    go_wp2_with (first
      | (go_at_call 7; refine hw.mono ?_; rintro e w1 ⟨a, b, ca, cb, rfl, ha, -, hl⟩; have L1 : Hid (Below W.heap.size W w1) := H0.out.trans (hl.mono H0.out.size); have A1 : Hid (Wx w1 a N (lwA x) (lwC x)) := ha; clear hw ha hl H0)
      | (go_at_call 8; refine (HP.out _ _ _ L1.out A1.out).mono ?_; rintro e w2 ⟨a2, c2, rfl, -, -, hb2⟩; have L2 : Hid (Below W.heap.size W w2) := L1.out.trans (hb2.mono L1.out.size); clear hb2 L1 A1 HP)
      | (go_at_call 10; refine (HW.out _ L2.out).mono ?_; rintro e w3 ⟨rfl, hb3⟩; have L3 : Hid (Below W.heap.size W w3) := L2.out.trans (hb3.mono L2.out.size); clear hb3 L2 HW)
      | (go_at_call 10; refine (HW2.out _ L3.out).mono ?_; rintro e w4 ⟨rfl, hb4⟩; have L4 : Hid (Below W.heap.size W w4) := L3.out.trans (hb4.mono L3.out.size); clear hb4 L3 HW2))
    go_ret
    exact ⟨rfl, L4.out⟩
end Go.Proofs.YtegebaomhbogmaaDoor
