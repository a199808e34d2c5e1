/- The document's Crash; the lists of an act. -/
import Derived.Test.YtfepmafjkgjmmaaBkCrash
namespace Go.Proofs.Ytfepmafjkgjmmaa
open Go.RowKit Go.PlainAid
set_option linter.unusedVariables false

section
variable {B : Nat} {w0 w : World} {g N : Nat} {D : Nat → Dk} {s : Nat} {p : Option Nat} {R : Asn}
theorem Hold.crashR (hR : Firm R) (j : Nat) (hj : j < N) (v : Value) (m : Nat) (k : Nat → Bool) (hv : BoolsAt w v m k) (hm : m ≤ 1000000000) (hq : (D j).q.length ≤ 1000000) (ho : Old B v) (h : Hold B w0 w (star (rbk g N D s p) R)) :
    Calls Try.prog 49 #[.pointer (some ⟨(D j).g, 0, none⟩), v] w fun e w' => e = .returned (.tuple #[]) ∧ Hold B w0 w' (star (rbk g N (updD D j (crashD (D j) k)) s p) R) :=
  (h_rcrash ((firm_rbkX j).star hR) (h.openR j hj) v m k hv hm hq ho).mono fun e w2 ⟨he, h2⟩ => ⟨he, Hold.shutR j hj (crashD (D j) k) rfl h2⟩
end
set_option maxRecDepth 20000 in
set_option maxHeartbeats 1000000 in
theorem rcrash_any {B : Nat} {w0 w : World} {g N : Nat} {D : Nat → Dk} {s : Nat} {p : Option Nat} {R : Asn} (hR : Firm R) {v : Value} {m : Nat} {L : Nat → Bl} (h : Hold B w0 w (star (rbk g N D s p) (star (rowA 80 v m (blV m L)) R))) (hL : ∀ i, i < m → BlOk B w0 (L i)) (hm : m ≤ 1000) (hq : ∀ j, j < N → (D j).q.length ≤ 1000000) :
    Calls Try.prog 33 #[.pointer (some ⟨g, 0, none⟩), v] w fun e w' => e = .returned (.tuple #[]) ∧ Hold B w0 w' (star (rbk g N (fun i => crashD (D i) (keptK m L i)) s none) (star (rowA 80 v m (blV m L)) R)) := by
  obtain ⟨a, c, rfl⟩ := row_form h.swap.row
  have hF : Hid _ := (firm_row 80 (.slice a m c) m (blV m L)).star hR
  have hN12 := h.rbkN
  have HFit : Hid _ := h.rbkFit
  have HG : Hid _ := h
  have HL : Hid _ := hL
  have HQ : Hid _ := hq
  clear h hL hq hR
  go_enter Try.func33, Try.ntmps33
  go_wp2_with fail
  go_loopw [4] (fun i wr => ∃ j : Nat, j ≤ N ∧ i = .int .i64 (j : Int) ∧ Hid (Hold B w0 wr (star (rbk g N (crD j D (keptK m L)) s p) (star (rowA 80 (.slice a m c) m (blV m L)) R)))) (fun i _ => N - (intOf i).toNat)
  case atStart => exact ⟨0, Nat.zero_le _, rfl, by rw [crD_zero]; exact HG.out⟩
  case round =>
    clear HG
    obtain ⟨j, hj, rfl, hrr⟩ := hrel
    by_cases hlt : j < N
    · have hj' : (j : Int) < (N : Int) := by omega
      have hq := HQ.out j hlt
      obtain ⟨gd, cap, c0, ci⟩ := hrr.out.rbkAt j hlt
      rw [crD_here] at ci
      by_cases hjm : j < m
      · have hjm' : (j : Int) < (m : Int) := by omega
        obtain ⟨gk, rfl, ck⟩ := row_at hrr.out.swap.row j hjm
        have hb := HL.out j hjm
        have hcr := hrr.out.crashR hF.out j hlt (L j).v (L j).m (L j).k (hb.1.old hb.2.1 hrr.out.low hrr.out.size) hb.2.2 (by rw [crD_here]; exact hq) hb.2.1
        rw [crD_here, show (L j).k = keptK m L j from (if_pos hjm).symm, crD_step] at hcr
        clear hrr hb
        go_wp2_with (go_at_call 49; refine hcr.mono ?_; rintro e w2 ⟨rfl, h2⟩; have h2 : Hid _ := h2; clear hcr)
        go_roundw
        case rel => exact ⟨j + 1, by omega, by go_num, h2.out⟩
        case measure => simp [intOf]; omega
      · have hjm' : ¬ (j : Int) < (m : Int) := by omega
        have hcr := hrr.out.crashR hF.out j hlt (.slice none 0 0) 0 (fun _ => false) (bools_none _) (by omega) (by rw [crD_here]; exact hq) (old_none _ _ _)
        rw [crD_here, show (fun _ => false) = keptK m L j from (if_neg hjm).symm, crD_step] at hcr
        clear hrr
        go_wp2_with (go_at_call 49; refine hcr.mono ?_; rintro e w2 ⟨rfl, h2⟩; have h2 : Hid _ := h2; clear hcr)
        go_roundw
        case rel => exact ⟨j + 1, by omega, by go_num, h2.out⟩
        case measure => simp [intOf]; omega
    · obtain rfl : j = N := by omega
      have hj' : ¬ (j : Int) < (j : Int) := by omega
      obtain ⟨gd, cap, hb, -, ht⟩ := hrr.out.rbkTop
      have c0 := hb.cell (i := 0) rfl
      have c2 := hb.cell (i := 2) rfl
      have f2 := hb.frozen 2
      have HT : Hid (Hold B w0 (wr.setCell ⟨g, 2, none⟩ (.int .i64 (-1))) (star (rbk g j (fun i => crashD (D i) (keptK m L i)) s none) (star (rowA 80 (.slice a m c) m (blV m L)) R))) :=
        ((ht.setBlk (firm_rtop gd cap hF.out) 2 (.int .i64 (-1))).ofRTop (p := none) ⟨HFit.out.1, fun k e => by cases e⟩ gd cap (by simp [pr])).monoL (fun F h => rbk_congr (fun i hi => if_pos hi) h)
      clear hrr ht hb
      go_wp2_with fail
      go_end0
      exact ⟨rfl, HT.out⟩
/-- What is known of lists that came in. -/
def ListsIn (B : Nat) (W : World) (a : Option Addr) (m c : Nat) (L : Nat → Bl) : Prop := m ≤ c ∧ c ≤ maxLen ∧ (∀ i, i < m → BoolsOk W (L i).a (L i).m (L i).c (L i).k ∧ Old B (L i).v) ∧ (m = 0 ∨ ∃ b o, a = some ⟨b, o, none⟩ ∧ b < B ∧ ∀ i, i < m → W.cell? ⟨b, o + i, none⟩ = some (.slice (L i).a (L i).m (L i).c))
/-- A list cut at 60. -/
def cutBl (b : Bl) : Bl := ⟨b.a, min b.m 60, b.c, fun i => if i < min b.m 60 then b.k i else false⟩
theorem cutBl_ok {B : Nat} {W : World} {b : Bl} (h : BoolsOk W b.a b.m b.c b.k) (ho : Old B b.v) : BlOk B W (cutBl b) := by
  refine ⟨h.1.cut (min b.m 60) (by omega), fun a n c e e0 => ?_, by show min b.m 60 ≤ _; omega⟩
  obtain ⟨ba, bm, bc, bk⟩ := b
  simp only [Bl.v, cutBl, Value.slice.injEq] at e
  obtain ⟨rfl, rfl, rfl⟩ := e
  exact ho a bm bc rfl (by omega)
/-- An act as a value. -/
abbrev bactV (d i at_ : Int) (t : ByteArray) (k : Value) (x : Bool) : Value := .agg #[.int .i64 d, .int .i64 i, .int .i64 at_, .string t, k, .bool x]
set_option maxRecDepth 20000 in
set_option maxHeartbeats 1000000 in
theorem lists_any {B : Nat} {w0 w : World} {R : Asn} (hR : Firm R) (h : Hold B w0 w R) (d i at_ : Int) (t : ByteArray) (a : Option Addr) (m c : Nat) (x : Bool) (L : Nat → Bl) (hL : ListsIn B w0 a m c L) :
    Calls Try.prog 24 #[bactV d i at_ t (.slice a m c) x] w fun e w' => ∃ v, e = .returned v ∧ Hold B w0 w' (star (rowA 80 v (min m 20) (blV (min m 20) fun i => cutBl (L i))) R) := by
  obtain ⟨M, hM⟩ : ∃ M, min m 20 = M := ⟨_, rfl⟩
  rw [hM]
  have hMm : M ≤ m := by omega
  have hM20 : M ≤ 20 := by omega
  have hmin : (if (20 : Int) < (m : Int) then (20 : Int) else (m : Int)) = (M : Int) := by split <;> omega
  have hmc := hL.1
  have hcm := hL.2.1
  have hMc : M ≤ c := by omega
  have H0 : Hid (Hold B w0 (w.alloc (.cells #[.int .i64 d, .int .i64 i, .int .i64 at_, .string t, .slice a m c, .bool x] 34)) (star (rowA 80 (.slice none 0 0) 0 (blV 0 fun i => cutBl (L i))) R)) := (h.below hR ((Below.refl _ _).alloc (Nat.le_refl _) _)).addNought.monoL (fun F h => ⟨World.ownsRow_nil _ _ _ _, fun k => ⟨fun hk => absurd hk (h k), fun e => by cases e⟩⟩)
  have HL : Hid _ := hL
  have HR : Hid _ := hR
  clear hM h hL hR
  go_enter Try.func24, Try.ntmps24
  go_wp2_with fail
  clear hmin
  go_loopw [3, 14] (fun vo i wr => ∃ j : Nat, j ≤ M ∧ i = .int .i64 (j : Int) ∧ Hid (Hold B w0 wr (star (rowA 80 vo j (blV j fun i => cutBl (L i))) R))) (fun _ i _ => M - (intOf i).toNat)
  case atStart => exact ⟨0, Nat.zero_le _, rfl, H0.out⟩
  case round =>
    clear H0
    obtain ⟨j, hj, rfl, hrr⟩ := hrel
    by_cases hlt : j < M
    · have hj' : (j : Int) < (M : Int) := by omega
      obtain ⟨b, o, ha, hb, hc⟩ := HL.out.2.2.2.resolve_left (fun h => by omega)
      subst ha
      have ck : wr.cell? ⟨b, o + j, none⟩ = some (.slice (L j).a (L j).m (L j).c) := (hrr.out.low.cell (p := ⟨b, o + j, none⟩) hb).trans (hc j (by omega))
      have hbo := (HL.out.2.2.1 j (by omega)).1
      obtain ⟨g', cap', w2, hrun, h2⟩ := row_push HR.out 32 80 32 (.slice none 0 0) 24 Try.underlying32 Try.info80 rfl (by decide) hrr.out (.slice (L j).a (min (L j).m 60) (L j).c) rfl (by omega)
      have HN : Hid (Hold B w0 w2 (star (rowA 80 (.slice (some ⟨g', 0, none⟩) (j + 1) cap') (j + 1) (blV (j + 1) fun i => cutBl (L i))) R)) := by rw [blV_succ]; exact h2
      obtain ⟨la, lm, lc, lk⟩ : ∃ la lm lc, (L j).a = la ∧ (L j).m = lm ∧ (L j).c = lc := ⟨_, _, _, rfl, rfl, rfl⟩
      obtain ⟨e1, e2, e3⟩ := lk
      have k1 := hbo.2.1
      have k2 := hbo.2.2
      rw [e1, e2, e3] at ck hrun
      rw [e2, e3] at k1
      rw [e3] at k2
      obtain ⟨lM, hlM⟩ : ∃ lM, min lm 60 = lM := ⟨_, rfl⟩
      rw [hlM] at hrun
      have hlm1 : lM ≤ lm := by omega
      have hlm2 : lM ≤ lc := by omega
      have hmin : (if (60 : Int) < (lm : Int) then (60 : Int) else (lm : Int)) = (lM : Int) := by split <;> omega
      clear hrr hbo h2 hc hb e1 e2 e3 hlM
      go_wp2_with (at_builtin; refine wpList_append_run rfl _ _ 32 32 rfl _ _ rfl rfl _ _ hrun ?_)
      go_roundw
      case rel => exact ⟨j + 1, by omega, by go_num, HN.out⟩
      case measure => simp [intOf]; omega
    · have hj' : ¬ (j : Int) < (M : Int) := by omega
      obtain rfl : j = M := by omega
      go_wp2_with fail
      go_ret
      exact ⟨_, rfl, hrr.out⟩
end Go.Proofs.Ytfepmafjkgjmmaa
