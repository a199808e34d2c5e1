/- The document's Restore. -/
import Derived.Test.YtmgllcmfnljfjaaDkRef1
import Derived.Test.YtmgllcmfnljfjaaDkRest
namespace Go.Proofs.Ytmgllcmfnljfjaa
open Go.RowKit Go.PlainAid
set_option linter.unusedVariables false

/-- The first j cells restored. -/
def parL (l : Nat → ByteArray) (m : Nat) (f : Nat → ByteArray) (j i : Nat) : ByteArray := if i < j then restL m f i else l i
theorem parL_zero (l : Nat → ByteArray) (m : Nat) (f : Nat → ByteArray) : parL l m f 0 = l := by funext i; unfold parL; rw [if_neg (by omega)]
theorem parL_end (l : Nat → ByteArray) (m : Nat) (f : Nat → ByteArray) (n : Nat) : ∀ i, i < n → parL l m f n i = restL m f i := by intro i hi; unfold parL; rw [if_pos hi]
theorem parL_step (l : Nat → ByteArray) (m : Nat) (f : Nat → ByteArray) (j : Nat) : upd (parL l m f j) (j, restL m f j) = parL l m f (j + 1) := by
  funext i
  unfold upd parL
  simp only
  by_cases e : i = j
  · subst e; rw [if_pos rfl, if_pos (by omega)]
  · rw [if_neg e]
    by_cases h1 : i < j
    · rw [if_pos h1, if_pos (by omega)]
    · rw [if_neg h1, if_neg (by omega)]
theorem upd_upd (f : Nat → ByteArray) (k : Nat) (s t : ByteArray) : upd (upd f (k, s)) (k, t) = upd f (k, t) := by
  funext i
  unfold upd
  simp only
  by_cases e : i = k
  · rw [if_pos e, if_pos e]
  · rw [if_neg e, if_neg e, if_neg e]
set_option maxRecDepth 20000 in
set_option maxHeartbeats 1000000 in
theorem refRestore_any {F : Nat → Prop} {g n : Nat} {l : Nat → ByteArray} {q : List Wr} {dead : Bool} {w : World} (h : RefAt w F g n l q dead) (v : Value) (m : Nat) (f : Nat → ByteArray) (hv : TextsAt w v m f) (hm : m ≤ 1000000000) (ha : Away F v) :
    Calls Try.prog 30 #[.pointer (some ⟨g, 0, none⟩), v] w fun e w' => e = .returned (.tuple #[]) ∧ Turned F w w' (fun F' => RefAt w' F' g n (restoreL l dead m f) (flushQ q dead) dead) := by
  have HT0 : Hid _ := RefIn.turn h
  obtain ⟨gc, vw, h⟩ := h
  have c2 := h.top.cell (i := 2) rfl
  cases dead
  · rw [show restoreL l false m f = restL m f from rfl, show flushQ q false = [] from rfl]
    have hv' := hv
    obtain ⟨av, capv, rfl, hcm, hv0⟩ := hv'
    have HV0 : Hid _ := hv0
    have HV : Hid (TextsAt w (.slice av m capv) m f) := hv
    have HH : Hid _ := h
    have HA : Hid _ := ha
    have hgc := h.top.ne h.cells (by decide)
    have hn5 := h.high
    clear hv hv0 ha h HT0
    go_enter Try.func30, Try.ntmps30
    go_wp2_with fail
    go_loopw [4] (fun i wr => ∃ j : Nat, j ≤ n ∧ i = .int .i64 (j : Int) ∧ Hid (Kept (fun i => i = gc) w wr ∧ Blk wr gc 9 (strs n (parL l m f j)))) (fun i _ => n - (intOf i).toNat)
    case atStart => exact ⟨0, Nat.zero_le _, rfl, Kept.refl _ _, by rw [parL_zero]; exact HH.out.cells⟩
    case round =>
      obtain ⟨j, hj, rfl, hrr⟩ := hrel
      have T1 := HH.out.top.kept hrr.out.1 hgc
      have c0 := T1.cell (i := 0) rfl
      have c1 := T1.cell (i := 1) rfl
      have f1 := T1.frozen 1
      by_cases hlt : j < n
      · have hj' : (j : Int) < (n : Int) := by omega
        have ec := hrr.out.2.cell (strs_at n _ j hlt)
        have fc := hrr.out.2.frozen j
        have C2 := hrr.out.2.setCell j (.string noB)
        rw [strs_set] at C2
        have T2 := T1.kept (Kept.one wr gc j (.string noB)) hgc
        have d0 := T2.cell (i := 0) rfl
        by_cases hjm : j < m
        · obtain ⟨b, o, hav, hb, hc⟩ := HV0.out.resolve_left (fun h => by omega)
          subst hav
          have hbc : b ≠ gc := fun e => HA.out ⟨b, o, none⟩ m capv rfl (by omega) (by rw [show (⟨b, o, none⟩ : Addr).block = b from rfl, e]; exact HH.out.inn.2.1)
          have hcj : (wr.setCell ⟨gc, j, none⟩ (.string noB)).cell? ⟨b, o + j, none⟩ = some (.string (f j)) := by
            rw [(Kept.one wr gc j (.string noB)).cell (p := ⟨b, o + j, none⟩) (Nat.lt_of_lt_of_le hb hrr.out.1.size) hbc, hrr.out.1.cell (p := ⟨b, o + j, none⟩) hb hbc]
            exact hc j hjm
          have hjm' : (j : Int) < (m : Int) := by omega
          by_cases hs : (f j).size ≤ 2048
          · have hR : restL m f j = f j := by unfold restL; rw [if_pos ⟨hjm, hs⟩]
            obtain ⟨s, hse⟩ : ∃ s, f j = s := ⟨_, rfl⟩
            have HR : Hid (Kept (fun i => i = gc) w ((wr.setCell ⟨gc, j, none⟩ (.string noB)).setCell ⟨gc, j, none⟩ (.string s)).drew ∧ Blk ((wr.setCell ⟨gc, j, none⟩ (.string noB)).setCell ⟨gc, j, none⟩ (.string s)).drew gc 9 (strs n (parL l m f (j + 1)))) := by
              refine ⟨((hrr.out.1.setCell (.inl rfl) _ _).setCell (.inl rfl) _ _).drew, ?_⟩
              rw [← parL_step, hR, hse, ← upd_upd _ j noB s, ← strs_set]
              exact (C2.setCell _ _).drew
            have ec2 := C2.cell (strs_at n _ j hlt)
            have fc2 := C2.frozen j
            rw [hse] at hcj hs
            clear hrr T1 T2 C2 c2 f1 HV0 HV HA hc hse hR c1
            go_wp2_with fail
            go_region
            go_wp2_with fail
            go_roundw
            case rel => exact ⟨j + 1, by omega, by go_num, HR⟩
            case measure => simp [intOf]; omega
          · have hR : restL m f j = noB := by unfold restL; rw [if_neg (fun h => hs h.2)]
            obtain ⟨s, hse⟩ : ∃ s, f j = s := ⟨_, rfl⟩
            have HR : Hid (Kept (fun i => i = gc) w (wr.setCell ⟨gc, j, none⟩ (.string noB)) ∧ Blk (wr.setCell ⟨gc, j, none⟩ (.string noB)) gc 9 (strs n (parL l m f (j + 1)))) := by
              refine ⟨hrr.out.1.setCell (.inl rfl) _ _, ?_⟩
              rw [← parL_step, hR]
              exact C2
            rw [hse] at hcj hs
            clear hrr T1 T2 C2 c2 f1 HV0 HV HA hc hse hR c1
            go_wp2_with fail
            go_roundw
            case rel => exact ⟨j + 1, by omega, by go_num, HR⟩
            case measure => simp [intOf]; omega
        · have hjm' : ¬ (j : Int) < (m : Int) := by omega
          have hR : restL m f j = noB := by unfold restL; rw [if_neg (fun h => hjm h.1)]
          have HR : Hid (Kept (fun i => i = gc) w (wr.setCell ⟨gc, j, none⟩ (.string noB)) ∧ Blk (wr.setCell ⟨gc, j, none⟩ (.string noB)) gc 9 (strs n (parL l m f (j + 1)))) := by
            refine ⟨hrr.out.1.setCell (.inl rfl) _ _, ?_⟩
            rw [← parL_step, hR]
            exact C2
          clear hrr T1 T2 C2 c2 f1 HV0 HV HA hR c1
          go_wp2_with fail
          go_roundw
          case rel => exact ⟨j + 1, by omega, by go_num, HR⟩
          case measure => simp [intOf]; omega
      · obtain rfl : j = n := by omega
        have hL := hrr.out.2
        rw [strs_congr j _ _ (parL_end l m f j)] at hL
        have HT : Hid _ := RefIn.done HH.out hrr.out.1 hL
        clear hL hrr T1 HV0 HV HA
        go_wp2_with fail
        go_end0
        exact ⟨rfl, HT.out⟩
  · rw [show restoreL l true m f = l from rfl, show flushQ q true = q from rfl]
    clear h hv ha
    go_enter Try.func30, Try.ntmps30
    go_wp2_with fail
    refine bodyPost_ret (results_none rfl _ _ _) rfl ⟨rfl, HT0.out⟩
end Go.Proofs.Ytmgllcmfnljfjaa
