/- The document's Crash and Restore. -/
import Derived.Test.YtfepmafjkgjmmaaDkRef1
import Derived.Test.YtfepmafjkgjmmaaDkRest
namespace Go.Proofs.Ytfepmafjkgjmmaa
open Go.RowKit Go.PlainAid
set_option linter.unusedVariables false

set_option maxRecDepth 20000 in
set_option maxHeartbeats 1000000 in
theorem refCrash_any {F : Nat → Prop} {g n : Nat} {l : Nat → ByteArray} {q : List Wr} {dead : Bool} {w : World} (h : RefAt w F g n l q dead) (v : Value) (m : Nat) (k : Nat → Bool) (hv : BoolsAt w v m k) (hm : m ≤ 1000000000) (hq : q.length ≤ 1000000) (ha : Away F v) :
    Calls Try.prog 49 #[.pointer (some ⟨g, 0, none⟩), v] w fun e w' => e = .returned (.tuple #[]) ∧ Turned F w w' (fun F' => RefAt w' F' g n (crashL l q dead k) (flushQ q dead) dead) := by
  have HT0 : Hid _ := RefIn.turn h
  obtain ⟨gc, vw, h⟩ := h
  have c2 := h.top.cell (i := 2) rfl
  cases dead
  · rw [show crashL l q false k = app l (keep k 0 q) from rfl, show flushQ q false = [] from rfl]
    obtain ⟨aw, capw, hvw⟩ := h.row.form
    subst hvw
    have hv' := hv
    obtain ⟨⟨av, capv, rfl, hv0⟩, hk0⟩ := hv'
    have HV0 : Hid _ := hv0
    have HV : Hid (BoolsAt w (.slice av m capv) m k) := hv
    have HK0 : Hid _ := hk0
    have HH : Hid _ := h
    have HA : Hid _ := ha
    have hgc := h.top.ne h.cells (by decide)
    have hvc := h.cells.owns_ne h.row (by decide)
    clear hv hv0 hk0 ha h HT0
    go_enter Try.func49, Try.ntmps49
    go_wp2_with fail
    go_loopw [4] (fun i wr => ∃ j : Nat, j ≤ q.length ∧ j ≤ m ∧ i = .int .i64 (j : Int) ∧ Hid (Kept (fun i => i = gc) w wr ∧ Blk wr gc 9 (strs n (app l (keep k 0 (q.take j)))))) (fun i _ => q.length - (intOf i).toNat)
    case atStart => exact ⟨0, Nat.zero_le _, Nat.zero_le _, rfl, Kept.refl _ _, by rw [List.take_zero]; exact HH.out.cells⟩
    case round =>
      obtain ⟨j, hj, hjm0, rfl, hrr⟩ := hrel
      have T1 := HH.out.top.kept hrr.out.1 hgc
      have c0 := T1.cell (i := 0) rfl
      have c1 := T1.cell (i := 1) rfl
      have f1 := T1.frozen 1
      by_cases hlt : j < q.length
      · have hj' : (j : Int) < (q.length : Int) := by omega
        by_cases hjm : j < m
        · obtain ⟨p, hp⟩ : ∃ p, q[j]? = some p := ⟨_, List.getElem?_eq_getElem hlt⟩
          have hpn : p.1 < n := HH.out.ats p (List.mem_of_getElem? hp)
          have W1 := HH.out.row.kept hrr.out.1 (fun i hi e => hvc (by rw [hi, e]))
          obtain ⟨gw, cap2, hvv, ca, cb⟩ := W1.at hp
          cases hvv
          have hlen : j * 2 + 1 < q.length * 2 := by omega
          have B1 := HV.out.kept hrr.out.1 (fun a n c e e0 f => HA.out a n c e e0 (by rw [f]; exact HH.out.inn.2.1))
          obtain ⟨pa, ps⟩ := p
          have hstep := keep_step k q j (pa, ps) hp
          obtain ⟨b, o, hav, hb, hc⟩ := HV0.out.resolve_left (fun h => by omega)
          subst hav
          have hcj : wr.cell? ⟨b, o + j, none⟩ = some (.bool (k j)) := by
            obtain ⟨⟨_, _, e0, h0⟩, _⟩ := B1
            cases e0
            rcases h0 with h0 | ⟨b', o', e', hb', hc'⟩
            · omega
            · cases e'; exact hc' j hjm
          have hjm' : (j : Int) < (m : Int) := by omega
          have ec := hrr.out.2.cell (strs_at n _ pa hpn)
          have fc := hrr.out.2.frozen pa
          have hpn' : (pa : Int) < (n : Int) := by have : pa < n := hpn; omega
          cases hkj : k j
          · rw [hkj] at hcj hstep
            have HR : Hid (Kept (fun i => i = gc) w wr ∧ Blk wr gc 9 (strs n (app l (keep k 0 (q.take (j + 1)))))) := by
              refine ⟨hrr.out.1, ?_⟩
              rw [hstep, if_neg (by decide), List.append_nil]
              exact hrr.out.2
            clear hstep hrr W1 T1 B1 hp hc hkj c2 f1 HV0 HV HA
            go_wp2_with fail
            go_roundw
            case rel => exact ⟨j + 1, by omega, by omega, by go_num, HR⟩
            case measure => simp [intOf]; omega
          · rw [hkj] at hcj hstep
            have HR : Hid (Kept (fun i => i = gc) w (wr.setCell ⟨gc, pa, none⟩ (.string ps)).drew ∧ Blk (wr.setCell ⟨gc, pa, none⟩ (.string ps)).drew gc 9 (strs n (app l (keep k 0 (q.take (j + 1)))))) := by
              refine ⟨(hrr.out.1.setCell (.inl rfl) _ _).drew, ?_⟩
              rw [hstep, if_pos rfl, app_snoc, ← strs_set]
              exact (hrr.out.2.setCell _ _).drew
            clear hstep hrr W1 T1 B1 hp hc hkj c2 f1 HV0 HV HA
            go_wp2_with fail
            go_region
            go_wp2_with fail
            go_roundw
            case rel => exact ⟨j + 1, by omega, by omega, by go_num, HR⟩
            case measure => simp [intOf]; omega
        · obtain rfl : j = m := by omega
          have hL := hrr.out.2
          rw [← keep_stop k q j HK0.out] at hL
          have HT : Hid _ := RefIn.done HH.out hrr.out.1 hL
          clear hL hrr T1 HV0 HV HA
          go_wp2_with fail
          go_end0
          exact ⟨rfl, HT.out⟩
      · obtain rfl : j = q.length := by omega
        have hL := hrr.out.2
        rw [List.take_length] at hL
        have HT : Hid _ := RefIn.done HH.out hrr.out.1 hL
        clear hL hrr T1 HV0 HV HA
        go_wp2_with fail
        go_end0
        exact ⟨rfl, HT.out⟩
  · rw [show crashL l q true k = l from rfl, show flushQ q true = q from rfl]
    clear h hv ha
    go_enter Try.func49, Try.ntmps49
    go_wp2_with fail
    refine bodyPost_ret (results_none rfl _ _ _) rfl ⟨rfl, HT0.out⟩
end Go.Proofs.Ytfepmafjkgjmmaa
