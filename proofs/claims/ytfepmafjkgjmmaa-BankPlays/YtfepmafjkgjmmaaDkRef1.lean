/- The document's Flush, Crash and Fail. -/
import Derived.Test.YtfepmafjkgjmmaaDkRPut
import Derived.Test.YtfepmafjkgjmmaaDkCrash
namespace Go.Proofs.Ytfepmafjkgjmmaa
open Go.RowKit Go.PlainAid
set_option linter.unusedVariables false

/-- The document's disk with other lasting cells and no writes that wait. -/
theorem RefIn.done {w w' : World} {F : Nat → Prop} {g n : Nat} {l l' : Nat → ByteArray} {q : List Wr} {dead : Bool} {gc : Nat} {v : Value} (h : RefIn w F g n l q dead gc v) (K : Kept (fun i => i = gc) w w') (C : Blk w' gc 9 (strs n l')) :
    Turned F w (w'.setCell ⟨g, 1, none⟩ (.slice none 0 0)) (fun F' => RefAt (w'.setCell ⟨g, 1, none⟩ (.slice none 0 0)) F' g n l' [] dead) := by
  have hgc := h.top.ne h.cells (by decide)
  have T := (h.top.kept K hgc).setCell 1 (.slice none 0 0)
  have C2 := C.kept (Kept.one w' g 1 (.slice none 0 0)) (fun e => hgc e.symm)
  have K2 : Kept F w (w'.setCell ⟨g, 1, none⟩ (.slice none 0 0)) := (K.mono (fun i _ e => by rw [e]; exact h.inn.2.1)).setCell (.inl h.inn.1) _ _
  exact ⟨F, ⟨gc, .slice none 0 0, ⟨h.inn.1, h.inn.2.1, fun k hk => (by cases hk)⟩, h.low, h.high, fun p hp => (by cases hp), T, C2, Waits.nil _ _, fun k hk => Nat.lt_of_lt_of_le (h.bound k hk) K2.size⟩, K2, fun k hk => .inl hk⟩
set_option maxRecDepth 20000 in
set_option maxHeartbeats 1000000 in
theorem refFlush_any {F : Nat → Prop} {g n : Nat} {l : Nat → ByteArray} {q : List Wr} {dead : Bool} {w : World} (h : RefAt w F g n l q dead) (hq : q.length ≤ 1000000) :
    Calls Try.prog 48 #[.pointer (some ⟨g, 0, none⟩)] w fun e w' => e = .returned (.int .i64 (errD dead)) ∧ Turned F w w' (fun F' => RefAt w' F' g n (flushL l q dead) (flushQ q dead) dead) := by
  have HT0 : Hid _ := RefIn.turn h
  obtain ⟨gc, v, h⟩ := h
  have c2 := h.top.cell (i := 2) rfl
  have c1 := h.top.cell (i := 1) rfl
  cases dead
  · rw [show flushL l q false = app l q from rfl, show flushQ q false = [] from rfl, show errD false = 0 from rfl]
    obtain ⟨av, cap, hv⟩ := h.row.form
    subst hv
    have HH : Hid _ := h
    have hgc := h.top.ne h.cells (by decide)
    have hvc := h.cells.owns_ne h.row (by decide)
    clear h HT0 c1
    go_enter Try.func48, Try.ntmps48
    go_wp2_with fail
    go_loopw [3] (fun i wr => ∃ j : Nat, j ≤ q.length ∧ i = .int .i64 (j : Int) ∧ Hid (Kept (fun i => i = gc) w wr ∧ Blk wr gc 9 (strs n (app l (q.take j))))) (fun i _ => q.length - (intOf i).toNat)
    case atStart => exact ⟨0, Nat.zero_le _, rfl, Kept.refl _ _, by rw [List.take_zero]; exact HH.out.cells⟩
    case round =>
      obtain ⟨j, hj, rfl, hrr⟩ := hrel
      have T1 := HH.out.top.kept hrr.out.1 hgc
      have c0 := T1.cell (i := 0) rfl
      have c1 := T1.cell (i := 1) rfl
      have f1 := T1.frozen 1
      by_cases hlt : j < q.length
      · obtain ⟨p, hp⟩ : ∃ p, q[j]? = some p := ⟨_, List.getElem?_eq_getElem hlt⟩
        have hpn : p.1 < n := HH.out.ats p (List.mem_of_getElem? hp)
        have W1 := HH.out.row.kept hrr.out.1 (fun i hi e => hvc (by rw [hi, e]))
        obtain ⟨gw, cap2, hvv, ca, cb⟩ := W1.at hp
        cases hvv
        have hlen : j * 2 + 1 < q.length * 2 := by omega
        have hj' : (j : Int) < (q.length : Int) := by omega
        obtain ⟨pa, ps⟩ := p
        have ec := hrr.out.2.cell (strs_at n _ pa hpn)
        have fc := hrr.out.2.frozen pa
        have hpn' : (pa : Int) < (n : Int) := by have : pa < n := hpn; omega
        have HR : Hid (Kept (fun i => i = gc) w (wr.setCell ⟨gc, pa, none⟩ (.string ps)).drew ∧ Blk (wr.setCell ⟨gc, pa, none⟩ (.string ps)).drew gc 9 (strs n (app l (q.take (j + 1))))) := by
          refine ⟨(hrr.out.1.setCell (.inl rfl) _ _).drew, ?_⟩
          rw [take_snoc q j (pa, ps) hp, app_snoc, ← strs_set]
          exact (hrr.out.2.setCell _ _).drew
        clear hrr W1 T1 hp c2 f1
        go_wp2_with fail
        go_region
        go_wp2_with fail
        go_roundw
        case rel => exact ⟨j + 1, by omega, by go_num, HR⟩
        case measure => simp [intOf]; omega
      · obtain rfl : j = q.length := by omega
        have hL := hrr.out.2
        rw [List.take_length] at hL
        have HT : Hid _ := RefIn.done HH.out hrr.out.1 hL
        clear hL hrr T1
        go_wp2_with fail
        go_ret
        exact ⟨rfl, HT.out⟩
  · rw [show flushL l q true = l from rfl, show flushQ q true = q from rfl, show errD true = 20 from rfl]
    clear h
    go_enter Try.func48, Try.ntmps48
    go_wp2_with fail
    go_ret
    exact ⟨rfl, HT0.out⟩
theorem refFail_any {F : Nat → Prop} {g n : Nat} {l : Nat → ByteArray} {q : List Wr} {dead : Bool} {w : World} (h : RefAt w F g n l q dead) :
    Calls Try.prog 35 #[.pointer (some ⟨g, 0, none⟩)] w fun e w' => e = .returned (.tuple #[]) ∧ Turned F w w' (fun F' => RefAt w' F' g n l [] true) := by
  obtain ⟨gc, v, h⟩ := h
  have c2 := h.top.cell (i := 2) rfl
  have f2 := h.top.frozen 2
  have T1 := h.top.setCell 2 (.bool true)
  have c1 := T1.cell (i := 1) rfl
  have f1 := T1.frozen 1
  have hgc := h.top.ne h.cells (by decide)
  have C1 := h.cells.kept (Kept.one w g 2 (.bool true)) (fun e => hgc e.symm)
  have T2 := T1.setCell 1 (.slice none 0 0)
  have C2 := C1.kept (Kept.one (w.setCell ⟨g, 2, none⟩ (.bool true)) g 1 (.slice none 0 0)) (fun e => hgc e.symm)
  have K2 : Kept F w ((w.setCell ⟨g, 2, none⟩ (.bool true)).setCell ⟨g, 1, none⟩ (.slice none 0 0)) := ((Kept.refl F w).setCell (.inl h.inn.1) _ _).setCell (.inl h.inn.1) _ _
  have HT : Hid (Turned F w ((w.setCell ⟨g, 2, none⟩ (.bool true)).setCell ⟨g, 1, none⟩ (.slice none 0 0)) (fun F' => RefAt ((w.setCell ⟨g, 2, none⟩ (.bool true)).setCell ⟨g, 1, none⟩ (.slice none 0 0)) F' g n l [] true)) :=
    ⟨F, ⟨gc, .slice none 0 0, ⟨h.inn.1, h.inn.2.1, fun k hk => (by cases hk)⟩, h.low, h.high, fun p hp => (by cases hp), T2, C2, Waits.nil _ _, fun k hk => Nat.lt_of_lt_of_le (h.bound k hk) K2.size⟩, K2, fun k hk => .inl hk⟩
  clear h T1 C1 T2 C2 K2 hgc
  go_enter Try.func35, Try.ntmps35
  go_wp2_with fail
  go_end0
  exact ⟨rfl, HT.out⟩
end Go.Proofs.Ytfepmafjkgjmmaa
