/- Writes taken out of a row by a closure: slices.IndexFunc and slices.DeleteFunc at the program's own. -/
import Derived.Test.YtfepmafjkgjmmaaDkCrash
namespace Go.Proofs.Ytfepmafjkgjmmaa
open Go.RowKit Go.PlainAid
set_option linter.unusedVariables false

theorem Blk.drewOf {w : World} {g : Nat} {T : TypeId} {L : List Value} (h : Blk w.drew g T L) : Blk w g T L := h
theorem closure_any (a : Nat) (p : Wr) (ga : Nat) (w : World) (h : Blk w ga 3 [.int .i64 (a : Int)]) :
    Calls Try.prog 47 #[.agg #[.int .i64 (p.1 : Int), .string p.2], .pointer (some ⟨ga, 0, none⟩)] w fun e w' => e = .returned (.bool (decide (p.1 = a))) ∧ w' = w.alloc (.cells #[.int .i64 (p.1 : Int), .string p.2] 84) := by
  have c0 := (h.alloc (.cells #[.int .i64 (p.1 : Int), .string p.2] 84)).cell (i := 0) rfl
  have hb : (((p.1 : Nat) : Int) == (a : Int)) = decide (p.1 = a) := by
    by_cases e : p.1 = a
    · rw [e]; simp
    · rw [decide_eq_false e, beq_eq_false_iff_ne]; omega
  obtain ⟨B, hB⟩ : ∃ B, decide (p.1 = a) = B := ⟨_, rfl⟩
  rw [hB] at hb ⊢
  obtain ⟨pa, ps⟩ := p
  clear h hB
  go_enter Try.func47, Try.ntmps47
  go_wp2_with fail
  go_ret
  exact ⟨rfl, rfl⟩
/-- r is the first place of a write of the cell a, or -1. -/
def IdxIs (q : List Wr) (a : Nat) (r : Int) : Prop := (r = -1 ∧ ∀ p ∈ q, p.1 ≠ a) ∨ ∃ j : Nat, r = (j : Int) ∧ j < q.length ∧ (∃ p, q[j]? = some p ∧ p.1 = a) ∧ ∀ i p, i < j → q[i]? = some p → p.1 ≠ a
set_option maxRecDepth 20000 in
theorem dkIndex_any (a : Nat) (ga : Nat) (q : List Wr) (v : Value) (w : World) (h : Blk w ga 3 [.int .i64 (a : Int)]) (hw : Waits w 84 v q) (hq : q.length ≤ 1000000) :
    Calls Try.prog 52 #[v, .func (.func 47) #[] #[.pointer (some ⟨ga, 0, none⟩)]] w fun e w' => ∃ r : Int, e = .returned (.int .i64 r) ∧ Below w.heap.size w w' ∧ IdxIs q a r := by
  have HW : Hid (Waits w 84 v q) := hw
  have HG : Hid (Blk w ga 3 [.int .i64 (a : Int)]) := h
  obtain ⟨av, cap, hv⟩ := hw.form
  subst hv
  clear hw h
  go_enter Try.func52, Try.ntmps52
  go_wp2_with fail
  go_loopw [8] (fun i wr => ∃ j : Nat, j ≤ q.length ∧ i = .int .i64 (j : Int) ∧ Hid (Below w.heap.size w wr ∧ ∀ i p, i < j → q[i]? = some p → p.1 ≠ a)) (fun i _ => q.length - (intOf i).toNat)
  case atStart => exact ⟨0, Nat.zero_le _, rfl, Below.refl _ _, fun i p hi => by omega⟩
  case round =>
    obtain ⟨j, hj, rfl, hrr⟩ := hrel
    by_cases hlt : j < q.length
    · obtain ⟨p, hp⟩ : ∃ p, q[j]? = some p := ⟨_, List.getElem?_eq_getElem hlt⟩
      have W1 := Waits.kept (w := w) HW.out (Kept.ofBelow (F := fun _ => False) hrr.out.1) (fun _ _ h => h)
      obtain ⟨gw, cap2, hvv, ca, cb⟩ := W1.at hp
      cases hvv
      have hcl := closure_any a p ga wr (HG.out.below hrr.out.1 HG.out.lt)
      have hlen : j * 2 + 1 < q.length * 2 := by omega
      have hj' : (j : Int) < (q.length : Int) := by omega
      have hb2 := hrr.out.1.alloc hrr.out.1.size (.cells #[.int .i64 (p.1 : Int), .string p.2] 84)
      by_cases hpa : p.1 = a
      · rw [decide_eq_true hpa] at hcl
        have HF : Hid (Below w.heap.size w (wr.alloc (.cells #[.int .i64 (p.1 : Int), .string p.2] 84)) ∧ IdxIs q a (j : Int)) :=
          ⟨hb2, .inr ⟨j, rfl, hlt, ⟨p, hp, hpa⟩, hrr.out.2⟩⟩
        obtain ⟨pa, ps⟩ := p
        clear hrr hp W1 hb2 hpa
        go_wp2_with (go_at_call 47; refine hcl.mono ?_; rintro e w' ⟨rfl, hw'⟩; rw [hw']; clear hw' w')
        go_ret
        exact ⟨_, rfl, HF.out⟩
      · rw [decide_eq_false hpa] at hcl
        have HF : Hid (Below w.heap.size w (wr.alloc (.cells #[.int .i64 (p.1 : Int), .string p.2] 84)) ∧ ∀ i p, i < j + 1 → q[i]? = some p → p.1 ≠ a) :=
          ⟨hb2, fun i x hi hx => by
            by_cases e : i = j
            · subst e; rw [hp] at hx; cases hx; exact hpa
            · exact hrr.out.2 i x (by omega) hx⟩
        obtain ⟨pa, ps⟩ := p
        clear hrr hp W1 hb2 hpa
        go_wp2_with (go_at_call 47; refine hcl.mono ?_; rintro e w' ⟨rfl, hw'⟩; rw [hw']; clear hw' w')
        go_roundw
        case rel => exact ⟨j + 1, by omega, by go_num, HF⟩
        case measure => simp [intOf]; omega
    · obtain rfl : j = q.length := by omega
      have HF : Hid (Below w.heap.size w wr ∧ IdxIs q a (-1)) :=
        ⟨hrr.out.1, .inl ⟨rfl, fun x hx => by
          obtain ⟨i, hi⟩ := List.getElem?_of_mem hx
          exact hrr.out.2 i x (List.getElem?_eq_some_iff.1 hi).1 hi⟩⟩
      clear hrr
      go_wp2_with fail
      go_ret
      exact ⟨_, rfl, HF.out⟩
end Go.Proofs.Ytfepmafjkgjmmaa
