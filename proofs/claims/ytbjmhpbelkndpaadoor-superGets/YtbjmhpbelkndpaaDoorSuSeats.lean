/- What the program asks of a record's seats. -/
import Derived.Test.YtbjmhpbelkndpaaDoorSuGood2
import Derived.Maps.OwnSet
namespace Go.Proofs.YtbjmhpbelkndpaaDoor
open Go.RowKit Go.PlainAid
open Go.Maps (Keyed IsMap)
set_option linter.unusedVariables false

theorem key3 : Keyed Tryd.prog 3 := Go.Maps.int_keyed Tryd.underlying3
theorem lit_i64 {x : Int} (h : -9223372036854775808 ≤ x ∧ x ≤ 9223372036854775807) : (Lit.int .i64 x).wf = true := by
  have e1 : IntKind.i64.min = -9223372036854775808 := rfl
  have e2 : IntKind.i64.max = 9223372036854775807 := rfl
  simp only [Lit.wf, e1, e2, Bool.and_eq_true, decide_eq_true_eq]
  omega
/-- The map of the members who have a seat, behind the first k seats. -/
def Sit (R : Rec) (w : World) (b k : Nat) : Prop := ∃ D : DataW Unit, w.ownsMap Tryd.prog 3 unitElem b k D ∧ Maps.Tidy D ∧ Maps.size D = nOf (fresh R) k ∧ ∀ x : Int, Maps.has D (.int .i64 x) = (decide (0 ≤ x) && decide (x < (R.nm : Int)) && decide (0 < cnt R x k))
theorem sit_made (R : Rec) (w : World) : Sit R (w.alloc (.map #[] 0)) w.heap.size 0 := ⟨.map [], World.ownsMap_made w _ _ _, Go.Maps.tidy_empty, rfl, fun x => by simp [Go.Maps.has, cnt, nOf]⟩
theorem Sit.kept {R : Rec} {F : Nat → Prop} {w w' : World} {b k : Nat} (h : Sit R w b k) (hk : Kept F w w') (hb : ¬ F b) : Sit R w' b k := by
  obtain ⟨D, h1, h2⟩ := h
  have hl := h1.lt
  obtain ⟨es, clock, h3, h4⟩ := h1
  exact ⟨D, ⟨es, clock, (hk.block b hl hb).trans h3, h4⟩, h2⟩
theorem Sit.below {R : Rec} {w w' : World} {b k : Nat} (h : Sit R w b k) (hb : Below w.heap.size w w') : Sit R w' b k := h.kept (F := fun _ => False) (Kept.ofBelow hb) (fun h => h)
theorem Sit.lt {R : Rec} {w : World} {b k : Nat} (h : Sit R w b k) : b < w.heap.size := by obtain ⟨D, h1, _⟩ := h; exact h1.lt
theorem cnt_succ (R : Rec) (x : Int) (k : Nat) : cnt R x (k + 1) = cnt R x k + (if R.seat k == x then 1 else 0) := rfl
theorem Sit.put {R : Rec} {w : World} {b k : Nat} (h : Sit R w b k) (hk : k ≤ 100) (h0 : 0 ≤ R.seat k) (h1 : R.seat k < (R.nm : Int)) (hn : R.nm ≤ 100) :
    ∃ w', (Instr.mapUpdate 94 (.map (some b)) (.int .i64 (R.seat k)) (.agg #[])).run Tryd.prog w = .ok () w' ∧ Sit R w' b (k + 1) ∧ Kept (fun i => i = b) w w' := by
  obtain ⟨D, d1, d2, d3, d4⟩ := h
  obtain ⟨w', hrun, h4, h5⟩ := d1.update key3 Tryd.underlying94 (by unfold maxLen; omega) (Go.Maps.keyOf_int_mk Tryd.underlying3 (lit_i64 (x := R.seat k) (by omega))) unitElem_mk
  refine ⟨w', hrun, ⟨_, h4, d2.put (show WideAt.IsKeyLit (.int _ _) from trivial) _, ?_, fun x => ?_⟩, ⟨h5.os, h5.tape, h5.output, h5.size, fun i hi hne => h5.block i hi (fun e => hne (Option.some.inj e))⟩⟩
  · rw [Go.Maps.size_put d2, d4, d3]
    show _ = nOf (fresh R) k + (if fresh R k then 1 else 0)
    unfold fresh
    rw [decide_eq_true h0, decide_eq_true h1]
    simp only [Bool.true_and]
    rcases Nat.eq_zero_or_pos (cnt R (R.seat k) k) with e | e
    · rw [e]; rfl
    · rw [decide_eq_true e, if_pos rfl, show (cnt R (R.seat k) k == 0) = false by simpa using Nat.ne_of_gt e]; rfl
  · by_cases e : x = R.seat k
    · subst e
      rw [Go.Maps.has_put_same d2.isMap (show WideAt.IsKeyLit (.int _ _) from trivial), decide_eq_true h0, decide_eq_true h1, cnt_succ]
      simp
    · rw [Go.Maps.has_put_other (fun e' => e (Lit.int.inj e').2), d4, cnt_succ, show (R.seat k == x) = false by simpa using Ne.symm e]
      simp
theorem Sit.skip {R : Rec} {w : World} {b k : Nat} (h : Sit R w b k) (h0 : ¬ (0 ≤ R.seat k ∧ R.seat k < (R.nm : Int))) : Sit R w b (k + 1) := by
  obtain ⟨D, d1, d2, d3, d4⟩ := h
  have hf : (decide (0 ≤ R.seat k) && decide (R.seat k < (R.nm : Int))) = false := by
    rw [Bool.and_eq_false_iff, decide_eq_false_iff_not, decide_eq_false_iff_not]; omega
  refine ⟨D, d1.mono (by omega), d2, ?_, fun x => ?_⟩
  · rw [d3]
    show _ = nOf (fresh R) k + (if fresh R k then 1 else 0)
    unfold fresh
    rw [hf]; rfl
  · rw [d4, cnt_succ]
    by_cases e : x = R.seat k
    · subst e; rw [hf]; rfl
    · rw [show (R.seat k == x) = false by simpa using Ne.symm e]; simp
theorem Sit.look {R : Rec} {w : World} {b k : Nat} (h : Sit R w b k) (i : Nat) (hi : i < R.nm) (hn : R.nm ≤ 100) : (Instr.lookup 94 (.map (some b)) (.int .i64 (i : Int)) true).run Tryd.prog w = .ok (.tuple #[.agg #[], .bool (decide (0 < cnt R (i : Int) k))]) w := by
  obtain ⟨D, d1, d2, d3, d4⟩ := h
  obtain ⟨v, ps, hrun, hv⟩ := d1.look_ok key3 Tryd.underlying94 (z := .agg #[]) (by
    obtain ⟨j, hj, hz⟩ := Option.map_eq_some_iff.1 (show (Tryd.prog.info? 96).map (fun i => i.zero) = some (some (.agg #[])) by kernel_rfl)
    simp [zeroValue, typeInfo, hj, hz]) unitElem_mk (Go.Maps.keyOf_int_mk Tryd.underlying3 (lit_i64 (x := (i : Int)) (by omega)))
  rw [(unitElem_inv hv).1, d4, decide_eq_true (show (0 : Int) ≤ (i : Int) by omega), decide_eq_true (show (i : Int) < (R.nm : Int) by omega), Bool.true_and, Bool.true_and] at hrun
  exact hrun
theorem Sit.len {R : Rec} {w : World} {b k : Nat} (h : Sit R w b k) (ty : TypeId) : (Builtin.len_ #[94] ty #[.map (some b)]).run Tryd.prog w = .ok (.int .i64 (nOf (fresh R) k : Nat)) w := by
  obtain ⟨D, d1, d2, d3, d4⟩ := h
  rw [d1.len Tryd.underlying94 ty, d3]
section
variable {R : Rec} {sa ma : Option Addr} {sc mc : Nat} {w : World}
set_option maxRecDepth 20000 in
set_option maxHeartbeats 400000 in
theorem ssitting_any (hs : R.ns ≤ 100) (hn : R.nm ≤ 100) (hL : Lies w R sa ma) : Calls Tryd.prog 47 #[.agg (supV R sa ma sc mc).toArray] w fun e w' => ∃ b, e = .returned (.map (some b)) ∧ w.heap.size ≤ b ∧ Sit R w' b R.ns ∧ Below w.heap.size w w' := by
  have hB : Hid (Below w.heap.size w (w.alloc (.cells (supV R sa ma sc mc).toArray 26))) := Below.refl w.heap.size w |>.alloc (Nat.le_refl _) (.cells (supV R sa ma sc mc).toArray 26)
  have hK : Hid (Blk _ w.heap.size 26 (supV R sa ma sc mc)) := Blk.box w 26 (supV R sa ma sc mc)
  have HL : Hid (Lies w R sa ma) := hL
  have hM := sit_made R (w.alloc (.cells (supV R sa ma sc mc).toArray 26))
  rw [World.size_alloc] at hM
  have HM : Hid (Sit R _ (w.heap.size + 1) 0) := hM
  have HK2 : Hid (Blk _ w.heap.size 26 (supV R sa ma sc mc)) := hK.out.alloc (.map #[] 0)
  have HB2 : Hid (Below w.heap.size w _) := hB.out.alloc (by simp) (.map #[] 0)
  obtain ⟨L, hLL⟩ : ∃ L, supV R sa ma sc mc = L := ⟨_, rfl⟩
  have c8 : L[8]? = some (.slice ma R.nm mc) := by rw [← hLL]; rfl
  have c7 : L[7]? = some (.slice sa R.ns sc) := by rw [← hLL]; rfl
  rw [hLL] at hK hB HM HK2 HB2 ⊢
  have c7' := HK2.out.cell c7
  have HC : Hid (L[8]? = some (.slice ma R.nm mc)) := c8
  clear hL hM hLL c8 c7 hB hK
  have hmm := @run_makeMap Tryd.prog
  go_enter Tryd.func47, Tryd.ntmps47
  go_wp2
  clear c7'
  go_loopw [10] (fun i wr => ∃ k : Nat, k ≤ R.ns ∧ i = .int .i64 (k : Int) ∧ Hid (Below w.heap.size w wr) ∧ Hid (Blk wr w.heap.size 26 L) ∧ Hid (Sit R wr (w.heap.size + 1) k)) (fun i _ => R.ns - (intOf i).toNat)
  case atStart => exact ⟨0, Nat.zero_le _, rfl, HB2.out, HK2.out, HM.out⟩
  case round =>
    clear HB2 HK2 HM
    obtain ⟨k, hk, rfl, hb, hbx, hsit⟩ := hrel
    by_cases hlt : k < R.ns
    · have hk' : (k : Int) < (R.ns : Int) := by omega
      obtain ⟨b, o, rfl, hr⟩ := HL.out.1.at hb.out k hlt
      have c8' := hbx.out.cell HC.out
      by_cases h0 : 0 ≤ R.seat k
      · by_cases h1 : R.seat k < (R.nm : Int)
        · obtain ⟨w2, hrun, hs2, hk2⟩ := hsit.out.put (by omega) h0 h1 hn
          have hB3 : Hid (Below w.heap.size w w2) := hk2.below hb.out hb.out.size (fun i e => by rw [e]; omega)
          have hK3 : Hid (Blk w2 w.heap.size 26 L) := hbx.out.kept hk2 (by omega)
          have hS3 : Hid (Sit R w2 (w.heap.size + 1) (k + 1)) := hs2
          clear hs2 hk2 hb hbx hsit
          go_wp2
          go_roundw
          case rel => exact ⟨k + 1, by omega, by go_num, hB3.out, hK3.out, hS3.out⟩
          case measure => simp [intOf]; omega
        · have hS3 : Hid (Sit R wr (w.heap.size + 1) (k + 1)) := hsit.out.skip (fun h => h1 h.2)
          clear hsit
          go_wp2
          go_roundw
          case rel => exact ⟨k + 1, by omega, by go_num, hb.out, hbx.out, hS3.out⟩
          case measure => simp [intOf]; omega
      · have hS3 : Hid (Sit R wr (w.heap.size + 1) (k + 1)) := hsit.out.skip (fun h => h0 h.1)
        clear hsit
        go_wp2
        go_roundw
        case rel => exact ⟨k + 1, by omega, by go_num, hb.out, hbx.out, hS3.out⟩
        case measure => simp [intOf]; omega
    · obtain rfl : k = R.ns := by omega
      have hk' : ¬ (R.ns : Int) < (R.ns : Int) := by omega
      go_wp2
      go_ret
      exact ⟨_, rfl, by omega, hsit.out, hb.out⟩
end
end Go.Proofs.YtbjmhpbelkndpaaDoor
