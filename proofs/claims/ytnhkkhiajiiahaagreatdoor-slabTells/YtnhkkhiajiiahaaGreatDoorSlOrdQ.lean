/- A map's writes in order, by the program. -/
import Derived.Test.YtnhkkhiajiiahaaGreatDoorSlMapQ
import Derived.Test.YtnhkkhiajiiahaaGreatDoorSlRowQ
import Derived.Test.YtnhkkhiajiiahaaGreatDoorSlTreeQ
namespace Go.Proofs.YtnhkkhiajiiahaaGreatDoor
open Go.RowKit Go.PlainAid
set_option linter.unusedVariables false
set_option maxRecDepth 20000
/-- The first j of them. -/
def woL (o : Nat) (f : Nat → Option ByteArray) (j : Nat) : List Wr := ((ksN f).take j).map fun k => (o + k, (f k).getD noB)
theorem woL_succ (o : Nat) (f : Nat → Option ByteArray) (j k : Nat) (h : (ksN f)[j]? = some k) : woL o f (j + 1) = woL o f j ++ [(o + k, (f k).getD noB)] := by
  unfold woL
  rw [List.take_add_one, h, List.map_append]; rfl
theorem slL_filter (o : Nat) (f : Nat → Option ByteArray) : ∀ m, slL o f m = ((List.range m).filter fun k => (f k).isSome).map fun k => (o + k, (f k).getD noB)
  | 0 => rfl
  | m + 1 => by
    show slL o f m ++ _ = _
    rw [slL_filter o f m, List.range_succ, List.filter_append, List.map_append]
    congr 1
    cases h : f m with
    | none => simp [h]
    | some p => simp [h]
theorem woL_all (o : Nat) (f : Nat → Option ByteArray) : woL o f (ksN f).length = slL o f 16 := by
  unfold woL
  rw [List.take_length, slL_filter]; rfl
theorem woL_length (o : Nat) (f : Nat → Option ByteArray) (j : Nat) (h : j ≤ (ksN f).length) : (woL o f j).length = j := by
  unfold woL
  rw [List.length_map, List.length_take]; omega
theorem slL_length (o : Nat) (f : Nat → Option ByteArray) : (slL o f 16).length = (ksN f).length := by rw [← woL_all, woL_length _ _ _ (Nat.le_refl _)]
theorem Tryz.infoWr17 : (Tryz.prog.info? 104).map (fun i => (i.zero, i.size, i.bytes)) = some (some (.agg #[.int .i64 0, .string noB]), 2, 24) := by kernel_rfl
theorem push_wr {B : Nat} {w0 w : World} {R : Asn} {v : Value} {m : Nat} {q : List Wr} (hR : Firm R) (h : Hold B w0 w (star (rowK 104 2 v m (pairs q)) R)) (hm : m ≤ 1000) (p : Wr) :
    ∃ a c w', (Builtin.append_ #[50, 50] 50 #[v, .slice (some ⟨w.heap.size, 0, none⟩) 1 1]).run Tryz.prog (w.alloc (.cells #[.int .i64 (p.1 : Int), .string p.2] 104)) = .ok (.slice a (m + 1) c) w' ∧ Hold B w0 w' (star (rowK 104 2 (.slice a (m + 1) c) (m + 1) (pairs (q ++ [p]))) R) := by
  obtain ⟨a, c, w', h1, h2⟩ := push_one hR 50 104 50 _ 2 24 Tryz.underlying50 Tryz.infoWr17 rfl (by decide) (by decide) h hm [.int .i64 (p.1 : Int), .string p.2] rfl (fun u hu => by
    simp only [List.mem_cons, List.not_mem_nil, or_false] at hu
    rcases hu with rfl | rfl <;> rfl)
  refine ⟨a, c, w', h1, ?_⟩
  rw [pairs_append]; exact h2
set_option maxHeartbeats 1000000 in
theorem inOrder_any {w : World} {b o n : Nat} {f : Nat → Option ByteArray} (h : MapW w b o n f) (hn : n ≤ 1000000) : Calls Tryz.prog 47 #[.map (some b)] w fun e w' => ∃ v, e = .returned v ∧ w'.ownsRow w.heap.size 104 2 v (slL o f 16).length (pairs (slL o f 16)) ∧ ((slL o f 16).length = 0 → v = .slice none 0 0) ∧ Below w.heap.size w w' := by
  have hR := rising_any h hn
  have HM : Hid (MapW w b o n f) := h
  have HL := ksN_length f
  have HE : Hid ((slL o f 16).length = (ksN f).length ∧ slL o f 16 = woL o f (ksN f).length) := ⟨slL_length o f, (woL_all o f).symm⟩
  have HKS : Hid (∀ j : Nat, j < (ksN f).length → ∃ k : Nat, (ksN f)[j]? = some k ∧ k < 16 ∧ ∃ c, f k = some c) := fun j hj => by
    refine ⟨(ksN f)[j], List.getElem?_eq_getElem hj, ?_⟩
    obtain ⟨h1, h2⟩ := ksN_mem.1 (List.getElem_mem hj)
    exact ⟨h1, Option.ne_none_iff_exists'.1 h2⟩
  generalize hmm : (ksN f).length = m at *
  clear h hn
  go_enter Tryz.func47, Tryz.ntmps47
  go_wp2_with (go_at_call 93; refine hR.mono ?_; rintro e w1 ⟨v1, rfl, hrow, hb1⟩; obtain ⟨a1, c1, rfl⟩ := owns_form hrow; have H1 : Hid (Hold w.heap.size w w1 (star (rowK 104 2 (.slice none 0 0) 0 (pairs (woL o f 0))) (star (rowK 3 1 (.slice a1 m c1) m ((ksL f).map encZ)) nought))) := ((hold_nought w.heap.size w w (Nat.le_refl _) (Below.refl _ _)).newRow firm_nought hb1 hrow).mono fun F h => star_nil17 h; clear hrow hb1 hR)
  go_loopw [3, 9] (fun v i wr => ∃ (k c : Nat) (s : Option Addr), k ≤ m ∧ i = .int .i64 (k : Int) ∧ v = .slice s k c ∧ Hid (k = 0 → s = none ∧ c = 0) ∧ Hid (Hold w.heap.size w wr (star (rowK 104 2 (.slice s k c) k (pairs (woL o f k))) (star (rowK 3 1 (.slice a1 m c1) m ((ksL f).map encZ)) nought)))) (fun _ i _ => m - (intOf i).toNat)
  case atStart => exact ⟨0, 0, none, Nat.zero_le _, rfl, rfl, fun _ => ⟨rfl, rfl⟩, H1.out⟩
  case round =>
    clear H1
    obtain ⟨k, c, s, hk, rfl, rfl, hno, hh⟩ := hrel
    by_cases hlt : k < m
    · have hk' : (k : Int) < (m : Int) := by omega
      obtain ⟨q, hq, q1, d, hd⟩ := HKS.out k hlt
      have hqi : ((ksL f).map encZ)[k]? = some (.int .i64 (q : Int)) := by
        unfold ksL; rw [List.getElem?_map, List.getElem?_map, hq]; rfl
      obtain ⟨g1, hg1, hcell⟩ := owns_cell hh.out.right.rowK hqi
      subst hg1
      have hM := (HM.out.below hh.out.low).look q1 hd
      have hlk := hM.2
      have HP : Hid (∃ a c' w', _ ∧ _) := push_wr ((firm_rowK _ _ _ _ _).star firm_nought) hh.out (by omega) (o + q, d)
      have HW : Hid (woL o f (k + 1) = woL o f k ++ [(o + q, d)]) := by rw [woL_succ o f k q hq, hd]; rfl
      obtain ⟨s', c', w6, hrun, h6⟩ := HP.out
      have H6 : Hid (Hold w.heap.size w w6 (star (rowK 104 2 (.slice s' (k + 1) c') (k + 1) (pairs (woL o f (k + 1)))) (star (rowK 3 1 (.slice (some ⟨g1, 0, none⟩) m c1) m ((ksL f).map encZ)) nought))) := by rw [HW.out]; exact h6
      clear HP h6 hM hh hqi
      go_wp2_with (at_builtin; refine Lib.wpList_append_run _ rfl _ _ 50 50 rfl _ _ rfl rfl _ _ hrun ?_)
      go_roundw
      case rel => exact ⟨k + 1, c', s', by omega, by go_num, rfl, fun h => absurd h (by omega), H6.out⟩
      case measure => simp [intOf]; omega
    · obtain rfl : k = m := by omega
      have hk' : ¬ (k : Int) < (k : Int) := by omega
      go_wp2
      go_ret
      exact ⟨_, rfl, by rw [HE.out.1, HE.out.2]; exact hh.out.rowBack, fun h0 => by
        have e0 := HE.out.1
        rw [h0] at e0
        have e1 : k = 0 := e0.symm
        obtain ⟨rfl, rfl⟩ := hno.out e1
        subst e1
        rfl, hh.out.low⟩
end Go.Proofs.YtnhkkhiajiiahaaGreatDoor
