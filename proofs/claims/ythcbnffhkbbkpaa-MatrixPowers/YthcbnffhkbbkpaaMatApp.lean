/- Rows copied and filled up by append. -/
import Derived.Test.YthcbnffhkbbkpaaMatSame
import Derived.Lib.AppendZeros
import Derived.Laws.OwnMore
namespace Go.Proofs.Ythcbnffhkbbkpaa
open Go.RowKit Go.PlainAid
set_option linter.unusedVariables false

def zeros8 (n : Nat) : List Value := List.replicate n (.int .u8 0)
theorem zeroCells8 (n : Nat) : Builtin.zeroCells (Value.int .u8 0).cells n = (zeros8 n).toArray := by
  have h : (Value.int .u8 0).cells = #[Value.int .u8 0] := rfl
  rw [h]
  unfold Builtin.zeroCells zeros8
  apply Array.ext
  · simp
  · intro i h1 h2
    simp [Nat.mod_one]

theorem run_append_zeros (w : World) (base : Nat) (v : Value) (l n : Nat) (xs : List Value) (hown : w.ownsRow base 5 1 v l xs) (hn : 1 ≤ n) (hl : l + n ≤ 1000) (hb : base ≤ w.heap.size) (ty : TypeId) :
    ∃ v' w', (Builtin.append_ #[48, 3] ty #[v, .int .i64 (n : Int)]).run Try.prog w = .ok v' w' ∧ w'.ownsRow base 5 1 v' (l + n) (xs ++ zeros8 n) ∧ w.grownBy w' v.ownBlock := by
  obtain ⟨i, hi, hz0, hz1, hz2⟩ := info_parts Try.info5
  have hxl := hown.1
  have hw : IntKind.i64.wrap (n : Int) = n := by rw [IntKind.wrap_i64]; omega
  have hneg : ¬ ((n : Int) < 0) := by omega
  have hn0 : n ≠ 0 := by omega
  rcases hown.2 with ⟨rfl, rfl⟩ | ⟨g, cap, cur, rfl, hbg, hg, hnc, hcm, hcs, htake⟩
  · have hx : xs = [] := List.eq_nil_of_length_eq_zero (by simpa using hxl)
    subst hx
    have hr := Lib.run_append_nil_zeros (P := Try.prog) w 48 3 ty 5 i (.int .u8 0) .i64 .i64 Try.underlying48 Try.underlying3 hi hz0 n (by omega) (by omega) (by omega) (by rw [hz2]; omega)
    refine ⟨_, _, hr, ?_, ⟨rfl, rfl, rfl, by simp, fun k hk _ => Below.heap_alloc w.drew _ k hk⟩⟩
    have hge := grownCap_ge w n 0 5
    have hcm : grownCap w n 0 5 ≤ maxLen := grownCap_le_maxLen w n 0 5 (by unfold maxLen; omega)
    rw [Nat.zero_add, List.nil_append]
    refine ⟨by simp [zeros8], .inr ⟨w.heap.size, _, _, rfl, hb, heap_alloc_new w.drew _, hge, hcm, ?_, ?_⟩⟩
    · simp only [Array.size_append, size_zeroCells]
      have : (Value.int .u8 0).cells.size = 1 := rfl
      rw [this]
      omega
    · rw [zeroCells8]
      simp only [Array.toList_append]
      rw [List.take_left' (by simp [zeros8])]
  · have hcs' : cur.size = cap := by omega
    by_cases hroom : l + n ≤ cap
    · have hst := run_storeCells_at Try.prog g l 5 (zeros8 n) 0 cur w hg (by simp [zeros8]; omega) (fun v hv => by
        rw [List.eq_of_mem_replicate hv]; rfl)
      simp only [Nat.add_zero] at hst
      have hz8 := zeroCells8 n
      have h48i : ¬ (281474976710656 < (n : Int) * (i.bytes : Int)) := by rw [hz2]; omega
      have hr : (Builtin.append_ #[48, 3] ty #[.slice (some ⟨g, 0, none⟩) l cap, .int .i64 (n : Int)]).run Try.prog w = .ok (.slice (some ⟨g, 0, none⟩) (l + n) cap) (w.setRow g (cur.toList.take l ++ zeros8 n ++ cur.toList.drop (l + (zeros8 n).length)).toArray) := by
        simp [Builtin.append_, run_underlying Try.underlying48, run_underlying Try.underlying3, sizeOf, typeInfo, zeroValue, hi, hz0, hz1, asInt, asIntOf, hw, hneg, hn0, h48i, hroom, hz8, Addr.add_lit, hst]
      refine ⟨_, _, hr, ⟨by simp [zeros8]; omega, .inr ⟨g, cap, _, rfl, hbg, setRow_heap w g cur _ 5 _ hg, hroom, hcm, ?_, ?_⟩⟩, ?_⟩
      · simp [zeros8]; omega
      · have e1 : cur.toList.take l = xs := by rw [← htake]; simp
        rw [e1]
        show List.take ((l + n) * 1) (xs ++ zeros8 n ++ _) = _
        rw [List.take_left' (by simp [zeros8]; omega)]
      · exact ⟨rfl, rfl, rfl, by simp, fun k _ hk => setRow_other w g k _ (fun e => hk (by simp [Value.ownBlock, e]))⟩
    · have holds : ∀ j u, xs[j]? = some u → w.cell? ((⟨g, 0, none⟩ : Addr).add j) = some u := hown.cells (g := g) rfl
      have hfo := run_firstCells_some (P := Try.prog) w.drew 1 l ⟨g, 0, none⟩ l cap xs hxl (by simpa using holds)
      have h63' : ¬ (9223372036854775807 < ((l : Int) + (n : Int))) := by omega
      have h48' : ¬ (281474976710656 < Builtin.nextslicecap (l + n) cap) := by
        have := growslice_fits (need := l + n) (old := cap) (bytes := 1) (by omega) (by omega)
        omega
      have h48i : ¬ (281474976710656 < (n : Int)) := by omega
      have hr : (Builtin.append_ #[48, 3] ty #[.slice (some ⟨g, 0, none⟩) l cap, .int .i64 (n : Int)]).run Try.prog w = .ok (.slice (some ⟨w.heap.size, 0, none⟩) (l + n) (grownCap w (l + n) cap 5))
          (w.drew.alloc (.cells (xs.toArray ++ Builtin.zeroCells (Value.int .u8 0).cells n ++ Builtin.zeroCells (Value.int .u8 0).cells (grownCap w (l + n) cap 5 - (l + n))) 5)) := by
        simp [Builtin.append_, run_underlying Try.underlying48, run_underlying Try.underlying3, sizeOf, typeInfo, zeroValue, hi, hz0, hz1, hz2, asInt, asIntOf, hw, hneg, hn0, h48i, hroom, h63', h48', Question.forced, hfo, newRow, grownCap]
      refine ⟨_, _, hr, ?_, ⟨rfl, rfl, rfl, by simp, fun k hk _ => Below.heap_alloc w.drew _ k hk⟩⟩
      have hge := grownCap_ge w (l + n) cap 5
      have hcm' : grownCap w (l + n) cap 5 ≤ maxLen := grownCap_le_maxLen w (l + n) cap 5 (by unfold maxLen; omega)
      refine ⟨by simp [zeros8]; omega, .inr ⟨w.heap.size, _, _, rfl, hb, heap_alloc_new w.drew _, hge, hcm', ?_, ?_⟩⟩
      · simp only [Array.size_append, size_zeroCells]
        have : (Value.int .u8 0).cells.size = 1 := rfl
        rw [this]
        simp
        omega
      · rw [zeroCells8]
        simp only [Array.toList_append]
        rw [List.take_left' (by simp [zeros8]; omega)]
end Go.Proofs.Ythcbnffhkbbkpaa
