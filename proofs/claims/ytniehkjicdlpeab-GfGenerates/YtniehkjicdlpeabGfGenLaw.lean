/- What the Go function GfGenerates answers: true, for every number. -/
import Derived.Test.YtniehkjicdlpeabGfTables
import Derived.Test.YtniehkjicdlpeabGfTo
namespace Go.Proofs.Ytniehkjicdlpeab
open Go.RowKit
set_option linter.unusedVariables false

/-- Which elements have been met behind k rounds. -/
def met (n k j : Nat) : Bool := (List.range k).any fun i => gp 2 (n + i) == j
def metRow (n k : Nat) : List Value := (List.range 256).map fun j => .bool (met n k j)
theorem metRow_length (n k : Nat) : (metRow n k).length = 256 := by simp [metRow]
theorem met_succ (n k j : Nat) : met n (k + 1) j = (met n k j || gp 2 (n + k) == j) := by
  unfold met; rw [List.range_succ, List.any_append]; simp
theorem met_new (n k : Nat) (hk : k < 255) : met n k (gp 2 (n + k)) = false := by
  unfold met
  rw [List.any_eq_false]
  intro i hi
  have hi' : i < k := by simpa using hi
  have := ex_inj_lt (n + i) (n + k) (by omega) (by omega)
  simpa using this
theorem metRow_get (n k j : Nat) (h : j < 256) : (metRow n k)[j]? = some (.bool (met n k j)) := by
  unfold metRow; rw [List.getElem?_map, List.getElem?_range h]; rfl
theorem metRow_set (n k : Nat) : (metRow n k).set (gp 2 (n + k)) (.bool true) = metRow n (k + 1) := by
  apply List.ext_getElem
  · simp only [List.length_set, metRow_length]
  · intro j h1 h2
    rw [List.getElem_set]
    simp only [metRow, List.getElem_map, List.getElem_range, met_succ]
    by_cases e : gp 2 (n + k) = j
    · rw [if_pos e]; simp [e]
    · rw [if_neg e]; simp [e]
def zB : Array Value := Array.replicate 256 (.bool false)
theorem zB_list : zB.toList = (List.range 256).map (fun _ => Value.bool false) := by kernel_rfl
theorem metRow_zero (n : Nat) : zB.toList = metRow n 0 := by
  rw [zB_list]; rfl
theorem Try.zero25 : (Try.prog.info? 25).map (fun i => i.zero) = some (some (.agg zB)) := by kernel_rfl
theorem zeroB_run (w : World) : (zeroValue 25).run Try.prog w = .ok (.agg zB) w := by
  obtain ⟨i, hi, hz⟩ := Option.map_eq_some_iff.1 Try.zero25
  simp [zeroValue, typeInfo, hi, hz]
theorem IsTab.other {w : World} {g : Nat} (h : IsTab w g) {a : Addr} (ha : a.block ≠ g) (u : Value) : IsTab (w.setCell a u) g :=
  ⟨fun x hx hz => (World.cell?_setCell_other w a ⟨g, x, none⟩ u (fun e => ha (by rw [e]))).trans (h.1 x hx hz),
   fun i hi => (World.cell?_setCell_other w a ⟨g, 256 + i, none⟩ u (fun e => ha (by rw [e]))).trans (h.2 i hi)⟩

set_option maxRecDepth 20000 in
set_option maxHeartbeats 1000000 in
theorem gen_walk (a0 : Int) (w0 : (Lit.int .i64 a0).wf = true) (w : World) :
    Calls Try.prog 3 #[.int .i64 a0] w fun e w' => e = .returned (.bool true) ∧ Below w.heap.size w w' := by
  have h : bits .and .i64 a0 1048575 = a0 % 1048576 := andMask_i64 a0 20 (by omega)
  obtain ⟨n, hn⟩ : ∃ n : Nat, a0 % 1048576 = (n : Int) := ⟨(a0 % 1048576).toNat, by omega⟩
  have hnb : n < 1048576 := by omega
  rw [hn] at h
  clear hn
  have hzr := zeroB_run
  have hzl := metRow_zero n
  have hzs : zB.size = 256 := by kernel_rfl
  generalize zB = Z at hzr hzl hzs
  go_enter Try.func3, Try.ntmps3
  go_wp2_with fail
  go_at_call 6
  refine (gfTables_any _).mono ?_
  rintro e x1 ⟨rfl, ht, hb⟩
  obtain ⟨G, hG⟩ : ∃ G, w.heap.size = G := ⟨_, rfl⟩
  rw [hG] at ht ⊢
  go_wp2_with fail
  have hGlt : G < x1.heap.size := ht.lt
  have hown0 : (x1.alloc (.cells Z 25)).ownsRow w.heap.size 25 1 (.slice (some ⟨x1.heap.size, 0, none⟩) 256 256) 256 (metRow n 0) :=
    ⟨by rw [metRow_length], .inr ⟨x1.heap.size, 256, Z, rfl, hb.size, heap_alloc_new x1 _, Nat.le_refl _, by unfold maxLen; omega, by rw [hzs], by rw [hzl]; exact List.take_of_length_le (by rw [metRow_length]; omega)⟩⟩
  have hbel0 := hb.alloc hb.size (.cells Z 25)
  have ht0 := ht.below ((Below.refl _ x1).alloc (Nat.le_refl _) (.cells Z 25))
  have hB : w.heap.size ≤ x1.heap.size := hb.size
  clear hzr hzl hzs ht hb
  generalize x1.alloc (.cells Z 25) = ws at hown0 hbel0 ht0 ⊢
  generalize x1.heap.size = B at hown0 hGlt hB ⊢
  go_loopw [18] (fun i wr => ∃ k : Nat, k ≤ 255 ∧ i = .int .i64 (k : Int) ∧ wr.ownsRow w.heap.size 25 1 (.slice (some ⟨B, 0, none⟩) 256 256) 256 (metRow n k) ∧ IsTab wr G ∧ Below w.heap.size w wr) (fun i _ => (255 - intOf i).toNat)
  case atStart => exact ⟨0, by omega, rfl, hown0, ht0, hbel0⟩
  case round =>
    obtain ⟨k, hk, rfl, hown, ht, hbel⟩ := hrel
    by_cases hlt : k < 255
    · have hlt' : (k : Int) < 255 := by omega
      have hp := gp_lt 2 (n + k) (by omega)
      have hpz := gp_ne 2 (n + k) (by omega) (by omega)
      have hE : gpow 2 ((n : Int) + (k : Int)) = gp 2 (n + k) := by rw [← gpow_nat 2 (n + k) (by omega)]; congr 1
      have hL : ((lg (gp 2 (n + k)) : Nat) : Int) = ((n : Int) + (k : Int)) % 255 := by rw [lg_ex_mod]; omega
      have hc := World.ownsRow.cellAt hown (gp 2 (n + k)) (by omega)
      rw [metRow_get n k _ hp, met_new n k hlt] at hc
      have hf := World.ownsRow.frozenAt hown (gp 2 (n + k))
      have hst := (World.ownsRow.stored hown (gp 2 (n + k)) (.bool true)).1
      rw [metRow_set] at hst
      clear hown
      obtain ⟨P, hP⟩ : ∃ P, gp 2 (n + k) = P := ⟨_, rfl⟩
      rw [hP] at hp hpz hE hL hc hf hst
      clear hP
      have hpb : ((P : Int) == 0) = false := by simp; omega
      go_wp2_with fail
      go_at_call 7
      refine (tabExp_any G ((n : Int) + (k : Int)) (by omega) (by omega) _ ht).mono ?_
      rw [hE]
      rintro e w' ⟨rfl, m, rfl⟩
      have ht2 := ht.drewN m
      have hc2 : (wr.drewN m).cell? ⟨B, P, none⟩ = some (.bool false) := hc
      have hf2 : (wr.drewN m).frozen? ⟨B, P, none⟩ = false := hf
      have hst2 : ((wr.drewN m).setCell ⟨B, P, none⟩ (.bool true)).ownsRow w.heap.size 25 1 (.slice (some ⟨B, 0, none⟩) 256 256) 256 (metRow n (k + 1)) := hst
      have hbel2 := below_drewN hbel m
      generalize wr.drewN m = wz at ht2 hc2 hf2 hst2 hbel2 ⊢
      clear hc hf hst hbel ht hE
      go_wp2_with fail
      go_at_call 8
      refine (tabLog_any G P hp hpz _ ht2).mono ?_
      rw [hL]
      rintro e w' ⟨rfl, rfl⟩
      go_wp2_with fail
      go_roundw
      case rel => exact ⟨k + 1, by omega, by go_num, hst2, ht2.other (by simp; omega) _, hbel2.setCell hB _⟩
      case measure => simp [intOf]; omega
    · have hk255 : k = 255 := by omega
      subst hk255
      go_wp2_with fail
      go_ret
      exact ⟨rfl, hbel⟩
end Go.Proofs.Ytniehkjicdlpeab
