/- What the program's lengths answers, of every two texts. -/
import Derived.Test.YtnpebabffnjmmaaAePlain
import Derived.Test.YtnpebabffnjmmaaJoin
namespace Go.Proofs.Ytnpebabffnjmmaa
open Go.RowKit Go.PlainAid
set_option linter.unusedVariables false

set_option maxHeartbeats 1000000 in
set_option maxRecDepth 20000 in
theorem lengths_any (a b : ByteArray) (g : Nat) (w : World) (ha : a.size ≤ 1000000) (hb : b.size ≤ 1000000) (h0 : w.cell? ⟨g, 0, none⟩ = some (.string a)) (h1 : w.cell? ⟨g, 1, none⟩ = some (.string b)) (hg : g < w.heap.size) :
    Calls Try.prog 31 #[.slice (some ⟨g, 0, none⟩) 2 2] w fun e w' => e = .returned (.string (lnB a.size b.size)) ∧ Below w.heap.size w w' := by
  obtain ⟨i0, hi, hz0, hz1, hz2⟩ := info_parts Try.info42
  obtain ⟨S, hS⟩ : ∃ S : Nat → ByteArray, S = fun k => if k = 0 then a else b := ⟨_, rfl⟩
  have hSc : ∀ k, k < 2 → w.cell? ⟨g, k, none⟩ = some (.string (S k)) := fun k hk => by
    have e : k = 0 ∨ k = 1 := by omega
    rcases e with rfl | rfl
    · rw [hS]; exact h0
    · rw [hS]; exact h1
  have hSs : ∀ k, (S k).size ≤ 1000000 := fun k => by rw [hS]; show (if k = 0 then a else b).size ≤ _; split <;> assumption
  have hSl : ∀ k, k < 2 → lw4 a.size b.size (2 * k) = ((S k).size : Int) ∧ lw4 a.size b.size (2 * k + 1) = 0 := fun k hk => by
    have e : k = 0 ∨ k = 1 := by omega
    rcases e with rfl | rfl
    · rw [hS]; unfold lw4 dg; simp; omega
    · rw [hS]; unfold lw4 dg; simp; omega
  have HL : Hid (strOfNums (joinF four (lw4 a.size b.size) 4) = lnB a.size b.size) := lw4_text _ _
  have hlo := fun i => lw4_lo a.size b.size i
  generalize lnB a.size b.size = X at HL ⊢
  generalize lw4 a.size b.size = L at HL hSl hlo
  clear hS h0 h1 ha hb
  go_enter Try.func31, Try.ntmps31
  go_wp2_with fail
  go_loopw [3, 9] (fun v i wr => ∃ k : Nat, k ≤ 2 ∧ i = .int .i64 k ∧ wr.ownsRow w.heap.size 42 1 v (2 * k) ((List.range (2 * k)).map fun i => .int .u32 (L i)) ∧ Below w.heap.size w wr) (fun _ i _ => 2 - (intOf i).toNat)
  case atStart => exact ⟨0, by omega, rfl, World.ownsRow_nil _ _ _ _, Below.refl _ _⟩
  case round =>
    obtain ⟨k, hk, rfl, hown, hbel⟩ := hrel
    by_cases hlt : k < 2
    · have hc : wr.cell? ⟨g, k, none⟩ = some (.string (S k)) := (hbel.cell (p := ⟨g, k, none⟩) hg).trans (hSc k hlt)
      have hss := hSs k
      obtain ⟨l0, l1⟩ := hSl k hlt
      have hI : (k : Int) < 2 := by omega
      generalize S k = s at hc hss l0
      go_wp2_with (at_builtin; refine wpList_append_own _ rfl _ _ 65 rfl w.heap.size 42 i0 (.int .u32 0) 1 4 Try.underlying65 hi hz0 hz1 hz2 rfl (by decide) _ _ _ rfl (hown.alloc _) ⟨wr.heap.size, 0, none⟩ 2 2 [.int .u32 (s.size : Int), .int .u32 0] rfl rfl ?c1 ?c2 ?c3 ?c4 ?c5 ?_)
      case c1 =>
        intro j u hj
        match j, hj with
        | 0, hj => simp at hj; subst hj; simp [Addr.add]
        | 1, hj => simp at hj; subst hj; simp [Addr.add]; omega
        | j + 2, hj => simp at hj
      case c2 => intro u hu; simp at hu; rcases hu with rfl | rfl <;> rfl
      case c3 => unfold maxLen; omega
      case c4 => omega
      case c5 => have := hbel.size; simp; omega
      · intro v' w1 hown' hgrow _
        have hbel' : Below w.heap.size w w1 := by
          refine Below.grown (hbel.alloc hbel.size _) hgrow ?_ ?_
          · have := hbel.size; simp; omega
          · intro g hg; exact (hown.lt g hg).1
        have R : w1.ownsRow w.heap.size 42 1 v' (2 * (k + 1)) ((List.range (2 * (k + 1))).map fun i => .int .u32 (L i)) := by
          rw [show 2 * (k + 1) = 2 * k + 1 + 1 by omega, List.range_succ, List.range_succ, List.map_append, List.map_append, List.append_assoc, List.map_singleton, List.map_singleton, l0, l1]
          exact hown'
        clear hown' hgrow hown hbel
        go_wp2
        go_roundw
        case rel => exact ⟨k + 1, by omega, by go_num, R, hbel'⟩
        case measure => simp [intOf]; omega
    · have hkn : k = 2 := by omega
      subst hkn
      obtain ⟨A, cap, rfl, hAt⟩ := At_owns hown
      go_wp2_with fail
      refine (fromLittle_any A cap 4 L wr (by omega) hAt (fun i _ => hlo i)).mono ?_
      rintro e w2 ⟨rfl, hb2⟩
      rw [HL.out]
      go_wp2_with fail
      go_ret
      exact ⟨rfl, hbel.trans (hb2.mono hbel.size)⟩
end Go.Proofs.Ytnpebabffnjmmaa
