/- What the Go function GfTables answers: true, for every two elements and every exponent. -/
import Derived.Test.YtniehkjicdlpeaaGfTables
import Derived.Test.YtniehkjicdlpeaaGfRefPow
import Derived.Test.YtniehkjicdlpeaaGfTo
namespace Go.Proofs.Ytniehkjicdlpeaa
open Go.RowKit
set_option linter.unusedVariables false

/-- A logarithm, and its error. -/
def lx (a : Nat) : Int := if a = 0 then 0 else (lg a : Int)
def le (a : Nat) : Int := if a = 0 then 6 else 0
theorem tabLog_both (g a : Nat) (ha : a < 256) (w : World) (ht : IsTab w g) :
    Calls Try.prog 21 #[.pointer (some ⟨g, 0, none⟩), .int .u8 (a : Int)] w fun e w' => e = .returned (.tuple #[.int .i64 (lx a), .int .i64 (le a)]) ∧ w' = w := by
  by_cases hz : a = 0
  · subst hz; exact tabLog_zero g w
  · unfold lx le; rw [if_neg hz, if_neg hz]; exact tabLog_any g a ha hz w ht
theorem refLog_both (a : Nat) (ha : a < 256) (w : World) :
    Calls Try.prog 22 #[.int .u8 (a : Int)] w fun e w' => e = .returned (.tuple #[.int .i64 (lx a), .int .i64 (le a)]) ∧ Below w.heap.size w w' := by
  have := refLog_any a ha w
  unfold lx le
  by_cases hz : a = 0
  · simp only [if_pos hz] at this ⊢; exact this
  · simp only [if_neg hz] at this ⊢; exact this

set_option maxHeartbeats 2000000 in
theorem tables_none (A : Nat) (hA : A < 256) (a2 : Int) (hn : -9223372036854775808 ≤ a2 ∧ a2 ≤ 9223372036854775807) (w : World) :
    Calls Try.prog 7 #[.int .u8 (A : Int), .int .u8 0, .int .i64 a2] w fun e w' => e = .returned (.bool true) ∧ Below w.heap.size w w' := by
  have hz : gm A 0 = 0 := gm_zero A
  go_enter Try.func7, Try.ntmps7
  go_wp2_with fail
  go_at_call 20
  refine (gfTables_any _).mono ?_
  rintro e w1 ⟨rfl, ht, hb⟩
  obtain ⟨G, hG⟩ : ∃ G, w.heap.size = G := ⟨_, rfl⟩
  rw [hG] at ht ⊢
  go_wp2_with fail
  go_at_call 21
  refine (tabLog_both G A hA _ ht).mono ?_
  rintro e w' ⟨rfl, rfl⟩
  go_wp2_with fail
  go_at_call 22
  refine (refLog_both A hA _).mono ?_
  rintro e w2 ⟨rfl, hb2⟩
  have ht2 := ht.below hb2
  have hb' := hb.trans (hb2.mono hb.size)
  clear ht hb hb2
  go_wp2_with fail
  go_at_call 23
  refine (tabDiv_zero G A _).mono ?_
  rintro e w' ⟨rfl, rfl⟩
  go_wp2_with fail
  go_at_call 24
  refine (tabExp_any G a2 hn.1 hn.2 _ ht2).mono ?_
  rintro e w' ⟨rfl, m, rfl⟩
  go_wp2_with fail
  go_at_call 15
  refine (refPow_any 2 (by omega) a2 hn.1 hn.2 _).mono ?_
  rintro e w3 ⟨rfl, hb3⟩
  have ht3 := (ht2.drewN m).below hb3
  have hb3' := (below_drewN hb' m).trans (hb3.mono hb'.size)
  clear ht2 hb' hb3
  go_wp2_with fail
  go_at_call 25
  refine (tabMul_any G A 0 hA (by omega) _ ht3).mono ?_
  rw [hz]
  rintro e w' ⟨rfl, m', rfl⟩
  go_wp2_with fail
  go_at_call 13
  refine (refMul_any A 0 hA (by omega) _).mono ?_
  rw [hz]
  rintro e w4 ⟨rfl, hb4⟩
  have hb4' := (below_drewN hb3' m').trans (hb4.mono hb3'.size)
  clear ht3 hb3' hb4
  go_wp2_with fail
  go_ret
  exact ⟨rfl, hb4'⟩

set_option maxHeartbeats 2000000 in
theorem tables_some (A B : Nat) (hA : A < 256) (hB : B < 256) (hzB : B ≠ 0) (a2 : Int) (hn : -9223372036854775808 ≤ a2 ∧ a2 ≤ 9223372036854775807) (w : World) :
    Calls Try.prog 7 #[.int .u8 (A : Int), .int .u8 (B : Int), .int .i64 a2] w fun e w' => e = .returned (.bool true) ∧ Below w.heap.size w w' := by
  have hzb : ((B : Int) == 0) = false := by simp; omega
  have hr : gi0 B = gi B := if_neg hzB
  go_enter Try.func7, Try.ntmps7
  go_wp2_with fail
  go_at_call 20
  refine (gfTables_any _).mono ?_
  rintro e w1 ⟨rfl, ht, hb⟩
  obtain ⟨G, hG⟩ : ∃ G, w.heap.size = G := ⟨_, rfl⟩
  rw [hG] at ht ⊢
  go_wp2_with fail
  go_at_call 21
  refine (tabLog_both G A hA _ ht).mono ?_
  rintro e w' ⟨rfl, rfl⟩
  go_wp2_with fail
  go_at_call 22
  refine (refLog_both A hA _).mono ?_
  rintro e w2 ⟨rfl, hb2⟩
  have ht2 := ht.below hb2
  have hb' := hb.trans (hb2.mono hb.size)
  clear ht hb hb2
  go_wp2_with fail
  go_at_call 23
  refine (tabDiv_any G A B hA hB hzB _ ht2).mono ?_
  rintro e w' ⟨rfl, m0, rfl⟩
  have ht2 := ht2.drewN m0
  have hb' := below_drewN hb' m0
  generalize w2.drewN m0 = w2 at ht2 hb' ⊢
  go_wp2_with fail
  go_at_call 24
  refine (tabExp_any G a2 hn.1 hn.2 _ ht2).mono ?_
  rintro e w' ⟨rfl, m, rfl⟩
  go_wp2_with fail
  go_at_call 15
  refine (refPow_any 2 (by omega) a2 hn.1 hn.2 _).mono ?_
  rintro e w3 ⟨rfl, hb3⟩
  have ht3 := (ht2.drewN m).below hb3
  have hb3' := (below_drewN hb' m).trans (hb3.mono hb'.size)
  clear ht2 hb' hb3
  go_wp2_with fail
  go_at_call 25
  refine (tabMul_any G A B hA hB _ ht3).mono ?_
  rintro e w' ⟨rfl, m', rfl⟩
  go_wp2_with fail
  go_at_call 13
  refine (refMul_any A B hA hB _).mono ?_
  rintro e w4 ⟨rfl, hb4⟩
  have hb4' := (below_drewN hb3' m').trans (hb4.mono hb3'.size)
  clear ht3 hb3' hb4
  go_wp2_with fail
  go_at_call 17
  refine (refInv_any B hB _).mono ?_
  rw [hr]
  rintro e w5 ⟨rfl, hb5⟩
  have hb5' := hb4'.trans (hb5.mono hb4'.size)
  clear hb4' hb5
  go_wp2_with fail
  go_at_call 13
  refine (refMul_any A (gi B) hA (gi_lt B hB) _).mono ?_
  rintro e w6 ⟨rfl, hb6⟩
  have hb6' := hb5'.trans (hb6.mono hb5'.size)
  go_wp2_with fail
  go_ret
  exact ⟨rfl, hb6'⟩
theorem tables_walk (a0 : Int) (a1 : Int) (a2 : Int) (w0 : (Lit.int .u8 a0).wf = true) (w1 : (Lit.int .u8 a1).wf = true) (w2 : (Lit.int .i64 a2).wf = true) (w : World) :
    Calls Try.prog 7 #[.int .u8 a0, .int .u8 a1, .int .i64 a2] w fun e w' => e = .returned (.bool true) ∧ Below w.heap.size w w' := by
  obtain ⟨A, rfl, hA⟩ := byte_of w0
  obtain ⟨B, rfl, hB⟩ := byte_of w1
  by_cases hz : B = 0
  · subst hz; exact tables_none A hA a2 (bounds_i64 w2) w
  · exact tables_some A B hA hB hz a2 (bounds_i64 w2) w
end Go.Proofs.Ytniehkjicdlpeaa
