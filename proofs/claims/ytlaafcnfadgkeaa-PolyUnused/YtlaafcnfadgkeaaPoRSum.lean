/- What the document's sum of two numbers is, by the modulus. -/
import Derived.Test.YtlaafcnfadgkeaaPoRLess
namespace Go.Proofs.Ytlaafcnfadgkeaa
open Go.RowKit Go.PlainAid
set_option linter.unusedVariables false

theorem below_drewN' {B : Nat} {a w : World} (h : Below B a w) (n : Nat) : Below B a (w.drewN n) := ⟨h.os, h.tape, h.output, h.size, h.block⟩

set_option maxHeartbeats 1000000 in
set_option maxRecDepth 20000 in
theorem rsum_any (A B : Nat) (hA : A < pP) (hB : B < pP) (w : World) :
    Calls Try.prog 20 #[.agg (nr .i64 17 (dg 8 A)).toArray, .agg (nr .i64 17 (dg 8 B)).toArray] w fun e w' => e = .returned (.agg (nr .i64 17 (dg 8 ((A + B) % pP))).toArray) ∧ Below w.heap.size w w' := by
  have hzr := zero48_run
  have hcall := fun w => less_any (A + B) (by omega) w
  obtain ⟨Z, hZ⟩ : ∃ Z, nr .i64 17 (fun _ => 0) = Z := ⟨_, rfl⟩
  obtain ⟨Y, hY⟩ : ∃ Y, nr .i64 17 (dg 8 A) = Y := ⟨_, rfl⟩
  obtain ⟨X, hX⟩ : ∃ X, nr .i64 17 (dg 8 B) = X := ⟨_, rfl⟩
  rw [hZ] at hzr
  rw [hY, hX]
  have lZ : Z.length = 17 := by rw [← hZ, nr_length]
  have HY : Hid (nr .i64 17 (dg 8 A) = Y) := hY
  have HX : Hid (nr .i64 17 (dg 8 B) = X) := hX
  clear hY hZ hX hA hB
  have hA0 : Blk (((w.alloc (.cells Y.toArray 48)).alloc (.cells X.toArray 48)).alloc (.cells Z.toArray 48)) w.heap.size 48 Y := ((Blk.box w 48 Y).alloc _).alloc _
  have hB0 : Blk (((w.alloc (.cells Y.toArray 48)).alloc (.cells X.toArray 48)).alloc (.cells Z.toArray 48)) (w.heap.size + 1) 48 X := by
    have := (Blk.box (w.alloc (.cells Y.toArray 48)) 48 X).alloc (.cells Z.toArray 48)
    simpa using this
  have hC0 : Blk (((w.alloc (.cells Y.toArray 48)).alloc (.cells X.toArray 48)).alloc (.cells Z.toArray 48)) (w.heap.size + 2) 48 Z := by
    have := Blk.box ((w.alloc (.cells Y.toArray 48)).alloc (.cells X.toArray 48)) 48 Z
    simpa using this
  have hl0 : Below w.heap.size w (((w.alloc (.cells Y.toArray 48)).alloc (.cells X.toArray 48)).alloc (.cells Z.toArray 48)) := (((Below.refl _ w).alloc (Nat.le_refl _) _).alloc (by simp) _).alloc (by simp; omega) _
  go_enter Try.func20, Try.ntmps20
  go_wp2_with fail
  generalize ((w.alloc (.cells Y.toArray 48)).alloc (.cells X.toArray 48)).alloc (.cells Z.toArray 48) = w0 at hA0 hB0 hC0 hl0 ⊢
  obtain ⟨g, hgd⟩ : ∃ g, w.heap.size = g := ⟨_, rfl⟩
  rw [hgd] at hA0 hB0 hC0 hl0 ⊢
  have HG : Hid (w.heap.size = g) := hgd
  clear hgd hzr
  rw [← HY.out] at hA0
  rw [← HX.out] at hB0
  clear HY HX
  go_loopw [5, 6] (fun c v wr => ∃ k : Nat, k ≤ 17 ∧ v = .int .i64 k ∧ c = .int .i64 ((cy 8 A B k : Nat) : Int) ∧ Blk wr g 48 (nr .i64 17 (fun i => if i < k then dg 8 (A + B) i else dg 8 A i)) ∧ Blk wr (g + 1) 48 (nr .i64 17 (dg 8 B)) ∧ Blk wr (g + 2) 48 Z ∧ Below g w wr) (fun _ v _ => (17 - intOf v).toNat)
  case atStart => exact ⟨0, by omega, rfl, by rw [cy_zero]; rfl, hA0, hB0, hC0, hl0⟩
  case round =>
    clear hA0 hB0 hC0 hl0
    obtain ⟨k, hk, rfl, rfl, hA, hB, hC, hl⟩ := hrel
    by_cases hlt : k < 17
    · have hk' : (k : Int) < 17 := by omega
      have cn : wr.cell? ⟨g, k, none⟩ = some (.int .i64 ((dg 8 A k : Nat) : Int)) := by
        have := hA.cell (nr_at .i64 17 _ k hlt)
        rw [if_neg (by omega)] at this; exact this
      have cs := hB.cell (nr_at .i64 17 (dg 8 B) k hlt)
      have fn := hA.frozen k
      have b0 := dg_lt 8 A k
      have b1 := dg_lt 8 B k
      have b2 := cy_le 8 A B k
      have e1 := dg_add 8 A B k
      have e2 := cy_succ 8 A B k
      rw [show (2 : Nat) ^ 8 = 256 from rfl] at b0 b1 e1 e2
      have hB2 : Hid (∀ n, Blk ((wr.drewN n).setCell ⟨g, k, none⟩ (.int .i64 ((dg 8 (A + B) k : Nat) : Int))) g 48 (nr .i64 17 (fun i => if i < k + 1 then dg 8 (A + B) i else dg 8 A i))) := by
        intro n
        have hh := (hA.drewN n).setCell k (.int .i64 ((dg 8 (A + B) k : Nat) : Int))
        rw [nr_set] at hh
        rw [nr_congr .i64 17 (fun i => if i < k + 1 then dg 8 (A + B) i else dg 8 A i) (fun i => if i = k then dg 8 (A + B) k else if i < k then dg 8 (A + B) i else dg 8 A i) ?_]
        · exact hh
        · intro i _
          show (if i < k + 1 then dg 8 (A + B) i else dg 8 A i) = if i = k then dg 8 (A + B) k else if i < k then dg 8 (A + B) i else dg 8 A i
          by_cases h1 : i = k
          · subst h1; rw [if_pos (by omega), if_pos rfl]
          · rw [if_neg h1]
            by_cases h2 : i < k
            · rw [if_pos h2, if_pos (by omega)]
            · rw [if_neg h2, if_neg (by omega)]
      have hD2 : Hid (∀ n, Blk ((wr.drewN n).setCell ⟨g, k, none⟩ (.int .i64 ((dg 8 (A + B) k : Nat) : Int))) (g + 1) 48 (nr .i64 17 (dg 8 B))) := fun n => (hB.drewN n).setOther (by omega) k _
      have hC2 : Hid (∀ n, Blk ((wr.drewN n).setCell ⟨g, k, none⟩ (.int .i64 ((dg 8 (A + B) k : Nat) : Int))) (g + 2) 48 Z) := fun n => (hC.drewN n).setOther (by omega) k _
      have hl2 : Hid (∀ n, Below g w ((wr.drewN n).setCell ⟨g, k, none⟩ (.int .i64 ((dg 8 (A + B) k : Nat) : Int)))) := fun n => (below_drewN' hl n).setCell (Nat.le_refl _) _
      obtain ⟨c1, hc1⟩ : ∃ c1, cy 8 A B (k + 1) = c1 := ⟨_, rfl⟩
      rw [hc1] at e2
      have HC1 : Hid (((cy 8 A B (k + 1) : Nat) : Int) = (c1 : Int)) := by rw [hc1]; exact rfl
      clear hA hB hC hl hc1
      generalize dg 8 (A + B) k = z at *
      generalize dg 8 A k = x at *
      generalize dg 8 B k = y at *
      generalize cy 8 A B k = c at *
      have e1' : ((c : Int) + (x : Int) + (y : Int)) % 256 = (z : Int) := by omega
      have e2' : ((c : Int) + (x : Int) + (y : Int)) / 256 = (c1 : Int) := by omega
      clear e1 e2
      go_wp2_with fail
      go_quiet (fail)
      go_wp2_with fail
      exact ⟨⟨k + 1, by omega, by go_num, by rw [HC1.out, e2'], hB2.out nq, hD2.out nq, hC2.out nq, hl2.out nq⟩, by simp [intOf]; omega⟩
    · have hk17 : k = 17 := by omega
      subst hk17
      rw [show ((17 : Nat) : Int) = 17 from rfl]
      have hA' : Blk wr g 48 (nr .i64 17 (dg 8 (A + B))) := by
        rw [nr_congr .i64 17 (dg 8 (A + B)) (fun i => if i < 17 then dg 8 (A + B) i else dg 8 A i) (fun i hi => by rw [if_pos hi])]; exact hA
      obtain ⟨U, hU⟩ : ∃ U, nr .i64 17 (dg 8 (A + B)) = U := ⟨_, rfl⟩
      obtain ⟨V, hV⟩ : ∃ V, nr .i64 17 (dg 8 ((A + B) % pP)) = V := ⟨_, rfl⟩
      have lU : U.length = 17 := by rw [← hU, nr_length]
      have lV : V.length = 17 := by rw [← hV, nr_length]
      have oV : ∀ v ∈ V, v.oneCell' = true := by rw [← hV]; exact nr_one _ _ _
      rw [hU] at hA' hcall
      rw [hV] at hcall
      have HV : Hid (nr .i64 17 (dg 8 ((A + B) % pP)) = V) := hV
      have hgr : g ≤ wr.heap.size := Nat.le_of_lt hA.lt
      clear hA hB hU hV
      go_wp2_with (refine wpList_load_blk rfl 48 _ rfl g rfl 48 U _ hA' Try.underlying48 rfl (by rw [Try.size48, lU]) ?_)
      refine (hcall wr).mono ?_
      rintro e w1 ⟨rfl, hb1⟩
      have hC1 := hC.below hb1 hC.lt
      have hl1 := hl.trans (hb1.mono hgr)
      have hR := load48 (hC1.setRow (M := V)) lV
      have hl' : Below g w (w1.setRow (g + 2) V.toArray) := below_setRow hl1 (by omega) _
      clear hcall hC hl hb1 hA'
      go_wp2_with (refine wpList_store_blk rfl 48 _ _ rfl (g + 2) Z V rfl rfl 48 hC1 (by rw [Try.size48, lV]) (by rw [lZ, lV]) oV ?_)
      refine bodyPost_ret_by (v := .agg V.toArray) (results_cell 4 48 ⟨g + 2, 0, none⟩ Try.results20 rfl hR) rfl ⟨by rw [HV.out], ?_⟩
      rw [HG.out]; exact hl'
end Go.Proofs.Ytlaafcnfadgkeaa
