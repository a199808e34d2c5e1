/- What adding and multiplying part by part answer. -/
import Derived.Test.YtnpebabffnjmmaaPoCarry
namespace Go.Proofs.Ytnpebabffnjmmaa
open Go.RowKit Go.PlainAid
set_option linter.unusedVariables false

set_option maxRecDepth 20000 in
set_option maxHeartbeats 1000000 in
theorem plus_any (A B : Nat → Nat) (hAB : ∀ i, i < 5 → A i + B i < 18446744073709551616) (w : World) :
    Calls Try.prog 45 #[.agg (nr .u64 5 A).toArray, .agg (nr .u64 5 B).toArray] w fun e w' => e = .returned (.agg (nr .u64 5 (fun i => A i + B i)).toArray) ∧ Below w.heap.size w w' := by
  have hzr := zero74_run
  obtain ⟨Z, hZ⟩ : ∃ Z, nr .u64 5 (fun _ => 0) = Z := ⟨_, rfl⟩
  obtain ⟨Y, hY⟩ : ∃ Y, nr .u64 5 A = Y := ⟨_, rfl⟩
  obtain ⟨X, hX⟩ : ∃ X, nr .u64 5 B = X := ⟨_, rfl⟩
  rw [hZ] at hzr
  rw [hY, hX]
  have hZs : Z.length = 5 := by rw [← hZ, nr_length]
  have HY : Hid (nr .u64 5 A = Y) := hY
  have HX : Hid (nr .u64 5 B = X) := hX
  clear hY hZ hX
  have hA0 : Blk (((w.alloc (.cells Y.toArray 74)).alloc (.cells X.toArray 74)).alloc (.cells Z.toArray 74)) w.heap.size 74 Y := ((Blk.box w 74 Y).alloc _).alloc _
  have hB0 : Blk (((w.alloc (.cells Y.toArray 74)).alloc (.cells X.toArray 74)).alloc (.cells Z.toArray 74)) (w.heap.size + 1) 74 X := by
    have := (Blk.box (w.alloc (.cells Y.toArray 74)) 74 X).alloc (.cells Z.toArray 74)
    simpa using this
  have hC0 : Blk (((w.alloc (.cells Y.toArray 74)).alloc (.cells X.toArray 74)).alloc (.cells Z.toArray 74)) (w.heap.size + 2) 74 Z := by
    have := Blk.box ((w.alloc (.cells Y.toArray 74)).alloc (.cells X.toArray 74)) 74 Z
    simpa using this
  have hl0 : Below w.heap.size w (((w.alloc (.cells Y.toArray 74)).alloc (.cells X.toArray 74)).alloc (.cells Z.toArray 74)) := (((Below.refl _ w).alloc (Nat.le_refl _) _).alloc (by simp) _).alloc (by simp; omega) _
  go_enter Try.func45, Try.ntmps45
  go_wp2_with fail
  generalize ((w.alloc (.cells Y.toArray 74)).alloc (.cells X.toArray 74)).alloc (.cells Z.toArray 74) = w0 at hA0 hB0 hC0 hl0 ⊢
  obtain ⟨g, hgd⟩ : ∃ g, w.heap.size = g := ⟨_, rfl⟩
  rw [hgd] at hA0 hB0 hC0 hl0 ⊢
  have HG : Hid (w.heap.size = g) := hgd
  clear hgd hzr
  rw [← HY.out] at hA0
  rw [← HX.out] at hB0
  clear HY HX
  go_loopw [6] (fun i wr => ∃ k : Nat, k ≤ 5 ∧ i = .int .i64 k ∧ Blk wr g 74 (nr .u64 5 (fun i => if i < k then A i + B i else A i)) ∧ Blk wr (g + 1) 74 (nr .u64 5 B) ∧ Blk wr (g + 2) 74 Z ∧ Below g w wr) (fun i _ => (5 - intOf i).toNat)
  case atStart => exact ⟨0, by omega, rfl, hA0, hB0, hC0, hl0⟩
  case round =>
    clear hA0 hB0 hC0 hl0
    obtain ⟨q, hq, rfl, hA, hB, hC, hl⟩ := hrel
    by_cases hlt : q < 5
    · have hq' : (q : Int) < 5 := by omega
      have hab := hAB q hlt
      have cn : wr.cell? ⟨g, q, none⟩ = some (.int .u64 ((A q : Nat) : Int)) := by
        have := hA.cell (nr_at .u64 5 _ q hlt)
        rw [if_neg (by omega)] at this; exact this
      have cs := hB.cell (nr_at .u64 5 B q hlt)
      have fn := hA.frozen q
      obtain ⟨V, hV⟩ : ∃ V, A q + B q = V := ⟨_, rfl⟩
      have hn2 : Blk (wr.drew.setCell ⟨g, q, none⟩ (.int .u64 (V : Int))) g 74 (nr .u64 5 (fun i => if i < q + 1 then A i + B i else A i)) := by
        have hh := hA.drew.setCell q (.int .u64 (V : Int))
        rw [nr_set] at hh
        rw [nr_congr .u64 5 (fun i => if i < q + 1 then A i + B i else A i) (fun i => if i = q then V else if i < q then A i + B i else A i) ?_]
        · exact hh
        · intro i _
          show (if i < q + 1 then A i + B i else A i) = if i = q then V else if i < q then A i + B i else A i
          by_cases h1 : i = q
          · subst h1; rw [if_pos (by omega), if_pos rfl, hV]
          · rw [if_neg h1]
            by_cases h2 : i < q
            · rw [if_pos h2, if_pos (by omega)]
            · rw [if_neg h2, if_neg (by omega)]
      have hs2 : Blk (wr.drew.setCell ⟨g, q, none⟩ (.int .u64 (V : Int))) (g + 1) 74 (nr .u64 5 B) := hB.drew.setOther (by omega) q _
      have hc2 : Blk (wr.drew.setCell ⟨g, q, none⟩ (.int .u64 (V : Int))) (g + 2) 74 Z := hC.drew.setOther (by omega) q _
      have hl2 : Below g w (wr.drew.setCell ⟨g, q, none⟩ (.int .u64 (V : Int))) := hl.drew.setCell (Nat.le_refl _) _
      have es := hs2.cell (nr_at .u64 5 B q hlt)
      have hVI : IntKind.u64.wrap (((A q : Nat) : Int) + ((B q : Nat) : Int)) = (V : Int) := by
        rw [← hV, IntWalk.u64_in _ ⟨by omega, by omega⟩]; rfl
      clear hA hB hC hl hV
      generalize A q = x at *
      generalize B q = y at *
      go_wp2_with fail
      refine wp_region_noPanic ?_
      refine wp_region_held_drew (S := fun z => z.cell? ⟨g + 1, q, none⟩ = some (.int .u64 (y : Int))) (by kernel_rfl) cs (fun hHeld => ?_)
      refine wpAnyH_take (i := 0) (v := ?_) rfl (by kernel_rfl) (by kernel_rfl) (by kernel_rfl) (fun _ _ _ h => h) (Or.inl ⟨by rfl, ?_⟩) (by assumption) ?_
      rotate_left
      · intro w hSw; go_simp; try with_reducible rfl
      go_simp
      refine wpAnyH_take (i := 1) (v := ?_) rfl (by kernel_rfl) (by kernel_rfl) (by kernel_rfl) (fun _ _ _ h => h) (Or.inl ⟨by rfl, ?_⟩) (by assumption) ?_
      rotate_left
      · intro w hSw; go_simp; try with_reducible rfl
      go_simp
      refine wpAnyH_take (i := 3) (v := ?_) rfl (by kernel_rfl) (by kernel_rfl) (by kernel_rfl) (fun _ _ _ h => h) (Or.inl ⟨by rfl, ?_⟩) (by assumption) ?_
      rotate_left
      · intro w hSw; go_simp; try with_reducible rfl
      go_simp
      refine wpAnyH_take (i := 4) (v := ?_) rfl (by kernel_rfl) (by kernel_rfl) (by kernel_rfl) (fun _ _ _ h => h) (Or.inl ⟨by rfl, ?_⟩) (by assumption) ?_
      rotate_left
      · intro w hSw; go_simp; try with_reducible rfl
      go_simp
      refine wpAnyH_take (i := 5) (v := ?_) rfl (by kernel_rfl) (by kernel_rfl) (by kernel_rfl) (fun _ _ _ h => h) (Or.inl ⟨by rfl, ?_⟩) (by assumption) ?_
      rotate_left
      · intro w hSw; go_simp; try with_reducible rfl
      go_simp
      refine wpAnyH_ready (rs := [2]) (by kernel_rfl) (by simp) (AllReadyH.cons rfl (fun K hK => ?_) AllReadyH.nil)
      go_simp
      refine hK.out _ _ cs (fun hHeld => ?_)
      clear hK K
      refine wpAnyH_take (i := 6) (v := ?_) rfl (by kernel_rfl) (by kernel_rfl) (by kernel_rfl) (fun _ _ _ h => h) (Or.inl ⟨by rfl, ?_⟩) (by assumption) ?_
      rotate_left
      · intro w hSw; go_simp; try with_reducible rfl
      go_simp
      refine wpAnyH_take (i := 7) (v := ?_) rfl (by kernel_rfl) (by kernel_rfl) (by kernel_rfl) (fun _ _ _ h => h) (Or.inl ⟨by rfl, ?_⟩) (by assumption) ?_
      rotate_left
      · intro w hSw; go_simp; try with_reducible rfl
      go_simp
      refine wpAnyH_ready (rs := [8]) (by kernel_rfl) (by simp) (AllReadyH.cons rfl (fun K hK => ?_) AllReadyH.nil)
      go_simp
      refine hK.out _ _ es (fun hHeld => ?_)
      clear hK K
      refine wpAnyH_done (by kernel_rfl) ?_ _
      refine NoPanic.normal ?_
      have hn3 : Blk (wr.setCell ⟨g, q, none⟩ (.int .u64 (V : Int))).drew g 74 _ := hn2
      have hs3 : Blk (wr.setCell ⟨g, q, none⟩ (.int .u64 (V : Int))).drew (g + 1) 74 _ := hs2
      have hc3 : Blk (wr.setCell ⟨g, q, none⟩ (.int .u64 (V : Int))).drew (g + 2) 74 _ := hc2
      have hl3 : Below g w (wr.setCell ⟨g, q, none⟩ (.int .u64 (V : Int))).drew := hl2
      clear hn2 hs2 hc2 hl2 es cs cn fn
      generalize (wr.setCell ⟨g, q, none⟩ (.int .u64 (V : Int))).drew = w4 at hn3 hs3 hc3 hl3 ⊢
      go_wp2_with fail
      go_roundw
      case rel => exact ⟨q + 1, by omega, by go_num, hn3, hs3, hc3, hl3⟩
      case measure => simp [intOf]; omega
    · have hk5 : q = 5 := by omega
      subst hk5
      rw [show ((5 : Nat) : Int) = (5 : Int) from rfl]
      have hA' : Blk wr g 74 (nr .u64 5 (fun i => A i + B i)) := by
        rw [nr_congr .u64 5 (fun i => A i + B i) (fun i => if i < 5 then A i + B i else A i) (fun i hi => by rw [if_pos hi])]; exact hA
      obtain ⟨U, hU⟩ : ∃ U, nr .u64 5 (fun i => A i + B i) = U := ⟨_, rfl⟩
      have hUl : U.length = 5 := by rw [← hU, nr_length]
      have hUo : ∀ v ∈ U, v.oneCell' = true := by rw [← hU]; exact nr_one _ _ _
      rw [hU] at hA'
      have HU : Hid (nr .u64 5 (fun i => A i + B i) = U) := hU
      have hR := load74 (hC.setRow (M := U)) hUl
      have hl' : Below g w (wr.setRow (g + 2) U.toArray) := below_setRow hl (by omega) _
      clear hA hB hl hU
      go_wp2_with (first | (refine wpList_load_blk rfl 74 _ rfl g rfl 74 U _ hA' Try.underlying74 rfl (by rw [Try.size74, hUl]) ?_) | (refine wpList_store_blk rfl 74 _ _ rfl (g + 2) Z U rfl rfl 74 hC (by rw [Try.size74, hUl]) (by rw [hZs, hUl]) hUo ?_))
      refine bodyPost_ret_by (v := .agg U.toArray) (results_cell 4 74 ⟨g + 2, 0, none⟩ Try.results45 rfl hR) rfl ⟨by rw [HU.out], ?_⟩
      rw [HG.out]; exact hl'
end Go.Proofs.Ytnpebabffnjmmaa
