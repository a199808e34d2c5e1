/- What is asked of a bank, and a step of it: Size, Steps, dark, find, Disk, Spend, use, Cut. -/
import Derived.Test.YtfepmafjkgjmmaaBkEach
namespace Go.Proofs.Ytfepmafjkgjmmaa
open Go.RowKit Go.PlainAid
set_option linter.unusedVariables false

/-- What a step answers and leaves. -/
def spendE (p : Option Nat) : Int := if p = some 0 then 21 else 0
def spendS (p : Option Nat) (s : Nat) : Nat := if p = some 0 then s else s + 1
def spendP (p : Option Nat) : Option Nat := p.map (· - 1)
theorem spendE_dark : spendE (some 0) = 21 := rfl
theorem spendE_none : spendE none = 0 := rfl
theorem spendE_more (k : Nat) : spendE (some (k + 1)) = 0 := by unfold spendE; rw [if_neg (by simp)]
theorem spendS_none (s : Nat) : spendS none s = s + 1 := rfl
theorem spendS_dark (s : Nat) : spendS (some 0) s = s := rfl
theorem spendS_more (k s : Nat) : spendS (some (k + 1)) s = s + 1 := by unfold spendS; rw [if_neg (by simp)]
section
variable {B : Nat} {w0 w : World} {g N : Nat} {D : Nat → Dk} {s : Nat} {p : Option Nat} {R : Asn}
theorem bsize_nil (w : World) : Calls Try.prog 11 #[.pointer none] w fun e w' => e = .returned (.int .i64 0) ∧ w' = w := by
  go_enter Try.func11, Try.ntmps11
  go_wp2
  go_ret
  exact ⟨rfl, rfl⟩
theorem bsize_any (h : Hold B w0 w (star (bnk g N D s p) R)) : Calls Try.prog 11 #[.pointer (some ⟨g, 0, none⟩)] w fun e w' => e = .returned (.int .i64 (N : Int)) ∧ w' = w := by
  obtain ⟨gd, hb, -, -⟩ := h.bnkTop
  have c0 := hb.cell (i := 0) rfl
  clear h hb
  go_enter Try.func11, Try.ntmps11
  go_wp2
  go_ret
  exact ⟨rfl, rfl⟩
theorem bsteps_nil (w : World) : Calls Try.prog 13 #[.pointer none] w fun e w' => e = .returned (.int .i64 0) ∧ w' = w := by
  go_enter Try.func13, Try.ntmps13
  go_wp2
  go_ret
  exact ⟨rfl, rfl⟩
theorem bsteps_any (h : Hold B w0 w (star (bnk g N D s p) R)) : Calls Try.prog 13 #[.pointer (some ⟨g, 0, none⟩)] w fun e w' => e = .returned (.int .i64 (s : Int)) ∧ w' = w := by
  obtain ⟨gd, hb, -, -⟩ := h.bnkTop
  have c0 := hb.cell (i := 1) rfl
  clear h hb
  go_enter Try.func13, Try.ntmps13
  go_wp2
  go_ret
  exact ⟨rfl, rfl⟩
theorem bdark_any (h : Hold B w0 w (star (bnk g N D s p) R)) : Calls Try.prog 40 #[.pointer (some ⟨g, 0, none⟩)] w fun e w' => e = .returned (.bool (decide (p = some 0))) ∧ w' = w := by
  obtain ⟨gd, hb, -, -⟩ := h.bnkTop
  have c2 := hb.cell (i := 2) rfl
  have c3 := hb.cell (i := 3) rfl
  clear h hb
  rcases p with _ | _ | k
  · rw [show decide (none = some 0) = false from rfl]
    rw [show (none : Option Nat).isSome = false from rfl] at c2
    rw [show pl none = 0 from rfl] at c3
    go_enter Try.func40, Try.ntmps40
    go_wp2
    go_ret
    exact ⟨rfl, rfl⟩
  · rw [show decide (some 0 = some 0) = true from rfl]
    rw [show (some 0 : Option Nat).isSome = true from rfl] at c2
    rw [show pl (some 0) = 0 from rfl] at c3
    go_enter Try.func40, Try.ntmps40
    go_wp2
    go_ret
    exact ⟨rfl, rfl⟩
  · rw [show decide (some (k + 1) = some 0) = false from by simp]
    rw [show (some (k + 1) : Option Nat).isSome = true from rfl] at c2
    obtain ⟨x, hx⟩ : ∃ x, pl (some (k + 1)) = x := ⟨_, rfl⟩
    have hx0 : (x == 0) = false := by
      rw [← hx]; show (((k + 1 : Nat) : Int) == 0) = false
      simp only [beq_eq_false_iff_ne, ne_eq]; omega
    rw [hx] at c3
    clear hx
    go_enter Try.func40, Try.ntmps40
    go_wp2
    go_ret
    exact ⟨rfl, rfl⟩
theorem bfind_nil (i : Int) (w : World) : Calls Try.prog 37 #[.pointer none, .int .i64 i] w fun e w' => e = .returned (.tuple #[.pointer none, .int .i64 1]) ∧ w' = w := by
  go_enter Try.func37, Try.ntmps37
  go_wp2
  go_ret2
  exact ⟨rfl, rfl⟩
theorem bfind_out (h : Hold B w0 w (star (bnk g N D s p) R)) (i : Int) (hi : i < 0 ∨ (N : Int) ≤ i) : Calls Try.prog 37 #[.pointer (some ⟨g, 0, none⟩), .int .i64 i] w fun e w' => e = .returned (.tuple #[.pointer none, .int .i64 11]) ∧ w' = w := by
  obtain ⟨gd, hb, -, -⟩ := h.bnkTop
  have c0 := hb.cell (i := 0) rfl
  clear h hb
  have HI : Hid _ := hi
  clear hi
  by_cases h0 : i < 0
  · go_enter Try.func37, Try.ntmps37
    go_wp2
    go_ret2
    exact ⟨rfl, rfl⟩
  · have h1 : (N : Int) ≤ i := HI.out.resolve_left h0
    go_enter Try.func37, Try.ntmps37
    go_wp2
    go_ret2
    exact ⟨rfl, rfl⟩
theorem bfind_in (h : Hold B w0 w (star (bnk g N D s p) R)) (i : Nat) (hi : i < N) : Calls Try.prog 37 #[.pointer (some ⟨g, 0, none⟩), .int .i64 (i : Int)] w fun e w' => e = .returned (.tuple #[.pointer (some ⟨(D i).g, 0, none⟩), .int .i64 0]) ∧ w' = w := by
  obtain ⟨gd, hb, hd, -⟩ := h.bnkTop
  have hN := h.bnkN
  have c0 := hb.cell (i := 0) rfl
  have ci := hd.cell (ptrs_at N D i hi)
  clear h hb hd
  have hi' : ¬ (N : Int) ≤ (i : Int) := by omega
  have hi0 : ¬ (i : Int) < 0 := by omega
  go_enter Try.func37, Try.ntmps37
  go_wp2
  go_ret2
  exact ⟨rfl, rfl⟩
theorem bdisk_nil (i : Int) (w : World) : Calls Try.prog 14 #[.pointer none, .int .i64 i] w fun e w' => e = .returned (.pointer none) ∧ w' = w := by
  go_enter Try.func14, Try.ntmps14
  go_wp2_with (go_at_call 37; refine (bfind_nil _ _).mono ?_; rintro e w' ⟨rfl, rfl⟩)
  go_ret
  exact ⟨rfl, rfl⟩
theorem bdisk_out (h : Hold B w0 w (star (bnk g N D s p) R)) (i : Int) (hi : i < 0 ∨ (N : Int) ≤ i) : Calls Try.prog 14 #[.pointer (some ⟨g, 0, none⟩), .int .i64 i] w fun e w' => e = .returned (.pointer none) ∧ w' = w := by
  have hf := bfind_out h i hi
  clear h hi
  go_enter Try.func14, Try.ntmps14
  go_wp2_with (go_at_call 37; refine hf.mono ?_; rintro e w' ⟨rfl, rfl⟩)
  go_ret
  exact ⟨rfl, rfl⟩
theorem bdisk_in (h : Hold B w0 w (star (bnk g N D s p) R)) (i : Nat) (hi : i < N) : Calls Try.prog 14 #[.pointer (some ⟨g, 0, none⟩), .int .i64 (i : Int)] w fun e w' => e = .returned (.pointer (some ⟨(D i).g, 0, none⟩)) ∧ w' = w := by
  have hf := bfind_in h i hi
  clear h
  go_enter Try.func14, Try.ntmps14
  go_wp2_with (go_at_call 37; refine hf.mono ?_; rintro e w' ⟨rfl, rfl⟩)
  go_ret
  exact ⟨rfl, rfl⟩
theorem bspend_nil (w : World) : Calls Try.prog 19 #[.pointer none] w fun e w' => e = .returned (.int .i64 1) ∧ w' = w := by
  go_enter Try.func19, Try.ntmps19
  go_wp2
  go_ret
  exact ⟨rfl, rfl⟩
theorem bspend_any (hR : Firm R) (h : Hold B w0 w (star (bnk g N D s p) R)) (hs : s ≤ 1000000000) : Calls Try.prog 19 #[.pointer (some ⟨g, 0, none⟩)] w fun e w' => e = .returned (.int .i64 (spendE p)) ∧ Hold B w0 w' (star (bnk g N D (spendS p s) (spendP p)) R) := by
  have hd := bdark_any h
  have hN := h.bnkFit
  obtain ⟨gd, hb, -, ht⟩ := h.bnkTop
  have c1 := hb.cell (i := 1) rfl
  have c2 := hb.cell (i := 2) rfl
  have c3 := hb.cell (i := 3) rfl
  have f1 := hb.frozen 1
  have f3 := hb.frozen 3
  rcases p with _ | _ | k
  · rw [show decide (none = some 0) = false from rfl] at hd
    rw [show (none : Option Nat).isSome = false from rfl] at c2
    rw [spendE_none, spendS_none, show spendP none = none from rfl]
    have HT : Hid (Hold B w0 (w.setCell ⟨g, 1, none⟩ (.int .i64 ((s : Int) + 1))) (star (bnk g N D (s + 1) none) R)) := (ht.setBlk (firm_top gd hR) 1 (.int .i64 ((s : Int) + 1))).ofTop hN gd (by simp [pl])
    clear h hb ht hN
    go_enter Try.func19, Try.ntmps19
    go_wp2_with (go_at_call 40; refine hd.mono ?_; rintro e w' ⟨rfl, rfl⟩)
    go_ret
    exact ⟨rfl, HT.out⟩
  · rw [show decide (some 0 = some 0) = true from rfl] at hd
    rw [spendE_dark, spendS_dark, show spendP (some 0) = some 0 from rfl]
    have HT : Hid (Hold B w0 w (star (bnk g N D s (some 0)) R)) := h
    clear h hb ht
    go_enter Try.func19, Try.ntmps19
    go_wp2_with (go_at_call 40; refine hd.mono ?_; rintro e w' ⟨rfl, rfl⟩)
    go_ret
    exact ⟨rfl, HT.out⟩
  · rw [show decide (some (k + 1) = some 0) = false from by simp] at hd
    rw [show (some (k + 1) : Option Nat).isSome = true from rfl] at c2
    rw [spendE_more, spendS_more, show spendP (some (k + 1)) = some k from rfl]
    have hv := ht
    have h3 := ht.setBlk (firm_top gd hR) 3 (.int .i64 (k : Int))
    have b3 := h3.blk
    have c1' := b3.cell (i := 1) rfl
    have f1' := b3.frozen 1
    have HT : Hid (Hold B w0 ((w.setCell ⟨g, 3, none⟩ (.int .i64 (k : Int))).setCell ⟨g, 1, none⟩ (.int .i64 ((s : Int) + 1))) (star (bnk g N D (s + 1) (some k)) R)) := (h3.setBlk (firm_top gd hR) 1 (.int .i64 ((s : Int) + 1))).ofTop ⟨hN.1, fun j e => by cases e; have := hN.2 (k + 1) rfl; omega⟩ gd (by simp [pl])
    rw [show pl (some (k + 1)) = (k : Int) + 1 from by simp [pl]] at c3
    have hk : wrap64 (k : Int) = (k : Int) := IntWalk.wrap64_in _ ⟨by omega, by have := hN.2 (k + 1) rfl; omega⟩
    clear h hb ht hv h3 b3 hN
    go_enter Try.func19, Try.ntmps19
    go_wp2_with (go_at_call 40; refine hd.mono ?_; rintro e w' ⟨rfl, rfl⟩)
    go_ret
    exact ⟨rfl, HT.out⟩
theorem buse_nil (i : Int) (w : World) : Calls Try.prog 41 #[.pointer none, .int .i64 i] w fun e w' => e = .returned (.tuple #[.pointer none, .int .i64 1]) ∧ w' = w := by
  go_enter Try.func41, Try.ntmps41
  go_wp2_with (go_at_call 37; refine (bfind_nil _ _).mono ?_; rintro e w' ⟨rfl, rfl⟩)
  go_ret2
  exact ⟨rfl, rfl⟩
theorem buse_out (h : Hold B w0 w (star (bnk g N D s p) R)) (i : Int) (hi : i < 0 ∨ (N : Int) ≤ i) : Calls Try.prog 41 #[.pointer (some ⟨g, 0, none⟩), .int .i64 i] w fun e w' => e = .returned (.tuple #[.pointer none, .int .i64 11]) ∧ w' = w := by
  have hf := bfind_out h i hi
  clear h hi
  go_enter Try.func41, Try.ntmps41
  go_wp2_with (go_at_call 37; refine hf.mono ?_; rintro e w' ⟨rfl, rfl⟩)
  go_ret2
  exact ⟨rfl, rfl⟩
theorem buse_in (hR : Firm R) (h : Hold B w0 w (star (bnk g N D s p) R)) (hs : s ≤ 1000000000) (i : Nat) (hi : i < N) : Calls Try.prog 41 #[.pointer (some ⟨g, 0, none⟩), .int .i64 (i : Int)] w fun e w' => e = .returned (.tuple #[.pointer (some ⟨(D i).g, 0, none⟩), .int .i64 (spendE p)]) ∧ Hold B w0 w' (star (bnk g N D (spendS p s) (spendP p)) R) := by
  have hf := bfind_in h i hi
  have hsp := bspend_any hR h hs
  obtain ⟨E, hE⟩ : ∃ E, spendE p = E := ⟨_, rfl⟩
  rw [hE] at hsp ⊢
  clear h hi
  go_enter Try.func41, Try.ntmps41
  go_wp2_with (first
    | (go_at_call 37; refine hf.mono ?_; rintro e w' ⟨rfl, rfl⟩)
    | (go_at_call 19; refine hsp.mono ?_; rintro e w1 ⟨rfl, h1⟩; have h1 : Hid _ := h1))
  go_ret2
  exact ⟨rfl, h1.out⟩
theorem bcut_nil (n : Int) (w : World) : Calls Try.prog 18 #[.pointer none, .int .i64 n] w fun e w' => e = .returned (.tuple #[]) ∧ w' = w := by
  go_enter Try.func18, Try.ntmps18
  go_wp2
  refine bodyPost_ret (results_none rfl _ _ _) rfl ⟨rfl, rfl⟩
theorem bcut_any (hR : Firm R) (h : Hold B w0 w (star (bnk g N D s p) R)) (n : Int) (hn : n ≤ 9223372036854775807) : Calls Try.prog 18 #[.pointer (some ⟨g, 0, none⟩), .int .i64 n] w fun e w' => e = .returned (.tuple #[]) ∧ Hold B w0 w' (star (bnk g N D s (some n.toNat)) R) := by
  have hN := h.bnkFit
  obtain ⟨gd, hb, -, ht⟩ := h.bnkTop
  have c2 := hb.cell (i := 2) rfl
  have f2 := hb.frozen 2
  have h2 := ht.setBlk (firm_top gd hR) 2 (.bool true)
  have b2 := h2.blk
  have c3 := b2.cell (i := 3) rfl
  have f3 := b2.frozen 3
  have HT : Hid (Hold B w0 ((w.setCell ⟨g, 2, none⟩ (.bool true)).setCell ⟨g, 3, none⟩ (.int .i64 (n.toNat : Int))) (star (bnk g N D s (some n.toNat)) R)) := (h2.setBlk (firm_top gd hR) 3 (.int .i64 (n.toNat : Int))).ofTop ⟨hN.1, fun j e => by cases e; omega⟩ gd (by simp [pl])
  clear h hb ht h2 b2 hN hn
  by_cases h0 : n < 0
  · rw [show (n.toNat : Int) = 0 by omega] at HT
    go_enter Try.func18, Try.ntmps18
    go_wp2
    go_end0
    exact ⟨rfl, HT.out⟩
  · rw [show (n.toNat : Int) = n by omega] at HT
    go_enter Try.func18, Try.ntmps18
    go_wp2
    go_end0
    exact ⟨rfl, HT.out⟩
end
end Go.Proofs.Ytfepmafjkgjmmaa
