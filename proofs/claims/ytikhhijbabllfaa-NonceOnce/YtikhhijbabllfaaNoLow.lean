/- A source of numbers that are used once, the program's: New, Next, Left, Read. -/
import Derived.Test.YtikhhijbabllfaaNoPlain
import Derived.Test.YtikhhijbabllfaaCdNum
import Derived.Test.YtikhhijbabllfaaText
import Derived.Test.YtikhhijbabllfaaCdRead2
namespace Go.Proofs.Ytikhhijbabllfaa
open Go.RowKit Go.PlainAid
set_option linter.unusedVariables false
set_option maxRecDepth 20000

/-- A source: its epoch and its next number. -/
def src (g : Nat) (e n : Int) : Asn := blkA g 54 [.int .u64 e, .int .u64 n]
theorem firm_src (g : Nat) (e n : Int) : Firm (src g e n) := firm_blk _ _ _
theorem nmay_any (e : Int) (h0 : 0 ≤ e) (h1 : e ≤ 18446744073709551615) (w : World) : Calls Try.prog 15 #[.int .u64 e] w fun x w' => x = .returned (.bool (mayE e)) ∧ w' = w := by
  by_cases a : e = 0
  · subst a
    go_enter Try.func15, Try.ntmps15
    go_wp2
    go_ret
    exact ⟨rfl, rfl⟩
  · have a' : (e != 0) = true := by simpa using a
    by_cases b : e ≤ 4294967295
    · rw [(mayE_iff e).2 ⟨a, b⟩]
      go_enter Try.func15, Try.ntmps15
      go_wp2
      go_ret
      exact ⟨rfl, rfl⟩
    · have hm : mayE e = false := by rw [Bool.eq_false_iff]; exact fun h => b ((mayE_iff e).1 h).2
      rw [hm]
      go_enter Try.func15, Try.ntmps15
      go_wp2
      go_ret
      exact ⟨rfl, rfl⟩
theorem word1_any {w : World} {a : Option Addr} {c : Nat} {n : Int} (h0 : 0 ≤ n) (h1 : n < 4294967296) (hA : At w a 1 (fun _ => n)) : Calls Try.prog 17 #[.slice a 1 c] w fun x w' => x = .returned (.string (strOfNums (fourB n))) ∧ Below w.heap.size w w' :=
  fromBig_any a c 1 (fun _ => n) w (by decide) hA (fun _ _ => ⟨h0, h1⟩)
theorem at1 (w : World) (n : Int) : At (w.alloc (.cells #[.int .u32 n] 47)) (some ⟨w.heap.size, 0, none⟩) 1 (fun _ => n) := .inr ⟨_, _, rfl, fun i hi => by
  obtain rfl : i = 0 := by omega
  exact (Blk.new w 47 #[.int .u32 n]).cell rfl⟩
section
variable {B : Nat} {w0 w : World} {g : Nat} {e n : Int} {R : Asn}
theorem nnew_bad (e n : Int) (h0 : 0 ≤ e) (h1 : e ≤ 18446744073709551615) (h2 : 0 ≤ n) (h3 : n ≤ 18446744073709551615) (hb : ¬ (mayE e = true ∧ n < 4294967296)) (w : World) : Calls Try.prog 7 #[.int .u64 e, .int .u64 n] w fun x w' => x = .returned (.tuple #[.pointer none, .int .i64 2]) ∧ w' = w := by
  have hm := nmay_any e h0 h1 w
  cases hv : mayE e with
  | false =>
    rw [hv] at hm
    clear hv hb
    go_enter Try.func7, Try.ntmps7
    go_wp2_with (go_at_call 15; refine hm.mono ?_; rintro x w1 ⟨rfl, hw⟩; rw [hw]; clear hw w1 hm)
    go_ret2
    exact ⟨rfl, rfl⟩
  | true =>
    rw [hv] at hm
    have hn : (4294967296 : Int) ≤ n := Int.not_lt.1 (fun h => hb ⟨hv, h⟩)
    clear hv hb
    go_enter Try.func7, Try.ntmps7
    go_wp2_with (go_at_call 15; refine hm.mono ?_; rintro x w1 ⟨rfl, hw⟩; rw [hw]; clear hw w1 hm)
    go_ret2
    exact ⟨rfl, rfl⟩
theorem nnew_at (e n : Int) (h0 : 0 ≤ e) (h1 : e ≤ 18446744073709551615) (h2 : 0 ≤ n) (hv : mayE e = true) (hn : n < 4294967296) (w : World) : Calls Try.prog 7 #[.int .u64 e, .int .u64 n] w fun x w' => x = .returned (.tuple #[.pointer (some ⟨w.heap.size, 0, none⟩), .int .i64 0]) ∧ w' = w.alloc (.cells #[.int .u64 e, .int .u64 n] 54) := by
  have hm := nmay_any e h0 h1 w
  rw [hv] at hm
  clear hv
  go_enter Try.func7, Try.ntmps7
  go_wp2_with (go_at_call 15; refine hm.mono ?_; rintro x w1 ⟨rfl, hw⟩; rw [hw]; clear hw w1 hm)
  go_ret2
  exact ⟨rfl, rfl⟩
theorem nnew_ok (hR : Firm R) (h : Hold B w0 w R) (e n : Int) (h0 : 0 ≤ e) (h1 : e ≤ 18446744073709551615) (h2 : 0 ≤ n) (hv : mayE e = true) (hn : n < 4294967296) : Calls Try.prog 7 #[.int .u64 e, .int .u64 n] w fun x w' => ∃ g, x = .returned (.tuple #[.pointer (some ⟨g, 0, none⟩), .int .i64 0]) ∧ Hold B w0 w' (star (src g e n) R) :=
  (nnew_at e n h0 h1 h2 hv hn w).mono fun x w' ⟨hx, hw⟩ => ⟨_, hx, by rw [hw]; exact h.newBlk hR 54 #[.int .u64 e, .int .u64 n]⟩
theorem nnext_nil (w : World) : Calls Try.prog 10 #[.pointer none] w fun x w' => x = .returned (.tuple #[.string noB, .int .i64 1]) ∧ w' = w := by
  go_enter Try.func10, Try.ntmps10
  go_wp2
  go_ret2
  exact ⟨rfl, rfl⟩
theorem nleft_nil (w : World) : Calls Try.prog 11 #[.pointer none] w fun x w' => x = .returned (.int .u64 0) ∧ w' = w := by
  go_enter Try.func11, Try.ntmps11
  go_wp2
  go_ret
  exact ⟨rfl, rfl⟩
theorem nleft_any (h : Hold B w0 w (star (src g e n) R)) (h0 : 0 ≤ n) (h1 : n ≤ 4294967296) : Calls Try.prog 11 #[.pointer (some ⟨g, 0, none⟩)] w fun x w' => x = .returned (.int .u64 (4294967296 - n)) ∧ w' = w := by
  have c1 := h.blk.cell (i := 1) rfl
  have e1 : (4294967296 - n) % 18446744073709551616 = 4294967296 - n := by omega
  clear h
  go_enter Try.func11, Try.ntmps11
  go_wp2
  go_ret
  exact ⟨rfl, rfl⟩
theorem nnext_used (h : Hold B w0 w (star (src g e 4294967296) R)) : Calls Try.prog 10 #[.pointer (some ⟨g, 0, none⟩)] w fun x w' => x = .returned (.tuple #[.string noB, .int .i64 25]) ∧ w' = w := by
  have c1 := h.blk.cell (i := 1) rfl
  clear h
  go_enter Try.func10, Try.ntmps10
  go_wp2
  go_ret2
  exact ⟨rfl, rfl⟩
theorem nnext_ok (hR : Firm R) (h : Hold B w0 w (star (src g e n) R)) (he0 : 0 ≤ e) (he1 : e ≤ 18446744073709551615) (hn0 : 0 ≤ n) (hn1 : n < 4294967296) : Calls Try.prog 10 #[.pointer (some ⟨g, 0, none⟩)] w fun x w' => x = .returned (.tuple #[.string (nonB e n), .int .i64 0]) ∧ Hold B w0 w' (star (src g e (n + 1)) R) := by
  have c1 := h.blk.cell (i := 1) rfl
  have F := (firm_src g e n).star hR
  have H : Hid (Hold _ _ _ _) := h.drew F
  have e1 : IntKind.u32.wrap n = n := IntWalk.u32_in _ ⟨by omega, by omega⟩
  have e2 : (n == 4294967296) = false := by simpa using (by omega : ¬ n = 4294967296)
  have e3 : (n + 1) % 18446744073709551616 = n + 1 := by omega
  have hNum := cnumF_any e he0 he1
  have hFB : Hid (∀ (w : World) (a : Option Addr) (c : Nat), At w a 1 (fun _ => n) → Calls Try.prog 17 #[.slice a 1 c] w fun x w' => x = .returned (.string (strOfNums (fourB n))) ∧ Below w.heap.size w w') := fun w a c hA => word1_any hn0 hn1 hA
  have hE : nonB e n = numB e ++ strOfNums (fourB n) := rfl
  have hl : ¬ 9223372036854775807 < (numB e).size + (strOfNums (fourB n)).size := by rw [numB_size, strOfNums_size, show (fourB n).length = 4 from rfl]; decide
  rw [hE]
  generalize numB e = Y at *
  generalize strOfNums (fourB n) = X at *
  have hS : Hid (∀ z, Hold B w0 z (star (src g e n) R) → (fun z : World => z.cell? ⟨g, 0, none⟩ = some (.int .u64 e) ∧ z.cell? ⟨g, 1, none⟩ = some (.int .u64 n)) z) := fun z hz => ⟨hz.blk.cell (i := 0) rfl, hz.blk.cell (i := 1) rfl⟩
  clear h hE
  go_enter Try.func10, Try.ntmps10
  go_wp2_with fail
  clear c1
  refine wp_region_noPanic ?_
  refine wp_region_held_drew (S := fun z : World => z.cell? ⟨g, 0, none⟩ = some (.int .u64 e) ∧ z.cell? ⟨g, 1, none⟩ = some (.int .u64 n)) (by kernel_rfl) (hS.out _ H.out) (fun hHeld => ?_)
  refine wpAnyH_take (i := 0) (v := ?_) rfl (by kernel_rfl) (by kernel_rfl) (by kernel_rfl) (fun _ _ _ h => h) (Or.inl ⟨by rfl, ?_⟩) (by assumption) ?_
  rotate_left
  · intro w hSw; go_simp; try with_reducible rfl
  go_simp
  refine wpAnyH_take (i := 1) (v := ?_) rfl (by kernel_rfl) (by kernel_rfl) (by kernel_rfl) (fun _ _ _ h => h) (Or.inl ⟨by rfl, ?_⟩) (by assumption) ?_
  rotate_left
  · intro w hSw; go_simp; try with_reducible rfl
  go_simp
  refine wpAnyH_take (i := 2) (v := ?_) rfl (by kernel_rfl) (by kernel_rfl) (by kernel_rfl) (fun _ _ _ h => h) (Or.inl ⟨by rfl, ?_⟩) (by assumption) ?_
  rotate_left
  · intro w hSw; go_simp; try with_reducible rfl
  go_simp
  refine wpAnyH_take (i := 3) (v := ?_) rfl (by kernel_rfl) (by kernel_rfl) (by kernel_rfl) (fun _ _ _ h => h) (Or.inl ⟨by rfl, ?_⟩) (by assumption) ?_
  rotate_left
  · intro w hSw; go_simp; try with_reducible rfl
  go_simp
  refine wpAnyH_take (i := 5) (v := ?_) rfl (by kernel_rfl) (by kernel_rfl) (by kernel_rfl) (fun _ _ _ h => h) (Or.inl ⟨by rfl, ?_⟩) (by assumption) ?_
  rotate_left
  · intro w hSw; go_simp; try with_reducible rfl
  go_simp
  refine wpAnyH_take (i := 6) (v := ?_) rfl (by kernel_rfl) (by kernel_rfl) (by kernel_rfl) (fun _ _ _ h => h) (Or.inl ⟨by rfl, ?_⟩) (by assumption) ?_
  rotate_left
  · intro w hSw; go_simp; try with_reducible rfl
  go_simp
  refine wpAnyH_take (i := 7) (v := ?_) rfl (by kernel_rfl) (by kernel_rfl) (by kernel_rfl) (fun _ _ _ h => h) (Or.inl ⟨by rfl, ?_⟩) (by assumption) ?_
  rotate_left
  · intro w hSw; go_simp; try with_reducible rfl
  go_simp
  refine wpAnyH_take (i := 8) (v := ?_) rfl (by kernel_rfl) (by kernel_rfl) (by kernel_rfl) (fun _ _ _ h => h) (Or.inl ⟨by rfl, ?_⟩) (by assumption) ?_
  rotate_left
  · intro w hSw; go_simp; try with_reducible rfl
  go_simp
  refine wpAnyH_take (i := 9) (v := ?_) rfl (by kernel_rfl) (by kernel_rfl) (by kernel_rfl) (fun _ _ _ h => h) (Or.inl ⟨by rfl, ?_⟩) (by assumption) ?_
  rotate_left
  · intro w hSw; go_simp; try with_reducible rfl
  go_simp
  refine wpAnyH_ready (rs := [4, 10]) (by kernel_rfl) (by simp) (AllReadyH.cons rfl (fun K hK => ?_) (AllReadyH.cons rfl (fun K hK => ?_) AllReadyH.nil))
  · go_simp
    go_at_call 16
    refine (hNum _).mono ?_
    rintro x w1 ⟨rfl, hb1⟩
    have H1 : Hid (Hold _ _ _ _) := H.out.below F hb1
    clear H hb1
    refine hK.out _ _ (hS.out _ H1.out) (fun hHeld => ?_)
    clear hK K
    have H2 : Hid (Hold _ _ _ _) := H1.out.below F ((Below.refl _ _).alloc (Nat.le_refl _) (.cells #[.int .u32 n] 47))
    have hA : Hid (At _ _ _ _) := at1 w1 n
    refine wpAnyH_ready (rs := [10]) (by kernel_rfl) (by simp) (AllReadyH.cons rfl (fun K hK => ?_) AllReadyH.nil)
    go_simp
    refine hK.out _ _ (hS.out _ H2.out) (fun hHeld => ?_)
    clear hK K
    clear H1
    refine wpAnyH_ready (rs := [11]) (by kernel_rfl) (by simp) (AllReadyH.cons rfl (fun K hK => ?_) AllReadyH.nil)
    go_simp
    go_at_call 17
    refine (hFB.out _ _ _ hA.out).mono ?_
    rintro x w2 ⟨rfl, hb2⟩
    have H3 : Hid (Hold _ _ _ _) := H2.out.below F hb2
    clear H2 hb2 hA
    refine hK.out _ _ (hS.out _ H3.out) (fun hHeld => ?_)
    clear hK K
    refine wpAnyH_take (i := 12) (v := ?_) rfl (by kernel_rfl) (by kernel_rfl) (by kernel_rfl) (fun _ _ _ h => h) (Or.inl ⟨by rfl, ?_⟩) (by assumption) ?_
    rotate_left
    · intro w hSw; go_simp; try with_reducible rfl
    go_simp
    refine wpAnyH_ready (rs := [13]) (by kernel_rfl) (by simp) (AllReadyH.cons rfl (fun K hK => ?_) AllReadyH.nil)
    go_simp
    refine hK.out _ _ (hS.out _ H3.out) (fun hHeld => ?_)
    clear hK K
    refine wpAnyH_done (by kernel_rfl) ?_ _
    refine NoPanic.normal ?_
    have c1 := H3.out.blk.cell (i := 1) rfl
    have f1 := H3.out.blk.frozen 1
    have H4 : Hid (Hold _ _ _ _) := H3.out.setBlk hR 1 (.int .u64 (n + 1))
    clear H3 hS hHeld
    go_wp2
    go_ret2
    exact ⟨rfl, H4.out⟩
  · have H1 : Hid (Hold _ _ _ _) := H.out.below F ((Below.refl _ _).alloc (Nat.le_refl _) (.cells #[.int .u32 n] 47))
    have hA : Hid (At _ _ _ _) := at1 w.drew n
    clear H
    go_simp
    refine hK.out _ _ (hS.out _ H1.out) (fun hHeld => ?_)
    clear hK K
    refine wpAnyH_ready (rs := [4]) (by kernel_rfl) (by simp) (AllReadyH.cons rfl (fun K hK => ?_) AllReadyH.nil)
    go_simp
    go_at_call 16
    refine (hNum _).mono ?_
    rintro x w1 ⟨rfl, hb1⟩
    have H2 : Hid (Hold _ _ _ _) := H1.out.below F hb1
    have hA2 : Hid (At _ _ _ _) := At_below hA.out hb1
    clear H1 hA hb1
    refine hK.out _ _ (hS.out _ H2.out) (fun hHeld => ?_)
    clear hK K
    refine wpAnyH_ready (rs := [11]) (by kernel_rfl) (by simp) (AllReadyH.cons rfl (fun K hK => ?_) AllReadyH.nil)
    go_simp
    go_at_call 17
    refine (hFB.out _ _ _ hA2.out).mono ?_
    rintro x w2 ⟨rfl, hb2⟩
    have H3 : Hid (Hold _ _ _ _) := H2.out.below F hb2
    clear H2 hb2 hA2
    refine hK.out _ _ (hS.out _ H3.out) (fun hHeld => ?_)
    clear hK K
    refine wpAnyH_take (i := 12) (v := ?_) rfl (by kernel_rfl) (by kernel_rfl) (by kernel_rfl) (fun _ _ _ h => h) (Or.inl ⟨by rfl, ?_⟩) (by assumption) ?_
    rotate_left
    · intro w hSw; go_simp; try with_reducible rfl
    go_simp
    refine wpAnyH_ready (rs := [13]) (by kernel_rfl) (by simp) (AllReadyH.cons rfl (fun K hK => ?_) AllReadyH.nil)
    go_simp
    refine hK.out _ _ (hS.out _ H3.out) (fun hHeld => ?_)
    clear hK K
    refine wpAnyH_done (by kernel_rfl) ?_ _
    refine NoPanic.normal ?_
    have c1 := H3.out.blk.cell (i := 1) rfl
    have f1 := H3.out.blk.frozen 1
    have H4 : Hid (Hold _ _ _ _) := H3.out.setBlk hR 1 (.int .u64 (n + 1))
    clear H3 hS hHeld
    go_wp2
    go_ret2
    exact ⟨rfl, H4.out⟩
theorem nnext_any (hR : Firm R) (h : Hold B w0 w (star (src g e n) R)) (he0 : 0 ≤ e) (he1 : e ≤ 18446744073709551615) (hn0 : 0 ≤ n) (hn1 : n ≤ 4294967296) : Calls Try.prog 10 #[.pointer (some ⟨g, 0, none⟩)] w fun x w' => x = .returned (.tuple #[.string (nxT e n), .int .i64 (nxE n)]) ∧ Hold B w0 w' (star (src g e (nxN n)) R) := by
  by_cases hn : n = 4294967296
  · subst hn
    exact (nnext_used h).mono fun x w' ⟨hx, hw⟩ => ⟨hx, by rw [hw]; exact h⟩
  · rw [nxT_ok e (by omega), nxE_ok (by omega), nxN_ok (by omega)]
    exact nnext_ok hR h he0 he1 hn0 (by omega)
end
end Go.Proofs.Ytikhhijbabllfaa
