/- The document's source of numbers that are used once: May, One, Next, Read. -/
import Derived.Test.YtikhhijbabllfaaNoPlain
import Derived.Test.YtikhhijbabllfaaCdRNum
import Derived.Test.YtikhhijbabllfaaText
import Derived.Test.YtikhhijbabllfaaSep
namespace Go.Proofs.Ytikhhijbabllfaa
open Go.RowKit Go.PlainAid
set_option linter.unusedVariables false
set_option maxRecDepth 20000

/-- The document's source. -/
def rsrc (g : Nat) (e n : Int) : Asn := blkA g 34 [.int .u64 e, .int .u64 n]
theorem firm_rsrc (g : Nat) (e n : Int) : Firm (rsrc g e n) := firm_blk _ _ _
/-- May there be such a source? -/
def mayS (e n : Int) : Bool := mayE e && decide (n < 4294967296)
theorem mayS_iff (e n : Int) : mayS e n = true ↔ (mayE e = true ∧ n < 4294967296) := by unfold mayS; rw [Bool.and_eq_true, decide_eq_true_eq]
theorem mayS_le (e : Int) {n : Int} (h : n < 4294967296) : mayS e n = mayE e := by unfold mayS; rw [decide_eq_true h, Bool.and_true]
theorem r16may_any (e n : Int) (h0 : 0 ≤ e) (h1 : e ≤ 18446744073709551615) (h2 : 0 ≤ n) (h3 : n ≤ 18446744073709551615) (w : World) : Calls Try.prog 9 #[.int .u64 e, .int .u64 n] w fun x w' => x = .returned (.bool (mayS e n)) ∧ w' = w := by
  by_cases a : e = 0
  · subst a
    go_enter Try.func9, Try.ntmps9
    go_wp2
    go_ret
    exact ⟨rfl, rfl⟩
  · have a' : (1 : Int) ≤ e := by omega
    by_cases b : e ≤ 4294967295
    · by_cases c : n ≤ 4294967295
      · rw [(mayS_iff e n).2 ⟨(mayE_iff e).2 ⟨a, b⟩, by omega⟩]
        go_enter Try.func9, Try.ntmps9
        go_wp2
        go_ret
        exact ⟨rfl, rfl⟩
      · have hm : mayS e n = false := by rw [Bool.eq_false_iff]; exact fun h => c (by have := ((mayS_iff e n).1 h).2; omega)
        rw [hm]
        go_enter Try.func9, Try.ntmps9
        go_wp2
        go_ret
        exact ⟨rfl, rfl⟩
    · have hm : mayS e n = false := by rw [Bool.eq_false_iff]; exact fun h => b ((mayE_iff e).1 ((mayS_iff e n).1 h).1).2
      rw [hm]
      go_enter Try.func9, Try.ntmps9
      go_wp2
      go_ret
      exact ⟨rfl, rfl⟩
theorem rword1_any {w : World} {a : Option Addr} {c : Nat} {n : Int} (h0 : 0 ≤ n) (h1 : n < 4294967296) (hA : At w a 1 (fun _ => n)) : Calls Try.prog 25 #[.slice a 1 c, .bool true] w fun x w' => x = .returned (.string (strOfNums (fourB n))) ∧ Below w.heap.size w w' :=
  refText_big a c 1 (fun _ => n) w (by decide) hA (fun _ _ => ⟨h0, h1⟩)
theorem r16one_any (e n : Int) (h0 : 0 ≤ e) (h1 : e ≤ 18446744073709551615) (h2 : 0 ≤ n) (h3 : n < 4294967296) (w : World) : Calls Try.prog 18 #[.int .u64 e, .int .u64 n] w fun x w' => x = .returned (.string (nonB e n)) ∧ Below w.heap.size w w' := by
  have e1 : IntKind.u32.wrap n = n := IntWalk.u32_in _ ⟨by omega, by omega⟩
  have e2 : n % 4294967296 = n := by omega
  obtain ⟨N, rfl⟩ : ∃ N : Nat, e = (N : Int) := ⟨e.toNat, by omega⟩
  have hNum := fun w => rnumF_any N (by omega) w
  have hFB : Hid (∀ (w : World) (a : Option Addr) (c : Nat), At w a 1 (fun _ => n) → Calls Try.prog 25 #[.slice a 1 c, .bool true] w fun x w' => x = .returned (.string (strOfNums (fourB n))) ∧ Below w.heap.size w w') := fun w a c hA => rword1_any h2 h3 hA
  have hA : Hid (∀ w : World, At (w.alloc (.cells #[.int .u32 n] 47)) (some ⟨w.heap.size, 0, none⟩) 1 (fun _ => n)) := fun w => .inr ⟨_, _, rfl, fun i hi => by
    obtain rfl : i = 0 := by omega
    exact (Blk.new w 47 #[.int .u32 n]).cell rfl⟩
  have hE : nonB (N : Int) n = numB (N : Int) ++ strOfNums (fourB n) := rfl
  have hl : ¬ 9223372036854775807 < (numB (N : Int)).size + (strOfNums (fourB n)).size := by rw [numB_size, strOfNums_size, show (fourB n).length = 4 from rfl]; decide
  rw [hE]
  generalize numB (N : Int) = Y at *
  generalize strOfNums (fourB n) = X at *
  clear hE
  go_enter Try.func18, Try.ntmps18
  go_wp2_with (first
    | (go_at_call 24; refine (hNum _).mono ?_; rintro x w1 ⟨rfl, hb1⟩; have H1 : Hid (Below w.heap.size w w1) := hb1; clear hb1)
    | (go_at_call 25; refine (hFB.out _ _ _ (hA.out _)).mono ?_; rintro x w2 ⟨rfl, hb2⟩; have H2 : Hid (Below w.heap.size w w2) := (H1.out.alloc H1.out.size _).trans (hb2.mono (by have := H1.out.size; simp; omega)); clear H1 hb2))
  go_ret
  exact ⟨rfl, H2.out⟩
section
variable {B : Nat} {w0 w : World} {g : Nat} {e n : Int} {R : Asn}
theorem r16next_any (hR : Firm R) (h : Hold B w0 w (star (rsrc g e n) R)) (he0 : 0 ≤ e) (he1 : e ≤ 18446744073709551615) (hn0 : 0 ≤ n) (hn1 : n ≤ 4294967296) : Calls Try.prog 12 #[.pointer (some ⟨g, 0, none⟩)] w fun x w' => x = .returned (.tuple #[.string (nxT e n), .int .i64 (nxE n)]) ∧ Hold B w0 w' (star (rsrc g e (nxN n)) R) := by
  by_cases hn : n = 4294967296
  · subst hn
    have c1 := h.blk.cell (i := 1) rfl
    have H : Hid (Hold _ _ _ _) := h
    clear h
    go_enter Try.func12, Try.ntmps12
    go_wp2
    go_ret2
    exact ⟨rfl, H.out⟩
  · have hlt : n < 4294967296 := by omega
    rw [nxT_ok e hlt, nxE_ok hlt, nxN_ok hlt]
    have c1 := h.blk.cell (i := 1) rfl
    have hgt : ¬ (4294967295 : Int) < n := by omega
    have F := (firm_rsrc g e n).star hR
    have H : Hid (Hold _ _ _ _) := h.drew F
    have e3 : (n + 1) % 18446744073709551616 = n + 1 := by omega
    have hone := r16one_any e n he0 he1 hn0 hlt
    generalize nonB e n = X at *
    have hS : Hid (∀ z, Hold B w0 z (star (rsrc g e n) R) → (fun z : World => z.cell? ⟨g, 0, none⟩ = some (.int .u64 e) ∧ z.cell? ⟨g, 1, none⟩ = some (.int .u64 n)) z) := fun z hz => ⟨hz.blk.cell (i := 0) rfl, hz.blk.cell (i := 1) rfl⟩
    clear h
    go_enter Try.func12, Try.ntmps12
    go_wp2_with fail
    clear c1
    refine wp_region_noPanic ?_
    refine wp_region_held_drew (S := fun z : World => z.cell? ⟨g, 0, none⟩ = some (.int .u64 e) ∧ z.cell? ⟨g, 1, none⟩ = some (.int .u64 n)) (by kernel_rfl) (hS.out _ H.out) (fun hHeld => ?_)
    refine wpAnyH_take (i := 0) (v := ?_) rfl (by kernel_rfl) (by kernel_rfl) (by kernel_rfl) (fun _ _ _ h => h) (Or.inl ⟨by rfl, ?_⟩) (by assumption) ?_
    rotate_left
    · intro w hSw; go_simp; try with_reducible rfl
    go_simp
    refine wpAnyH_take (i := 1) (v := ?_) rfl (by kernel_rfl) (by kernel_rfl) (by kernel_rfl) (fun _ _ _ h => h) (Or.inl ⟨by rfl, ?_⟩) (by assumption) ?_
    rotate_left
    · intro w hSw; go_simp; try with_reducible rfl
    go_simp
    refine wpAnyH_take (i := 2) (v := ?_) rfl (by kernel_rfl) (by kernel_rfl) (by kernel_rfl) (fun _ _ _ h => h) (Or.inl ⟨by rfl, ?_⟩) (by assumption) ?_
    rotate_left
    · intro w hSw; go_simp; try with_reducible rfl
    go_simp
    refine wpAnyH_take (i := 3) (v := ?_) rfl (by kernel_rfl) (by kernel_rfl) (by kernel_rfl) (fun _ _ _ h => h) (Or.inl ⟨by rfl, ?_⟩) (by assumption) ?_
    rotate_left
    · intro w hSw; go_simp; try with_reducible rfl
    go_simp
    refine wpAnyH_take (i := 4) (v := ?_) rfl (by kernel_rfl) (by kernel_rfl) (by kernel_rfl) (fun _ _ _ h => h) (Or.inl ⟨by rfl, ?_⟩) (by assumption) ?_
    rotate_left
    · intro w hSw; go_simp; try with_reducible rfl
    go_simp
    refine wpAnyH_take (i := 5) (v := ?_) rfl (by kernel_rfl) (by kernel_rfl) (by kernel_rfl) (fun _ _ _ h => h) (Or.inl ⟨by rfl, ?_⟩) (by assumption) ?_
    rotate_left
    · intro w hSw; go_simp; try with_reducible rfl
    go_simp
    refine wpAnyH_take (i := 6) (v := ?_) rfl (by kernel_rfl) (by kernel_rfl) (by kernel_rfl) (fun _ _ _ h => h) (Or.inl ⟨by rfl, ?_⟩) (by assumption) ?_
    rotate_left
    · intro w hSw; go_simp; try with_reducible rfl
    go_simp
    refine wpAnyH_take (i := 7) (v := ?_) rfl (by kernel_rfl) (by kernel_rfl) (by kernel_rfl) (fun _ _ _ h => h) (Or.inl ⟨by rfl, ?_⟩) (by assumption) ?_
    rotate_left
    · intro w hSw; go_simp; try with_reducible rfl
    go_simp
    refine wpAnyH_ready (rs := [8]) (by kernel_rfl) (by simp) (AllReadyH.cons rfl (fun K hK => ?_) AllReadyH.nil)
    go_simp
    go_at_call 18
    refine (hone _).mono ?_
    rintro x w1 ⟨rfl, hb1⟩
    have H3 : Hid (Hold _ _ _ _) := H.out.below F hb1
    clear H hb1
    refine hK.out _ _ (hS.out _ H3.out) (fun hHeld => ?_)
    clear hK K
    refine wpAnyH_ready (rs := [9]) (by kernel_rfl) (by simp) (AllReadyH.cons rfl (fun K hK => ?_) AllReadyH.nil)
    go_simp
    refine hK.out _ _ (hS.out _ H3.out) (fun hHeld => ?_)
    clear hK K
    refine wpAnyH_done (by kernel_rfl) ?_ _
    refine NoPanic.normal ?_
    have c1 := H3.out.blk.cell (i := 1) rfl
    have f1 := H3.out.blk.frozen 1
    have H4 : Hid (Hold _ _ _ _) := H3.out.setBlk hR 1 (.int .u64 (n + 1))
    clear H3 hS hHeld
    go_wp2
    go_ret2
    exact ⟨rfl, H4.out⟩
end
theorem nacc_range (S : ByteArray) (p : Nat) (k : Nat) (hk : k < 8) : 0 ≤ acc S (fun j => p + j) k ∧ acc S (fun j => p + j) k ≤ 72057594037927935 := by
  have h0 := bt_range S (p + 0)
  have h1 := bt_range S (p + 1)
  have h2 := bt_range S (p + 2)
  have h3 := bt_range S (p + 3)
  have h4 := bt_range S (p + 4)
  have h5 := bt_range S (p + 5)
  have h6 := bt_range S (p + 6)
  rcases (by omega : k = 0 ∨ k = 1 ∨ k = 2 ∨ k = 3 ∨ k = 4 ∨ k = 5 ∨ k = 6 ∨ k = 7) with rfl | rfl | rfl | rfl | rfl | rfl | rfl | rfl <;> simp only [acc] <;> omega
theorem r16read_any (s : ByteArray) (hs : s.size ≤ maxLen) (w : World) : Calls Try.prog 14 #[.string s] w fun x w' => x = .returned (.tuple #[.int .u64 (nrP s), .int .u64 (nrQ s), .int .i64 (nrE s)]) ∧ Below w.heap.size w w' := by
  by_cases h12 : s.size = 12
  · have hz : (s.size : Int) = 12 := by omega
    have H12 : Hid (s.size = 12) := h12
    clear hs h12
    have HA : Hid (∀ k, k < 8 → 0 ≤ acc s (fun j => 0 + j) k ∧ acc s (fun j => 0 + j) k ≤ 72057594037927935) := nacc_range s 0
    have HC : Hid (∀ k, k < 8 → 0 ≤ acc s (fun j => 8 + j) k ∧ acc s (fun j => 8 + j) k ≤ 72057594037927935) := nacc_range s 8
    have HS : Hid (∀ k, acc s (fun j => 0 + j) (k + 1) = 256 * acc s (fun j => 0 + j) k + bt s (0 + k)) := fun k => rfl
    have HT : Hid (∀ k, acc s (fun j => 8 + j) (k + 1) = 256 * acc s (fun j => 8 + j) k + bt s (8 + k)) := fun k => rfl
    have HE : Hid (acc s (fun j => 0 + j) 8 = rd8 s 0 ∧ acc s (fun j => 8 + j) 4 = rd4 s 8) := ⟨rfl, rfl⟩
    have H0 : Hid ((0 : Int) = acc s (fun j => 0 + j) 0 ∧ (0 : Int) = acc s (fun j => 8 + j) 0) := ⟨rfl, rfl⟩
    have HR : Hid (0 ≤ rd8 s 0 ∧ rd8 s 0 ≤ 18446744073709551615 ∧ 0 ≤ rd4 s 8 ∧ rd4 s 8 < 4294967296) := ⟨(rd8_range s 0).1, (rd8_range s 0).2, rd4_range s 8⟩
    have hbs := get_bt s
    generalize acc s (fun j => 0 + j) = A at *
    generalize acc s (fun j => 8 + j) = C at *
    go_enter Try.func14, Try.ntmps14
    go_wp2
    go_loopw [5, 6] (fun v i wr => ∃ k : Nat, k ≤ 8 ∧ v = .int .u64 (A k) ∧ i = .int .i64 (k : Int) ∧ Hid (Below w.heap.size w wr)) (fun _ i _ => 8 - (intOf i).toNat)
    case atStart => exact ⟨0, by omega, by rw [← H0.out.1], rfl, (Below.refl _ _)⟩
    case round =>
      obtain ⟨k, hk, rfl, rfl, hwr⟩ := hrel
      by_cases hlt : k < 8
      · have hlt' : (k : Int) < 8 := by omega
        obtain ⟨a0, a1⟩ := HA.out k hlt
        obtain ⟨b0, b1⟩ := bt_range s k
        have hs := HS.out k
        rw [Nat.zero_add] at hs
        have p1 : (k : Int) < (s.size : Int) := by omega
        have z3 : IntKind.u64.wrap (256 * A k) = 256 * A k := IntWalk.u64_in _ ⟨by omega, by omega⟩
        have z4 : IntKind.u64.wrap (256 * A k + bt s k) = A (k + 1) := by rw [hs]; exact IntWalk.u64_in _ ⟨by omega, by omega⟩
        have z5 : IntKind.u64.wrap (bt s k) = bt s k := IntWalk.u64_in _ ⟨by omega, by omega⟩
        clear hs
        go_wp2
        go_roundw
        case rel => exact ⟨k + 1, by omega, rfl, by go_num, hwr.out⟩
        case measure => simp [intOf]; omega
      · have hk8 : k = 8 := by omega
        subst hk8
        rw [HE.out.1]
        go_wp2
        go_loopw [7, 8] (fun v i wr => ∃ k : Nat, k ≤ 4 ∧ v = .int .u64 (C k) ∧ i = .int .i64 (8 + (k : Int)) ∧ Hid (Below w.heap.size w wr)) (fun _ i _ => 12 - (intOf i).toNat)
        case atStart => exact ⟨0, by omega, by rw [← H0.out.2], rfl, hwr.out⟩
        case round =>
          obtain ⟨k, hk, rfl, rfl, hwr⟩ := hrel
          by_cases hlt : k < 4
          · have hlt' : 8 + (k : Int) < 12 := by omega
            obtain ⟨a0, a1⟩ := HC.out k (by omega)
            obtain ⟨b0, b1⟩ := bt_range s (8 + k)
            have hs := HT.out k
            have p0 : (0 : Int) ≤ 8 + (k : Int) := by omega
            have p1 : 8 + (k : Int) < (s.size : Int) := by omega
            have t0 : (8 + (k : Int)).toNat = 8 + k := by omega
            have z3 : IntKind.u64.wrap (256 * C k) = 256 * C k := IntWalk.u64_in _ ⟨by omega, by omega⟩
            have z4 : IntKind.u64.wrap (256 * C k + bt s (8 + k)) = C (k + 1) := by rw [hs]; exact IntWalk.u64_in _ ⟨by omega, by omega⟩
            have z5 : IntKind.u64.wrap (bt s (8 + k)) = bt s (8 + k) := IntWalk.u64_in _ ⟨by omega, by omega⟩
            clear hs
            go_wp2
            go_roundw
            case rel => exact ⟨k + 1, by omega, rfl, by go_num, hwr.out⟩
            case measure => simp [intOf]; omega
          · have hk4 : k = 4 := by omega
            subst hk4
            rw [HE.out.2]
            obtain ⟨r0, r1, r2, r3⟩ := HR.out
            have hm := r16may_any (rd8 s 0) (rd4 s 8) r0 r1 r2 (by omega)
            rw [mayS_le _ r3] at hm
            cases hc : mayE (rd8 s 0) with
            | true =>
              have he := nrE_ok H12.out hc
              obtain ⟨e1, e2⟩ := nr_good he
              have HX : Hid (nrP s = _ ∧ nrQ s = _ ∧ nrE s = _) := ⟨e1, e2, he⟩
              rw [hc] at hm
              clear he e1 e2 hc
              generalize rd8 s 0 = a at *
              generalize rd4 s 8 = b at *
              go_wp2_with (go_at_call 9; refine (hm _).mono ?_; rintro x w3 ⟨rfl, hw⟩; rw [hw]; clear hw w3)
              go_ret3
              exact ⟨by rw [HX.out.1, HX.out.2.1, HX.out.2.2]; rfl, hwr.out⟩
            | false =>
              have he := nrE_arg H12.out hc
              obtain ⟨e1, e2⟩ := nr_bad (s := s) (by rw [he]; decide)
              have HX : Hid (nrP s = _ ∧ nrQ s = _ ∧ nrE s = _) := ⟨e1, e2, he⟩
              rw [hc] at hm
              clear he e1 e2 hc
              generalize rd8 s 0 = a at *
              generalize rd4 s 8 = b at *
              go_wp2_with (go_at_call 9; refine (hm _).mono ?_; rintro x w3 ⟨rfl, hw⟩; rw [hw]; clear hw w3)
              go_ret3
              exact ⟨by rw [HX.out.1, HX.out.2.1, HX.out.2.2]; rfl, hwr.out⟩
  · have he := nrE_shape h12
    obtain ⟨e1, e2⟩ := nr_bad (s := s) (by rw [he]; decide)
    rw [he, e1, e2]
    have hz : ((s.size : Int) == 12) = false := by simpa using (by omega : ¬ (s.size : Int) = 12)
    clear he e1 e2 hs
    go_enter Try.func14, Try.ntmps14
    go_wp2
    go_ret3
    exact ⟨rfl, Below.refl _ _⟩
end Go.Proofs.Ytikhhijbabllfaa
