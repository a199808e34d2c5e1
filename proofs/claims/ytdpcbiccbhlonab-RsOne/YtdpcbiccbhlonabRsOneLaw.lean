/- If just one byte of a stripe's chunks is another, they fit no more: the law's walk. -/
import Derived.Test.YtdpcbiccbhlonabRsAll
import Derived.Test.YtdpcbiccbhlonabRsArr
import Derived.Lib.ConvBytes
import Derived.BigRegion
namespace Go.Proofs.Ytdpcbiccbhlonab
open Go.RowKit Go.PlainAid
set_option linter.unusedVariables false

theorem StrsArg.below {w w' : World} {a : Option Addr} {len cap : Nat} (h : StrsArg w a len cap) (hb : Below w.heap.size w w') : StrsArg w' a len cap := by
  obtain ⟨T, h1, h2, h3, h4, h5⟩ := h
  exact ⟨T, h1, h2, h3, h4.below hb (Nat.le_refl _), h5⟩
/-- The bytes of a text, in a row of their own. -/
theorem bytes_of (w : World) (m : Nat) (f : Nat → E) : ∃ c w', (convert 9 28 (.string (strE m f))).run Try.prog w = .ok (.slice (some ⟨w.heap.size, 0, none⟩) m c) w' ∧ Below w.heap.size w w' ∧ w.heap.size < w'.heap.size ∧
    (∀ i, i < m → w'.cell? ⟨w.heap.size, i, none⟩ = some (byteV (f i))) ∧ ∀ i, i < m → w'.frozen? ⟨w.heap.size, i, none⟩ = false := by
  have hr := Lib.run_convert_string_bytes (P := Try.prog) w 9 28 5 (strE m f) Try.underlying9 Try.underlying28 Try.underlying5
  rw [strE_size] at hr
  have hs := Lib.bytesWorld_size w 5 (strE m f)
  have hn := Lib.bytesWorld_at_new w 5 (strE m f)
  have hcs : ∀ i, i < m → (Lib.bytesCells w 5 (strE m f))[i]? = some (byteV (f i)) := fun i hi => by
    unfold Lib.bytesCells
    have hl : ((strE m f).data.map fun b => Value.int .u8 b.toNat).size = m := by
      have := congrArg List.length (strE_cells m f)
      rw [bytesL_length] at this
      simpa using this
    rw [Array.getElem?_append_left (by rw [hl]; exact hi), ← Array.getElem?_toList, strE_cells, bytesL_at _ _ _ hi]
  refine ⟨_, _, hr, ⟨rfl, rfl, rfl, by omega, fun j hj => Lib.bytesWorld_at_old w 5 (strE m f) j hj⟩, by omega, fun i hi => ?_, fun i hi => ?_⟩
  · simp only [World.cell?, hn]; exact hcs i hi
  · have hlt : i < (Lib.bytesCells w 5 (strE m f)).size := by
      rcases Nat.lt_or_ge i (Lib.bytesCells w 5 (strE m f)).size with h | h
      · exact h
      · have := hcs i hi; rw [Array.getElem?_eq_none h] at this; cases this
    simp only [World.frozen?, hn]
    simp
    omega
theorem cell_setCell_ne (w : World) (b i j : Nat) (v : Value) (h : j ≠ i) : (w.setCell ⟨b, i, none⟩ v).cell? ⟨b, j, none⟩ = w.cell? ⟨b, j, none⟩ := by
  have h' : ¬ i = j := fun e => h e.symm
  go_simp
/-- A stripe with one byte another. -/
def oneY (k A P : Nat) (y : E) (D : Mx) : Mx := fun i c => if i = A ∧ c = P then St k D i c + y else St k D i c
theorem strE_inj {m : Nat} {f g : Nat → E} (h : strE m f = strE m g) (i : Nat) (hi : i < m) : f i = g i := by
  apply E.same
  have h1 := bt_strE m f i hi
  rw [h, bt_strE m g i hi] at h1
  omega
theorem add_ne {a y : E} (hy : y ≠ 0) : a + y ≠ a := fun h => hy (by
  have : a + (a + y) = a + a := by rw [h]
  rw [← E.add_assoc, E.add_self, E.zero_add] at this
  exact this)
theorem chk_one {k m A P : Nat} (k1 : 1 ≤ k) (k8 : k ≤ 8) (hm : m ≤ 65536) (hA : A < k + 2) (hP : P < m) (y : E) (D : Mx) : chkB (k + 2) (fun _ => m) (oneY k A P y D) = decide (y.v = 0) := by
  have hz : encE k (fun _ => m) = 0 := encE_zero.2 ⟨⟨k1, k8⟩, fun _ _ => rfl, hm⟩
  by_cases hy : y = 0
  · have e : oneY k A P y D = St k D := by
      funext i c
      unfold oneY
      split
      · rw [hy, E.add_zero]
      · rfl
    rw [e, chk_stripe k1 k8 hm D, decide_eq_true (by rw [hy]; rfl)]
  · rw [decide_eq_false (E.ne_v hy)]
    unfold chkB
    refine decide_eq_false fun h => ?_
    obtain ⟨-, -, -, h0, h1⟩ := h
    rw [show k + 2 - 2 = k from by omega] at h0 h1
    rw [show k + 2 - 1 = k + 1 from by omega] at h1
    unfold encS at h0 h1
    rw [if_pos hz] at h0 h1
    have e0 := strE_inj h0 P hP
    have e1 := strE_inj h1 P hP
    have hpar : ∀ r, mulM k powM (oneY k A P y D) r P = if A < k then St k D (k + r) P + powM r A * y else St k D (k + r) P := fun r => by
      have hS : St k D (k + r) P = S k (fun j => powM r j * St k D j P) := by
        rw [St_parity]
        exact S_congr fun j hj => by rw [St_data hj]
      by_cases h : A < k
      · rw [if_pos h, hS]
        show S k (fun j => powM r j * oneY k A P y D j P) = _
        rw [S_congr (g := fun j => powM r j * St k D j P + (if j = A then powM r A * y else 0)) fun j hj => by
          unfold oneY
          by_cases e : j = A
          · rw [if_pos ⟨e, rfl⟩, if_pos e, E.mul_add, e]
          · rw [if_neg (fun h => e h.1), if_neg e, E.add_zero], S_add]
        congr 1
        rw [S_one h (fun j hj hne => if_neg hne), if_pos rfl]
      · rw [if_neg h, hS]
        refine S_congr fun j hj => ?_
        unfold oneY
        rw [if_neg (fun e => by omega)]
    rw [hpar] at e0 e1
    by_cases h : A < k
    · rw [if_pos h, powM_zero, E.one_mul, Nat.add_zero] at e0
      have : oneY k A P y D k P = St k D k P := if_neg (fun e => by omega)
      rw [this] at e0
      exact add_ne hy e0
    · rw [if_neg h, Nat.add_zero] at e0
      rw [if_neg h] at e1
      by_cases e : A = k
      · have : oneY k A P y D k P = St k D k P + y := if_pos ⟨e.symm, rfl⟩
        rw [this] at e0
        exact add_ne hy e0.symm
      · have e' : k + 1 = A := by omega
        have : oneY k A P y D (k + 1) P = St k D (k + 1) P + y := if_pos ⟨e', rfl⟩
        rw [this] at e1
        exact add_ne hy e1.symm

set_option maxHeartbeats 4000000 in
theorem oneLaw_arg (l : Option Addr) (len cap : Nat) (x y : Int) (by' : Int) (w0 : World) (hL0 : StrsArg w0 l len cap) (hx : -9223372036854775808 ≤ x ∧ x ≤ 9223372036854775807) (hy : -9223372036854775808 ≤ y ∧ y ≤ 9223372036854775807) (hby : (Lit.int .u8 by').wf = true) :
    Calls Try.prog 4 #[.slice l len cap, .agg #[.int .i64 x, .int .i64 y], .int .u8 by'] w0 fun e w' => e = .returned (.bool true) ∧ Below w0.heap.size w0 w' := by
  have hbb := bounds_u8 hby
  obtain ⟨e, rfl⟩ : ∃ e : E, by' = (e.v : Int) := ⟨⟨by'.toNat, by omega⟩, by simp only []; omega⟩
  have hcut := fun w hb => cut_any l len cap 60 true w (hL0.below hb) (by decide)
  have hwk := fun x => rsWakes_any x
  have hX : (w0.alloc (.cells #[.int .i64 x, .int .i64 y] 31 (0, 0))).cell? ⟨w0.heap.size, 0, none⟩ = some (.int .i64 x) := by go_simp
  have hY : (w0.alloc (.cells #[.int .i64 x, .int .i64 y] 31 (0, 0))).cell? ⟨w0.heap.size, 1, none⟩ = some (.int .i64 y) := by go_simp
  have hb00 : Below w0.heap.size w0 (w0.alloc (.cells #[.int .i64 x, .int .i64 y] 31 (0, 0))) := (Below.refl _ _).alloc (Nat.le_refl _) _
  clear hL0 hby hbb
  go_enter Try.func4, Try.ntmps4
  go_wp2_with fail
  go_quiet (fail)
  go_wp2_with fail
  go_at_call 5
  refine (hcut _ (below_drewN hb00 _)).mono ?_
  rintro e' w1 ⟨hb1', v, f, rfl, hC'⟩
  have hb1 : Below w0.heap.size w0 w1 := (below_drewN hb00 _).trans (hb1'.mono (below_drewN hb00 _).size)
  have hC : ∃ base, w0.heap.size ≤ base ∧ CutTo w1 base v (min len 12) 60 true f := ⟨_, (below_drewN hb00 _).size, hC'⟩
  clear hb1' hC' hcut hX hY hb00
  obtain ⟨base, hbase, hC⟩ := hC
  have k12 : min len 12 ≤ 12 := by omega
  generalize min len 12 = k at hC k12 ⊢
  obtain ⟨a, c, rfl, hc1, hc2, hT⟩ := hC.txt (by decide)
  by_cases hk : 1 ≤ k ∧ k ≤ 8
  · obtain ⟨m, D, hmN, hm, hE, hf, hp, hq, hm0⟩ := hC.elems (by decide) hk.1 hk.2
    rcases hC.1.2 with ⟨-, h1⟩ | ⟨g0, c', cur, hg0, -⟩
    · omega
    cases hg0
    have hc0 : w1.cell? ⟨g0, 0, none⟩ = some (.string (f 0)) := by rw [hC.1.cellAt 0 (by omega), strsL_at _ _ 0 (by omega)]
    generalize f 0 = f0 at hc0 hm0
    have t0 : ((k : Int) == 0) = false := by simp; omega
    have t1 : ¬ (8 : Int) < (k : Int) := by omega
    have k0 : (0 : Int) < (k : Int) := by omega
    by_cases hm1 : m = 0
    · subst hm1
      clear hE hf hp hq hC hT hk hm hmN
      go_wp2_with fail
      go_at_call 6
      refine (hwk _).mono ?_
      rintro e w5 ⟨rfl, hb5⟩
      go_wp2_with fail
      go_ret
      exact ⟨rfl, hb1.trans (hb5.mono hb1.size)⟩
    · have t2 : ((m : Int) == 0) = false := by simp; omega
      have henc := encode_any (some ⟨g0, 0, none⟩) k c _ _ w1 hc1 hc2 hT
      rw [hE, hp, hq] at henc
      have HV : Hid (∀ x, Below w1.heap.size w1 x → Vals x (some ⟨g0, 0, none⟩) k fun i => .string (strE m (St k D i))) := fun x hx => by
        rcases (hT.below hx).1 with h0 | ⟨b, o, e, h⟩
        · omega
        · exact .inr ⟨b, o, e, fun i hi => by
            have := h i hi
            simp only [strE_te] at this
            rw [this, hf i hi]⟩
      have HK : Hid (1 ≤ k ∧ k ≤ 8) := hk
      have HM : Hid (m ≤ 65536) := hm
      have HPQ : Hid (strE m (St k D k) = (fun i => strE m (St k D i)) k ∧ strE m (St k D (k + 1)) = (fun i => strE m (St k D i)) (k + 1)) := ⟨rfl, rfl⟩
      generalize strE m (St k D k) = p at henc HPQ
      generalize strE m (St k D (k + 1)) = q at henc HPQ
      have hm9 : m ≤ 60 := hmN
      clear hE hf hp hq hC hT hk hm hmN
      go_wp2_with fail
      go_at_call 7
      refine henc.mono ?_
      rintro e' w2 ⟨hb2, rfl⟩
      have hb02 := hb1.trans (hb2.mono hb1.size)
      obtain ⟨v3, w3, hrun, hown3, hb3⟩ := app_strs w2 (some ⟨g0, 0, none⟩) k c (fun i => strE m (St k D i)) (HV.out w2 hb2) (fun h => by cases h) (by omega)
      have hb03 := hb02.trans (hb3.mono hb02.size)
      clear henc hc0 hm0
      obtain ⟨zA, hzA⟩ : ∃ z, x.toNat = z := ⟨_, rfl⟩
      have hmaxA : (if (0 : Int) < x then x else 0) = (zA : Int) := by rw [← hzA]; split <;> omega
      obtain ⟨A, hA, hAk⟩ : ∃ A, zA % (k + 2) = A ∧ A < k + 2 := ⟨_, rfl, Nat.mod_lt _ (by omega)⟩
      have hmodA : Int.tmod (zA : Int) ((k : Int) + 2) = (A : Int) := by
        rw [← hA, show ((k : Int) + 2) = ((k + 2 : Nat) : Int) by omega]; rfl
      have hAk' : (A : Int) < (k : Int) + 2 := by omega
      obtain ⟨zP, hzP⟩ : ∃ z, y.toNat = z := ⟨_, rfl⟩
      have hmaxP : (if (0 : Int) < y then y else 0) = (zP : Int) := by rw [← hzP]; split <;> omega
      obtain ⟨P, hP, hPm⟩ : ∃ P, zP % m = P ∧ P < m := ⟨_, rfl, Nat.mod_lt _ (by omega)⟩
      have hmodP : Int.tmod (zP : Int) (m : Int) = (P : Int) := by rw [← hP]; rfl
      have hPm' : (P : Int) < (m : Int) := by omega
      clear hzA hzP hA hP
      have nk : (((k : Int) + 2) == 0) = false := by simp; omega
      go_wp2_with (at_builtin; first | refine Lib.wpList_append_run _ rfl _ _ 22 22 rfl _ _ rfl rfl _ _ (hrun _) ?_ | refine push_strs_two rfl _ _ rfl _ w2.heap.size _ k (fun i => strE m (St k D i)) hown3 rfl _ _ HPQ.out.1 HPQ.out.2 _ rfl rfl (by omega) hb3.size ?_)
      intro v4 w4 hown4 hb4
      rcases hown4.2 with ⟨-, h1⟩ | ⟨ga, ca, cur, hga, -, -, hca1, hca2, -⟩
      · omega
      subst hga
      have hb04 : Below w0.heap.size w0 w4 := hb02.trans ((hb3.trans hb4).mono hb02.size)
      have hcA : w4.cell? ⟨ga, A, none⟩ = some (.string (strE m (St k D A))) := by rw [hown4.cellAt A (by omega), strsL_at _ _ A hAk]
      obtain ⟨cB, w5, hconv, hb5, hlt5, hcell5, hfr5⟩ := bytes_of w4 m (St k D A)
      have hcP : w5.cell? ⟨w4.heap.size, P, none⟩ = some (.int .u8 ((St k D A P).v : Int)) := hcell5 P hPm
      have hfP := hfr5 P hPm
      have hxor := u8_xor_nat (St k D A P).v e.v (St k D A P).h e.h
      have HA : Hid (St k D A P + e = ⟨(St k D A P).v ^^^ e.v, (St k D A P + e).h⟩) := rfl
      have hown5 := owns_below hown4 hb5
      have hga4 := hown4.lt ga rfl
      have HC5 : Hid (∀ i, i < m → w5.cell? ⟨w4.heap.size, i, none⟩ = some (byteV (St k D A i))) := hcell5
      obtain ⟨X, hX⟩ : ∃ X, (St k D A P).v ^^^ e.v = X := ⟨_, rfl⟩
      rw [hX] at hxor
      have hgP : w4.heap.size ≤ (⟨w4.heap.size, P, none⟩ : Addr).block := Nat.le_refl _
      have hb56 : Below w4.heap.size w5 (w5.setCell ⟨w4.heap.size, P, none⟩ (.int .u8 (X : Int))) := (Below.refl _ _).setCell hgP _
      have hown6 := owns_at hown5 hb56 hga4.2
      have hrow6 : RowAt (w5.setCell ⟨w4.heap.size, P, none⟩ (.int .u8 (X : Int))) (some ⟨w4.heap.size, 0, none⟩) m (oneY k A P e D A) := .inr ⟨w4.heap.size, 0, rfl, fun i hi => by
        rw [Nat.zero_add]
        by_cases h : i = P
        · subst h
          rw [World.cell?_setCell_same' w5 ⟨w4.heap.size, i, none⟩ _ (by rw [hcP]; rfl)]
          show _ = some (Value.int .u8 ((oneY k A i e D A i).v : Int))
          rw [show oneY k A i e D A i = St k D A i + e from if_pos ⟨rfl, rfl⟩, ← hX]; rfl
        · rw [cell_setCell_ne _ _ _ _ _ (fun h' => h h')]
          rw [HC5.out i hi]
          show _ = some (byteV (oneY k A P e D A i))
          rw [show oneY k A P e D A i = St k D A i from if_neg fun h' => h h'.2]⟩
      have hconv2 : (convert 28 9 (.slice (some ⟨w4.heap.size, 0, none⟩) m cB)).run Try.prog (w5.setCell ⟨w4.heap.size, P, none⟩ (.int .u8 (X : Int))).drew = .ok (.string (strE m (oneY k A P e D A))) (w5.setCell ⟨w4.heap.size, P, none⟩ (.int .u8 (X : Int))).drew := conv_at (w := (w5.setCell ⟨w4.heap.size, P, none⟩ (.int .u8 (X : Int))).drew) (cap := cB) hrow6
      have hcA6 : (w5.setCell ⟨w4.heap.size, P, none⟩ (.int .u8 (X : Int))).cell? ⟨ga, A, none⟩ = some (.string (strE m (St k D A))) := by rw [hown6.cellAt A (by omega), strsL_at _ _ A hAk]
      have hfA6 := hown6.frozenAt A
      have hst := (hown6.stored A (.string (strE m (oneY k A P e D A)))).1
      rw [strsL_set _ _ A _ hAk] at hst
      have HE : Hid (∀ j, (if j = A then strE m (oneY k A P e D A) else strE m (St k D j)) = strE m (oneY k A P e D j)) := fun j => by
        by_cases h : j = A
        · rw [if_pos h, h]
        · rw [if_neg h]; exact strE_congr fun c hc => (if_neg fun h' => h h'.1).symm
      rw [strsL_congr fun j hj => HE.out j] at hst
      generalize strE m (oneY k A P e D A) = sN at hst hconv2
      generalize strE m (St k D A) = sA at hcA hconv hcA6
      generalize (St k D A P).v = u at hcP hxor
      clear hrun hown3 hcell5 hfr5 hrow6 hown6 hX
      go_wp2_with fail
      go_region
      have hb6 : Below w0.heap.size w0 ((w5.setCell ⟨w4.heap.size, P, none⟩ (.int .u8 (X : Int))).setCell ⟨ga, A, none⟩ (.string sN)) := by
        have h5 : Below w0.heap.size w0 w5 := hb04.trans (hb5.mono hb04.size)
        have hga0 : w0.heap.size ≤ ga := Nat.le_trans hb02.size hga4.1
        exact (h5.setCell (p := ⟨w4.heap.size, P, none⟩) hb04.size _).setCell (p := ⟨ga, A, none⟩) hga0 _
      go_wp2_with fail
      go_at_call 6
      refine (hwk _).mono ?_
      rintro e7 w7 ⟨rfl, hb7⟩
      have hb7' : Below ((w5.setCell ⟨w4.heap.size, P, none⟩ (.int .u8 (X : Int))).setCell ⟨ga, A, none⟩ (.string sN)).heap.size ((w5.setCell ⟨w4.heap.size, P, none⟩ (.int .u8 (X : Int))).setCell ⟨ga, A, none⟩ (.string sN)) w7 := (Below.refl _ _).drew.trans hb7
      have hst7 := owns_below hst hb7'
      obtain ⟨a7, c7, e7, hc71, hc72, hT7⟩ := txt_of_owns hst7 HM.out
      cases e7
      have hchk := check_any _ (k + 2) _ (fun _ => m) (oneY k A P e D) w7 hc71 hc72 hT7
      rw [chk_one HK.out.1 HK.out.2 HM.out hAk hPm e D] at hchk
      have hb07 := hb6.trans (hb7'.mono hb6.size)
      clear hst hst7 hT7 hconv hconv2 hcA hcA6 hfA6 hcP hfP hb7 hb7'
      obtain ⟨ev, hev⟩ : ∃ ev, e.v = ev := ⟨_, rfl⟩
      rw [hev] at hchk ⊢
      by_cases h0 : ev = 0
      · subst h0
        rw [decide_eq_true rfl] at hchk
        go_wp2_with fail
        go_at_call 9
        refine hchk.mono ?_
        rintro e8 w8 ⟨hb8, rfl⟩
        go_wp2_with fail
        go_ret
        exact ⟨by simp, hb07.trans (hb8.mono hb07.size)⟩
      · rw [decide_eq_false h0] at hchk
        have t3 : ((ev : Int) == 0) = false := by simp; omega
        go_wp2_with fail
        go_at_call 9
        refine hchk.mono ?_
        rintro e8 w8 ⟨hb8, rfl⟩
        go_wp2_with fail
        go_ret
        exact ⟨by simp, hb07.trans (hb8.mono hb07.size)⟩
  · by_cases h0 : k = 0
    · subst h0
      clear hC hT hk
      go_wp2_with fail
      go_at_call 6
      refine (hwk _).mono ?_
      rintro e w5 ⟨rfl, hb5⟩
      go_wp2_with fail
      go_ret
      exact ⟨rfl, hb1.trans (hb5.mono hb1.size)⟩
    · have t0 : ((k : Int) == 0) = false := by simp; omega
      have t1 : (8 : Int) < (k : Int) := by omega
      clear hC hT hk h0
      go_wp2_with fail
      go_at_call 6
      refine (hwk _).mono ?_
      rintro e w5 ⟨rfl, hb5⟩
      go_wp2_with fail
      go_ret
      exact ⟨rfl, hb1.trans (hb5.mono hb1.size)⟩
end Go.Proofs.Ytdpcbiccbhlonab
