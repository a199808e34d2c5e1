/- Rows of powers can be undone: the law's walk. -/
import Derived.Test.YthcbnffhkbbkpaaMatCopied
namespace Go.Proofs.Ythcbnffhkbbkpaa
open Go.RowKit Go.PlainAid
set_option linter.unusedVariables false

theorem vander_ok (n : Nat) (w : World) (h1 : 1 ≤ n) (h2 : n ≤ 16) :
    Calls Try.prog 22 #[.int .i64 (n : Int), .int .i64 16] w fun e w' => Below w.heap.size w w' ∧ ∃ g G, e = .returned (.tuple #[.slice (some ⟨g, 0, none⟩) n n, .int .i64 0]) ∧ OwnM w' w.heap.size g n 16 n G powM := by
  refine (vander_any n 16 w (by omega) (by omega) (by omega) (by omega)).mono ?_
  rintro e w' ⟨hb, ⟨hno, _⟩ | ⟨k, l, g, G, hk, hl, _, _, _, _, rfl, hO⟩⟩
  · exact absurd ⟨by omega, by omega, by omega, by omega⟩ hno
  · obtain rfl : n = k := by omega
    obtain rfl : l = 16 := by omega
    exact ⟨hb, g, G, rfl, hO⟩
/-- Is the bit set? -/
def bitP (pk : Int) (c : Nat) : Bool := decide (bits .and .u16 (pk / 2 ^ c) 1 = 1)
/-- The columns picked among the first c, at most n. -/
def colsL (pk : Int) (n : Nat) : Nat → List Nat
  | 0 => []
  | c + 1 => if bitP pk c && decide ((colsL pk n c).length < n) then colsL pk n c ++ [c] else colsL pk n c
theorem cols_le (pk : Int) (n c : Nat) : (colsL pk n c).length ≤ n ∨ (colsL pk n c).length = 0 := by
  induction c with
  | zero => exact .inr rfl
  | succ c ih =>
    unfold colsL
    split
    · next h =>
      simp only [Bool.and_eq_true, decide_eq_true_eq] at h
      left
      simp
      omega
    · exact ih
theorem cols_pre (pk : Int) (n c d : Nat) (j : Nat) (h : j < (colsL pk n c).length) : (colsL pk n (c + d)).getD j 0 = (colsL pk n c).getD j 0 ∧ j < (colsL pk n (c + d)).length := by
  induction d with
  | zero => exact ⟨rfl, h⟩
  | succ d ih =>
    rw [← Nat.add_assoc, colsL]
    split
    · refine ⟨?_, by simp; omega⟩
      rw [List.getD_eq_getElem?_getD, List.getElem?_append_left ih.2, ← List.getD_eq_getElem?_getD]
      exact ih.1
    · exact ih
theorem cols_up (pk : Int) (n c : Nat) : (∀ x ∈ colsL pk n c, x < c) ∧ (colsL pk n c).Pairwise (· < ·) := by
  induction c with
  | zero => exact ⟨fun x hx => by simp [colsL] at hx, List.Pairwise.nil⟩
  | succ c ih =>
    unfold colsL
    split
    · refine ⟨fun x hx => ?_, ?_⟩
      · rcases List.mem_append.1 hx with h | h
        · have := ih.1 x h; omega
        · simp at h; omega
      · rw [List.pairwise_append]
        exact ⟨ih.2, by simp, fun a ha b hb => by simp at hb; have := ih.1 a ha; omega⟩
    · exact ⟨fun x hx => by have := ih.1 x hx; omega, ih.2⟩
theorem cols_ne (pk : Int) (n i j : Nat) (hij : i < j) (hj : j < (colsL pk n 16).length) : (colsL pk n 16).getD i 0 < (colsL pk n 16).getD j 0 ∧ (colsL pk n 16).getD j 0 < 16 := by
  obtain ⟨h1, h2⟩ := cols_up pk n 16
  have e : ∀ k (hk : k < (colsL pk n 16).length), (colsL pk n 16).getD k 0 = (colsL pk n 16)[k] := fun k hk => by
    rw [List.getD_eq_getElem?_getD, List.getElem?_eq_getElem hk]; rfl
  rw [e i (by omega), e j hj]
  exact ⟨List.pairwise_iff_getElem.1 h2 i j (by omega) hj hij, h1 _ (List.getElem_mem _)⟩
theorem gp_mul (a m r : Nat) (ha : a < 256) : gp (gp a m) r = gp a (r * m) := by
  induction r with
  | zero => simp [gp]
  | succ r ih =>
    show gm (gp (gp a m) r) (gp a m) = _
    rw [ih, ← gp_add a (r * m) m ha, Nat.succ_mul]
def powC (pk : Int) (n : Nat) : Mx := fun r j => powM r ((colsL pk n 16).getD j 0)
theorem vander_one (w : World) (h1 : 1 ≤ 1) (h2 : 1 ≤ 16) : Calls Try.prog 22 #[.int .i64 1, .int .i64 16] w fun e w' => Below w.heap.size w w' ∧ ∃ g G, e = .returned (.tuple #[.slice (some ⟨g, 0, none⟩) 1 1, .int .i64 0]) ∧ OwnM w' w.heap.size g 1 16 1 G powM := vander_ok 1 w (by decide) (by decide)

set_option maxHeartbeats 8000000 in
theorem powersLaw_pos (n pk : Int) (w : World) (h0 : 0 < n) (N : Nat) (hN : 1 + n % 16 = (N : Int)) (h1 : n ≤ 9223372036854775807) (h2 : -9223372036854775808 ≤ n) (p0 : 0 ≤ pk) (p1 : pk < 65536) :
    Calls Try.prog 7 #[.int .i64 n, .int .u16 pk] w fun e w' => e = .returned (.bool true) ∧ Below w.heap.size w w' := by
  have hN1 : 1 ≤ N := by omega
  have hN2 : N ≤ 16 := by omega
  have hv := fun x => vander_ok N x (by omega) (by omega)
  have t0 : (((N : Nat) : Int) != ((N : Nat) : Int)) = false := by simp
  go_enter Try.func7, Try.ntmps7
  go_wp2_with fail
  go_at_call 22
  refine (hv _).mono ?_
  rintro e w1 ⟨hb1, g, G, rfl, hO⟩
  go_wp2_with fail
  go_at_call 16
  refine (wakes_any _).mono ?_
  rintro e w2 ⟨rfl, hb2⟩
  have hM2 := (hO.mat (by unfold maxLen; omega)).below hb2
  have hb02 := hb1.trans (hb2.mono hb1.size)
  clear hO hb2
  go_wp2_with fail
  go_loopw [7, 36] (fun o i wr => ∃ k : Nat, k ≤ N ∧ i = .int .i64 k ∧ Below w2.heap.size w2 wr ∧ AccM wr w2.heap.size o k (fun _ => (colsL pk N 16).length) (powC pk N)) (fun _ i _ => (N : Nat) - (intOf i).toNat)
  case atStart => exact ⟨0, Nat.zero_le _, rfl, (Below.refl _ _).alloc (Nat.le_refl _) _, acc_empty _ _ _ _ (Nat.le_refl _)⟩
  case round =>
    obtain ⟨r, hr, rfl, hbr, hAr⟩ := hrel
    by_cases hlt : r < N
    · go_wp2_with fail
      obtain ⟨wo, hwo⟩ : ∃ wo, wo = wr := ⟨_, rfl⟩
      have HWO : Hid (wo = wr) := hwo
      have hAo := hAr
      rw [← hwo] at hAo
      have hbo : Below w2.heap.size w2 wo := by rw [hwo]; exact hbr
      clear hwo
      go_loopw [9, 39] (fun v i wi => ∃ j : Nat, j ≤ 16 ∧ i = .int .i64 j ∧ Below wo.heap.size wo wi ∧ wi.ownsRow wo.heap.size 5 1 v (colsL pk N j).length (bytesL (colsL pk N j).length (powC pk N r))) (fun _ i _ => (16 : Nat) - (intOf i).toNat)
      case atStart => exact ⟨0, Nat.zero_le _, rfl, by rw [HWO.out]; exact Below.refl _ _, World.ownsRow_nil _ _ _ _⟩
      case round =>
        obtain ⟨j, hj, rfl, hbj, hoj⟩ := hrel
        by_cases hjm : j < 16
        · obtain ⟨ar, cr, hv9, _, _⟩ := owns_form hoj _ (fun i hi => bytesL_at _ _ i hi)
          subst hv9
          obtain ⟨l, hl⟩ : ∃ l, (colsL pk N j).length = l := ⟨_, rfl⟩
          have hlN : l ≤ N := by have := cols_le pk N j; omega
          have HCL : Hid ((colsL pk N j).length = l) := hl
          rw [hl] at hoj ⊢
          by_cases hq : bits BinOp.and IntKind.u16 (pk / 2 ^ j) 1 = 1
          · by_cases hlt2 : l < N
            · have hlt2' : (l : Int) < ((N : Nat) : Int) := by omega
              have hstep : colsL pk N (j + 1) = colsL pk N j ++ [j] := by
                rw [colsL, if_pos]
                rw [hl]
                simp [bitP, hq, hlt2]
              have hcol : (colsL pk N 16).getD l 0 = j := by
                have h := (cols_pre pk N (j + 1) (16 - (j + 1)) l (by rw [hstep]; simp; omega)).1
                rw [show j + 1 + (16 - (j + 1)) = 16 by omega, hstep] at h
                rw [h, List.getD_eq_getElem?_getD, List.getElem?_append_right (by omega), hl]
                simp
              have hbwj : Below w2.heap.size w2 wr := hbo.trans (hbj.mono hbo.size)
              obtain ⟨AR, CR, hMi⟩ := hM2.below hbwj
              obtain ⟨b0, o0, b', o', e1, _, e3, e4⟩ := hMi.cell r j hlt hjm
              cases e1
              simp only [Nat.zero_add] at e3
              have HE : Hid (Value.int .u8 ((powM r j).v : Int) = byteV (powC pk N r l)) := (by unfold powC byteV; rw [hcol] : Value.int .u8 ((powM r j).v : Int) = byteV (powC pk N r l))
              have HST : Hid ((colsL pk N (j + 1)).length = l + 1) := (by rw [hstep]; simp; exact hl : (colsL pk N (j + 1)).length = l + 1)
              generalize (powM r j).v = pv at e4 HE
              generalize CR r = crr at e3
              clear hstep hcol hMi hl
              go_wp2_with (at_builtin; refine push_byte_at rfl _ _ rfl wr wo.heap.size _ l (powC pk N r) hoj rfl _ HE.out _ rfl rfl (by omega) hbj.size ?_)
              intro v' w6 ho6 hb6
              go_wp2_with fail
              go_roundw
              case rel => exact ⟨j + 1, by omega, by go_num, hbj.trans hb6, by rw [HST.out]; exact ho6⟩
              case measure => simp [intOf]; omega
            · have hlt2' : ¬ (l : Int) < ((N : Nat) : Int) := by omega
              have HST : Hid (colsL pk N (j + 1) = colsL pk N j) := (by rw [colsL, if_neg]; rw [hl]; simp [hlt2] : colsL pk N (j + 1) = colsL pk N j)
              clear hl
              go_wp2_with fail
              go_roundw
              case rel => exact ⟨j + 1, by omega, by go_num, hbj, by rw [HST.out, HCL.out]; exact hoj⟩
              case measure => simp [intOf]; omega
          · have HST : Hid (colsL pk N (j + 1) = colsL pk N j) := (by rw [colsL, if_neg]; simp [bitP, hq] : colsL pk N (j + 1) = colsL pk N j)
            clear hl
            go_wp2_with fail
            go_roundw
            case rel => exact ⟨j + 1, by omega, by go_num, hbj, by rw [HST.out, HCL.out]; exact hoj⟩
            case measure => simp [intOf]; omega
        · have hjm' : j = 16 := by omega
          subst hjm'
          obtain ⟨ar, cr, hv9, _, _⟩ := owns_form hoj _ (fun i hi => bytesL_at _ _ i hi)
          subst hv9
          have hAi := hAo.below hbj
          have hvi := owns_mono hoj hbo.size
          go_wp2_with (at_builtin; refine push_row_at rfl _ _ 27 rfl Try.underlying27 wr w2.heap.size _ _ r (fun _ => (colsL pk N 16).length) (powC pk N) hAi hvi rfl _ rfl rfl (by omega) (Nat.le_trans hbo.size hbj.size) ?_)
          intro vo' w4 hA4 hb4
          go_wp2_with fail
          go_roundw
          case rel => exact ⟨r + 1, by omega, by go_num, hbo.trans ((hbj.mono hbo.size).trans hb4), hA4⟩
          case measure => simp [intOf]; omega
    · have hrn : r = N := by omega
      have HLe : Hid ((colsL pk N 16).length ≤ N) := (by have := cols_le pk N 16; omega : (colsL pk N 16).length ≤ N)
      rw [hrn] at hAr
      obtain ⟨am, cm, hvm, hkm, hMm⟩ := hAr.mat
      subst hvm
      obtain ⟨l, hl⟩ : ∃ l, (colsL pk N 16).length = l := ⟨_, rfl⟩
      rw [hl] at hMm HLe
      obtain ⟨AR, CR, hv0, hrows⟩ := id hMm
      rcases hv0 with h00 | ⟨bm, om, rfl, hv0⟩
      · omega
      have hc0 : wr.cell? ⟨bm, om, none⟩ = some (.slice (AR 0) l (CR 0)) := hv0 0 (by omega)
      generalize AR 0 = ar0 at hc0
      generalize CR 0 = cr0 at hc0
      have n0 : (0 : Int) < ((N : Nat) : Int) := by omega
      have n0' : 0 < N := by omega
      have hln := HLe.out
      by_cases hlN : l < N
      · have hlN' : (l : Int) < ((N : Nat) : Int) := by omega
        clear hv0 hrows hMm hAr hl
        go_wp2_with fail
        go_ret
        exact ⟨rfl, hb02.trans (hbr.mono hb02.size)⟩
      · have hlN' : ¬ (l : Int) < ((N : Nat) : Int) := by omega
        have hle : l = N := by omega
        have gd : Gd N (fun _ => l) := ⟨by omega, by omega, by show 1 ≤ l; omega, by show l ≤ 16; omega, fun _ _ => rfl⟩
        have hinv := invert_any (some ⟨bm, om, none⟩) N cm (fun _ => l) (powC pk N) wr hkm hMm
        have HGD : Hid (Gd N (fun _ => l)) := gd
        have HLL : Hid ((colsL pk N 16).length = N) := (hl.trans hle : (colsL pk N 16).length = N)
        have HLE : Hid (l = N) := hle
        clear hv0 hrows hMm hAr hl hle gd
        go_wp2_with fail
        go_at_call 13
        refine hinv.mono ?_
        rintro e w5 ⟨hb5, h⟩
        have hb05 := (hb02.trans (hbr.mono hb02.size)).trans (hb5.mono (Nat.le_trans hb02.size hbr.size))
        clear hinv hb5
        rcases h with ⟨h, _⟩ | ⟨_, h, _⟩ | ⟨_, _, _, c, U, hc, hR, hu, hz⟩ | ⟨_, _, a', U, rfl, _⟩
        · exact absurd HGD.out h
        · exact absurd HLE.out.symm h
        · exfalso
          obtain ⟨v, hv, hk⟩ := reach_kernel hR (by omega) hc hu hz
          refine powers_kernel (fun j => pw two ((colsL pk N 16).getD j 0)) v (fun i j hi hj hij => ?_) hc hv (fun r hr => ?_)
          · have hne : (colsL pk N 16).getD i 0 ≠ (colsL pk N 16).getD j 0 ∧ (colsL pk N 16).getD i 0 < 16 ∧ (colsL pk N 16).getD j 0 < 16 := by
              rcases Nat.lt_or_gt_of_ne hij with h | h
              · have := cols_ne pk N i j h (by rw [HLL.out]; exact hj); omega
              · have := cols_ne pk N j i h (by rw [HLL.out]; exact hi); omega
            exact fun e => hne.1 (ex_inj _ _ (by omega) (by omega) (congrArg E.v e))
          · rw [← hk r hr]
            refine S_congr fun j hj => ?_
            simp only [wideM, if_pos hj]
            congr 1
            exact E.same (gp_mul 2 _ r (by decide))
        · go_wp2_with fail
          go_ret
          exact ⟨rfl, hb05⟩

set_option maxHeartbeats 8000000 in
theorem powersLaw_zero (n pk : Int) (w : World) (h0 : n ≤ 0) (h1 : n ≤ 9223372036854775807) (h2 : -9223372036854775808 ≤ n) (p0 : 0 ≤ pk) (p1 : pk < 65536) :
    Calls Try.prog 7 #[.int .i64 n, .int .u16 pk] w fun e w' => e = .returned (.bool true) ∧ Below w.heap.size w w' := by
  obtain ⟨N, hN⟩ : ∃ N : Nat, (N : Int) = 1 := ⟨1, rfl⟩
  have hN1 : 1 ≤ N := by omega
  have hN2 : N ≤ 16 := by omega
  have HN : Hid ((N : Int) = 1) := hN
  clear hN
  have hv := fun x => vander_ok N x (by omega) (by omega)
  have t0 : (((N : Nat) : Int) != ((N : Nat) : Int)) = false := by simp
  go_enter Try.func7, Try.ntmps7
  go_wp2_with fail
  rw [← HN.out]
  go_at_call 22
  refine (hv _).mono ?_
  rintro e w1 ⟨hb1, g, G, rfl, hO⟩
  go_wp2_with fail
  go_at_call 16
  refine (wakes_any _).mono ?_
  rintro e w2 ⟨rfl, hb2⟩
  have hM2 := (hO.mat (by unfold maxLen; omega)).below hb2
  have hb02 := hb1.trans (hb2.mono hb1.size)
  clear hO hb2
  go_wp2_with fail
  go_loopw [7, 36] (fun o i wr => ∃ k : Nat, k ≤ N ∧ i = .int .i64 k ∧ Below w2.heap.size w2 wr ∧ AccM wr w2.heap.size o k (fun _ => (colsL pk N 16).length) (powC pk N)) (fun _ i _ => (N : Nat) - (intOf i).toNat)
  case atStart => exact ⟨0, Nat.zero_le _, rfl, (Below.refl _ _).alloc (Nat.le_refl _) _, acc_empty _ _ _ _ (Nat.le_refl _)⟩
  case round =>
    obtain ⟨r, hr, rfl, hbr, hAr⟩ := hrel
    by_cases hlt : r < N
    · go_wp2_with fail
      obtain ⟨wo, hwo⟩ : ∃ wo, wo = wr := ⟨_, rfl⟩
      have HWO : Hid (wo = wr) := hwo
      have hAo := hAr
      rw [← hwo] at hAo
      have hbo : Below w2.heap.size w2 wo := by rw [hwo]; exact hbr
      clear hwo
      go_loopw [9, 39] (fun v i wi => ∃ j : Nat, j ≤ 16 ∧ i = .int .i64 j ∧ Below wo.heap.size wo wi ∧ wi.ownsRow wo.heap.size 5 1 v (colsL pk N j).length (bytesL (colsL pk N j).length (powC pk N r))) (fun _ i _ => (16 : Nat) - (intOf i).toNat)
      case atStart => exact ⟨0, Nat.zero_le _, rfl, by rw [HWO.out]; exact Below.refl _ _, World.ownsRow_nil _ _ _ _⟩
      case round =>
        obtain ⟨j, hj, rfl, hbj, hoj⟩ := hrel
        by_cases hjm : j < 16
        · obtain ⟨ar, cr, hv9, _, _⟩ := owns_form hoj _ (fun i hi => bytesL_at _ _ i hi)
          subst hv9
          obtain ⟨l, hl⟩ : ∃ l, (colsL pk N j).length = l := ⟨_, rfl⟩
          have hlN : l ≤ N := by have := cols_le pk N j; omega
          have HCL : Hid ((colsL pk N j).length = l) := hl
          rw [hl] at hoj ⊢
          by_cases hq : bits BinOp.and IntKind.u16 (pk / 2 ^ j) 1 = 1
          · by_cases hlt2 : l < N
            · have hlt2' : (l : Int) < ((N : Nat) : Int) := by omega
              have hstep : colsL pk N (j + 1) = colsL pk N j ++ [j] := by
                rw [colsL, if_pos]
                rw [hl]
                simp [bitP, hq, hlt2]
              have hcol : (colsL pk N 16).getD l 0 = j := by
                have h := (cols_pre pk N (j + 1) (16 - (j + 1)) l (by rw [hstep]; simp; omega)).1
                rw [show j + 1 + (16 - (j + 1)) = 16 by omega, hstep] at h
                rw [h, List.getD_eq_getElem?_getD, List.getElem?_append_right (by omega), hl]
                simp
              have hbwj : Below w2.heap.size w2 wr := hbo.trans (hbj.mono hbo.size)
              obtain ⟨AR, CR, hMi⟩ := hM2.below hbwj
              obtain ⟨b0, o0, b', o', e1, _, e3, e4⟩ := hMi.cell r j hlt hjm
              cases e1
              simp only [Nat.zero_add] at e3
              have HE : Hid (Value.int .u8 ((powM r j).v : Int) = byteV (powC pk N r l)) := (by unfold powC byteV; rw [hcol] : Value.int .u8 ((powM r j).v : Int) = byteV (powC pk N r l))
              have HST : Hid ((colsL pk N (j + 1)).length = l + 1) := (by rw [hstep]; simp; exact hl : (colsL pk N (j + 1)).length = l + 1)
              generalize (powM r j).v = pv at e4 HE
              generalize CR r = crr at e3
              clear hstep hcol hMi hl
              go_wp2_with (at_builtin; refine push_byte_at rfl _ _ rfl wr wo.heap.size _ l (powC pk N r) hoj rfl _ HE.out _ rfl rfl (by omega) hbj.size ?_)
              intro v' w6 ho6 hb6
              go_wp2_with fail
              go_roundw
              case rel => exact ⟨j + 1, by omega, by go_num, hbj.trans hb6, by rw [HST.out]; exact ho6⟩
              case measure => simp [intOf]; omega
            · have hlt2' : ¬ (l : Int) < ((N : Nat) : Int) := by omega
              have HST : Hid (colsL pk N (j + 1) = colsL pk N j) := (by rw [colsL, if_neg]; rw [hl]; simp [hlt2] : colsL pk N (j + 1) = colsL pk N j)
              clear hl
              go_wp2_with fail
              go_roundw
              case rel => exact ⟨j + 1, by omega, by go_num, hbj, by rw [HST.out, HCL.out]; exact hoj⟩
              case measure => simp [intOf]; omega
          · have HST : Hid (colsL pk N (j + 1) = colsL pk N j) := (by rw [colsL, if_neg]; simp [bitP, hq] : colsL pk N (j + 1) = colsL pk N j)
            clear hl
            go_wp2_with fail
            go_roundw
            case rel => exact ⟨j + 1, by omega, by go_num, hbj, by rw [HST.out, HCL.out]; exact hoj⟩
            case measure => simp [intOf]; omega
        · have hjm' : j = 16 := by omega
          subst hjm'
          obtain ⟨ar, cr, hv9, _, _⟩ := owns_form hoj _ (fun i hi => bytesL_at _ _ i hi)
          subst hv9
          have hAi := hAo.below hbj
          have hvi := owns_mono hoj hbo.size
          go_wp2_with (at_builtin; refine push_row_at rfl _ _ 27 rfl Try.underlying27 wr w2.heap.size _ _ r (fun _ => (colsL pk N 16).length) (powC pk N) hAi hvi rfl _ rfl rfl (by omega) (Nat.le_trans hbo.size hbj.size) ?_)
          intro vo' w4 hA4 hb4
          go_wp2_with fail
          go_roundw
          case rel => exact ⟨r + 1, by omega, by go_num, hbo.trans ((hbj.mono hbo.size).trans hb4), hA4⟩
          case measure => simp [intOf]; omega
    · have hrn : r = N := by omega
      have HLe : Hid ((colsL pk N 16).length ≤ N) := (by have := cols_le pk N 16; omega : (colsL pk N 16).length ≤ N)
      rw [hrn] at hAr
      obtain ⟨am, cm, hvm, hkm, hMm⟩ := hAr.mat
      subst hvm
      obtain ⟨l, hl⟩ : ∃ l, (colsL pk N 16).length = l := ⟨_, rfl⟩
      rw [hl] at hMm HLe
      obtain ⟨AR, CR, hv0, hrows⟩ := id hMm
      rcases hv0 with h00 | ⟨bm, om, rfl, hv0⟩
      · omega
      have hc0 : wr.cell? ⟨bm, om, none⟩ = some (.slice (AR 0) l (CR 0)) := hv0 0 (by omega)
      generalize AR 0 = ar0 at hc0
      generalize CR 0 = cr0 at hc0
      have n0 : (0 : Int) < ((N : Nat) : Int) := by omega
      have n0' : 0 < N := by omega
      have hln := HLe.out
      by_cases hlN : l < N
      · have hlN' : (l : Int) < ((N : Nat) : Int) := by omega
        clear hv0 hrows hMm hAr hl
        go_wp2_with fail
        go_ret
        exact ⟨rfl, hb02.trans (hbr.mono hb02.size)⟩
      · have hlN' : ¬ (l : Int) < ((N : Nat) : Int) := by omega
        have hle : l = N := by omega
        have gd : Gd N (fun _ => l) := ⟨by omega, by omega, by show 1 ≤ l; omega, by show l ≤ 16; omega, fun _ _ => rfl⟩
        have hinv := invert_any (some ⟨bm, om, none⟩) N cm (fun _ => l) (powC pk N) wr hkm hMm
        have HGD : Hid (Gd N (fun _ => l)) := gd
        have HLL : Hid ((colsL pk N 16).length = N) := (hl.trans hle : (colsL pk N 16).length = N)
        have HLE : Hid (l = N) := hle
        clear hv0 hrows hMm hAr hl hle gd
        go_wp2_with fail
        go_at_call 13
        refine hinv.mono ?_
        rintro e w5 ⟨hb5, h⟩
        have hb05 := (hb02.trans (hbr.mono hb02.size)).trans (hb5.mono (Nat.le_trans hb02.size hbr.size))
        clear hinv hb5
        rcases h with ⟨h, _⟩ | ⟨_, h, _⟩ | ⟨_, _, _, c, U, hc, hR, hu, hz⟩ | ⟨_, _, a', U, rfl, _⟩
        · exact absurd HGD.out h
        · exact absurd HLE.out.symm h
        · exfalso
          obtain ⟨v, hv, hk⟩ := reach_kernel hR (by omega) hc hu hz
          refine powers_kernel (fun j => pw two ((colsL pk N 16).getD j 0)) v (fun i j hi hj hij => ?_) hc hv (fun r hr => ?_)
          · have hne : (colsL pk N 16).getD i 0 ≠ (colsL pk N 16).getD j 0 ∧ (colsL pk N 16).getD i 0 < 16 ∧ (colsL pk N 16).getD j 0 < 16 := by
              rcases Nat.lt_or_gt_of_ne hij with h | h
              · have := cols_ne pk N i j h (by rw [HLL.out]; exact hj); omega
              · have := cols_ne pk N j i h (by rw [HLL.out]; exact hi); omega
            exact fun e => hne.1 (ex_inj _ _ (by omega) (by omega) (congrArg E.v e))
          · rw [← hk r hr]
            refine S_congr fun j hj => ?_
            simp only [wideM, if_pos hj]
            congr 1
            exact E.same (gp_mul 2 _ r (by decide))
        · go_wp2_with fail
          go_ret
          exact ⟨rfl, hb05⟩

theorem powersLaw_arg (n pk : Int) (w : World) (h1 : (Lit.int .i64 n).wf = true) (h2 : (Lit.int .u16 pk).wf = true) :
    Calls Try.prog 7 #[.int .i64 n, .int .u16 pk] w fun e w' => e = .returned (.bool true) ∧ Below w.heap.size w w' := by
  have b1 := bounds_i64 h1
  have b2 := bounds_u16 h2
  by_cases h : 0 < n
  · exact powersLaw_pos n pk w h (1 + n % 16).toNat (by omega) (by omega) (by omega) (by omega) (by omega)
  · exact powersLaw_zero n pk w (by omega) (by omega) (by omega) (by omega) (by omega)
end Go.Proofs.Ythcbnffhkbbkpaa
