/- 2 texts in one. -/
import Derived.Test.YtdpcbiccbhlonaaRows
import Derived.WalkKit
import Derived.ProofKit
import Derived.OpenShut
import Derived.ShutString
import Derived.ChangeArms
import Derived.Test.YtdpcbiccbhlonaaMt1
import Derived.BigRegion
/- Arrays that came in, read. -/
namespace Go.Proofs.Ytdpcbiccbhlonaa
open Go.ChangeShapes Go.WideShapes Go.RowKit
set_option linter.unusedVariables false

theorem okWide_agg {W : World} {b0 n : Nat} {t e : TypeId} {v : Value} (hu : Try.prog.underlying t = some (.array n e)) (h : Value.okWide Try.prog W .any b0 t v) : ∃ xs : Array Value, v = .agg xs := by
  simp only [Value.okWide, hu] at h
  obtain ⟨cs, h1, _⟩ := h
  exact ⟨cs, h1⟩
theorem mapM_range {β : Type} {g : Nat → Option β} : ∀ (L : List Nat) (ys : List β), L.mapM g = some ys → ∀ i ∈ L, ∃ y, g i = some y
  | [], ys, h => fun i hi => by cases hi
  | a :: L, ys, h => fun i hi => by
    rw [List.mapM_cons] at h
    simp only [bind, Option.bind_eq_some_iff, pure, Option.some.injEq] at h
    obtain ⟨y, hy, zs, hz, rfl⟩ := h
    cases hi with
    | head => exact ⟨y, hy⟩
    | tail _ hi => exact mapM_range L zs hz i hi
theorem arr_at {H : Type} {enc : TypeId × Value → H} {W : World} {t e : TypeId} {n : Nat} {xs : Array Value} {d : DataW H} {p : List MemPlace} (hu : Try.prog.underlying t = some (.array n e)) (hc : Try.prog.cellsOf e = 1) (hct : Try.prog.cellsOf t = n)
    (h : DataW.Trod enc Try.prog W 0 (fun _ => true) true t (.agg xs) d p) : xs.size = n ∧ ∀ i, i < n → ∃ fuel y v, DataW.trod enc Try.prog W 0 (fun _ => true) true fuel e [v] = some y ∧ xs[i]? = some v := by
  obtain ⟨fuel, hf⟩ := h
  cases fuel with
  | zero => simp [DataW.trod] at hf
  | succ m =>
    rw [DataW.trod_step] at hf
    unfold DataW.trodStep at hf
    simp only [hu, Value.cells, hc, hct] at hf
    by_cases hn : xs.toList.length = n
    · rw [if_pos hn] at hf
      simp only [Option.map_eq_some_iff] at hf
      obtain ⟨ys, hy, -⟩ := hf
      have hn' : xs.size = n := by simpa using hn
      refine ⟨hn', fun i hi => ?_⟩
      obtain ⟨y, hy⟩ := mapM_range _ _ hy i (List.mem_range.2 hi)
      have e1 : (xs.toList.drop (i * 1)).take 1 = [xs[i]'(by omega)] := by
        rw [Nat.mul_one, List.drop_eq_getElem_cons (by rw [Array.length_toList]; omega)]
        simp
      rw [e1] at hy
      exact ⟨m, y, _, hy, Array.getElem?_eq_getElem _⟩
    · rw [if_neg hn] at hf; cases hf
theorem strs4_arg {H : Type} {enc : TypeId × Value → H} {W : World} {xs : Array Value} {d : DataW H} {p : List MemPlace} (h : DataW.Trod enc Try.prog W 0 (fun _ => true) true 31 (.agg xs) d p) :
    ∃ s0 s1 s2 s3 : ByteArray, xs = #[.string s0, .string s1, .string s2, .string s3] ∧ s0.size ≤ maxLen ∧ s1.size ≤ maxLen ∧ s2.size ≤ maxLen ∧ s3.size ≤ maxLen := by
  obtain ⟨hn, hx⟩ := arr_at Try.underlying31 (by kernel_rfl) (by kernel_rfl) h
  have hs : ∀ i, i < 4 → ∃ s : ByteArray, xs[i]? = some (.string s) ∧ s.size ≤ maxLen := fun i hi => by
    obtain ⟨fuel, y, v, h1, h2⟩ := hx i hi
    obtain ⟨s, h3, -, h4⟩ := DataW.trod_string Try.underlying9 h1
    simp at h3
    exact ⟨s, by rw [h2, h3], h4⟩
  obtain ⟨s0, a0, b0⟩ := hs 0 (by decide)
  obtain ⟨s1, a1, b1⟩ := hs 1 (by decide)
  obtain ⟨s2, a2, b2⟩ := hs 2 (by decide)
  obtain ⟨s3, a3, b3⟩ := hs 3 (by decide)
  refine ⟨s0, s1, s2, s3, ?_, b0, b1, b2, b3⟩
  apply Array.ext_getElem?
  intro i
  match i with
  | 0 => exact a0
  | 1 => exact a1
  | 2 => exact a2
  | 3 => exact a3
  | i + 4 => rw [Array.getElem?_eq_none (by omega), Array.getElem?_eq_none (by simp)]
theorem ints3_arg {H : Type} {enc : TypeId × Value → H} {W : World} {xs : Array Value} {d : DataW H} {p : List MemPlace} (h : DataW.Trod enc Try.prog W 0 (fun _ => true) true 44 (.agg xs) d p) :
    ∃ x : Nat → Int, xs = #[.int .i64 (x 0), .int .i64 (x 1), .int .i64 (x 2)] ∧ ∀ i, i < 3 → -9223372036854775808 ≤ x i ∧ x i ≤ 9223372036854775807 := by
  obtain ⟨hn, hx⟩ := arr_at Try.underlying44 (by kernel_rfl) (by kernel_rfl) h
  have hs : ∀ i, i < 3 → ∃ n : Int, xs[i]? = some (.int .i64 n) ∧ -9223372036854775808 ≤ n ∧ n ≤ 9223372036854775807 := fun i hi => by
    obtain ⟨fuel, y, v, h1, h2⟩ := hx i hi
    obtain ⟨s, h3, -, h4⟩ := DataW.trod_int Try.underlying3 h1
    simp at h3
    exact ⟨s, by rw [h2, h3], bounds_i64 h4⟩
  obtain ⟨s0, a0, b0⟩ := hs 0 (by decide)
  obtain ⟨s1, a1, b1⟩ := hs 1 (by decide)
  obtain ⟨s2, a2, b2⟩ := hs 2 (by decide)
  refine ⟨fun i => match i with | 0 => s0 | 1 => s1 | _ => s2, ?_, fun i hi => ?_⟩
  · apply Array.ext_getElem?
    intro i
    match i with
    | 0 => exact a0
    | 1 => exact a1
    | 2 => exact a2
    | i + 3 => rw [Array.getElem?_eq_none (by omega), Array.getElem?_eq_none (by simp)]
  · match i, hi with
    | 0, _ => exact b0
    | 1, _ => exact b1
    | 2, _ => exact b2
end Go.Proofs.Ytdpcbiccbhlonaa
/- With three chunks lost nothing is told: the law's walk. -/
namespace Go.Proofs.Ytdpcbiccbhlonaa
open Go.RowKit Go.PlainAid
set_option linter.unusedVariables false

theorem Try.info4 : (Try.prog.info? 4).map (fun i => (i.zero, i.size, i.bytes)) = some (some (.bool false), 1, 1) := by kernel_rfl
theorem StrsArg.below {w w' : World} {a : Option Addr} {len cap : Nat} (h : StrsArg w a len cap) (hb : Below w.heap.size w w') : StrsArg w' a len cap := by
  obtain ⟨T, h1, h2, h3, h4, h5⟩ := h
  exact ⟨T, h1, h2, h3, h4.below hb (Nat.le_refl _), h5⟩
theorem index3 (x : Nat → Int) (w : World) : (Instr.index 44 (.agg #[.int .i64 (x 0), .int .i64 (x 1), .int .i64 (x 2)]) (.int .i64 0)).run Try.prog w = .ok (.int .i64 (x 0)) w ∧
    (Instr.index 44 (.agg #[.int .i64 (x 0), .int .i64 (x 1), .int .i64 (x 2)]) (.int .i64 1)).run Try.prog w = .ok (.int .i64 (x 1)) w ∧
    (Instr.index 44 (.agg #[.int .i64 (x 0), .int .i64 (x 1), .int .i64 (x 2)]) (.int .i64 2)).run Try.prog w = .ok (.int .i64 (x 2)) w := by
  generalize x 0 = a
  generalize x 1 = b
  generalize x 2 = c
  exact ⟨by kernel_rfl, by kernel_rfl, by kernel_rfl⟩
theorem cnt_all (n : Nat) : cnt (fun _ => true) n = n := by
  induction n with
  | zero => rfl
  | succ n ih => simp [cnt, ih]
theorem valsL_set (k : Nat) (R : Nat → Value) (i : Nat) (v : Value) (h : i < k) : (valsL k R).set i v = valsL k (fun j => if j = i then v else R j) := by
  apply List.ext_getElem
  · simp [valsL]
  · intro j h1 h2
    rw [List.getElem_set]
    by_cases e : i = j
    · subst e; simp [valsL]
    · have e' : ¬ j = i := fun h => e h.symm
      simp [valsL, e, e']
theorem cnt_drop (T : Nat → Bool) (p n : Nat) (hp : p < n) (hT : T p = true) : cnt (fun i => if i = p then false else T i) n + 1 = cnt T n := by
  induction n with
  | zero => omega
  | succ n ih =>
    simp only [cnt]
    by_cases e : p = n
    · subst e
      have : ∀ m, m ≤ p → cnt (fun i => if i = p then false else T i) m = cnt T m := fun m hm => by
        induction m with
        | zero => rfl
        | succ m im =>
          have hne : ¬ m = p := by omega
          simp only [cnt, im (by omega), hne, if_false]
      rw [this p (Nat.le_refl _)]
      simp [hT]
    · have := ih (by omega)
      simp only [if_neg (show ¬ n = p by omega)]
      omega
set_option maxHeartbeats 4000000 in
theorem threeLaw_arg (l : Option Addr) (len cap : Nat) (x : Nat → Int) (w0 : World) (hL0 : StrsArg w0 l len cap) (hx : ∀ i, i < 3 → -9223372036854775808 ≤ x i ∧ x i ≤ 9223372036854775807) :
    Calls Try.prog 8 #[.slice l len cap, .agg #[.int .i64 (x 0), .int .i64 (x 1), .int .i64 (x 2)]] w0 fun e w' => e = .returned (.bool true) ∧ Below w0.heap.size w0 w' := by
  have hX : (w0.alloc (.cells #[.int .i64 (x 0), .int .i64 (x 1), .int .i64 (x 2)] 44 (0, 0))).cell? ⟨w0.heap.size, 0, none⟩ = some (.int .i64 (x 0)) ∧ (w0.alloc (.cells #[.int .i64 (x 0), .int .i64 (x 1), .int .i64 (x 2)] 44 (0, 0))).cell? ⟨w0.heap.size, 1, none⟩ = some (.int .i64 (x 1)) ∧ (w0.alloc (.cells #[.int .i64 (x 0), .int .i64 (x 1), .int .i64 (x 2)] 44 (0, 0))).cell? ⟨w0.heap.size, 2, none⟩ = some (.int .i64 (x 2)) := ⟨by go_simp, by go_simp, by go_simp⟩
  have hb00 : Below w0.heap.size w0 (w0.alloc (.cells #[.int .i64 (x 0), .int .i64 (x 1), .int .i64 (x 2)] 44 (0, 0))) := (Below.refl _ _).alloc (Nat.le_refl _) _
  obtain ⟨w, hw⟩ : ∃ w, (w0.alloc (.cells #[.int .i64 (x 0), .int .i64 (x 1), .int .i64 (x 2)] 44 (0, 0))) = w := ⟨_, rfl⟩
  rw [hw] at hX hb00
  have hL := hL0.below hb00
  have HW : Hid ((w0.alloc (.cells #[.int .i64 (x 0), .int .i64 (x 1), .int .i64 (x 2)] 44 (0, 0))) = w) := hw
  have HX : Hid (∀ y, Below w.heap.size w y → y.cell? ⟨w0.heap.size, 0, none⟩ = some (.int .i64 (x 0)) ∧ y.cell? ⟨w0.heap.size, 1, none⟩ = some (.int .i64 (x 1)) ∧ y.cell? ⟨w0.heap.size, 2, none⟩ = some (.int .i64 (x 2))) := fun y hy =>
    ⟨(hy.cell (p := ⟨w0.heap.size, 0, none⟩) (cell_lt hX.1)).trans hX.1, (hy.cell (p := ⟨w0.heap.size, 1, none⟩) (cell_lt hX.2.1)).trans hX.2.1, (hy.cell (p := ⟨w0.heap.size, 2, none⟩) (cell_lt hX.2.2)).trans hX.2.2⟩
  have hcut := cut_any l len cap 60 true w hL (by decide)
  have hwk := fun x => wakes_any x
  obtain ⟨i0, hi, hz0, hz1, hz2⟩ := info_parts Try.info4
  clear hL hL0 hw hX
  go_enter Try.func8, Try.ntmps8
  go_wp2_with fail
  rw [HW.out]
  go_at_call 9
  refine hcut.mono ?_
  rintro e w1 ⟨hb1, v, f, rfl, hC⟩
  have k12 : min len 12 ≤ 12 := by omega
  generalize min len 12 = k at hC k12 ⊢
  obtain ⟨a, c, rfl, hc1, hc2, hT⟩ := hC.txt (by decide)
  clear hcut
  by_cases hk : 1 ≤ k ∧ k ≤ 8
  · obtain ⟨m, D, hmN, hm, hE, hf, hp, hq, hm0⟩ := hC.elems (by decide) hk.1 hk.2
    have henc := encode_any a k c _ _ w1 hc1 hc2 hT
    rw [hE, hp, hq] at henc
    have HV : Hid (∀ x, Below w1.heap.size w1 x → Vals x a k fun i => .string (strE m (St k D i))) := fun x hx => by
      rcases (hT.below hx).1 with h0 | ⟨b, o, e, h⟩
      · omega
      · exact .inr ⟨b, o, e, fun i hi => by
          have := h i hi
          simp only [strE_te] at this
          rw [this, hf i hi]⟩
    have HN : Hid (a = none → c = 0 ∧ k = 0) := fun ha => by
      subst ha
      rcases hC.1.2 with ⟨h0, h1⟩ | ⟨g, cap', cur, e, _⟩
      · injection h0 with _ _ h4; exact ⟨h4, h1⟩
      · cases e
    have HK : Hid (1 ≤ k ∧ k ≤ 8) := hk
    have HM : Hid (m ≤ 65536) := hm
    have t0 : ((k : Int) == 0) = false := by simp; omega
    have t1 : ¬ (8 : Int) < (k : Int) := by omega
    have HPQ : Hid (strE m (St k D k) = (fun i => strE m (St k D i)) k ∧ strE m (St k D (k + 1)) = (fun i => strE m (St k D i)) (k + 1)) := ⟨rfl, rfl⟩
    generalize strE m (St k D k) = p at henc HPQ
    generalize strE m (St k D (k + 1)) = q at henc HPQ
    clear hE hf hp hq hm0 hC hT hk hm hmN
    go_wp2_with fail
    go_at_call 10
    refine henc.mono ?_
    rintro e w2 ⟨hb2, rfl⟩
    have hb02 := hb1.trans (hb2.mono hb1.size)
    obtain ⟨v3, w3, hrun, hown3, hb3⟩ := app_strs w2 a k c (fun i => strE m (St k D i)) (HV.out w2 hb2) HN.out (by omega)
    have hb03 := hb02.trans (hb3.mono hb02.size)
    clear henc
    go_wp2_with (at_builtin; first | refine Lib.wpList_append_run _ rfl _ _ 22 22 rfl _ _ rfl rfl _ _ (hrun _) ?_ | refine push_strs_two rfl _ _ rfl _ w2.heap.size _ k (fun i => strE m (St k D i)) hown3 rfl _ _ HPQ.out.1 HPQ.out.2 _ rfl rfl (by omega) hb3.size ?_)
    intro v4 w4 hown4 hb4
    obtain ⟨aa, ac, rfl, -, hva⟩ := owns_form hown4 _ (fun i hi => strsL_at _ _ i hi)
    have hac : k + 2 ≤ ac ∧ ac ≤ 9223372036854775807 ∧ (aa = none → False) := by
      rcases hown4.2 with ⟨h0, h1⟩ | ⟨g, cap', cur, e, _, _, h1, h2, _⟩
      · omega
      · cases e; unfold maxLen at h2; exact ⟨h1, by omega, fun h => by cases h⟩
    have hTa : TxtAt w4 aa (k + 2) (fun _ => m) (St k D) := ⟨hva, fun c hc => by show m ≤ _; have := HM.out; omega⟩
    have hb04 : Below w.heap.size w w4 := hb02.trans ((hb3.trans hb4).mono hb02.size)
    have HVA : Hid (∀ x, Below w4.heap.size w4 x → Vals x aa (k + 2) fun i => .string (strE m (St k D i))) := fun x hx => hva.below hx (Nat.le_refl _)
    have HAC : Hid (k + 2 ≤ ac ∧ ac ≤ 9223372036854775807 ∧ (aa = none → False)) := hac
    have HB14 : Hid (Below w1.heap.size w1 w4) := hb2.trans ((hb3.trans hb4).mono hb2.size)
    have HTA : Hid (∀ x, Below w4.heap.size w4 x → TxtAt x aa (k + 2) (fun _ => m) (St k D)) := fun x hx => hTa.below hx
    clear hrun hown3 hb3 hb03 hown4 hb4 hb02 hb2 hva hac hTa HPQ
    go_wp2_with (at_make; refine wpList_make_full _ rfl _ _ 35 rfl w4.heap.size 4 i0 (.bool false) 1 Try.underlying35 hi hz0 hz1 _ _ _ _ (k + 2) rfl rfl ?c0 ?c1 ?c2 ?c3 ?c4 ?_)
    case c0 => first | rfl | omega
    case c1 => first | rfl | omega
    case c2 => rw [hz2]; omega
    case c3 => unfold maxLen; omega
    case c4 => exact Nat.le_refl _
    intro wm hownm hgrowm
    have hbelm : Below w4.heap.size w4 wm := (Below.refl _ _).grown hgrowm (Nat.le_refl _) (fun k h => by cases h)
    rw [toList_madeCells_one, ← filled_zero (k + 2) (fun _ => .bool true)] at hownm
    clear hgrowm
    go_wp2_with fail
    go_loopw [46] (fun i wx => ∃ x : Nat, x ≤ k + 2 ∧ i = .int .i64 x ∧ Below w4.heap.size w4 wx ∧ wx.ownsRow w4.heap.size 4 1 (.slice (some ⟨w4.heap.size, 0, none⟩) (k + 2) (k + 2)) (k + 2) (filled (k + 2) x (fun _ => .bool true) (.bool false))) (fun i _ => (k + 2 : Nat) - (intOf i).toNat)
    case atStart => exact ⟨0, Nat.zero_le _, rfl, hbelm, hownm⟩
    case round =>
      obtain ⟨y, hy, rfl, hby, howny⟩ := hrel
      clear hbelm hownm
      by_cases hyl : y < k + 2
      · obtain ⟨v0, hcell⟩ : ∃ v0, wr.cell? ⟨w4.heap.size, y, none⟩ = some v0 := by
          rw [howny.cellAt y (by omega)]; exact ⟨_, List.getElem?_eq_getElem (by simp [filled]; exact hyl)⟩
        have hfr := howny.frozenAt y
        have hst := (howny.stored y (.bool true)).1
        rw [filled_set (k + 2) y (fun _ => .bool true) _ hyl] at hst
        have yk : (y : Int) < (k : Int) + 2 := by omega
        clear howny
        go_wp2_with fail
        go_roundw
        case rel => exact ⟨y + 1, by omega, by go_num, hby.setCell (Nat.le_refl _) _, hst⟩
        case measure => simp [intOf]; omega
      · have hyk : y = k + 2 := by omega
        subst hyk
        rw [filled_full] at howny
        obtain ⟨hX0, hX1, hX2⟩ := HX.out wr (hb1.trans (HB14.out.trans (hby.mono HB14.out.size) |>.mono hb1.size))
        have howny' : wr.ownsRow w4.heap.size 4 1 (.slice (some ⟨w4.heap.size, 0, none⟩) (k + 2) (k + 2)) (k + 2) (valsL (k + 2) fun i => .bool ((fun _ => true) i)) := howny
        clear howny
        go_wp2_with fail
        go_loopw [12, 54] (fun lo i wx => ∃ (r : Nat) (T : Nat → Bool) (q : Nat), r ≤ 3 ∧ i = .int .i64 r ∧ lo = .int .i64 q ∧ q + cnt T (k + 2) = k + 2 ∧ q ≤ r ∧ Below w4.heap.size w4 wx ∧ wx.ownsRow w4.heap.size 4 1 (.slice (some ⟨w4.heap.size, 0, none⟩) (k + 2) (k + 2)) (k + 2) (valsL (k + 2) fun i => .bool (T i))) (fun _ i _ => (3 : Nat) - (intOf i).toNat)
        case atStart => exact ⟨0, fun _ => true, 0, by decide, rfl, rfl, by rw [cnt_all]; omega, Nat.le_refl _, hby, howny'⟩
        case round =>
          clear howny' hby hX0 hX1 hX2
          obtain ⟨r, T, q, hr, rfl, rfl, hq, hqr, hbx, hownx⟩ := hrel
          by_cases hr3 : r < 3
          · have hxr := hx r hr3
            obtain ⟨z, hz⟩ : ∃ z, (x r).toNat = z := ⟨_, rfl⟩
            have hmax : (if (0 : Int) < x r then x r else 0) = (z : Int) := by rw [← hz]; split <;> omega
            obtain ⟨p, hp, hpk⟩ : ∃ p, z % (k + 2) = p ∧ p < k + 2 := ⟨_, rfl, Nat.mod_lt _ (by omega)⟩
            have hmod : Int.tmod (z : Int) ((k : Int) + 2) = (p : Int) := by
              rw [← hp, show ((k : Int) + 2) = ((k + 2 : Nat) : Int) by omega]; rfl
            have hcp : wr.cell? ⟨w4.heap.size, p, none⟩ = some (.bool (T p)) := by rw [hownx.cellAt p (by omega), valsL_at _ _ p hpk]
            have hfr := hownx.frozenAt p
            have hst := (hownx.stored p (.bool false)).1
            have hst' : (wr.setCell ⟨w4.heap.size, p, none⟩ (.bool false)).ownsRow w4.heap.size 4 1 (.slice (some ⟨w4.heap.size, 0, none⟩) (k + 2) (k + 2)) (k + 2) (valsL (k + 2) fun i => .bool (if i = p then false else T i)) := by
              have e : (fun j => if j = p then Value.bool false else .bool (T j)) = fun i => .bool (if i = p then false else T i) := by funext j; split <;> rfl
              rw [valsL_set _ _ p _ hpk, e] at hst
              exact hst
            have hcd : T p = true → cnt (fun i => if i = p then false else T i) (k + 2) + 1 = cnt T (k + 2) := cnt_drop T p (k + 2) hpk
            have hcs : T p = false → cnt (fun i => if i = p then false else T i) (k + 2) = cnt T (k + 2) := fun h => by
              have : (fun i => if i = p then false else T i) = T := by
                funext i; split
                · rename_i e; rw [e, h]
                · rfl
              rw [this]
            have HST : Hid ((wr.setCell ⟨w4.heap.size, p, none⟩ (.bool false)).ownsRow w4.heap.size 4 1 (.slice (some ⟨w4.heap.size, 0, none⟩) (k + 2) (k + 2)) (k + 2) (valsL (k + 2) fun i => .bool (if i = p then false else T i))) := hst'
            have pk : (p : Int) < (k : Int) + 2 := by omega
            have hr' : r = 0 ∨ r = 1 ∨ r = 2 := by omega
            have hbx' := hbx.setCell (p := ⟨w4.heap.size, p, none⟩) (Nat.le_refl _) (.bool false)
            clear hz hp hst hst' hownx hbx
            have hi0 := fun w => (index3 x w).1
            have hi1 := fun w => (index3 x w).2.1
            have hi2 := fun w => (index3 x w).2.2
            by_cases hTp : T p = true
            · have HCD : Hid (cnt (fun i => if i = p then false else T i) (k + 2) + 1 = cnt T (k + 2)) := hcd hTp
              rw [hTp] at hcp
              clear hcd hcs hTp
              rcases hr' with rfl | rfl | rfl
              · go_wp2_with fail
                go_roundw
                case rel => exact ⟨0 + 1, fun i => if i = p then false else T i, q + 1, by omega, by go_num, by go_num, by have := HCD.out; omega, by omega, hbx', HST.out⟩
                case measure => simp [intOf]
              · go_wp2_with fail
                go_roundw
                case rel => exact ⟨1 + 1, fun i => if i = p then false else T i, q + 1, by omega, by go_num, by go_num, by have := HCD.out; omega, by omega, hbx', HST.out⟩
                case measure => simp [intOf]
              · go_wp2_with fail
                go_roundw
                case rel => exact ⟨2 + 1, fun i => if i = p then false else T i, q + 1, by omega, by go_num, by go_num, by have := HCD.out; omega, by omega, hbx', HST.out⟩
                case measure => simp [intOf]
            · have hTp' : T p = false := by simpa using hTp
              have HCD : Hid (cnt (fun i => if i = p then false else T i) (k + 2) = cnt T (k + 2)) := hcs hTp'
              rw [hTp'] at hcp
              clear hcd hcs hTp hTp'
              rcases hr' with rfl | rfl | rfl
              · go_wp2_with fail
                go_roundw
                case rel => exact ⟨0 + 1, fun i => if i = p then false else T i, q, by omega, by go_num, rfl, by have := HCD.out; omega, by omega, hbx', HST.out⟩
                case measure => simp [intOf]
              · go_wp2_with fail
                go_roundw
                case rel => exact ⟨1 + 1, fun i => if i = p then false else T i, q, by omega, by go_num, rfl, by have := HCD.out; omega, by omega, hbx', HST.out⟩
                case measure => simp [intOf]
              · go_wp2_with fail
                go_roundw
                case rel => exact ⟨2 + 1, fun i => if i = p then false else T i, q, by omega, by go_num, rfl, by have := HCD.out; omega, by omega, hbx', HST.out⟩
                case measure => simp [intOf]
          · have hr4 : r = 3 := by omega
            subst hr4
            have hvb : Vals wr (some ⟨w4.heap.size, 0, none⟩) (k + 2) fun i => .bool (T i) := by
              obtain ⟨x4, y4, e4, -, hv⟩ := owns_form hownx _ (fun i hi => valsL_at _ _ i hi)
              cases e4; exact hv
            clear hownx
            by_cases hq2 : 2 < q
            · have hdec := fun ca cb => decode_lost aa (some ⟨w4.heap.size, 0, none⟩) k ca cb (fun _ => m) (St k D) T wr HK.out.1 HK.out.2 (HTA.out wr hbx) hvb (by omega)
              have q2 : (2 : Int) < (q : Int) := by omega
              have q3 : ¬ (q : Int) < 3 := by omega
              clear hvb hq
              go_wp2_with fail
              go_at_call 15
              refine (hdec _ _).mono ?_
              rintro e wd ⟨hbd, rfl⟩
              clear hdec
              go_wp2_with fail
              go_at_call 12
              refine (hwk _).mono ?_
              rintro e we ⟨rfl, hbe⟩
              go_wp2_with fail
              go_ret
              have hB4 : Below w0.heap.size w0 w4 := hb00.trans ((hb1.trans (HB14.out.mono hb1.size)).mono hb00.size)
              exact ⟨rfl, hB4.trans ((hbx.trans ((hbd.trans (hbe.mono hbd.size)).mono hbx.size)).mono hB4.size)⟩
            · have hdec := fun ca cb => decode_back aa (some ⟨w4.heap.size, 0, none⟩) k m ca cb (fun _ => m) (St k D) D T wr HK.out.1 HK.out.2 HM.out (HTA.out wr hbx) hvb (by omega) (fun i hi hT => ⟨rfl, fun c hc => rfl⟩)
              have q2 : ¬ (2 : Int) < (q : Int) := by omega
              have q3 : (q : Int) < 3 := by omega
              clear hvb hq
              go_wp2_with fail
              go_at_call 15
              refine (hdec _ _).mono ?_
              rintro e wd ⟨hbd, vd, rfl, hownd⟩
              have hb4d := hbx.trans (hbd.mono hbx.size)
              obtain ⟨ad, cd, rfl, -, hvd⟩ := owns_form hownd _ (fun i hi => strsL_at _ _ i hi)
              have heq := fun y (hy : Below wd.heap.size wd y) => equal_yes ad aa (k + 2) cd ac (fun i => strE m (St k D i)) y (by omega) (hvd.below hy (Nat.le_refl _)) (HVA.out y (hb4d.trans (hy.mono hb4d.size)))
              clear hdec hownd
              go_wp2_with fail
              go_at_call 12
              refine (hwk _).mono ?_
              rintro e we ⟨rfl, hbe⟩
              have heq' := heq we hbe
              clear heq hvd
              go_wp2_with fail
              go_at_call 17
              refine heq'.mono ?_
              rintro e wf ⟨rfl, hbf⟩
              go_wp2_with fail
              go_ret
              have hB4 : Below w0.heap.size w0 w4 := hb00.trans ((hb1.trans (HB14.out.mono hb1.size)).mono hb00.size)
              exact ⟨rfl, hB4.trans ((hbx.trans ((hbd.trans ((hbe.trans (hbf.mono hbe.size)).mono hbd.size)).mono hbx.size)).mono hB4.size)⟩
  · by_cases h0 : k = 0
    · subst h0
      clear hC hT hk
      go_wp2_with fail
      go_at_call 12
      refine (hwk _).mono ?_
      rintro e w5 ⟨rfl, hb5⟩
      go_wp2_with fail
      go_ret
      exact ⟨rfl, hb00.trans ((hb1.trans (hb5.mono hb1.size)).mono hb00.size)⟩
    · have t0 : ((k : Int) == 0) = false := by simp; omega
      have t1 : (8 : Int) < (k : Int) := by omega
      clear hC hT hk h0
      go_wp2_with fail
      go_at_call 12
      refine (hwk _).mono ?_
      rintro e w5 ⟨rfl, hb5⟩
      go_wp2_with fail
      go_ret
      exact ⟨rfl, hb00.trans ((hb1.trans (hb5.mono hb1.size)).mono hb00.size)⟩
end Go.Proofs.Ytdpcbiccbhlonaa
