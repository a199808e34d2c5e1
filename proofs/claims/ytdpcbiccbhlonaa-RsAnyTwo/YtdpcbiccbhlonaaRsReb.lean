/- A stripe made anew of as many chunks as it has data chunks: the program's own answer. -/
import Derived.Test.YtdpcbiccbhlonaaRsStripe
import Derived.Test.YtdpcbiccbhlonaaRsChkLaw
namespace Go.Proofs.Ytdpcbiccbhlonaa
open Go.RowKit Go.PlainAid
set_option linter.unusedVariables false

set_option maxHeartbeats 1000000 in
theorem apply_own (a l : Option Addr) (n k ca cl : Nat) (L M : Nat → Nat) (A Y : Mx) (w : World) (hn : n ≤ maxLen) (hA : MatAt w a n L A) (hcl : k ≤ cl) (hclm : cl ≤ 9223372036854775807) (hT : TxtAt w l k M Y)
    (gA : Gd n L) (hk : k = L 0) (hM : ∀ c, c < k → M c = M 0) (h5 : M 0 ≤ 65536) :
    Calls Try.prog 21 #[.slice a n ca, .slice l k cl] w fun e w' => Below w.heap.size w w' ∧ ∃ a', e = .returned (.tuple #[.slice a' n n, .int .i64 0]) ∧ w'.ownsRow w.heap.size 9 1 (.slice a' n n) n (strsL n fun r => strE (M 0) (mulM k A Y r)) := by
  obtain ⟨i0, hi, hz0, hz1, hz2⟩ := info_parts Try.info9
  have hg := good_any a n ca L A w hn hA true (good_yes gA)
  have hal := fun x (h : Below w.heap.size w x) => alike_any l k cl M Y x (by unfold maxLen; omega) (hT.below h) true ⟨fun _ => hM, fun _ => rfl⟩
  have hT0 : ∀ x, Below w.heap.size w x → Vals x l k (fun c => .string (strE (M 0) (Y c))) := fun x hx => by
    rcases (hT.below hx).1 with h0 | ⟨b, o, rfl, h⟩
    · exact .inl h0
    · exact .inr ⟨b, o, rfl, fun i hi => by show _ = some (Value.string (strE (M 0) (Y i))); rw [← hM i hi]; exact h i hi⟩
  obtain ⟨ba, oa, rfl, hR⟩ := rows_in hA gA
  rw [← hk] at hR
  have k1 : 1 ≤ k := by rw [hk]; exact gA.2.2.1
  have k16 : k ≤ 16 := by rw [hk]; exact gA.2.2.2.1
  have n1 : 1 ≤ n := gA.1
  have n16 : n ≤ 16 := gA.2.1
  obtain ⟨bl, ol, rfl, hcl0⟩ := hT.cell k1
  obtain ⟨m, hm⟩ : ∃ m, M 0 = m := ⟨_, rfl⟩
  rw [hm] at hT0 h5 ⊢
  have HC0 : Hid (∀ x, Below w.heap.size w x → ∃ s : ByteArray, s.size = m ∧ x.cell? ⟨bl, ol, none⟩ = some (.string s)) := fun x hx => by
    have h := hcl0 0 (by omega)
    rw [Nat.add_zero] at h
    exact ⟨_, by rw [strE_size, hm], (hx.cell (p := ⟨bl, ol, none⟩) (cell_lt h)).trans h⟩
  have HC : Hid (∀ x, Below w.heap.size w x → ∀ r, r < n → ∃ b' o' cr, x.cell? ⟨ba, oa + r, none⟩ = some (.slice (some ⟨b', o', none⟩) k cr) ∧ Calls Try.prog 39 #[.slice (some ⟨b', o', none⟩) k cr, .slice (some ⟨bl, ol, none⟩) k cl] x fun e w' => e = .returned (.string (rowTxt m (A r) Y k)) ∧ Below x.heap.size x w') := fun x hx r hr => by
    obtain ⟨b', o', cr, e1, f1⟩ := hR x hx r hr
    exact ⟨b', o', cr, e1, combine_any _ _ k cr cl m (A r) Y x k1 k16 hcl hclm h5 (.inr ⟨b', o', rfl, f1⟩) (hT0 x hx)⟩
  have n0 : (0 : Int) < (n : Int) := by omega
  have n0' : 0 < n := by omega
  have k0 : (0 : Int) < (k : Int) := by omega
  have k0' : 0 < k := by omega
  have t0 : ((k : Int) != (k : Int)) = false := by simp
  clear hR gA hk hM hm hcl0 hT0 hn hA hT
  go_enter Try.func21, Try.ntmps21
  go_wp2_with fail
  go_at_call 37
  refine hg.mono ?_
  rintro e w1 ⟨rfl, hb1⟩
  obtain ⟨b', o', cr, e1, -⟩ := HC.out w1 hb1 0 n0'
  rw [Nat.add_zero] at e1
  have hal1 := hal w1 hb1
  clear hal hg
  go_wp2_with fail
  go_at_call 38
  refine hal1.mono ?_
  rintro e w2 ⟨rfl, hb2⟩
  have hb02 := hb1.trans (hb2.mono hb1.size)
  obtain ⟨s0, hs0, e2⟩ := HC0.out w2 hb02
  have hs5 : ¬ (65536 : Int) < (m : Int) := by omega
  clear hal1 e1 hb1 hb2
  go_wp2_with (at_make; refine wpList_make_full _ rfl _ _ 22 rfl w2.heap.size 9 i0 (.string ⟨#[]⟩) 1 Try.underlying22 hi hz0 hz1 _ _ _ _ n rfl rfl ?c0 ?c1 ?c2 ?c3 ?c4 ?_)
  case c0 => rfl
  case c1 => rfl
  case c2 => rw [hz2]; omega
  case c3 => unfold maxLen; omega
  case c4 => exact Nat.le_refl _
  intro w3 hown hgrow
  have hbel : Below w2.heap.size w2 w3 := (Below.refl _ _).grown hgrow (Nat.le_refl _) (fun k h => by cases h)
  rw [toList_madeCells_one, ← filled_zero n (fun r => .string (rowTxt m (A r) Y k))] at hown
  clear e2 hs0
  go_wp2_with fail
  go_loopw [34] (fun i wr => ∃ r : Nat, r ≤ n ∧ i = .int .i64 r ∧ Below w2.heap.size w2 wr ∧ wr.ownsRow w2.heap.size 9 1 (.slice (some ⟨w2.heap.size, 0, none⟩) n n) n (filled n r (fun r => .string (rowTxt m (A r) Y k)) (.string ⟨#[]⟩))) (fun i _ => (n : Nat) - (intOf i).toNat)
  case atStart => exact ⟨0, Nat.zero_le _, rfl, hbel, hown⟩
  case round =>
    obtain ⟨r, hr, rfl, hbr, hor⟩ := hrel
    by_cases hlt : r < n
    · obtain ⟨b', o', cr, e1, hcomb⟩ := HC.out wr (hb02.trans (hbr.mono hb02.size)) r hlt
      go_wp2_with fail
      go_at_call 39
      refine hcomb.mono ?_
      rintro e w4 ⟨rfl, hb4⟩
      have ho4 := owns_below hor hb4
      obtain ⟨v0, hcell⟩ : ∃ v0, w4.cell? ⟨w2.heap.size, r, none⟩ = some v0 := by
        rw [ho4.cellAt r (by omega)]; exact ⟨_, List.getElem?_eq_getElem (by simp [filled]; exact hlt)⟩
      have hfr := ho4.frozenAt r
      have hst := (ho4.stored r (.string (rowTxt m (A r) Y k))).1
      rw [filled_set n r (fun r => .string (rowTxt m (A r) Y k)) _ hlt] at hst
      have hb5 := hbr.trans (hb4.mono hbr.size)
      have rn : (r : Int) < (n : Int) := by omega
      clear hcomb e1 ho4
      go_wp2_with fail
      go_roundw
      case rel => exact ⟨r + 1, by omega, by go_num, hb5.setCell (Nat.le_refl _) _, hst⟩
      case measure => simp [intOf]; omega
    · have hrn : r = n := by omega
      subst hrn
      go_wp2_with fail
      go_ret2
      rw [filled_full] at hor
      exact ⟨hb02.trans (hbr.mono hb02.size), _, rfl, owns_mono hor hb02.size⟩

set_option maxHeartbeats 1000000 in
theorem rebuild_any (a b : Option Addr) (k ca cb m : Nat) (T : Nat → Bool) (Y : Mx) (w : World) (k1 : 1 ≤ k) (k8 : k ≤ 8) (hca : k ≤ ca) (hcm : ca ≤ 9223372036854775807) (hm : m ≤ 65536) (hT : k ≤ cnt T (k + 2))
    (hA : TxtAt w a k (fun _ => m) (fun r => Y (kidx T (k + 2) r))) (hB : MatAt w b k (fun _ => k) (fun r => stM k (kidx T (k + 2) r))) :
    Calls Try.prog 33 #[.slice a k ca, .slice b k cb] w fun e w' => Below w.heap.size w w' ∧ ∃ v D, e = .returned v ∧ Fits k T m Y D ∧ w'.ownsRow w.heap.size 9 1 v (k + 2) (strsL (k + 2) fun i => strE m (St k D i)) := by
  have hinv := invert_any b k cb (fun _ => k) (fun r => stM k (kidx T (k + 2) r)) w (by unfold maxLen; omega) hB
  have gd : Gd k (fun _ => k) := ⟨k1, by omega, k1, by show k ≤ 16; omega, fun _ _ => rfl⟩
  have hap := fun x a' U (hx : Below w.heap.size w x) (hM : MatAt x a' k (fun _ => k) (rightM k U)) => apply_own a' a k k k ca (fun _ => k) (fun _ => m) (rightM k U) (fun r => Y (kidx T (k + 2) r)) x (by unfold maxLen; omega) hM hca hcm (hA.below hx) gd rfl (fun _ _ => rfl) hm
  have HX : Hid (∀ c U, c < k → Reach k (2 * k) (wideM k fun r => stM k (kidx T (k + 2) r)) U → (∀ r, r < k → ∀ j, j < c → U r j = idM r j) → (∀ r, c ≤ r → r < k → U r c = 0) → False) := fun c U hc hR hu hz => by
    obtain ⟨v, hv, hk⟩ := reach_kernel hR (by omega) hc hu hz
    have := kept_kernel (by omega) hT (v := v) (fun r hr => by
      rw [← hk r hr]
      exact S_congr fun j hj => by simp only [wideM, if_pos hj]) c hc
    rw [hv] at this
    exact E.one_ne this
  have HD : Hid (∀ U, Reach k (2 * k) (wideM k fun r => stM k (kidx T (k + 2) r)) U → (∀ r, r < k → ∀ j, j < k → U r j = idM r j) → Fits k T m Y (mulM k (rightM k U) fun r c => Y (kidx T (k + 2) r) c)) := fun U hR hu => kept_fits (reach_done hR hu).2
  have HG : Hid (Gd k (fun _ => k)) := gd
  clear hA hB gd hT
  go_enter Try.func33, Try.ntmps33
  go_wp2_with fail
  go_at_call 46
  refine hinv.mono ?_
  rintro e w1 ⟨hb1, ⟨hno, -⟩ | ⟨-, hno, -⟩ | ⟨-, -, -, c, U, hc, hR, hu, hz⟩ | ⟨-, -, a', U, rfl, hM, hR, hu⟩⟩
  · exact absurd HG.out hno
  · exact absurd rfl hno
  · exact (HX.out c U hc hR hu hz).elim
  have HF : Hid (Fits k T m Y (mulM k (rightM k U) fun r c => Y (kidx T (k + 2) r) c)) := HD.out U hR hu
  have hap1 := hap w1 a' U hb1 hM
  clear hinv hap hR hu hM
  generalize (mulM k (rightM k U) fun r c => Y (kidx T (k + 2) r) c) = D at hap1 HF
  go_wp2_with fail
  go_at_call 21
  refine hap1.mono ?_
  rintro e w2 ⟨hb2, a2, rfl, hown⟩
  have hb02 := hb1.trans (hb2.mono hb1.size)
  have hT2 : TxtAt w2 a2 k (fun _ => m) D := by
    obtain ⟨x, y, e, h1, h2, h3⟩ := txt_of_owns hown hm
    cases e; exact h3
  have henc := encode_any a2 k k (fun _ => m) D w2 (Nat.le_refl _) (by omega) hT2
  have hz : encE k (fun _ => m) = 0 := encE_zero.2 ⟨⟨k1, k8⟩, fun _ _ => rfl, hm⟩
  have hs0 : encS k (fun _ => m) D 0 = strE m (St k D k) := by
    unfold encS; rw [if_pos hz]
    exact strE_congr fun c hc => (St_parity k 0 D c).symm
  have hs1 : encS k (fun _ => m) D 1 = strE m (St k D (k + 1)) := by
    unfold encS; rw [if_pos hz]
    exact strE_congr fun c hc => (St_parity k 1 D c).symm
  rw [hz, hs0, hs1] at henc
  have hown' : w2.ownsRow w1.heap.size 9 1 (.slice a2 k k) k (strsL k fun i => strE m (St k D i)) := by
    have : (strsL k fun i => strE m (St k D i)) = strsL k fun r => strE m (D r) := strsL_congr fun i hi => strE_congr fun c hc => St_data hi D c
    rw [this]; exact hown
  have hown'' := owns_mono hown' hb1.size
  clear hap1 hown hown' hz hs0 hs1 hT2
  have HP : Hid (strE m (St k D k) = (fun i => strE m (St k D i)) k ∧ strE m (St k D (k + 1)) = (fun i => strE m (St k D i)) (k + 1)) := ⟨rfl, rfl⟩
  generalize strE m (St k D k) = p at henc HP
  generalize strE m (St k D (k + 1)) = q at henc HP
  go_wp2_with fail
  go_at_call 10
  refine henc.mono ?_
  rintro e w3 ⟨hb3, rfl⟩
  have hb03 := hb02.trans (hb3.mono hb02.size)
  have hown3 := owns_below hown'' hb3
  clear henc hown''
  go_wp2_with (at_builtin; refine push_strs_two rfl _ _ rfl _ w.heap.size _ k (fun i => strE m (St k D i)) hown3 rfl _ _ HP.out.1 HP.out.2 _ rfl rfl (by omega) hb03.size ?_)
  intro v' w4 hown4 hb4
  go_wp2_with fail
  go_ret
  exact ⟨hb03.trans hb4, _, D, rfl, HF.out, hown4⟩
end Go.Proofs.Ytdpcbiccbhlonaa
