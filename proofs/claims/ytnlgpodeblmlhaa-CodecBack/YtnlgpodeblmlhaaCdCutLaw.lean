/- The law CodecCut, walked. -/
import Derived.Test.YtnlgpodeblmlhaaCdWakes
import Derived.Test.YtnlgpodeblmlhaaCdCat
namespace Go.Proofs.Ytnlgpodeblmlhaa
open Go.RowKit Go.PlainAid
set_option linter.unusedVariables false

/-- The texts that are written. -/
def pcs (T : Nat → ByteArray) (i : Nat) : ByteArray := textB (cutT 100 (T i))
theorem pcs_size (T : Nat → ByteArray) (i : Nat) : (pcs T i).size ≤ 108 := by unfold pcs; rw [textB_size]; have := cutT_size 100 (T i); omega
theorem cpcs_size (T : Nat → ByteArray) (k : Nat) : (cat (pcs T) 0 k).size ≤ k * 108 := cat_size _ 108 k 0 (fun j _ => pcs_size T _)
theorem cpcs_some (T : Nat → ByteArray) (k : Nat) (h : 0 < k) : 8 ≤ (cat (pcs T) 0 k).size := by
  obtain ⟨n, rfl⟩ : ∃ n, k = n + 1 := ⟨k - 1, by omega⟩
  show 8 ≤ (pcs T 0 ++ cat _ 1 n).size
  rw [ByteArray.size_append]; unfold pcs; rw [textB_size]; omega
/-- What the reader of a cut text has behind k texts: an error, or too little. -/
def Cst (W w : World) (g : Nat) (P : Nat → ByteArray) (C k : Nat) : Prop := ∃ L e, Hold W.heap.size W w (star (rdr g L e) nought) ∧ L.size ≤ 1080 ∧ (e = 3 ∨ (e = 0 ∧ ∃ c, c < (cat P k (C - k)).size ∧ L = (cat P k (C - k)).extract 0 c))
theorem Cst.low {W w : World} {g : Nat} {P : Nat → ByteArray} {C k : Nat} (h : Cst W w g P C k) : Below W.heap.size W w := by obtain ⟨L, e, h, -⟩ := h; exact h.low
theorem cst_text {W w : World} {g : Nat} {T : Nat → ByteArray} {C k : Nat} (h : Cst W w g (pcs T) C k) (hk : k < C) : Calls Try.prog 19 #[.pointer (some ⟨g, 0, none⟩)] w fun x w' => ∃ V, x = .returned (.string V) ∧ Cst W w' g (pcs T) C (k + 1) := by
  obtain ⟨L, e, h, hL, hc⟩ := h
  refine (ctext_any firm_nought h (by omega)).mono fun x w' ⟨hx, h'⟩ => ⟨_, hx, _, _, h', Nat.le_trans (txL_size L e) hL, ?_⟩
  rcases hc with rfl | ⟨rfl, c, hc, rfl⟩
  · exact .inl (txE_bad (by decide))
  · have hn := cat_next (pcs T) k C hk
    rw [hn] at hc ⊢
    exact cut_step (cutT 100 (T k)) _ (by have := cutT_size 100 (T k); omega) c hc
theorem cst_end {W w : World} {g : Nat} {P : Nat → ByteArray} {C : Nat} (h : Cst W w g P C C) : ∃ L, L.size ≤ 1080 ∧ Hold W.heap.size W w (star (rdr g L 3) nought) := by
  obtain ⟨L, e, h, hL, hc⟩ := h
  rcases hc with rfl | ⟨-, c, hc, -⟩
  · exact ⟨L, hL, h⟩
  · rw [Nat.sub_self] at hc
    exact absurd (show c < noB.size from hc) (by rw [noB_size]; omega)
section
variable {B : Nat} {w0 w : World} {g : Nat} {L : ByteArray} {e : Int} {R : Asn}
/-- Behind an error nothing is read. -/
theorem bad_num (hR : Firm R) (h : Hold B w0 w (star (rdr g L e) R)) (hL : L.size ≤ 140737488355328) (he : e ≠ 0) : Calls Try.prog 15 #[.pointer (some ⟨g, 0, none⟩)] w fun x w' => x = .returned (.int .u64 0) ∧ Hold B w0 w' (star (rdr g L e) R) := by
  have := cnum_any hR h hL
  rw [nmV_bad he, nmL_bad he, nmE_bad he] at this; exact this
theorem bad_text (hR : Firm R) (h : Hold B w0 w (star (rdr g L e) R)) (hL : L.size ≤ 140737488355328) (he : e ≠ 0) : Calls Try.prog 19 #[.pointer (some ⟨g, 0, none⟩)] w fun x w' => x = .returned (.string ⟨#[]⟩) ∧ Hold B w0 w' (star (rdr g L e) R) := by
  have := ctext_any hR h hL
  rw [txV_bad he, txL_bad he, txE_bad he] at this; exact this
theorem bad_below (hR : Firm R) (h : Hold B w0 w (star (rdr g L e) R)) (hL : L.size ≤ 140737488355328) (he : e ≠ 0) (b : Int) (hb : -9223372036854775808 ≤ b ∧ b ≤ 9223372036854775807) : Calls Try.prog 17 #[.pointer (some ⟨g, 0, none⟩), .int .i64 b] w fun x w' => x = .returned (.int .i64 0) ∧ Hold B w0 w' (star (rdr g L e) R) := by
  have := cbelow_any hR h hL b hb
  rw [blV_bad he, nmL_bad he, blE_bad he] at this; exact this
theorem bad_done (h : Hold B w0 w (star (rdr g L 3) R)) : Calls Try.prog 21 #[.pointer (some ⟨g, 0, none⟩)] w fun x w' => x = .returned (.int .i64 3) ∧ w' = w := cdone_any h
end
set_option maxRecDepth 20000 in
set_option maxHeartbeats 4000000 in
theorem codecCut_law (s : Option Addr) (len cap : Nat) (at_ : Int) (W : World) (hs : Came strOk (fun s => [.string s]) 1 W s len cap) (hat : -9223372036854775808 ≤ at_ ∧ at_ ≤ 9223372036854775807) : Calls Try.prog 6 #[.slice s len cap, .int .i64 at_] W fun e w' => e = .returned (.bool true) ∧ Below W.heap.size W w' := by
  have hl1 := hs.1
  have hl2 := hs.2.1
  obtain ⟨T, hT⟩ := Tx.came hs
  have HT : Hid (Tx W s len T) := hT
  clear hs hT
  obtain ⟨C, hC1, hC2, hC3⟩ : ∃ C : Nat, (if (10 : Int) < (len : Int) then (10 : Int) else (len : Int)) = (C : Int) ∧ C ≤ 10 ∧ C ≤ len := ⟨min len 10, by split <;> omega, by omega, by omega⟩
  have hC4 : C ≤ cap := by omega
  have hB0 : Hid (Below W.heap.size W W) := Below.refl _ _
  go_enter Try.func6, Try.ntmps6
  go_wp2
  clear hC1
  go_loopw [5, 16] (fun v i wr => ∃ k : Nat, k ≤ C ∧ i = .int .i64 (k : Int) ∧ v = .string (cat (pcs T) 0 k) ∧ Hid (Below W.heap.size W wr)) (fun _ i _ => C - (intOf i).toNat)
  case atStart => exact ⟨0, Nat.zero_le _, rfl, rfl, hB0.out⟩
  case round =>
    clear hB0
    obtain ⟨k, hk, rfl, rfl, hb⟩ := hrel
    by_cases hlt : k < C
    · have hlt' : (k : Int) < (C : Int) := by omega
      obtain ⟨tb, to, hsa, hz, hcell⟩ := HT.out _ hb.out k (by omega)
      subst hsa
      have hsn := cat_snoc (pcs T) k 0
      have hzk := cpcs_size T k
      have hpz := pcs_size T k
      rw [Nat.zero_add] at hsn
      obtain ⟨c, hc0, hc1, hc2, hc3⟩ : ∃ c : Nat, c = min (T k).size 100 ∧ (if (100 : Int) < ((T k).size : Int) then (100 : Int) else ((T k).size : Int)) = (c : Int) ∧ c ≤ 100 ∧ c ≤ (T k).size := ⟨min (T k).size 100, rfl, by split <;> omega, by omega, by omega⟩
      have hct : pcs T k = textB ((T k).extract 0 c) := by unfold pcs cutT; rw [hc0]
      have hcall : Hid (∀ w, Calls Try.prog 12 _ w _) := ctextF_any ((T k).extract 0 c) (by rw [ByteArray.size_extract]; omega)
      rw [← hct] at hcall
      have hn1 : Hid (cat (pcs T) 0 k ++ pcs T k = cat (pcs T) 0 (k + 1)) := hsn.symm
      have hzz : ((cat (pcs T) 0 k).size : Int) ≤ 1080 := by omega
      have hzp : ((pcs T k).size : Int) ≤ 108 := by omega
      unfold maxLen at hz
      clear hct hc0 hsn hzk hpz
      generalize T k = t at *
      generalize pcs T k = pk at *
      generalize cat (pcs T) 0 k = sk at *
      go_wp2_with (go_at_call 12; refine (hcall.out _).mono ?_; rintro x w1 ⟨rfl, hb1⟩; have hb2 : Hid (Below _ _ _) := hb.out.trans (hb1.mono hb.out.size); clear hb1 hb hcall)
      go_roundw
      case rel => exact ⟨k + 1, by omega, by go_num, by rw [hn1.out], hb2.out⟩
      case measure => simp [intOf]; omega
    · obtain rfl : k = C := by omega
      have hlt' : ¬ (k : Int) < (k : Int) := by omega
      by_cases h0 : k = 0
      · subst h0
        rw [show cat (pcs T) 0 0 = ⟨#[]⟩ from rfl]
        go_wp2_with (go_at_call 9; refine (cwakes_any _).mono ?_; rintro x w1 ⟨rfl, hb1⟩; have hb : Hid (Below _ _ _) := hb.out.trans (hb1.mono hb.out.size); clear hb1)
        go_ret
        exact ⟨rfl, hb.out⟩
      · have hz1 := cpcs_some T k (by omega)
        have hz2 := cpcs_size T k
        have hne : (cat (pcs T) 0 k).toList.isEmpty = false := noB_ne (by omega)
        obtain ⟨y, hy1, hy2, hy3⟩ : ∃ y : Int, (if (0 : Int) < at_ then at_ else (0 : Int)) = y ∧ 0 ≤ y ∧ y ≤ 9223372036854775807 := ⟨_, rfl, by split <;> omega, by split <;> omega⟩
        obtain ⟨c, hc⟩ : ∃ c : Nat, Int.tmod y ((cat (pcs T) 0 k).size : Int) = (c : Int) := ⟨(Int.tmod y ((cat (pcs T) 0 k).size : Int)).toNat, by rw [Int.toNat_of_nonneg]; exact Int.tmod_nonneg _ hy2⟩
        have hc2 : c < (cat (pcs T) 0 k).size := by
          have := Int.tmod_lt_of_pos y (show (0 : Int) < ((cat (pcs T) 0 k).size : Int) by omega)
          omega
        have hc3 : y % ((cat (pcs T) 0 k).size : Int) = (c : Int) := by rw [← hc, Int.tmod_eq_emod_of_nonneg hy2]
        have hstart : Hid (∀ w1 g, Hold W.heap.size W w1 (star (rdr g ((cat (pcs T) 0 k).extract 0 c) 0) nought) → Cst W w1 g (pcs T) k 0) := fun w1 g h => ⟨_, _, h, by rw [ByteArray.size_extract]; omega, .inr ⟨rfl, c, hc2, rfl⟩⟩
        have hz3 : ((cat (pcs T) 0 k).size : Int) ≠ 0 := by omega
        have hz4 : (0 : Int) < ((cat (pcs T) 0 k).size : Int) := by omega
        have hz5 : ((cat (pcs T) 0 k).size : Int) ≤ 1080 := by omega
        have hz6 : (c : Int) ≤ ((cat (pcs T) 0 k).size : Int) := by omega
        clear hz1 hz2 hc2 hy3 hat
        generalize cat (pcs T) 0 k = sk at *
        go_wp2_with (first
          | (go_at_call 9; refine (cwakes_any _).mono ?_; rintro x w1 ⟨rfl, hb1⟩; have hb2 : Hid (Below _ _ _) := hb.out.trans (hb1.mono hb.out.size); clear hb1 hb)
          | (go_at_call 14; refine (cnew_any firm_nought (hold_nought W.heap.size W _ hb2.out.size hb2.out) _).mono ?_; rintro x w2 ⟨g, rfl, h2⟩; have h3 : Hid (Cst W w2 g (pcs T) k 0) := hstart.out _ _ h2; clear h2 hb2 hstart))
        clear hc hc3 hy1 hy2 hz3 hz4 hz5 hz6 hne
        generalize Value.string sk = vs
        go_loopw [51] (fun i wr => ∃ j : Nat, j ≤ k ∧ i = .int .i64 (j : Int) ∧ Hid (Cst W wr g (pcs T) k j)) (fun i _ => k - (intOf i).toNat)
        case atStart => exact ⟨0, Nat.zero_le _, rfl, h3.out⟩
        case round =>
          clear h3
          obtain ⟨j, hj, rfl, hr⟩ := hrel
          by_cases hlt2 : j < k
          · have hj' : (j : Int) < (k : Int) := by omega
            go_wp2_with (go_at_call 19; refine (cst_text hr.out hlt2).mono ?_; rintro x w3 ⟨V, rfl, h4⟩; have h5 : Hid (Cst _ _ _ _ _ _) := h4; clear h4 hr)
            go_roundw
            case rel => exact ⟨j + 1, by omega, by go_num, h5.out⟩
            case measure => simp [intOf]; omega
          · obtain rfl : j = k := by omega
            obtain ⟨L, hL, h6⟩ := cst_end hr.out
            have HL : Hid (L.size ≤ 140737488355328) := (by omega : L.size ≤ 140737488355328)
            have h7 : Hid (Hold _ _ _ _) := h6
            have hj' : ¬ (j : Int) < (j : Int) := by omega
            clear hr h6 hL
            go_wp2_with (first
              | (go_at_call 21; refine (bad_done h7.out).mono ?_; rintro x w4 ⟨rfl, hw⟩; rw [hw]; clear hw w4)
              | (go_at_call 15; refine (bad_num firm_nought h7.out HL.out (by decide)).mono ?_; rintro x w4 ⟨rfl, h8⟩; clear h7; have h7 : Hid (Hold _ _ _ _) := h8; clear h8)
              | (go_at_call 19; refine (bad_text firm_nought h7.out HL.out (by decide)).mono ?_; rintro x w4 ⟨rfl, h8⟩; clear h7; have h7 : Hid (Hold _ _ _ _) := h8; clear h8)
              | (go_at_call 17; refine (bad_below firm_nought h7.out HL.out (by decide) 9 (by decide)).mono ?_; rintro x w4 ⟨rfl, h8⟩; clear h7; have h7 : Hid (Hold _ _ _ _) := h8; clear h8))
            go_ret
            exact ⟨rfl, h7.out.low⟩
end Go.Proofs.Ytnlgpodeblmlhaa
