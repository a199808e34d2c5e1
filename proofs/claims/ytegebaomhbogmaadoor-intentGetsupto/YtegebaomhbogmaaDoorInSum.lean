/- The digest of cells, by the program and by the document. -/
import Derived.Test.YtegebaomhbogmaaDoorInRows
import Derived.Test.YtegebaomhbogmaaDoorBuf
import Derived.Test.YtegebaomhbogmaaDoorSum
import Derived.Test.YtegebaomhbogmaaDoorRSum
import Derived.Test.YtegebaomhbogmaaDoorCdRNum
namespace Go.Proofs.YtegebaomhbogmaaDoor
open Go.RowKit Go.PlainAid
set_option linter.unusedVariables false
set_option maxRecDepth 20000

theorem cat_snoc0 (A : Nat → ByteArray) (k : Nat) : cat A 0 (k + 1) = cat A 0 k ++ A k := by rw [cat_snoc, Nat.zero_add]
theorem cat_part (A : Nat → ByteArray) {k n : Nat} (h : k ≤ n) : (cat A 0 k).size ≤ (cat A 0 n).size := by
  induction n with
  | zero => rw [show k = 0 by omega]; exact Nat.le_refl _
  | succ n ih =>
    by_cases e : k = n + 1
    · rw [e]; exact Nat.le_refl _
    · refine Nat.le_trans (ih (by omega)) ?_
      rw [cat_snoc0, ByteArray.size_append]; omega
theorem cat_one (A : Nat → ByteArray) {k n : Nat} (h : k < n) : (cat A 0 k).size + (A k).size ≤ (cat A 0 n).size := by
  have := cat_part A (show k + 1 ≤ n from h)
  rw [cat_snoc0, ByteArray.size_append] at this; exact this
set_option maxHeartbeats 1000000 in
theorem isum_any {w : World} {a : Option Addr} {m cap n : Nat} {f : Nat → ByteArray} (hc : Cs w a m f) (hn : n ≤ m) (hm : m ≤ 1000) (hz : (cat (fun i => ctxB (f i)) 0 n).size ≤ 900000000) (ht : Tabs w) : Calls Tryd.prog 22 #[.slice a m cap, .int .i64 (n : Int)] w fun e w' => e = .returned (.string (dgT f n)) ∧ Below w.heap.size w w' := by
  have HC : Hid (Cs w a m f) := hc
  have HT : Hid (Tabs w) := ht
  have h2 : Hid (2 < w.heap.size) := ht.lt
  have hB0 : Hid (BufK _ w.heap.size (cat (fun i => ctxB (f i)) 0 0)) := BufK.new w
  have hL0 : Hid (Below w.heap.size w _) := (Below.refl w.heap.size w).alloc (Nat.le_refl _) (.cells #[.pointer none, .slice none 0 0] 78)
  have HZ : Hid (∀ k, k < n → (cat (fun i => ctxB (f i)) 0 k).size + (ctxB (f k)).size ≤ 900000000) := fun k hk => Nat.le_trans (cat_one (fun i => ctxB (f i)) hk) hz
  have HS : Hid (∀ k, cat (fun i => ctxB (f i)) 0 (k + 1) = cat (fun i => ctxB (f i)) 0 k ++ ctxB (f k)) := fun k => cat_snoc0 _ k
  have HD : Hid (dgT f n = digest (⟨#[2]⟩ ++ cat (fun i => ctxB (f i)) 0 n)) := rfl
  have HTOP : Hid (∀ z, Below w.heap.size w z → Calls Tryd.prog 35 #[.string (cat (fun i => ctxB (f i)) 0 n)] z fun e w' => e = .returned (.string (digest (⟨#[2]⟩ ++ cat (fun i => ctxB (f i)) 0 n))) ∧ Below z.heap.size z w') := fun z hb => top_any _ (by omega) z (ht.below hb ht.lt)
  generalize cat (fun i => ctxB (f i)) 0 = A at *
  clear hc ht hz
  go_enter Tryd.func22, Tryd.ntmps22
  go_wp2
  go_loopw [8] (fun i wr => ∃ k : Nat, k ≤ n ∧ i = .int .i64 (k : Int) ∧ Hid (BufK wr w.heap.size (A k)) ∧ Hid (Below w.heap.size w wr)) (fun i _ => n - (intOf i).toNat)
  case atStart => exact ⟨0, Nat.zero_le _, rfl, hB0.out, hL0.out⟩
  case round =>
    clear hB0 hL0
    obtain ⟨k, hk, rfl, hbf, hlo⟩ := hrel
    by_cases hlt : k < n
    · have hk' : (k : Int) < (n : Int) := by omega
      have hkm : (k : Int) < (m : Int) := by omega
      obtain ⟨b, o, rfl, hcell⟩ := HC.out.at hlo.out k (by omega)
      have hzk := HZ.out k hlt
      have hcs := ctxB_size (f k)
      have hx : Hid (∀ z, Calls Tryd.prog 21 #[.string (f k)] z _) := fun z => ctextF_any (f k) (by omega) z
      have hzk2 : Hid ((A k).size + (ctxB (f k)).size ≤ 900000000) := hzk
      have hs1 := HS.out k
      generalize ctxB (f k) = t at *
      have HS1 : Hid (A (k + 1) = A k ++ t) := hs1
      clear hcs hzk hs1
      go_wp2_with (first
        | (go_at_call 21; refine (hx.out _).mono ?_; rintro e w1 ⟨rfl, hb1⟩; have H1 : Hid (BufK w1 w.heap.size (A k)) := hbf.out.below hb1; have L1 : Hid (Below w.heap.size w w1) := hlo.out.trans (hb1.mono hlo.out.size); clear hb1 hbf hlo hx)
        | (go_at_call 34; refine (bufK_write w.heap.size (A k) t _ H1.out (by have := hzk2.out; omega)).mono ?_; rintro e w2 ⟨rfl, hb2, hl2, -⟩; rw [← HS1.out] at hb2; have H2 : Hid (BufK w2 w.heap.size (A (k + 1))) := hb2; have L2 : Hid (Below w.heap.size w w2) := L1.out.trans hl2; clear hb2 hl2 H1 L1))
      go_roundw
      case rel => exact ⟨k + 1, by omega, by go_num, H2.out, L2.out⟩
      case measure => simp [intOf]; omega
    · obtain rfl : k = n := by omega
      have hk' : ¬ (k : Int) < (k : Int) := by omega
      generalize digest (⟨#[2]⟩ ++ A k) = DG at *
      go_wp2_with (first
        | (go_at_call 36; refine (bufK_string w.heap.size (A k) _ hbf.out).mono ?_; rintro e w1 ⟨rfl, hb1⟩; have L1 : Hid (Below w.heap.size w w1) := hlo.out.trans hb1; clear hb1 hlo hbf)
        | (go_at_call 35; refine (HTOP.out _ L1.out).mono ?_; rintro e w2 ⟨rfl, hb2⟩; have L2 : Hid (Below w.heap.size w w2) := L1.out.trans (hb2.mono L1.out.size); clear hb2 L1))
      go_ret
      exact ⟨by rw [HD.out]; rfl, L2.out⟩
set_option maxHeartbeats 1000000 in
theorem rdigest15_any {w : World} {a : Option Addr} {cap n : Nat} {f : Nat → ByteArray} (hc : Cs w a n f) (hm : n ≤ 1000) (hz : (cat (fun i => ctxB (f i)) 0 n).size ≤ 900000000) (hr : RTabs w) : Calls Tryd.prog 13 #[.slice a n cap] w fun e w' => e = .returned (.string (dgT f n)) ∧ Below w.heap.size w w' := by
  have HC : Hid (Cs w a n f) := hc
  have h2 : Hid (1 < w.heap.size) := hr.lt
  have HZ : Hid (∀ k, k < n → (cat (fun i => ctxB (f i)) 0 k).size + (ctxB (f k)).size ≤ 900000000) := fun k hk => Nat.le_trans (cat_one (fun i => ctxB (f i)) hk) hz
  have HS : Hid (∀ k, cat (fun i => ctxB (f i)) 0 (k + 1) = cat (fun i => ctxB (f i)) 0 k ++ ctxB (f k)) := fun k => cat_snoc0 _ k
  have H0 : Hid (cat (fun i => ctxB (f i)) 0 0 = ⟨#[]⟩) := rfl
  have HD : Hid (dgT f n = digest (⟨#[2]⟩ ++ cat (fun i => ctxB (f i)) 0 n)) := rfl
  have HKD : Hid (∀ z, Below w.heap.size w z → Calls Tryd.prog 25 #[.int .u8 2, .string (cat (fun i => ctxB (f i)) 0 n)] z fun e w' => e = .returned (.string (digest (⟨#[2]⟩ ++ cat (fun i => ctxB (f i)) 0 n))) ∧ Below z.heap.size z w') := fun z hb => by
    have h := refKind_any 2 (by decide) (cat (fun i => ctxB (f i)) 0 n) (by omega) z (hr.below hb hr.lt)
    rw [show strOfNums [((2 : Nat) : Int)] = (⟨#[2]⟩ : ByteArray) by decide +kernel] at h
    exact h
  generalize cat (fun i => ctxB (f i)) 0 = A at *
  clear hc hr hz
  go_enter Tryd.func13, Tryd.ntmps13
  go_wp2
  go_loopw [3, 4] (fun s i wr => ∃ k : Nat, k ≤ n ∧ i = .int .i64 (k : Int) ∧ s = .string (A k) ∧ Hid (Below w.heap.size w wr)) (fun _ i _ => n - (intOf i).toNat)
  case atStart => exact ⟨0, Nat.zero_le _, rfl, by rw [H0.out], Below.refl _ _⟩
  case round =>
    obtain ⟨k, hk, rfl, rfl, hlo⟩ := hrel
    by_cases hlt : k < n
    · have hk' : (k : Int) < (n : Int) := by omega
      obtain ⟨b, o, rfl, hcell⟩ := HC.out.at hlo.out k (by omega)
      have hzk := HZ.out k hlt
      have hcs := ctxB_size (f k)
      have hx : Hid (∀ z, Calls Tryd.prog 24 #[.string (f k)] z _) := fun z => rtextF_any (f k) (by omega) z
      have hs1 := HS.out k
      generalize ctxB (f k) = t at *
      have HS1 : Hid (A (k + 1) = A k ++ t) := hs1
      clear hcs hs1
      go_wp2_with (first
        | (go_at_call 24; refine (hx.out _).mono ?_; rintro e w1 ⟨rfl, hb1⟩; have L1 : Hid (Below w.heap.size w w1) := hlo.out.trans (hb1.mono hlo.out.size); clear hb1 hlo hx))
      go_roundw
      case rel => exact ⟨k + 1, by omega, by go_num, by rw [HS1.out], L1.out⟩
      case measure => simp [intOf]; omega
    · obtain rfl : k = n := by omega
      have hk' : ¬ (k : Int) < (k : Int) := by omega
      generalize digest (⟨#[2]⟩ ++ A k) = DG at *
      go_wp2_with (first
        | (go_at_call 25; refine (HKD.out _ hlo.out).mono ?_; rintro e w2 ⟨rfl, hb2⟩; have L2 : Hid (Below w.heap.size w w2) := hlo.out.trans (hb2.mono hlo.out.size); clear hb2 hlo))
      go_ret
      exact ⟨by rw [HD.out]; rfl, L2.out⟩
end Go.Proofs.YtegebaomhbogmaaDoor
