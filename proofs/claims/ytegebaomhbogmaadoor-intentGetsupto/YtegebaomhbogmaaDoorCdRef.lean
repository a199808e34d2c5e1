/- The document's reader: Number, Below, Words, Done. -/
import Derived.Test.YtegebaomhbogmaaDoorCdRead2
namespace Go.Proofs.YtegebaomhbogmaaDoor
open Go.RowKit Go.PlainAid
set_option linter.unusedVariables false

/-- The document's reader: a text, how far it is read, the error that was met. -/
def rrd (g : Nat) (S : ByteArray) (p : Nat) (e : Int) : Asn := blkA g 65 [.string S, .int .i64 (p : Int), .int .i64 e]
set_option maxRecDepth 20000 in
theorem firm_rrd (g : Nat) (S : ByteArray) (p : Nat) (e : Int) : Firm (rrd g S p e) := firm_blk _ _ _
/-- What is left of it. -/
def lft (S : ByteArray) (p : Nat) : ByteArray := S.extract p S.size
set_option maxRecDepth 20000 in
theorem lft_size (S : ByteArray) (p : Nat) : (lft S p).size = S.size - p := by unfold lft; rw [ByteArray.size_extract]; omega
set_option maxRecDepth 20000 in
theorem lft_zero (S : ByteArray) : lft S 0 = S := cut_all S
set_option maxRecDepth 20000 in
theorem lft_lft (S : ByteArray) (p k : Nat) (h : p + k ≤ S.size) : (lft S p).extract k (lft S p).size = lft S (p + k) := cut_cut S p k h
set_option maxRecDepth 20000 in
theorem lft_take (S : ByteArray) (p k : Nat) (h : p + k ≤ S.size) : (lft S p).extract 0 k = S.extract p (p + k) := by
  apply bt_ext
  · simp only [ByteArray.size_extract, lft_size]; omega
  · intro i hi
    simp only [ByteArray.size_extract, lft_size] at hi
    rw [bt_cut _ 0 k i (by rw [lft_size]; omega) (by omega), Nat.zero_add, bt_cut S p (p + k) i h (by omega)]
    unfold lft
    rw [bt_cut S p S.size i (Nat.le_refl _) (by omega)]
set_option maxRecDepth 20000 in
theorem rd8_lft (S : ByteArray) (p : Nat) (h : p + 8 ≤ S.size) : rd8 (lft S p) 0 = rd8 S p := rd8_congr fun i hi => by
  unfold lft
  rw [Nat.zero_add, bt_cut S p S.size i (Nat.le_refl _) (by omega)]
set_option maxRecDepth 20000 in
theorem acc_range (S : ByteArray) (p : Nat) (k : Nat) (hk : k < 8) : 0 ≤ acc S (fun j => p + j) k ∧ acc S (fun j => p + j) k ≤ 72057594037927935 := by
  have h0 := bt_range S (p + 0)
  have h1 := bt_range S (p + 1)
  have h2 := bt_range S (p + 2)
  have h3 := bt_range S (p + 3)
  have h4 := bt_range S (p + 4)
  have h5 := bt_range S (p + 5)
  have h6 := bt_range S (p + 6)
  have h : k = 0 ∨ k = 1 ∨ k = 2 ∨ k = 3 ∨ k = 4 ∨ k = 5 ∨ k = 6 ∨ k = 7 := by omega
  rcases h with rfl | rfl | rfl | rfl | rfl | rfl | rfl | rfl <;> simp only [acc] <;> omega
section
variable {B : Nat} {w0 w : World} {g : Nat} {S : ByteArray} {p : Nat} {e : Int} {R : Asn}
set_option maxRecDepth 20000 in
set_option maxHeartbeats 1000000 in
theorem rnumber_ok (hR : Firm R) (h : Hold B w0 w (star (rrd g S p 0) R)) (hS : S.size ≤ 140737488355328) (hp : p + 8 ≤ S.size) : Calls Tryd.prog 27 #[.pointer (some ⟨g, 0, none⟩)] w fun x w' => x = .returned (.int .u64 (rd8 S p)) ∧ Hold B w0 w' (star (rrd g S (p + 8) 0) R) := by
  have c0 := h.blk.cell (i := 0) rfl
  have c1 := h.blk.cell (i := 1) rfl
  have c2 := h.blk.cell (i := 2) rfl
  have H : Hid (Hold _ _ _ _) := h
  have HA : Hid (∀ k, k < 8 → 0 ≤ acc S (fun j => p + j) k ∧ acc S (fun j => p + j) k ≤ 72057594037927935) := acc_range S p
  have HS : Hid (∀ k, acc S (fun j => p + j) (k + 1) = 256 * acc S (fun j => p + j) k + bt S (p + k)) := fun k => rfl
  have HE : Hid (acc S (fun j => p + j) 8 = rd8 S p) := rfl
  have h0 : (0 : Int) = acc S (fun j => p + j) 0 := rfl
  have z0 : IntKind.i64.wrap ((S.size : Int) - (p : Int)) = (S.size : Int) - (p : Int) := IntWalk.i64_in _ ⟨by omega, by omega⟩
  have z1 : ¬ (S.size : Int) - (p : Int) < 8 := by omega
  have hbs := get_bt S
  have hp2 : Hid (p + 8 ≤ S.size) := hp
  have H0 : Hid ((0 : Int) = acc S (fun j => p + j) 0) := h0
  have HD : Hid (Hold _ _ _ _) := h.drew ((firm_rrd _ _ _ _).star hR)
  clear h h0 hp H
  generalize acc S (fun j => p + j) = A at *
  generalize rd8 S p = V at *
  go_enter Tryd.func27, Tryd.ntmps27
  go_wp2
  go_region
  go_wp2
  clear c0 c1 c2
  go_loopw [3, 4] (fun n i wr => ∃ k : Nat, k ≤ 8 ∧ n = .int .u64 (A k) ∧ i = .int .i64 (k : Int) ∧ Hid (Hold B w0 wr (star (rrd g S p 0) R))) (fun _ i _ => 8 - (intOf i).toNat)
  case atStart => exact ⟨0, by omega, by rw [← H0.out], rfl, HD.out⟩
  case round =>
    clear HD
    obtain ⟨k, hk, rfl, rfl, hr⟩ := hrel
    by_cases hlt : k < 8
    · have hlt' : (k : Int) < 8 := by omega
      have c0 := hr.out.blk.cell (i := 0) rfl
      have c1 := hr.out.blk.cell (i := 1) rfl
      have hr2 : Hid (Hold _ _ _ _) := hr.out.drew ((firm_rrd _ _ _ _).star hR)
      obtain ⟨a0, a1⟩ := HA.out k hlt
      obtain ⟨b0, b1⟩ := bt_range S (p + k)
      have hs := HS.out k
      have hpk := hp2.out
      have p0 : (0 : Int) ≤ (p : Int) + (k : Int) := by omega
      have p1 : (p : Int) + (k : Int) < (S.size : Int) := by omega
      have t0 : ((p : Int) + (k : Int)).toNat = p + k := by omega
      have z2 : IntKind.i64.wrap ((p : Int) + (k : Int)) = (p : Int) + (k : Int) := IntWalk.i64_in _ ⟨by omega, by omega⟩
      have z3 : IntKind.u64.wrap (256 * A k) = 256 * A k := IntWalk.u64_in _ ⟨by omega, by omega⟩
      have z4 : IntKind.u64.wrap (256 * A k + bt S (p + k)) = A (k + 1) := by rw [hs]; exact IntWalk.u64_in _ ⟨by omega, by omega⟩
      have z5 : IntKind.u64.wrap (bt S (p + k)) = bt S (p + k) := IntWalk.u64_in _ ⟨by omega, by omega⟩
      clear hs hpk hr
      go_wp2
      go_region
      go_wp2
      go_roundw
      case rel => exact ⟨k + 1, by omega, rfl, by go_num, hr2.out⟩
      case measure => simp [intOf]; omega
    · have hk8 : k = 8 := by omega
      subst hk8
      have c1 := hr.out.blk.cell (i := 1) rfl
      have f1 := hr.out.blk.frozen 1
      have e1 : ((p + 8 : Nat) : Int) = (p : Int) + 8 := by omega
      have H2 : Hid (Hold B w0 (wr.setCell ⟨g, 1, none⟩ (.int .i64 ((p : Int) + 8))) (star (rrd g S (p + 8) 0) R)) := by
        have := hr.out.setBlk hR 1 (.int .i64 ((p : Int) + 8))
        unfold rrd; rw [e1]; exact this
      have hA8 := HE.out
      have hp3 : (p : Int) ≤ 140737488355328 := by have := hp2.out; omega
      rw [hA8]
      clear hr e1 hA8 HA HS
      go_wp2
      go_ret
      exact ⟨rfl, H2.out⟩
set_option maxRecDepth 20000 in
theorem rnumber_bad (h : Hold B w0 w (star (rrd g S p e) R)) (he : e ≠ 0) : Calls Tryd.prog 27 #[.pointer (some ⟨g, 0, none⟩)] w fun x w' => x = .returned (.int .u64 0) ∧ w' = w := by
  have c2 := h.blk.cell (i := 2) rfl
  have he' : (e != 0) = true := by simpa using he
  clear h he
  go_enter Tryd.func27, Tryd.ntmps27
  go_wp2
  go_ret
  exact ⟨rfl, rfl⟩
set_option maxRecDepth 20000 in
theorem rnumber_short (hR : Firm R) (h : Hold B w0 w (star (rrd g S p 0) R)) (hS : S.size ≤ 140737488355328) (hp : p ≤ S.size) (hp8 : S.size < p + 8) : Calls Tryd.prog 27 #[.pointer (some ⟨g, 0, none⟩)] w fun x w' => x = .returned (.int .u64 0) ∧ Hold B w0 w' (star (rrd g S p 3) R) := by
  have c0 := h.blk.cell (i := 0) rfl
  have c1 := h.blk.cell (i := 1) rfl
  have c2 := h.blk.cell (i := 2) rfl
  have f2 := h.blk.frozen 2
  have z0 : IntKind.i64.wrap ((S.size : Int) - (p : Int)) = (S.size : Int) - (p : Int) := IntWalk.i64_in _ ⟨by omega, by omega⟩
  have z1 : (S.size : Int) - (p : Int) < 8 := by omega
  have H2 : Hid (Hold _ _ _ _) := (h.drew ((firm_rrd _ _ _ _).star hR)).setBlk hR 2 (.int .i64 3)
  clear h hp hp8
  go_enter Tryd.func27, Tryd.ntmps27
  go_wp2
  go_region
  go_wp2
  go_ret
  exact ⟨rfl, H2.out⟩
set_option maxRecDepth 20000 in
theorem rnumber_any (hR : Firm R) (h : Hold B w0 w (star (rrd g S p e) R)) (hS : S.size ≤ 140737488355328) (hp : p ≤ S.size) : Calls Tryd.prog 27 #[.pointer (some ⟨g, 0, none⟩)] w fun x w' => x = .returned (.int .u64 (nmV (lft S p) e)) ∧ ∃ q, q ≤ S.size ∧ lft S q = nmL (lft S p) e ∧ Hold B w0 w' (star (rrd g S q (nmE (lft S p) e)) R) := by
  have hz := lft_size S p
  by_cases he : e = 0
  · subst he
    by_cases h8 : p + 8 ≤ S.size
    · refine (rnumber_ok hR h hS h8).mono fun x w' ⟨hx, hh⟩ => ?_
      rw [nmV_ok (by omega), rd8_lft S p h8]
      refine ⟨hx, p + 8, h8, ?_, ?_⟩
      · unfold nmL; rw [tkL_ok (by omega)]; exact (lft_lft S p 8 h8).symm
      · unfold nmE; rw [tkE_ok (by omega)]; exact hh
    · refine (rnumber_short hR h hS hp (by omega)).mono fun x w' ⟨hx, hh⟩ => ?_
      rw [nmV_short (by omega)]
      refine ⟨hx, p, hp, ?_, ?_⟩
      · unfold nmL; rw [tkL_short (by omega)]
      · unfold nmE; rw [tkE_short (by omega)]; exact hh
  · refine (rnumber_bad h he).mono fun x w' ⟨hx, hw⟩ => ?_
    rw [nmV_bad he, nmL_bad he, nmE_bad he, hw]
    exact ⟨hx, p, hp, rfl, h⟩
set_option maxRecDepth 20000 in
theorem rdone_any (hR : Firm R) (h : Hold B w0 w (star (rrd g S p e) R)) (hS : S.size ≤ 140737488355328) (hp : p ≤ S.size) : Calls Tryd.prog 29 #[.pointer (some ⟨g, 0, none⟩)] w fun x w' => x = .returned (.int .i64 (dnE (lft S p) e)) ∧ Hold B w0 w' (star (rrd g S p e) R) := by
  have c0 := h.blk.cell (i := 0) rfl
  have c1 := h.blk.cell (i := 1) rfl
  have c2 := h.blk.cell (i := 2) rfl
  have hz := lft_size S p
  have H1 : Hid (Hold _ _ _ _) := h
  have H2 : Hid (Hold _ _ _ _) := h.drew ((firm_rrd _ _ _ _).star hR)
  clear h
  unfold dnE
  by_cases he : e = 0
  · subst he
    rw [if_pos rfl]
    by_cases hs : (lft S p).size = 0
    · rw [if_pos hs]
      have h1 : ¬ (p : Int) < (S.size : Int) := by omega
      clear hs hz hp
      go_enter Tryd.func29, Tryd.ntmps29
      go_wp2
      go_region
      go_wp2
      go_ret
      exact ⟨rfl, H2.out⟩
    · rw [if_neg hs]
      have h1 : (p : Int) < (S.size : Int) := by omega
      clear hs hz hp
      go_enter Tryd.func29, Tryd.ntmps29
      go_wp2
      go_region
      go_wp2
      go_ret
      exact ⟨rfl, H2.out⟩
  · rw [if_neg he]
    have he' : (e != 0) = true := by simpa using he
    clear hz hp
    go_enter Tryd.func29, Tryd.ntmps29
    go_wp2
    go_ret
    exact ⟨rfl, H1.out⟩
set_option maxRecDepth 20000 in
set_option maxHeartbeats 1000000 in
theorem rwords_any (hR : Firm R) (h : Hold B w0 w (star (rrd g S p e) R)) (hS : S.size ≤ 140737488355328) (hp : p ≤ S.size) : Calls Tryd.prog 28 #[.pointer (some ⟨g, 0, none⟩)] w fun x w' => x = .returned (.string (txV (lft S p) e)) ∧ ∃ q, q ≤ S.size ∧ lft S q = txL (lft S p) e ∧ Hold B w0 w' (star (rrd g S q (txE (lft S p) e)) R) := by
  have hn := rnumber_any hR h hS hp
  obtain ⟨n0, n1⟩ := nmV_range (lft S p) e
  unfold txV txL txE
  generalize nmV (lft S p) e = n at *
  generalize nmE (lft S p) e = E at *
  generalize nmL (lft S p) e = L1 at *
  clear h hp
  by_cases hE : E = 0
  · subst hE
    obtain ⟨N, rfl⟩ := Int.eq_ofNat_of_zero_le n0
    by_cases hc : (N : Int) ≤ (L1.size : Int)
    · rw [tkT_ok hc, tkL_ok hc, tkE_ok hc, Int.toNat_natCast]
      go_enter Tryd.func28, Tryd.ntmps28
      go_wp2_with (go_at_call 27; refine hn.mono ?_; rintro x w1 ⟨rfl, q, hq, hl, h1'⟩; clear hn; have c0 := h1'.blk.cell (i := 0) rfl; have c1 := h1'.blk.cell (i := 1) rfl; have c2 := h1'.blk.cell (i := 2) rfl; have H1 : Hid (Hold _ _ _ _) := h1'; have HQ : Hid (q ≤ S.size ∧ lft S q = L1) := ⟨hq, hl⟩; clear h1' hq hl)
      obtain ⟨hq, hl⟩ := HQ.out
      have hz := lft_size S q
      rw [hl] at hz
      have hT : Hid (S.extract q (q + N) = L1.extract 0 N) := by rw [← hl]; exact (lft_take S q N (by omega)).symm
      have hL : Hid (lft S (q + N) = L1.extract N L1.size) := by rw [← hl]; exact (lft_lft S q N (by omega)).symm
      have hQ2 : Hid (q + N ≤ S.size) := (by omega : q + N ≤ S.size)
      have e1 : ((q + N : Nat) : Int) = (q : Int) + (N : Int) := by omega
      have f1 := H1.out.blk.frozen 1
      have H2 : Hid (Hold B w0 (w1.setCell ⟨g, 1, none⟩ (.int .i64 ((q : Int) + (N : Int)))).drew.drew (star (rrd g S (q + N) 0) R)) := by
        have := ((H1.out.setBlk hR 1 (.int .i64 ((q : Int) + (N : Int)))).drew ((firm_blk _ _ _).star hR)).drew ((firm_blk _ _ _).star hR)
        unfold rrd; rw [e1]; exact this
      have z0 : IntKind.i64.wrap ((S.size : Int) - (q : Int)) = (S.size : Int) - (q : Int) := IntWalk.i64_in _ ⟨by omega, by omega⟩
      have z1 : IntKind.u64.wrap ((S.size : Int) - (q : Int)) = (S.size : Int) - (q : Int) := IntWalk.u64_in _ ⟨by omega, by omega⟩
      have z2 : ¬ (S.size : Int) - (q : Int) < (N : Int) := by omega
      have z3 : IntKind.i64.wrap (N : Int) = (N : Int) := IntWalk.i64_in _ ⟨by omega, by omega⟩
      have z4 : IntKind.i64.wrap ((q : Int) + (N : Int)) = (q : Int) + (N : Int) := IntWalk.i64_in _ ⟨by omega, by omega⟩
      have t1 : ((q : Int) + (N : Int)).toNat = q + N := by omega
      have o1 : (0 : Int) ≤ (q : Int) + (N : Int) := by omega
      have o2 : (q : Int) ≤ (q : Int) + (N : Int) := by omega
      have o3 : (q : Int) + (N : Int) ≤ (S.size : Int) := by omega
      have o4 : (N : Int) ≤ 140737488355328 := by omega
      have o5 : (q : Int) ≤ 140737488355328 := by omega
      have n1' : Hid ((N : Int) ≤ 18446744073709551615) := n1
      clear hz hl hq HQ H1 e1 n1 hc
      go_region
      go_wp2
      go_region
      go_wp2
      go_ret
      refine ⟨?_, q + N, hQ2.out, hL.out, H2.out⟩
      rw [← hT.out]; rfl
    · rw [tkT_short (by omega), tkL_short (by omega), tkE_short (by omega)]
      go_enter Tryd.func28, Tryd.ntmps28
      go_wp2_with (go_at_call 27; refine hn.mono ?_; rintro x w1 ⟨rfl, q, hq, hl, h1'⟩; clear hn; have c0 := h1'.blk.cell (i := 0) rfl; have c1 := h1'.blk.cell (i := 1) rfl; have c2 := h1'.blk.cell (i := 2) rfl; have f2 := h1'.blk.frozen 2; have H1 : Hid (Hold _ _ _ _) := h1'; have HQ : Hid (q ≤ S.size ∧ lft S q = L1) := ⟨hq, hl⟩; clear h1' hq hl)
      obtain ⟨hq, hl⟩ := HQ.out
      have hz := lft_size S q
      rw [hl] at hz
      have z0 : IntKind.i64.wrap ((S.size : Int) - (q : Int)) = (S.size : Int) - (q : Int) := IntWalk.i64_in _ ⟨by omega, by omega⟩
      have z1 : IntKind.u64.wrap ((S.size : Int) - (q : Int)) = (S.size : Int) - (q : Int) := IntWalk.u64_in _ ⟨by omega, by omega⟩
      have z2 : (S.size : Int) - (q : Int) < (N : Int) := by omega
      have H2 : Hid (Hold _ _ _ _) := (H1.out.drew ((firm_rrd _ _ _ _).star hR)).setBlk hR 2 (.int .i64 3)
      clear hz hl hq hc H1
      go_region
      go_wp2
      go_ret
      exact ⟨rfl, q, HQ.out.1, HQ.out.2, H2.out⟩
  · rw [tkT_bad hE, tkL_bad hE, tkE_bad hE]
    have he' : (E != 0) = true := by simpa using hE
    clear hE
    go_enter Tryd.func28, Tryd.ntmps28
    go_wp2_with (go_at_call 27; refine hn.mono ?_; rintro x w1 ⟨rfl, q, hq, hl, h1'⟩; clear hn; have c2 := h1'.blk.cell (i := 2) rfl; have H1 : Hid (Hold _ _ _ _) := h1'; have HQ : Hid (q ≤ S.size ∧ lft S q = L1) := ⟨hq, hl⟩; clear h1' hq hl)
    go_ret
    exact ⟨rfl, q, HQ.out.1, HQ.out.2, H1.out⟩
end
end Go.Proofs.YtegebaomhbogmaaDoor
