/- 3 texts in one: CdPlain, CdNum, CdRNum. -/
import Derived.Test.YtnhkkhiajiiahaaGreatDoorBaseM
namespace Go.Proofs.YtnhkkhiajiiahaaGreatDoor
set_option maxRecDepth 20000
open Go.RowKit Go.PlainAid
set_option linter.unusedVariables false
def hiW (n : Int) (i : Nat) : Int := if i = 0 then n / 4294967296 else n % 4294967296
def numB (n : Int) : ByteArray := strOfNums (joinF fourB (hiW n) 2)
def ctxB (s : ByteArray) : ByteArray := numB (s.size : Int) ++ s
def rd8 (s : ByteArray) (p : Nat) : Int := acc s (fun k => p + k) 8
theorem numB_size (n : Int) : (numB n).size = 8 := by unfold numB; rw [strOfNums_size, joinF_length fourB (fun _ => rfl)]
theorem ctxB_size (s : ByteArray) : (ctxB s).size = 8 + s.size := by unfold ctxB; rw [ByteArray.size_append, numB_size]
theorem rd8_range (s : ByteArray) (p : Nat) : 0 ≤ rd8 s p ∧ rd8 s p ≤ 18446744073709551615 := by
  have h0 := bt_range s (p + 0)
  have h1 := bt_range s (p + 1)
  have h2 := bt_range s (p + 2)
  have h3 := bt_range s (p + 3)
  have h4 := bt_range s (p + 4)
  have h5 := bt_range s (p + 5)
  have h6 := bt_range s (p + 6)
  have h7 := bt_range s (p + 7)
  simp only [rd8, acc]; omega
theorem rd8_congr {s t : ByteArray} {p q : Nat} (h : ∀ i, i < 8 → bt s (p + i) = bt t (q + i)) : rd8 s p = rd8 t q := by
  have h0 := h 0 (by omega)
  have h1 := h 1 (by omega)
  have h2 := h 2 (by omega)
  have h3 := h 3 (by omega)
  have h4 := h 4 (by omega)
  have h5 := h 5 (by omega)
  have h6 := h 6 (by omega)
  have h7 := h 7 (by omega)
  simp only [rd8, acc]; rw [h0, h1, h2, h3, h4, h5, h6, h7]
theorem rd8_words (s : ByteArray) : rd8 s 0 = wordsL be4 s 0 * 4294967296 + wordsL be4 s 1 := by
  simp only [rd8, acc, wordsL, be4, le4, Nat.zero_add, Nat.zero_mul, Nat.one_mul, Nat.add_zero, show 4 + 1 = 5 from rfl, show 4 + 2 = 6 from rfl, show 4 + 3 = 7 from rfl]
  omega
theorem eight_is (n : Int) : joinF fourB (hiW n) 2 = [n / 4294967296 / 16777216, n / 4294967296 / 65536 % 256, n / 4294967296 / 256 % 256, n / 4294967296 % 256, n % 4294967296 / 16777216, n % 4294967296 / 65536 % 256, n % 4294967296 / 256 % 256, n % 4294967296 % 256] := rfl
theorem eight_range (n : Int) (h0 : 0 ≤ n) (h1 : n ≤ 18446744073709551615) : ∀ x ∈ joinF fourB (hiW n) 2, 0 ≤ x ∧ x ≤ 255 := by
  rw [eight_is]
  intro x hx
  simp only [List.mem_cons, List.not_mem_nil, or_false] at hx
  rcases hx with rfl | rfl | rfl | rfl | rfl | rfl | rfl | rfl <;> omega
theorem numB_bt (n : Int) (h0 : 0 ≤ n) (h1 : n ≤ 18446744073709551615) (i : Nat) (hi : i < 8) : bt (numB n) i = ([n / 4294967296 / 16777216, n / 4294967296 / 65536 % 256, n / 4294967296 / 256 % 256, n / 4294967296 % 256, n % 4294967296 / 16777216, n % 4294967296 / 65536 % 256, n % 4294967296 / 256 % 256, n % 4294967296 % 256] : List Int)[i]'hi := by
  unfold numB
  exact bt_str _ (eight_range n h0 h1) i hi
theorem rd8_num (n : Int) (h0 : 0 ≤ n) (h1 : n ≤ 18446744073709551615) : rd8 (numB n) 0 = n := by
  simp only [rd8, acc, Nat.zero_add]
  rw [numB_bt n h0 h1 0 (by omega), numB_bt n h0 h1 1 (by omega), numB_bt n h0 h1 2 (by omega), numB_bt n h0 h1 3 (by omega), numB_bt n h0 h1 4 (by omega), numB_bt n h0 h1 5 (by omega), numB_bt n h0 h1 6 (by omega), numB_bt n h0 h1 7 (by omega)]
  simp only [List.getElem_cons_zero, List.getElem_cons_succ]
  omega
theorem rd8_left (n : Int) (h0 : 0 ≤ n) (h1 : n ≤ 18446744073709551615) (X : ByteArray) : rd8 (numB n ++ X) 0 = n := by
  rw [← rd8_num n h0 h1]
  refine rd8_congr fun i hi => ?_
  rw [bt_left _ _ _ (by rw [numB_size]; omega), rd8_num n h0 h1]
def tkT (L : ByteArray) (e n : Int) : ByteArray := if e = 0 ∧ n ≤ (L.size : Int) then L.extract 0 n.toNat else noB
def tkL (L : ByteArray) (e n : Int) : ByteArray := if e = 0 ∧ n ≤ (L.size : Int) then L.extract n.toNat L.size else L
def tkE (L : ByteArray) (e n : Int) : Int := if e = 0 ∧ (L.size : Int) < n then 3 else e
def nmV (L : ByteArray) (e : Int) : Int := if e = 0 ∧ (8 : Int) ≤ (L.size : Int) then rd8 L 0 else 0
def nmL (L : ByteArray) (e : Int) : ByteArray := tkL L e 8
def nmE (L : ByteArray) (e : Int) : Int := tkE L e 8
def cblV (L : ByteArray) (e b : Int) : Int := if 1 ≤ b ∧ nmV L e < b then nmV L e else 0
def blE (L : ByteArray) (e b : Int) : Int := if (1 ≤ b ∧ nmV L e < b) ∨ nmE L e ≠ 0 then nmE L e else 4
def txV (L : ByteArray) (e : Int) : ByteArray := tkT (nmL L e) (nmE L e) (nmV L e)
def txL (L : ByteArray) (e : Int) : ByteArray := tkL (nmL L e) (nmE L e) (nmV L e)
def txE (L : ByteArray) (e : Int) : Int := tkE (nmL L e) (nmE L e) (nmV L e)
def dnE (L : ByteArray) (e : Int) : Int := if e = 0 then (if L.size = 0 then 0 else 5) else e
theorem tkT_ok {L : ByteArray} {n : Int} (h : n ≤ (L.size : Int)) : tkT L 0 n = L.extract 0 n.toNat := if_pos ⟨rfl, h⟩
theorem tkL_ok {L : ByteArray} {n : Int} (h : n ≤ (L.size : Int)) : tkL L 0 n = L.extract n.toNat L.size := if_pos ⟨rfl, h⟩
theorem tkE_ok {L : ByteArray} {n : Int} (h : n ≤ (L.size : Int)) : tkE L 0 n = 0 := if_neg (by omega)
theorem tkT_short {L : ByteArray} {e n : Int} (h : (L.size : Int) < n) : tkT L e n = noB := if_neg (by omega)
theorem tkL_short {L : ByteArray} {e n : Int} (h : (L.size : Int) < n) : tkL L e n = L := if_neg (by omega)
theorem tkE_short {L : ByteArray} {n : Int} (h : (L.size : Int) < n) : tkE L 0 n = 3 := if_pos ⟨rfl, h⟩
theorem tkT_bad {L : ByteArray} {e n : Int} (h : e ≠ 0) : tkT L e n = noB := if_neg (by omega)
theorem tkL_bad {L : ByteArray} {e n : Int} (h : e ≠ 0) : tkL L e n = L := if_neg (by omega)
theorem tkE_bad {L : ByteArray} {e n : Int} (h : e ≠ 0) : tkE L e n = e := if_neg (by omega)
theorem nmV_ok {L : ByteArray} (h : 8 ≤ L.size) : nmV L 0 = rd8 L 0 := if_pos ⟨rfl, by omega⟩
theorem nmV_short {L : ByteArray} {e : Int} (h : L.size < 8) : nmV L e = 0 := if_neg (by omega)
theorem nmV_bad {L : ByteArray} {e : Int} (h : e ≠ 0) : nmV L e = 0 := if_neg (by omega)
theorem nmV_range (L : ByteArray) (e : Int) : 0 ≤ nmV L e ∧ nmV L e ≤ 18446744073709551615 := by
  unfold nmV; split
  · exact rd8_range L 0
  · omega
theorem tkL_size (L : ByteArray) (e n : Int) : (tkL L e n).size ≤ L.size := by
  unfold tkL; split
  · rw [ByteArray.size_extract]; omega
  · exact Nat.le_refl _
theorem nmL_size (L : ByteArray) (e : Int) : (nmL L e).size ≤ L.size := tkL_size L e 8
theorem txL_size (L : ByteArray) (e : Int) : (txL L e).size ≤ L.size := Nat.le_trans (tkL_size _ _ _) (nmL_size L e)
theorem nmL_bad {L : ByteArray} {e : Int} (h : e ≠ 0) : nmL L e = L := tkL_bad h
theorem nmE_bad {L : ByteArray} {e : Int} (h : e ≠ 0) : nmE L e = e := tkE_bad h
theorem txV_bad {L : ByteArray} {e : Int} (h : e ≠ 0) : txV L e = noB := tkT_bad (by rw [nmE_bad h]; exact h)
theorem txL_bad {L : ByteArray} {e : Int} (h : e ≠ 0) : txL L e = L := by unfold txL; rw [nmE_bad h, nmL_bad h]; exact tkL_bad h
theorem txE_bad {L : ByteArray} {e : Int} (h : e ≠ 0) : txE L e = e := by unfold txE; rw [nmE_bad h]; exact tkE_bad h
theorem cblV_bad {L : ByteArray} {e b : Int} (h : e ≠ 0) : cblV L e b = 0 := by unfold cblV; rw [nmV_bad h]; exact ite_self _
theorem blE_bad {L : ByteArray} {e b : Int} (h : e ≠ 0) : blE L e b = e := by unfold blE; rw [nmE_bad h]; exact if_pos (.inr h)
theorem cut_behind (a X : ByteArray) : (a ++ X).extract a.size (a ++ X).size = X := by
  apply bt_ext
  · rw [ByteArray.size_extract, ByteArray.size_append]; omega
  · intro i hi
    rw [ByteArray.size_extract, ByteArray.size_append] at hi
    rw [bt_cut _ _ _ _ (Nat.le_refl _) (by rw [ByteArray.size_append]; omega), bt_right _ _ _ (by omega)]
    congr 1; omega
theorem cut_ahead (a X : ByteArray) : (a ++ X).extract 0 a.size = a := by
  apply bt_ext
  · rw [ByteArray.size_extract, ByteArray.size_append]; omega
  · intro i hi
    rw [ByteArray.size_extract, ByteArray.size_append] at hi
    rw [bt_cut _ _ _ _ (by rw [ByteArray.size_append]; omega) (by omega), Nat.zero_add, bt_left _ _ _ (by omega)]
theorem nm_num (n : Int) (h0 : 0 ≤ n) (h1 : n ≤ 18446744073709551615) (X : ByteArray) : nmV (numB n ++ X) 0 = n ∧ nmL (numB n ++ X) 0 = X ∧ nmE (numB n ++ X) 0 = 0 := by
  have hs : (numB n ++ X).size = 8 + X.size := by rw [ByteArray.size_append, numB_size]
  refine ⟨?_, ?_, ?_⟩
  · rw [nmV_ok (by omega), rd8_left n h0 h1]
  · unfold nmL; rw [tkL_ok (by omega)]
    have := cut_behind (numB n) X
    rw [numB_size] at this; exact this
  · exact tkE_ok (by omega)
theorem tx_text (s X : ByteArray) (hs : s.size ≤ 18446744073709551615) : txV (ctxB s ++ X) 0 = s ∧ txL (ctxB s ++ X) 0 = X ∧ txE (ctxB s ++ X) 0 = 0 := by
  have e : ctxB s ++ X = numB (s.size : Int) ++ (s ++ X) := by unfold ctxB; exact join_assoc _ _ _
  obtain ⟨e1, e2, e3⟩ := nm_num (s.size : Int) (by omega) (by omega) (s ++ X)
  have hz : (s ++ X).size = s.size + X.size := ByteArray.size_append
  unfold txV txL txE
  rw [e, e1, e2, e3]
  refine ⟨?_, ?_, tkE_ok (by omega)⟩
  · rw [tkT_ok (by omega)]; exact cut_ahead s X
  · rw [tkL_ok (by omega)]; exact cut_behind s X
end Go.Proofs.YtnhkkhiajiiahaaGreatDoor
namespace Go.Proofs.YtnhkkhiajiiahaaGreatDoor
set_option maxRecDepth 20000
open Go.RowKit Go.PlainAid
set_option linter.unusedVariables false
theorem cnumF_any (n : Int) (h0 : 0 ≤ n) (h1 : n ≤ 18446744073709551615) (w : World) : Calls Tryz.prog 80 #[.int .u64 n] w fun e w' => e = .returned (.string (numB n)) ∧ Below w.heap.size w w' := by
  have e1 : n / 4294967296 % 4294967296 = n / 4294967296 := by omega
  have hB : Hid (Below w.heap.size w (w.alloc (.cells #[.int .u32 (n / 4294967296), .int .u32 (n % 4294967296)] 150))) := (Below.refl _ _).alloc (Nat.le_refl _) _
  have hA : Hid (At (w.alloc (.cells #[.int .u32 (n / 4294967296), .int .u32 (n % 4294967296)] 150)) (some ⟨w.heap.size, 0, none⟩) 2 (hiW n)) := .inr ⟨_, _, rfl, fun i hi => by
    rcases (by omega : i = 0 ∨ i = 1) with rfl | rfl
    · exact (Blk.new w 150 #[.int .u32 (n / 4294967296), .int .u32 (n % 4294967296)]).cell rfl
    · exact (Blk.new w 150 #[.int .u32 (n / 4294967296), .int .u32 (n % 4294967296)]).cell rfl⟩
  have hf : Hid (∀ i, i < 2 → 0 ≤ hiW n i ∧ hiW n i < 4294967296) := fun i hi => by
    unfold hiW; split <;> omega
  go_enter Tryz.func80, Tryz.ntmps80
  go_wp2_with (go_at_call 129; refine (fromBig_any _ _ 2 (hiW n) _ (by decide) hA.out hf.out).mono ?_; rintro e w1 ⟨rfl, hb⟩)
  go_ret
  exact ⟨rfl, hB.out.trans (hb.mono hB.out.size)⟩
end Go.Proofs.YtnhkkhiajiiahaaGreatDoor
namespace Go.Proofs.YtnhkkhiajiiahaaGreatDoor
set_option maxRecDepth 20000
open Go.RowKit Go.PlainAid
set_option linter.unusedVariables false
def nB (N k j : Nat) : Nat := if j + k < 8 then 0 else N / 256 ^ (7 - j) % 256
theorem nB_step (N k : Nat) (hk : k < 8) : nr .u8 8 (fun i => if i = 7 - k then N / 256 ^ k % 256 else nB N k i) = nr .u8 8 (nB N (k + 1)) := by
  apply nr_congr
  intro i hi
  unfold nB
  by_cases h : i = 7 - k
  · subst h
    rw [if_pos rfl, if_neg (by omega), show 7 - (7 - k) = k by omega]
  · rw [if_neg h]
    by_cases h2 : i + k < 8
    · rw [if_pos h2, if_pos (by omega)]
    · rw [if_neg h2, if_neg (by omega)]
theorem nB_all (N : Nat) (h : N ≤ 18446744073709551615) : tx 8 (nB N 8) = numB (N : Int) := by
  unfold tx numB
  rw [eight_is]
  congr 1
  show [((nB N 8 0 : Nat) : Int), ((nB N 8 1 : Nat) : Int), ((nB N 8 2 : Nat) : Int), ((nB N 8 3 : Nat) : Int), ((nB N 8 4 : Nat) : Int), ((nB N 8 5 : Nat) : Int), ((nB N 8 6 : Nat) : Int), ((nB N 8 7 : Nat) : Int)] = _
  rw [show nB N 8 0 = N / 72057594037927936 % 256 from rfl, show nB N 8 1 = N / 281474976710656 % 256 from rfl, show nB N 8 2 = N / 1099511627776 % 256 from rfl, show nB N 8 3 = N / 4294967296 % 256 from rfl, show nB N 8 4 = N / 16777216 % 256 from rfl, show nB N 8 5 = N / 65536 % 256 from rfl, show nB N 8 6 = N / 256 % 256 from rfl, show nB N 8 7 = N / 1 % 256 from rfl]
  simp only [List.cons.injEq, and_true]
  refine ⟨?_, ?_, ?_, ?_, ?_, ?_, ?_, ?_⟩ <;> omega
set_option maxHeartbeats 1000000 in
theorem rnumF_any (N : Nat) (h1' : N ≤ 18446744073709551615) (w : World) : Calls Tryz.prog 117 #[.int .u64 (N : Int)] w fun e w' => e = .returned (.string (numB (N : Int))) ∧ Below w.heap.size w w' := by
  have hz0 : nr .u8 8 (nB N 0) = [.int .u8 0, .int .u8 0, .int .u8 0, .int .u8 0, .int .u8 0, .int .u8 0, .int .u8 0, .int .u8 0] := rfl
  have hb0 : Hid (Blk (w.alloc (.cells #[.int .u8 0, .int .u8 0, .int .u8 0, .int .u8 0, .int .u8 0, .int .u8 0, .int .u8 0, .int .u8 0] 232)) w.heap.size 232 (nr .u8 8 (nB N 0))) := by
    rw [hz0]; exact Blk.new w 232 #[.int .u8 0, .int .u8 0, .int .u8 0, .int .u8 0, .int .u8 0, .int .u8 0, .int .u8 0, .int .u8 0]
  have hl0 : Hid (Below w.heap.size w (w.alloc (.cells #[.int .u8 0, .int .u8 0, .int .u8 0, .int .u8 0, .int .u8 0, .int .u8 0, .int .u8 0, .int .u8 0] 232))) := (Below.refl _ _).alloc (Nat.le_refl _) _
  clear hz0
  have h1 : Hid (N ≤ 18446744073709551615) := h1'
  clear h1'
  go_enter Tryz.func117, Tryz.ntmps117
  go_wp2
  go_loopw [0, 4] (fun n i wr => ∃ k : Nat, k ≤ 8 ∧ i = .int .i64 (7 - (k : Int)) ∧ n = .int .u64 ((N / 256 ^ k : Nat) : Int) ∧ Hid (Blk wr w.heap.size 232 (nr .u8 8 (nB N k))) ∧ Hid (Below w.heap.size w wr)) (fun _ i _ => (intOf i + 1).toNat)
  case atStart => exact ⟨0, by omega, rfl, by simp, hb0.out, hl0.out⟩
  case round =>
    clear hb0 hl0
    obtain ⟨k, hk, rfl, rfl, hb, hl⟩ := hrel
    by_cases hlt : k < 8
    · obtain ⟨j, hj⟩ : ∃ j : Nat, j = 7 - k := ⟨_, rfl⟩
      have hj1 : (7 : Int) - (k : Int) = (j : Int) := by omega
      have hj2 : j < 8 := by omega
      obtain ⟨M, hM⟩ : ∃ M : Nat, M = N / 256 ^ k := ⟨_, rfl⟩
      have hM2 : (M : Int) ≤ 18446744073709551615 := by rw [hM]; have := Nat.le_trans (Nat.div_le_self N (256 ^ k)) h1.out; omega
      obtain ⟨m, hm⟩ : ∃ m : Nat, m = M % 256 := ⟨_, rfl⟩
      obtain ⟨d, hd⟩ : ∃ d : Nat, d = M / 256 := ⟨_, rfl⟩
      have hM3 : (d : Int) = ((N / 256 ^ (k + 1) : Nat) : Int) := by rw [hd, hM, Nat.div_div_eq_div_mul, ← Nat.pow_succ]
      have hM4 : (M : Int) % 256 = (m : Int) := by omega
      have hM5 : (m : Int) % 256 = (m : Int) := by omega
      have hM6 : (M : Int) / 256 = (d : Int) := by omega
      have c0 := hb.out.cell (nr_at .u8 8 (nB N k) j hj2)
      have f0 := hb.out.frozen j
      have hb2 : Hid (Blk (wr.setCell ⟨w.heap.size, j, none⟩ (.int .u8 (m : Int))) w.heap.size 232 (nr .u8 8 (nB N (k + 1)))) := by
        have := hb.out.setCell j (.int .u8 (m : Int))
        rw [nr_set, hm, hM, hj, nB_step N k hlt] at this
        rw [hm, hM, hj]; exact this
      have hl2 : Hid (Below w.heap.size w (wr.setCell ⟨w.heap.size, j, none⟩ (.int .u8 (m : Int)))) := hl.out.setCell (Nat.le_refl _) _
      have HJ : Hid (j = 7 - k) := hj
      have HM : Hid ((d : Int) = ((N / 256 ^ (k + 1) : Nat) : Int)) := hM3
      rw [hj1, ← hM]
      clear hb hl hM hM3 hj hj1 hm hd
      generalize nB N k j = c at *
      go_wp2
      go_roundw
      case rel => exact ⟨k + 1, by omega, by have := HJ.out; go_num, by rw [← HM.out], hb2.out, hl2.out⟩
      case measure => simp [intOf]
    · have hk8 : k = 8 := by omega
      subst hk8
      have hc := conv_blk hb.out 8 8 (Nat.le_refl _)
      rw [nB_all N h1.out] at hc
      generalize N / 256 ^ 8 = M
      clear hb
      go_wp2
      go_ret
      exact ⟨rfl, hl.out⟩
end Go.Proofs.YtnhkkhiajiiahaaGreatDoor
