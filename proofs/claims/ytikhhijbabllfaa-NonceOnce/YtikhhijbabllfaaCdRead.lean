/- The program's reader: New, Left, Done, Num, Below, Text. -/
import Derived.Test.YtikhhijbabllfaaCdNum
import Derived.Test.YtikhhijbabllfaaSep
namespace Go.Proofs.Ytikhhijbabllfaa
open Go.RowKit Go.PlainAid
set_option linter.unusedVariables false

/-- A reader: what wasn't read, the error that was met. -/
def rdr (g : Nat) (L : ByteArray) (e : Int) : Asn := blkA g 67 [.string L, .int .i64 e]
set_option maxRecDepth 20000 in
theorem firm_rdr (g : Nat) (L : ByteArray) (e : Int) : Firm (rdr g L e) := firm_blk _ _ _
set_option maxRecDepth 20000 in
/-- Two words as one number. -/
theorem or_words (a b : Int) (ha : 0 ≤ a ∧ a < 4294967296) (hb : 0 ≤ b ∧ b < 4294967296) : bits .or .u64 (a * 4294967296) b = a * 4294967296 + b := by
  obtain ⟨A, rfl⟩ := Int.eq_ofNat_of_zero_le ha.1
  obtain ⟨B, rfl⟩ := Int.eq_ofNat_of_zero_le hb.1
  have e : (A : Int) * 4294967296 = ((2 ^ 32 * A : Nat) : Int) := by omega
  rw [e, u64_or_nat _ _ (by omega) (by omega), ← Nat.two_pow_add_eq_or_of_lt (by omega)]
  omega
set_option maxRecDepth 20000 in
theorem words_range (s : ByteArray) (i : Nat) : 0 ≤ wordsL be4 s i ∧ wordsL be4 s i < 4294967296 := by
  have h0 := bt_range s (i * 4)
  have h1 := bt_range s (i * 4 + 1)
  have h2 := bt_range s (i * 4 + 2)
  have h3 := bt_range s (i * 4 + 3)
  simp only [wordsL, be4, le4]; omega
set_option maxRecDepth 20000 in
theorem cjoined_any (a b : Int) (ha : 0 ≤ a ∧ a < 4294967296) (hb : 0 ≤ b ∧ b < 4294967296) (w : World) : Calls Try.prog 28 #[.agg #[.int .u32 a, .int .u32 b]] w fun e w' => e = .returned (.int .u64 (a * 4294967296 + b)) ∧ Below w.heap.size w w' := by
  have e1 := or_words a b ha hb
  have e2 : a * 4294967296 % 18446744073709551616 = a * 4294967296 := by omega
  go_enter Try.func28, Try.ntmps28
  go_wp2
  go_ret
  exact ⟨rfl, (Below.refl _ _).alloc (Nat.le_refl _) _⟩
section
variable {B : Nat} {w0 w : World} {g : Nat} {L : ByteArray} {e : Int} {R : Asn}
set_option maxRecDepth 20000 in
theorem cnew_at (s : ByteArray) (w : World) : Calls Try.prog 19 #[.string s] w fun x w' => x = .returned (.pointer (some ⟨w.heap.size, 0, none⟩)) ∧ w' = w.alloc (.cells #[.string s, .int .i64 0] 67) := by
  go_enter Try.func19, Try.ntmps19
  go_wp2
  go_ret
  exact ⟨rfl, rfl⟩
set_option maxRecDepth 20000 in
theorem cnew_any (hR : Firm R) (h : Hold B w0 w R) (s : ByteArray) : Calls Try.prog 19 #[.string s] w fun x w' => ∃ g, x = .returned (.pointer (some ⟨g, 0, none⟩)) ∧ Hold B w0 w' (star (rdr g s 0) R) :=
  (cnew_at s w).mono fun x w' ⟨he, hw⟩ => ⟨_, he, by rw [hw]; exact h.newBlk hR 67 #[.string s, .int .i64 0]⟩
set_option maxRecDepth 20000 in
theorem cleft_nil (w : World) : Calls Try.prog 29 #[.pointer none] w fun x w' => x = .returned (.int .i64 0) ∧ w' = w := by
  go_enter Try.func29, Try.ntmps29
  go_wp2
  go_ret
  exact ⟨rfl, rfl⟩
set_option maxRecDepth 20000 in
theorem cleft_any (h : Hold B w0 w (star (rdr g L e) R)) : Calls Try.prog 29 #[.pointer (some ⟨g, 0, none⟩)] w fun x w' => x = .returned (.int .i64 (L.size : Int)) ∧ w' = w := by
  have c0 := h.blk.cell (i := 0) rfl
  clear h
  go_enter Try.func29, Try.ntmps29
  go_wp2
  go_ret
  exact ⟨rfl, rfl⟩
set_option maxRecDepth 20000 in
theorem cfailed_nil (w : World) : Calls Try.prog 31 #[.pointer none] w fun x w' => x = .returned (.bool true) ∧ w' = w := by
  go_enter Try.func31, Try.ntmps31
  go_wp2
  go_ret
  exact ⟨rfl, rfl⟩
set_option maxRecDepth 20000 in
theorem cfailed_any (h : Hold B w0 w (star (rdr g L e) R)) : Calls Try.prog 31 #[.pointer (some ⟨g, 0, none⟩)] w fun x w' => x = .returned (.bool (e != 0)) ∧ w' = w := by
  have c1 := h.blk.cell (i := 1) rfl
  clear h
  go_enter Try.func31, Try.ntmps31
  go_wp2
  go_ret
  exact ⟨rfl, rfl⟩
set_option maxRecDepth 20000 in
theorem cmeet_nil (E : Int) (w : World) : Calls Try.prog 30 #[.pointer none, .int .i64 E] w fun x w' => x = .returned (.tuple #[]) ∧ w' = w := by
  go_enter Try.func30, Try.ntmps30
  go_wp2_with (go_at_call 31; refine (cfailed_nil _).mono ?_; rintro x w1 ⟨rfl, hw⟩; rw [hw]; clear hw w1)
  go_end0
  exact ⟨rfl, rfl⟩
set_option maxRecDepth 20000 in
theorem cmeet_any (hR : Firm R) (h : Hold B w0 w (star (rdr g L e) R)) (E : Int) : Calls Try.prog 30 #[.pointer (some ⟨g, 0, none⟩), .int .i64 E] w fun x w' => x = .returned (.tuple #[]) ∧ Hold B w0 w' (star (rdr g L (if e = 0 then E else e)) R) := by
  have c1 := h.blk.cell (i := 1) rfl
  have f1 := h.blk.frozen 1
  have hf := cfailed_any h
  have H : Hid (Hold _ _ _ _) := h
  by_cases he : e = 0
  · rw [if_pos he]
    subst he
    have H2 : Hid (Hold _ _ _ _) := h.setBlk hR 1 (.int .i64 E)
    clear h
    go_enter Try.func30, Try.ntmps30
    go_wp2_with (go_at_call 31; refine hf.mono ?_; rintro x w1 ⟨rfl, hw⟩; rw [hw]; clear hw w1 hf)
    go_end0
    exact ⟨rfl, H2.out⟩
  · rw [if_neg he]
    have he' : (e != 0) = true := by simpa using he
    rw [he'] at hf
    clear h
    go_enter Try.func30, Try.ntmps30
    go_wp2_with (go_at_call 31; refine hf.mono ?_; rintro x w1 ⟨rfl, hw⟩; rw [hw]; clear hw w1 hf)
    go_end0
    exact ⟨rfl, H.out⟩
set_option maxRecDepth 20000 in
theorem ctake_nil (n : Int) (h0 : 0 ≤ n) (w : World) : Calls Try.prog 26 #[.pointer none, .int .u64 n] w fun x w' => x = .returned (.string noB) ∧ w' = w := by
  rcases Int.lt_or_le 0 n with hn | hn
  · have hn' : ¬ n ≤ 0 := by omega
    go_enter Try.func26, Try.ntmps26
    go_wp2_with (first
      | (go_at_call 29; refine (cleft_nil _).mono ?_; rintro x w1 ⟨rfl, hw⟩; rw [hw]; clear hw w1)
      | (go_at_call 30; refine (cmeet_nil _ _).mono ?_; rintro x w1 ⟨rfl, hw⟩; rw [hw]; clear hw w1)
      | (go_at_call 31; refine (cfailed_nil _).mono ?_; rintro x w1 ⟨rfl, hw⟩; rw [hw]; clear hw w1))
    go_ret
    exact ⟨rfl, rfl⟩
  · obtain rfl : n = 0 := by omega
    go_enter Try.func26, Try.ntmps26
    go_wp2_with (first
      | (go_at_call 29; refine (cleft_nil _).mono ?_; rintro x w1 ⟨rfl, hw⟩; rw [hw]; clear hw w1)
      | (go_at_call 31; refine (cfailed_nil _).mono ?_; rintro x w1 ⟨rfl, hw⟩; rw [hw]; clear hw w1))
    go_ret
    exact ⟨rfl, rfl⟩
set_option maxRecDepth 20000 in
theorem ctake_any (hR : Firm R) (h : Hold B w0 w (star (rdr g L e) R)) (hL : L.size ≤ 140737488355328) (n : Int) (h0 : 0 ≤ n) (h1 : n ≤ 18446744073709551615) : Calls Try.prog 26 #[.pointer (some ⟨g, 0, none⟩), .int .u64 n] w fun x w' => x = .returned (.string (tkT L e n)) ∧ Hold B w0 w' (star (rdr g (tkL L e n) (tkE L e n)) R) := by
  have H : Hid (Hold _ _ _ _) := h
  have hl := cleft_any h
  have e0 : (L.size : Int) % 18446744073709551616 = (L.size : Int) := by omega
  by_cases hn : (L.size : Int) < n
  · have hn' : ¬ n ≤ (L.size : Int) := by omega
    have hm := cmeet_any hR h 3
    obtain ⟨E, hE, hE0⟩ : ∃ E : Int, (if e = 0 then 3 else e) = E ∧ E ≠ 0 := ⟨_, rfl, by split <;> omega⟩
    have hE' : (E != 0) = true := by simpa using hE0
    rw [tkT_short hn, tkL_short hn, show tkE L e n = E by rw [← hE]; unfold tkE; split <;> split <;> omega]
    rw [hE] at hm
    clear h hE
    go_enter Try.func26, Try.ntmps26
    go_wp2_with (first
      | (go_at_call 29; refine hl.mono ?_; rintro x w1 ⟨rfl, hw⟩; rw [hw]; clear hw w1 hl)
      | (go_at_call 30; refine hm.mono ?_; rintro x w1 ⟨rfl, h2⟩; have hf := cfailed_any h2; rw [hE'] at hf; have H2 : Hid (Hold _ _ _ _) := h2; clear h2 hm)
      | (go_at_call 31; refine hf.mono ?_; rintro x w2 ⟨rfl, hw⟩; rw [hw]; clear hw w2 hf))
    go_ret
    exact ⟨rfl, H2.out⟩
  · have hn' : n ≤ (L.size : Int) := by omega
    have hf := cfailed_any h
    by_cases he : e = 0
    · subst he
      rw [tkT_ok hn', tkL_ok hn', tkE_ok hn']
      have c0 := h.blk.cell (i := 0) rfl
      have f0 := h.blk.frozen 0
      have H2 : Hid (Hold _ _ _ _) := h.setBlk hR 0 (.string (L.extract n.toNat L.size))
      clear h
      go_enter Try.func26, Try.ntmps26
      go_wp2_with (first
        | (go_at_call 29; refine hl.mono ?_; rintro x w1 ⟨rfl, hw⟩; rw [hw]; clear hw w1 hl)
        | (go_at_call 31; refine hf.mono ?_; rintro x w2 ⟨rfl, hw⟩; rw [hw]; clear hw w2 hf))
      go_ret
      exact ⟨rfl, H2.out⟩
    · have he' : (e != 0) = true := by simpa using he
      rw [he'] at hf
      rw [tkT_bad he, tkL_bad he, tkE_bad he]
      clear h he
      go_enter Try.func26, Try.ntmps26
      go_wp2_with (first
        | (go_at_call 29; refine hl.mono ?_; rintro x w1 ⟨rfl, hw⟩; rw [hw]; clear hw w1 hl)
        | (go_at_call 31; refine hf.mono ?_; rintro x w2 ⟨rfl, hw⟩; rw [hw]; clear hw w2 hf))
      go_ret
      exact ⟨rfl, H.out⟩
end
end Go.Proofs.Ytikhhijbabllfaa
