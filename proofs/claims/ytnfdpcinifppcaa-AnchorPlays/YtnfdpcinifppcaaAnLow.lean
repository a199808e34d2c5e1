/- An anchor, the program's and the document's: New, Get, Set. -/
import Derived.Test.YtnfdpcinifppcaaSep
import Derived.Test.YtnfdpcinifppcaaNums
namespace Go.Proofs.Ytnfdpcinifppcaa
open Go.RowKit Go.PlainAid
set_option linter.unusedVariables false

/-- An anchor: its count and its digest; the document's own. -/
def anc (g : Nat) (c : Int) (d : ByteArray) : Asn := blkA g 47 [.int .u64 c, .string d]
def ranc (g : Nat) (c : Int) (d : ByteArray) : Asn := blkA g 28 [.int .u64 c, .string d]
theorem firm_anc (g : Nat) (c : Int) (d : ByteArray) : Firm (anc g c d) := firm_blk _ _ _
theorem firm_ranc (g : Nat) (c : Int) (d : ByteArray) : Firm (ranc g c d) := firm_blk _ _ _
/-- What Set answers, and what the anchor has then. -/
def ancE (c n : Int) (s : ByteArray) : Int := if s.size ≠ 32 then 7 else if n ≤ c then 25 else 0
def ancC (c n : Int) (s : ByteArray) : Int := if ancE c n s = 0 then n else c
def ancD (c : Int) (d : ByteArray) (n : Int) (s : ByteArray) : ByteArray := if ancE c n s = 0 then s else d
theorem ancE_shape (c n : Int) (s : ByteArray) (h : s.size ≠ 32) : ancE c n s = 7 := if_pos h
theorem ancE_used (c n : Int) (s : ByteArray) (h : s.size = 32) (hn : n ≤ c) : ancE c n s = 25 := by unfold ancE; rw [if_neg (by simpa using h), if_pos hn]
theorem ancE_ok (c n : Int) (s : ByteArray) (h : s.size = 32) (hn : c < n) : ancE c n s = 0 := by unfold ancE; rw [if_neg (by simpa using h), if_neg (by omega)]
theorem anc_same (c : Int) (d : ByteArray) (n : Int) (s : ByteArray) (h : ancE c n s ≠ 0) : ancC c n s = c ∧ ancD c d n s = d := ⟨if_neg h, if_neg h⟩
theorem anc_new (c : Int) (d : ByteArray) (n : Int) (s : ByteArray) (h : ancE c n s = 0) : ancC c n s = n ∧ ancD c d n s = s := ⟨if_pos h, if_pos h⟩
theorem Try.size45 : (Try.prog.info? 45).map (·.size) = some 2 := by kernel_rfl
section
variable {B : Nat} {w0 w : World} {g : Nat} {c : Int} {d : ByteArray} {R : Asn}
/-- New memory, a block. -/
theorem anew_at (w : World) : Calls Try.prog 6 #[] w fun e w' => e = .returned (.pointer (some ⟨w.heap.size, 0, none⟩)) ∧ w' = w.alloc (.cells #[.int .u64 0, .string noB] 47) := by
  go_enter Try.func6, Try.ntmps6
  go_wp2
  go_ret
  exact ⟨rfl, rfl⟩
theorem anew_any (hR : Firm R) (h : Hold B w0 w R) : Calls Try.prog 6 #[] w fun e w' => ∃ g, e = .returned (.pointer (some ⟨g, 0, none⟩)) ∧ Hold B w0 w' (star (anc g 0 noB) R) :=
  (anew_at w).mono fun e w' ⟨he, hw⟩ => ⟨_, he, by rw [hw]; exact h.newBlk hR 47 #[.int .u64 0, .string noB]⟩
theorem anew_two (hR : Firm R) (h : Hold B w0 w R) : Calls Try.prog 6 #[] w fun e w' => ∃ g, e = .returned (.pointer (some ⟨g, 0, none⟩)) ∧ Hold B w0 w' (star (anc g 0 noB) R) ∧ Below w.heap.size w w' :=
  (anew_at w).mono fun e w' ⟨he, hw⟩ => ⟨_, he, by rw [hw]; exact h.newBlk hR 47 #[.int .u64 0, .string noB], by rw [hw]; exact (Below.refl _ _).alloc (Nat.le_refl _) _⟩
theorem aget_nil (w : World) : Calls Try.prog 11 #[.pointer none] w fun e w' => e = .returned (.tuple #[.int .u64 0, .string noB]) ∧ w' = w := by
  go_enter Try.func11, Try.ntmps11
  go_wp2
  go_ret2
  exact ⟨rfl, rfl⟩
theorem aget_any (hR : Firm R) (h : Hold B w0 w (star (anc g c d) R)) : Calls Try.prog 11 #[.pointer (some ⟨g, 0, none⟩)] w fun e w' => e = .returned (.tuple #[.int .u64 c, .string d]) ∧ Hold B w0 w' (star (anc g c d) R) := by
  have c0 := h.blk.cell (i := 0) rfl
  have c1 := h.blk.cell (i := 1) rfl
  have h1 : Hid (Hold _ _ _ _) := h.drew ((firm_anc g c d).star hR)
  clear h
  go_enter Try.func11, Try.ntmps11
  go_wp2
  go_region
  go_wp2
  go_ret2
  exact ⟨rfl, h1.out⟩
theorem aset_nil (n : Int) (s : ByteArray) (w : World) : Calls Try.prog 8 #[.pointer none, .int .u64 n, .string s] w fun e w' => e = .returned (.int .i64 1) ∧ w' = w := by
  go_enter Try.func8, Try.ntmps8
  go_wp2
  go_ret
  exact ⟨rfl, rfl⟩
theorem aset_any (hR : Firm R) (h : Hold B w0 w (star (anc g c d) R)) (n : Int) (s : ByteArray) : Calls Try.prog 8 #[.pointer (some ⟨g, 0, none⟩), .int .u64 n, .string s] w fun e w' => e = .returned (.int .i64 (ancE c n s)) ∧ Hold B w0 w' (star (anc g (ancC c n s) (ancD c d n s)) R) := by
  have hb := h.blk
  have c0 := h.blk.cell (i := 0) rfl
  have H : Hid (Hold _ _ _ _) := h
  clear h
  by_cases hs : s.size = 32
  · by_cases hn : n ≤ c
    · have he := ancE_used c n s hs hn
      obtain ⟨e1, e2⟩ := anc_same c d n s (by rw [he]; decide)
      rw [he, e1, e2]
      clear he e1 e2 hb
      go_enter Try.func8, Try.ntmps8
      go_wp2
      go_ret
      exact ⟨rfl, H.out⟩
    · have he := ancE_ok c n s hs (by omega)
      obtain ⟨e1, e2⟩ := anc_new c d n s he
      rw [he, e1, e2]
      clear he e1 e2
      have h2 : Hid (Hold _ _ _ _) := H.out.setRowBlk hR [.int .u64 n, .string s]
      go_enter Try.func8, Try.ntmps8
      go_wp2_with (refine wpList_store_blk rfl 45 _ _ rfl g _ [.int .u64 n, .string s] rfl rfl 47 hb Try.size45 rfl (by simp [Value.oneCell']) ?_)
      go_ret
      exact ⟨rfl, h2.out⟩
  · have he := ancE_shape c n s hs
    obtain ⟨e1, e2⟩ := anc_same c d n s (by rw [he]; decide)
    rw [he, e1, e2]
    clear he e1 e2 hb
    have hs' : ((s.size : Int) == 32) = false := by simpa using (by omega : ¬ (s.size : Int) = 32)
    go_enter Try.func8, Try.ntmps8
    go_wp2
    go_ret
    exact ⟨rfl, H.out⟩
/-- The document's own. -/
theorem rset_any (hR : Firm R) (h : Hold B w0 w (star (ranc g c d) R)) (n : Int) (s : ByteArray) : Calls Try.prog 10 #[.pointer (some ⟨g, 0, none⟩), .int .u64 n, .string s] w fun e w' => e = .returned (.int .i64 (ancE c n s)) ∧ Hold B w0 w' (star (ranc g (ancC c n s) (ancD c d n s)) R) := by
  have hb := h.blk
  have c0 := h.blk.cell (i := 0) rfl
  have H : Hid (Hold _ _ _ _) := h
  clear h
  by_cases hs : s.size = 32
  · by_cases hn : n ≤ c
    · have he := ancE_used c n s hs hn
      obtain ⟨e1, e2⟩ := anc_same c d n s (by rw [he]; decide)
      rw [he, e1, e2]
      clear he e1 e2 hb
      go_enter Try.func10, Try.ntmps10
      go_wp2
      go_ret
      exact ⟨rfl, H.out⟩
    · have he := ancE_ok c n s hs (by omega)
      obtain ⟨e1, e2⟩ := anc_new c d n s he
      rw [he, e1, e2]
      clear he e1 e2
      have h2 : Hid (Hold _ _ _ _) := (H.out.setBlk hR 0 (.int .u64 n)).setBlk hR 1 (.string s)
      have c1 := H.out.blk.cell (i := 1) rfl
      have f0 := H.out.blk.frozen 0
      have f1 := (H.out.setBlk hR 0 (.int .u64 n)).blk.frozen 1
      go_enter Try.func10, Try.ntmps10
      go_wp2
      go_ret
      exact ⟨rfl, h2.out⟩
  · have he := ancE_shape c n s hs
    obtain ⟨e1, e2⟩ := anc_same c d n s (by rw [he]; decide)
    rw [he, e1, e2]
    clear he e1 e2 hb
    have hs' : ((s.size : Int) == 32) = false := by simpa using (by omega : ¬ (s.size : Int) = 32)
    go_enter Try.func10, Try.ntmps10
    go_wp2
    go_ret
    exact ⟨rfl, H.out⟩
theorem aset_ok (hR : Firm R) (h : Hold B w0 w (star (anc g c d) R)) (n : Int) (s : ByteArray) (hs : s.size = 32) (hn : c < n) : Calls Try.prog 8 #[.pointer (some ⟨g, 0, none⟩), .int .u64 n, .string s] w fun e w' => e = .returned (.int .i64 0) ∧ Hold B w0 w' (star (anc g n s) R) := by
  have h1 := aset_any hR h n s
  have he := ancE_ok c n s hs hn
  obtain ⟨e1, e2⟩ := anc_new c d n s he
  rw [he, e1, e2] at h1
  exact h1
theorem aset_used (hR : Firm R) (h : Hold B w0 w (star (anc g c d) R)) (n : Int) (s : ByteArray) (hs : s.size = 32) (hn : n ≤ c) : Calls Try.prog 8 #[.pointer (some ⟨g, 0, none⟩), .int .u64 n, .string s] w fun e w' => e = .returned (.int .i64 25) ∧ Hold B w0 w' (star (anc g c d) R) := by
  have h1 := aset_any hR h n s
  have he := ancE_used c n s hs hn
  obtain ⟨e1, e2⟩ := anc_same c d n s (by rw [he]; decide)
  rw [he, e1, e2] at h1
  exact h1
end
end Go.Proofs.Ytnfdpcinifppcaa
