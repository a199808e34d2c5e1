/- The program's reader: Num, Below, Text, Done. -/
import Derived.Test.YtegebaomhbogmaaDoorCdRead
import Derived.Laws.Cover3
namespace Go.Proofs.YtegebaomhbogmaaDoor
open Go.RowKit Go.PlainAid
set_option linter.unusedVariables false

set_option maxRecDepth 20000 in
theorem empty_is (q : ByteArray) : q.toList.isEmpty = decide (q.size = 0) := by
  rw [ByteArray.toList_eq]
  have h : q.data.toList.length = q.size := by simp
  cases hq : q.data.toList with
  | nil => rw [hq] at h; simp at h; simp [← h]
  | cons x r => rw [hq] at h; simp at h; simp [← h]
set_option maxRecDepth 20000 in
theorem noB_ne {T : ByteArray} (h : T.size ≠ 0) : T.toList.isEmpty = false := by rw [empty_is]; exact decide_eq_false h
set_option maxRecDepth 20000 in
theorem arr2 (G : Nat) (w : World) : (Instr.arrayAt 101 (.slice (some ⟨G, 0, none⟩) 2 2)).run Tryd.prog w = .ok (.pointer (some ⟨G, 0, none⟩)) w := run_arrayAt w 101 73 2 _ 2 2 Tryd.underlying101 (Nat.le_refl _)
section
variable {B : Nat} {w0 w : World} {g : Nat} {L : ByteArray} {e : Int} {R : Asn}
set_option maxRecDepth 20000 in
theorem cnum_nil (w : World) : Calls Tryd.prog 39 #[.pointer none] w fun x w' => x = .returned (.int .u64 0) ∧ w' = w := by
  have e0 : noB = ⟨#[]⟩ := rfl
  have ht := ctake_nil 8 (by decide) w
  rw [e0] at ht
  clear e0
  go_enter Tryd.func39, Tryd.ntmps39
  go_wp2_with (go_at_call 49; refine ht.mono ?_; rintro x w1 ⟨rfl, hw⟩; rw [hw]; clear hw w1 ht)
  go_ret
  exact ⟨rfl, rfl⟩
set_option maxRecDepth 20000 in
theorem cnum_any (hR : Firm R) (h : Hold B w0 w (star (rdr g L e) R)) (hL : L.size ≤ 140737488355328) : Calls Tryd.prog 39 #[.pointer (some ⟨g, 0, none⟩)] w fun x w' => x = .returned (.int .u64 (nmV L e)) ∧ Hold B w0 w' (star (rdr g (nmL L e) (nmE L e)) R) := by
  have ht := ctake_any hR h hL 8 (by decide) (by decide)
  rw [show tkL L e 8 = nmL L e from rfl, show tkE L e 8 = nmE L e from rfl] at ht
  by_cases hc : e = 0 ∧ 8 ≤ L.size
  · obtain ⟨rfl, h8⟩ := hc
    have hT : tkT L 0 8 = L.extract 0 8 := tkT_ok (by omega)
    have hz : (L.extract 0 8).size = 8 := by rw [ByteArray.size_extract]; omega
    have hv : nmV L 0 = wordsL be4 (L.extract 0 8) 0 * 4294967296 + wordsL be4 (L.extract 0 8) 1 := by
      rw [nmV_ok h8, ← rd8_words]
      exact (rd8_congr fun i hi => bt_take L 8 (0 + i) (by omega) (by omega)).symm
    rw [hv]
    rw [hT] at ht
    generalize L.extract 0 8 = T at *
    have h0 := noB_ne (T := T) (by omega)
    have ha := arr2
    have hw0 := words_range T 0
    have hw1 := words_range T 1
    have hbig := fun w => big_even T w (by omega) (by omega)
    rw [show T.size / 4 = 2 by omega, show (List.range 2).map (fun i => Value.int .u32 (wordsL be4 T i)) = [.int .u32 (wordsL be4 T 0), .int .u32 (wordsL be4 T 1)] from rfl] at hbig
    have hj := cjoined_any (wordsL be4 T 0) (wordsL be4 T 1) hw0 hw1
    generalize wordsL be4 T 0 = a at *
    generalize wordsL be4 T 1 = b at *
    have hB : Hid (∀ w : World, Calls Tryd.prog 50 _ w _) := hbig
    clear h hv hT hz hbig hL h8 hw0 hw1
    go_enter Tryd.func39, Tryd.ntmps39
    go_wp2_with (first
      | (go_at_call 49; refine ht.mono ?_; rintro x w1 ⟨rfl, h1⟩; clear ht; have H1 : Hid (Hold _ _ _ _) := h1; clear h1)
      | (go_at_call 50; refine (hB.out _).mono ?_; rintro x w2 ⟨rfl, ho, hb2⟩; have H2 : Hid (Hold _ _ _ _) := H1.out.below ((firm_rdr _ _ _).star hR) hb2; have c0 : w2.cell? _ = some (Value.int .u32 a) := ho.cellAt 0 (by decide); have c1 : w2.cell? _ = some (Value.int .u32 b) := ho.cellAt 1 (by decide); clear ho hb2 H1)
      | (go_at_call 51; refine (hj _).mono ?_; rintro x w3 ⟨rfl, hb3⟩; have H3 : Hid (Hold _ _ _ _) := H2.out.below ((firm_rdr _ _ _).star hR) hb3; clear H2 hb3))
    go_ret
    exact ⟨rfl, H3.out⟩
  · have hv : nmV L e = 0 := if_neg (fun h => hc ⟨h.1, by omega⟩)
    have hT : tkT L e 8 = ⟨#[]⟩ := if_neg (fun h => hc ⟨h.1, by omega⟩)
    rw [hv]
    rw [hT] at ht
    clear h hv hT hc hL
    go_enter Tryd.func39, Tryd.ntmps39
    go_wp2_with (go_at_call 49; refine ht.mono ?_; rintro x w1 ⟨rfl, h1⟩; clear ht; have H1 : Hid (Hold _ _ _ _) := h1; clear h1)
    go_ret
    exact ⟨rfl, H1.out⟩
set_option maxRecDepth 20000 in
theorem cbelow_nil (b : Int) (hb : -9223372036854775808 ≤ b ∧ b ≤ 9223372036854775807) (w : World) : Calls Tryd.prog 31 #[.pointer none, .int .i64 b] w fun x w' => x = .returned (.int .i64 0) ∧ w' = w := by
  obtain ⟨hb0, hb1⟩ := hb
  by_cases h1 : b < 1
  · go_enter Tryd.func31, Tryd.ntmps31
    go_wp2_with (first
      | (go_at_call 39; refine (cnum_nil _).mono ?_; rintro x w1 ⟨rfl, hw⟩; rw [hw]; clear hw w1)
      | (go_at_call 40; refine (cmeet_nil _ _).mono ?_; rintro x w1 ⟨rfl, hw⟩; rw [hw]; clear hw w1))
    go_ret
    exact ⟨rfl, rfl⟩
  · have h2 : ¬ b ≤ 0 := by omega
    have e0 : b % 18446744073709551616 = b := by omega
    go_enter Tryd.func31, Tryd.ntmps31
    go_wp2_with (go_at_call 39; refine (cnum_nil _).mono ?_; rintro x w1 ⟨rfl, hw⟩; rw [hw]; clear hw w1)
    go_ret
    exact ⟨rfl, rfl⟩
set_option maxRecDepth 20000 in
theorem cbelow_any (hR : Firm R) (h : Hold B w0 w (star (rdr g L e) R)) (hL : L.size ≤ 140737488355328) (b : Int) (hb : -9223372036854775808 ≤ b ∧ b ≤ 9223372036854775807) : Calls Tryd.prog 31 #[.pointer (some ⟨g, 0, none⟩), .int .i64 b] w fun x w' => x = .returned (.int .i64 (cblV L e b)) ∧ Hold B w0 w' (star (rdr g (nmL L e) (blE L e b)) R) := by
  obtain ⟨hb0, hb1⟩ := hb
  have hn := cnum_any hR h hL
  have hm : Hid (∀ w1, Hold B w0 w1 (star (rdr g (nmL L e) (nmE L e)) R) → Calls Tryd.prog 40 #[.pointer (some ⟨g, 0, none⟩), .int .i64 4] w1 fun x w' => x = .returned (.tuple #[]) ∧ Hold B w0 w' (star (rdr g (nmL L e) (if nmE L e = 0 then 4 else nmE L e)) R)) := fun w1 h1 => cmeet_any hR h1 4
  obtain ⟨n0, n1⟩ := nmV_range L e
  unfold cblV blE
  generalize nmV L e = n at *
  generalize nmE L e = E at *
  generalize nmL L e = L1 at *
  clear h hL
  by_cases h1 : b < 1
  · rw [if_neg (by omega), show (if (1 ≤ b ∧ n < b) ∨ E ≠ 0 then E else (4 : Int)) = (if E = 0 then 4 else E) by split <;> split <;> omega]
    generalize (if E = 0 then 4 else E) = F at *
    go_enter Tryd.func31, Tryd.ntmps31
    go_wp2_with (first
      | (go_at_call 39; refine hn.mono ?_; rintro x w1 ⟨rfl, h1'⟩; clear hn; have H1 : Hid (Hold _ _ _ _) := h1'; clear h1')
      | (go_at_call 40; refine (hm.out _ H1.out).mono ?_; rintro x w2 ⟨rfl, h2'⟩; clear H1 hm; have H2 : Hid (Hold _ _ _ _) := h2'; clear h2'))
    go_ret
    exact ⟨rfl, H2.out⟩
  · have e0 : b % 18446744073709551616 = b := by omega
    by_cases h2 : n < b
    · have h3 : ¬ b ≤ n := by omega
      have h4 : n ≤ 9223372036854775807 := by omega
      rw [if_pos ⟨by omega, h2⟩, if_pos (.inl ⟨by omega, h2⟩)]
      go_enter Tryd.func31, Tryd.ntmps31
      go_wp2_with (go_at_call 39; refine hn.mono ?_; rintro x w1 ⟨rfl, h1'⟩; clear hn; have H1 : Hid (Hold _ _ _ _) := h1'; clear h1')
      go_ret
      exact ⟨rfl, H1.out⟩
    · have h3 : b ≤ n := by omega
      rw [if_neg (by omega), show (if (1 ≤ b ∧ n < b) ∨ E ≠ 0 then E else (4 : Int)) = (if E = 0 then 4 else E) by split <;> split <;> omega]
      generalize (if E = 0 then 4 else E) = F at *
      go_enter Tryd.func31, Tryd.ntmps31
      go_wp2_with (first
        | (go_at_call 39; refine hn.mono ?_; rintro x w1 ⟨rfl, h1'⟩; clear hn; have H1 : Hid (Hold _ _ _ _) := h1'; clear h1')
        | (go_at_call 40; refine (hm.out _ H1.out).mono ?_; rintro x w2 ⟨rfl, h2'⟩; clear H1 hm; have H2 : Hid (Hold _ _ _ _) := h2'; clear h2'))
      go_ret
      exact ⟨rfl, H2.out⟩
set_option maxRecDepth 20000 in
theorem ctext_nil (w : World) : Calls Tryd.prog 48 #[.pointer none] w fun x w' => x = .returned (.string noB) ∧ w' = w := by
  go_enter Tryd.func48, Tryd.ntmps48
  go_wp2_with (first
    | (go_at_call 39; refine (cnum_nil _).mono ?_; rintro x w1 ⟨rfl, hw⟩; rw [hw]; clear hw w1)
    | (go_at_call 49; refine (ctake_nil 0 (by decide) _).mono ?_; rintro x w1 ⟨rfl, hw⟩; rw [hw]; clear hw w1))
  go_ret
  exact ⟨rfl, rfl⟩
set_option maxRecDepth 20000 in
theorem ctext_any (hR : Firm R) (h : Hold B w0 w (star (rdr g L e) R)) (hL : L.size ≤ 140737488355328) : Calls Tryd.prog 48 #[.pointer (some ⟨g, 0, none⟩)] w fun x w' => x = .returned (.string (txV L e)) ∧ Hold B w0 w' (star (rdr g (txL L e) (txE L e)) R) := by
  have hn := cnum_any hR h hL
  have ht : Hid (∀ w1, Hold B w0 w1 (star (rdr g (nmL L e) (nmE L e)) R) → Calls Tryd.prog 49 #[.pointer (some ⟨g, 0, none⟩), .int .u64 (nmV L e)] w1 fun x w' => x = .returned (.string (txV L e)) ∧ Hold B w0 w' (star (rdr g (txL L e) (txE L e)) R)) := fun w1 h1 => ctake_any hR h1 (Nat.le_trans (nmL_size L e) hL) (nmV L e) (nmV_range L e).1 (nmV_range L e).2
  generalize nmV L e = n at *
  clear h hL
  go_enter Tryd.func48, Tryd.ntmps48
  go_wp2_with (first
    | (go_at_call 39; refine hn.mono ?_; rintro x w1 ⟨rfl, h1'⟩; clear hn; have H1 : Hid (Hold _ _ _ _) := h1'; clear h1')
    | (go_at_call 49; refine (ht.out _ H1.out).mono ?_; rintro x w2 ⟨rfl, h2'⟩; clear H1 ht; have H2 : Hid (Hold _ _ _ _) := h2'; clear h2'))
  go_ret
  exact ⟨rfl, H2.out⟩
set_option maxRecDepth 20000 in
theorem cdone_nil (w : World) : Calls Tryd.prog 32 #[.pointer none] w fun x w' => x = .returned (.int .i64 1) ∧ w' = w := by
  go_enter Tryd.func32, Tryd.ntmps32
  go_wp2
  go_ret
  exact ⟨rfl, rfl⟩
set_option maxRecDepth 20000 in
theorem cdone_any (h : Hold B w0 w (star (rdr g L e) R)) : Calls Tryd.prog 32 #[.pointer (some ⟨g, 0, none⟩)] w fun x w' => x = .returned (.int .i64 (dnE L e)) ∧ w' = w := by
  have c0 := h.blk.cell (i := 0) rfl
  have c1 := h.blk.cell (i := 1) rfl
  clear h
  unfold dnE
  by_cases he : e = 0
  · subst he
    rw [if_pos rfl]
    by_cases hs : L.size = 0
    · have hl : L.toList.isEmpty = true := by rw [empty_is]; exact decide_eq_true hs
      rw [if_pos hs]
      clear hs
      go_enter Tryd.func32, Tryd.ntmps32
      go_wp2
      go_ret
      exact ⟨rfl, rfl⟩
    · have hl : L.toList.isEmpty = false := by rw [empty_is]; exact decide_eq_false hs
      rw [if_neg hs]
      clear hs
      go_enter Tryd.func32, Tryd.ntmps32
      go_wp2
      go_ret
      exact ⟨rfl, rfl⟩
  · rw [if_neg he]
    have he' : (e != 0) = true := by simpa using he
    go_enter Tryd.func32, Tryd.ntmps32
    go_wp2
    go_ret
    exact ⟨rfl, rfl⟩
end
end Go.Proofs.YtegebaomhbogmaaDoor
