/- The program's reader: Num, Below, Text, Done. -/
import Derived.Test.YtikhhijbabllfaaCdRead
import Derived.Laws.Cover3
namespace Go.Proofs.Ytikhhijbabllfaa
open Go.RowKit Go.PlainAid
set_option linter.unusedVariables false

set_option maxRecDepth 20000 in
theorem empty_is (q : ByteArray) : q.toList.isEmpty = decide (q.size = 0) := by
  rw [ByteArray.toList_eq]
  have h : q.data.toList.length = q.size := by simp
  cases hq : q.data.toList with
  | nil => rw [hq] at h; simp at h; simp [← h]
  | cons x r => rw [hq] at h; simp at h; simp [← h]
set_option maxRecDepth 20000 in
theorem noB_ne {T : ByteArray} (h : T.size ≠ 0) : T.toList.isEmpty = false := by rw [empty_is]; exact decide_eq_false h
set_option maxRecDepth 20000 in
theorem arr2 (G : Nat) (w : World) : (Instr.arrayAt 71 (.slice (some ⟨G, 0, none⟩) 2 2)).run Try.prog w = .ok (.pointer (some ⟨G, 0, none⟩)) w := run_arrayAt w 71 47 2 _ 2 2 Try.underlying71 (Nat.le_refl _)
section
variable {B : Nat} {w0 w : World} {g : Nat} {L : ByteArray} {e : Int} {R : Asn}
set_option maxRecDepth 20000 in
theorem cnum_nil (w : World) : Calls Try.prog 20 #[.pointer none] w fun x w' => x = .returned (.int .u64 0) ∧ w' = w := by
  have e0 : noB = ⟨#[]⟩ := rfl
  have ht := ctake_nil 8 (by decide) w
  rw [e0] at ht
  clear e0
  go_enter Try.func20, Try.ntmps20
  go_wp2_with (go_at_call 26; refine ht.mono ?_; rintro x w1 ⟨rfl, hw⟩; rw [hw]; clear hw w1 ht)
  go_ret
  exact ⟨rfl, rfl⟩
set_option maxRecDepth 20000 in
theorem cnum_any (hR : Firm R) (h : Hold B w0 w (star (rdr g L e) R)) (hL : L.size ≤ 140737488355328) : Calls Try.prog 20 #[.pointer (some ⟨g, 0, none⟩)] w fun x w' => x = .returned (.int .u64 (nmV L e)) ∧ Hold B w0 w' (star (rdr g (nmL L e) (nmE L e)) R) := by
  have ht := ctake_any hR h hL 8 (by decide) (by decide)
  rw [show tkL L e 8 = nmL L e from rfl, show tkE L e 8 = nmE L e from rfl] at ht
  by_cases hc : e = 0 ∧ 8 ≤ L.size
  · obtain ⟨rfl, h8⟩ := hc
    have hT : tkT L 0 8 = L.extract 0 8 := tkT_ok (by omega)
    have hz : (L.extract 0 8).size = 8 := by rw [ByteArray.size_extract]; omega
    have hv : nmV L 0 = wordsL be4 (L.extract 0 8) 0 * 4294967296 + wordsL be4 (L.extract 0 8) 1 := by
      rw [nmV_ok h8, ← rd8_words]
      exact (rd8_congr fun i hi => bt_take L 8 (0 + i) (by omega) (by omega)).symm
    rw [hv]
    rw [hT] at ht
    generalize L.extract 0 8 = T at *
    have h0 := noB_ne (T := T) (by omega)
    have ha := arr2
    have hw0 := words_range T 0
    have hw1 := words_range T 1
    have hbig := fun w => big_even T w (by omega) (by omega)
    rw [show T.size / 4 = 2 by omega, show (List.range 2).map (fun i => Value.int .u32 (wordsL be4 T i)) = [.int .u32 (wordsL be4 T 0), .int .u32 (wordsL be4 T 1)] from rfl] at hbig
    have hj := cjoined_any (wordsL be4 T 0) (wordsL be4 T 1) hw0 hw1
    generalize wordsL be4 T 0 = a at *
    generalize wordsL be4 T 1 = b at *
    have hB : Hid (∀ w : World, Calls Try.prog 27 _ w _) := hbig
    clear h hv hT hz hbig hL h8 hw0 hw1
    go_enter Try.func20, Try.ntmps20
    go_wp2_with (first
      | (go_at_call 26; refine ht.mono ?_; rintro x w1 ⟨rfl, h1⟩; clear ht; have H1 : Hid (Hold _ _ _ _) := h1; clear h1)
      | (go_at_call 27; refine (hB.out _).mono ?_; rintro x w2 ⟨rfl, ho, hb2⟩; have H2 : Hid (Hold _ _ _ _) := H1.out.below ((firm_rdr _ _ _).star hR) hb2; have c0 : w2.cell? _ = some (Value.int .u32 a) := ho.cellAt 0 (by decide); have c1 : w2.cell? _ = some (Value.int .u32 b) := ho.cellAt 1 (by decide); clear ho hb2 H1)
      | (go_at_call 28; refine (hj _).mono ?_; rintro x w3 ⟨rfl, hb3⟩; have H3 : Hid (Hold _ _ _ _) := H2.out.below ((firm_rdr _ _ _).star hR) hb3; clear H2 hb3))
    go_ret
    exact ⟨rfl, H3.out⟩
  · have hv : nmV L e = 0 := if_neg (fun h => hc ⟨h.1, by omega⟩)
    have hT : tkT L e 8 = ⟨#[]⟩ := if_neg (fun h => hc ⟨h.1, by omega⟩)
    rw [hv]
    rw [hT] at ht
    clear h hv hT hc hL
    go_enter Try.func20, Try.ntmps20
    go_wp2_with (go_at_call 26; refine ht.mono ?_; rintro x w1 ⟨rfl, h1⟩; clear ht; have H1 : Hid (Hold _ _ _ _) := h1; clear h1)
    go_ret
    exact ⟨rfl, H1.out⟩
end
end Go.Proofs.Ytikhhijbabllfaa
