/- What is read of a number's bytes, by the program. -/
import Derived.Test.YtikhhijbabllfaaNoLow
namespace Go.Proofs.Ytikhhijbabllfaa
open Go.RowKit Go.PlainAid
set_option linter.unusedVariables false
set_option maxRecDepth 20000

theorem arr1 (G : Nat) (w : World) : (Instr.arrayAt 72 (.slice (some ⟨G, 0, none⟩) 1 1)).run Try.prog w = .ok (.pointer (some ⟨G, 0, none⟩)) w := run_arrayAt w 72 47 1 _ 1 1 Try.underlying72 (Nat.le_refl _)
theorem nnumber_any (T : ByteArray) (hT : T.size = 4) (w : World) : Calls Try.prog 21 #[.string T] w fun x w' => x = .returned (.int .u64 (rd4 T 0)) ∧ Below w.heap.size w w' := by
  have hbig := fun w => big_even T w (by omega) (by omega)
  rw [show T.size / 4 = 1 by omega, show (List.range 1).map (fun i => Value.int .u32 (wordsL be4 T i)) = [.int .u32 (wordsL be4 T 0)] from rfl, rd4_words T] at hbig
  have ha := arr1
  obtain ⟨r0, r1⟩ := rd4_range T 0
  generalize rd4 T 0 = a at *
  have hB : Hid (∀ w : World, Calls Try.prog 27 _ w _) := hbig
  clear hbig hT
  go_enter Try.func21, Try.ntmps21
  go_wp2_with (go_at_call 27; refine (hB.out _).mono ?_; rintro x w2 ⟨rfl, ho, hb2⟩; have c0 : w2.cell? _ = some (Value.int .u32 a) := ho.cellAt 0 (by decide); have H2 : Hid (Below _ _ _) := hb2; clear ho hb2 hB)
  go_ret
  exact ⟨rfl, H2.out.alloc H2.out.size _⟩
theorem nread_any (s : ByteArray) (hs : s.size ≤ maxLen) (w : World) : Calls Try.prog 13 #[.string s] w fun x w' => x = .returned (.tuple #[.int .u64 (nrP s), .int .u64 (nrQ s), .int .i64 (nrE s)]) ∧ Below w.heap.size w w' := by
  by_cases h12 : s.size = 12
  · have hnew := cnew_any firm_nought (hold_nought w.heap.size w w (Nat.le_refl _) (Below.refl _ _)) (s.extract 0 8)
    have h8 : (s.extract 0 8).size = 8 := by rw [ByteArray.size_extract]; omega
    have h4 : (s.extract 8 12).size = 4 := by rw [ByteArray.size_extract]; omega
    have hv : nmV (s.extract 0 8) 0 = rd8 s 0 := by
      rw [nmV_ok (by omega)]
      exact rd8_congr fun i hi => bt_take s 8 (0 + i) (by omega) (by omega)
    have hq : rd4 (s.extract 8 12) 0 = rd4 s 8 := rd4_congr fun i hi => by
      rw [Nat.zero_add]; exact bt_cut s 8 12 i (by omega) (by omega)
    have hnum := nnumber_any (s.extract 8 12) h4
    rw [hq] at hnum
    obtain ⟨r0, r1⟩ := rd8_range s 0
    have hm := nmay_any (rd8 s 0) r0 r1
    have h8' : Hid ((s.extract 0 8).size ≤ 140737488355328) := (by omega : (s.extract 0 8).size ≤ 140737488355328)
    have hV : Hid (nmV (s.extract 0 8) 0 = rd8 s 0) := hv
    have hz : (s.size : Int) = 12 := by omega
    have hi := h12
    cases hc : mayE (rd8 s 0) with
    | true =>
      have he := nrE_ok h12 hc
      obtain ⟨e1, e2⟩ := nr_good he
      rw [he, e1, e2]
      rw [hc] at hm
      clear he e1 e2 hc h8 h4 hv hq
      generalize hT : s.extract 0 8 = T at *
      generalize hU : s.extract 8 12 = U at *
      generalize rd8 s 0 = a at *
      generalize rd4 s 8 = b at *
      go_enter Try.func13, Try.ntmps13
      go_wp2_with (first
        | (go_at_call 19; refine hnew.mono ?_; rintro x w1 ⟨g, rfl, h1⟩; clear hnew; have H1 : Hid (Hold _ _ _ _) := h1; clear h1)
        | (go_at_call 20; refine (cnum_any firm_nought H1.out h8'.out).mono ?_; rw [hV.out]; rintro x w2 ⟨rfl, h2⟩; have H2 : Hid (Hold _ _ _ _) := h2; clear H1 h2)
        | (go_at_call 15; refine (hm _).mono ?_; rintro x w3 ⟨rfl, hw⟩; rw [hw]; clear hw w3)
        | (go_at_call 21; refine (hnum _).mono ?_; rintro x w4 ⟨rfl, hb4⟩; have H4 : Hid (Below w.heap.size w w4) := H2.out.low.trans (hb4.mono H2.out.size); clear H2 hb4))
      go_ret3
      exact ⟨rfl, H4.out⟩
    | false =>
      have he := nrE_arg h12 hc
      obtain ⟨e1, e2⟩ := nr_bad (s := s) (by rw [he]; decide)
      rw [he, e1, e2]
      rw [hc] at hm
      clear he e1 e2 hc h8 h4 hv hq hnum
      generalize hT : s.extract 0 8 = T at *
      generalize rd8 s 0 = a at *
      go_enter Try.func13, Try.ntmps13
      go_wp2_with (first
        | (go_at_call 19; refine hnew.mono ?_; rintro x w1 ⟨g, rfl, h1⟩; clear hnew; have H1 : Hid (Hold _ _ _ _) := h1; clear h1)
        | (go_at_call 20; refine (cnum_any firm_nought H1.out h8'.out).mono ?_; rw [hV.out]; rintro x w2 ⟨rfl, h2⟩; have H2 : Hid (Hold _ _ _ _) := h2; clear H1 h2)
        | (go_at_call 15; refine (hm _).mono ?_; rintro x w3 ⟨rfl, hw⟩; rw [hw]; clear hw w3))
      go_ret3
      exact ⟨rfl, H2.out.low⟩
  · have he := nrE_shape h12
    obtain ⟨e1, e2⟩ := nr_bad (s := s) (by rw [he]; decide)
    rw [he, e1, e2]
    have hz : ((s.size : Int) == 12) = false := by simpa using (by omega : ¬ (s.size : Int) = 12)
    clear he e1 e2 hs
    go_enter Try.func13, Try.ntmps13
    go_wp2
    go_ret3
    exact ⟨rfl, Below.refl _ _⟩
end Go.Proofs.Ytikhhijbabllfaa
