/- The program's own small calls: why a write may not be logged, how many cells a log has, which write a cell is. -/
import Derived.Test.YtegebaomhbogmaaDoorInRows
import Derived.Test.YtegebaomhbogmaaDoorCdRead2
namespace Go.Proofs.YtegebaomhbogmaaDoor
open Go.RowKit Go.PlainAid
set_option linter.unusedVariables false
set_option maxRecDepth 20000

theorem ifault_any (a : Int) (c : ByteArray) (w : World) : Calls Tryd.prog 20 #[.agg #[.int .i64 a, .string c]] w fun e w' => e = .returned (.int .i64 (wrE a c)) ∧ Below w.heap.size w w' := by
  have hB : Hid (Below _ _ _) := (Below.refl w.heap.size w).alloc (Nat.le_refl _) (.cells #[.int .i64 a, .string c] 49)
  by_cases h1 : a < 100
  · rw [wrE_arg (.inl h1)]
    go_enter Tryd.func20, Tryd.ntmps20
    go_wp2
    go_ret
    exact ⟨rfl, hB.out⟩
  · by_cases h2 : 140 ≤ a
    · rw [wrE_arg (.inr h2)]
      go_enter Tryd.func20, Tryd.ntmps20
      go_wp2
      go_ret
      exact ⟨rfl, hB.out⟩
    · by_cases h3 : 2032 < c.size
      · rw [wrE_long (by omega) (by omega) h3]
        have h3' : (2032 : Int) < (c.size : Int) := by omega
        clear h3
        go_enter Tryd.func20, Tryd.ntmps20
        go_wp2
        go_ret
        exact ⟨rfl, hB.out⟩
      · rw [wrE_zero.2 ⟨by omega, by omega, by omega⟩]
        have h3' : ¬ (2032 : Int) < (c.size : Int) := by omega
        clear h3
        go_enter Tryd.func20, Tryd.ntmps20
        go_wp2
        go_ret
        exact ⟨rfl, hB.out⟩
theorem isize_any (s : ByteArray) (hs : s.size ≤ 140737488355328) (w : World) : Calls Tryd.prog 17 #[.string s] w fun e w' => e = .returned (.tuple #[.int .i64 (szV s : Int), .int .i64 (szE s)]) ∧ Below w.heap.size w w' := by
  have hn := cnew_any firm_nought (hold_nought w.heap.size w w (Nat.le_refl _) (Below.refl _ _)) s
  have hb : Hid (∀ z g, Hold w.heap.size w z (star (rdr g s 0) nought) → Calls Tryd.prog 31 #[.pointer (some ⟨g, 0, none⟩), .int .i64 96] z fun x w' => x = .returned (.int .i64 (cblV s 0 96)) ∧ Hold w.heap.size w w' (star (rdr g (nmL s 0) (blE s 0 96)) nought)) := fun z g h => cbelow_any firm_nought h hs 96 (by decide)
  have hd : Hid (∀ z g, Hold w.heap.size w z (star (rdr g (nmL s 0) (blE s 0 96)) nought) → Calls Tryd.prog 32 #[.pointer (some ⟨g, 0, none⟩)] z fun x w' => x = .returned (.int .i64 (dnE (nmL s 0) (blE s 0 96))) ∧ w' = z) := fun z g h => cdone_any h
  cases hi : isN s
  · have hx := isN_no hi
    have hx' : (dnE (nmL s 0) (blE s 0 96) != 0) = true := by simpa using hx
    generalize dnE (nmL s 0) (blE s 0 96) = D at *
    generalize cblV s 0 96 = V at *
    generalize blE s 0 96 = E at *
    generalize nmL s 0 = L at *
    have HV : Hid ((szV s : Int) = 0 ∧ szE s = 4) := by unfold szV szE; rw [hi]; exact ⟨rfl, rfl⟩
    generalize szV s = VS at *
    generalize szE s = ZS at *
    clear hx hi
    go_enter Tryd.func17, Tryd.ntmps17
    go_wp2_with (first
      | (go_at_call 30; refine hn.mono ?_; rintro x w1 ⟨g, rfl, h1⟩; have H1 : Hid (Hold w.heap.size w w1 (star (rdr g s 0) nought)) := h1; clear h1 hn)
      | (go_at_call 31; refine (hb.out _ _ H1.out).mono ?_; rintro x w2 ⟨rfl, h2⟩; have H2 : Hid (Hold w.heap.size w w2 (star (rdr g L E) nought)) := h2; clear h2 hb H1)
      | (go_at_call 32; refine (hd.out _ _ H2.out).mono ?_; rintro x w3 ⟨rfl, hw⟩; rw [hw]; clear hw w3 hd))
    go_ret2
    exact ⟨by rw [HV.out.1, HV.out.2]; rfl, H2.out.low⟩
  · obtain ⟨e1, e2, e3⟩ := isN_yes hi
    obtain ⟨n, hn96, -, hv⟩ := isN_num hi
    rw [e1] at hb hd
    rw [e2] at hd
    rw [e3, hv] at hb
    have HV : Hid ((szV s : Int) = (n : Int) + 1 ∧ szE s = 0) := by unfold szV szE; rw [hi, hv]; exact ⟨by rw [if_pos rfl]; omega, rfl⟩
    generalize szV s = VS at *
    generalize szE s = ZS at *
    generalize nmL s 0 = L at *
    clear hi e1 e2 e3 hv
    go_enter Tryd.func17, Tryd.ntmps17
    go_wp2_with (first
      | (go_at_call 30; refine hn.mono ?_; rintro x w1 ⟨g, rfl, h1⟩; have H1 : Hid (Hold w.heap.size w w1 (star (rdr g s 0) nought)) := h1; clear h1 hn)
      | (go_at_call 31; refine (hb.out _ _ H1.out).mono ?_; rintro x w2 ⟨rfl, h2⟩; have H2 : Hid (Hold w.heap.size w w2 (star (rdr g L 0) nought)) := h2; clear h2 hb H1)
      | (go_at_call 32; refine (hd.out _ _ H2.out).mono ?_; rintro x w3 ⟨rfl, hw⟩; rw [hw]; clear hw w3 hd))
    go_ret2
    exact ⟨by rw [HV.out.1, HV.out.2]; rfl, H2.out.low⟩
end Go.Proofs.YtegebaomhbogmaaDoor
