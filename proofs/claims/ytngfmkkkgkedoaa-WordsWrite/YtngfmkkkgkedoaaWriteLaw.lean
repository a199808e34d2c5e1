/- What the Go function WordsWrite answers: true, for every list of words. -/
import Derived.Test.YtngfmkkkgkedoaaText
namespace Go.Proofs.Ytngfmkkkgkedoaa
open Go.RowKit Go.PlainAid
set_option linter.unusedVariables false

set_option maxHeartbeats 400000 in
theorem writeLaw_walk (a0 : Option Addr) (len0 cap0 : Nat) (z0 : List Int) (w : World) (w0 : IsRow .u32 w a0 len0 cap0 z0) :
    Calls Try.prog 5 #[.slice a0 len0 cap0] w fun e w' => e = .returned (.bool true) ∧ Below w.heap.size w w' := by
  obtain ⟨n, hn, m0, m0'⟩ := read_cut len0 1000 (by decide)
  obtain ⟨hat, hf⟩ := At_row w0 n m0
  obtain ⟨hlc, hcm⟩ := row_bounds w0
  have hf0 : Hid (∀ i, i < n → 0 ≤ z0.getD i 0 ∧ z0.getD i 0 < 4294967296) := hf
  have hn6 : n ≤ 1000000 := by omega
  clear hf w0
  go_enter Try.func5, Try.ntmps5
  go_wp2_with fail
  go_at_call 9
  refine (wakes_any _).mono ?_
  rintro e x1 ⟨rfl, b1⟩
  have k1 := At_below hat b1
  go_wp2_with fail
  go_at_call 18
  refine (fromLittle_any _ _ _ _ _ hn6 k1 hf0.out).mono ?_
  rintro e x2 ⟨rfl, b2⟩
  have B2 := b1.trans (b2.mono b1.size)
  have k2 := At_below hat B2
  go_wp2_with fail
  go_at_call 19
  refine (refText_little _ _ _ _ _ hn6 k2 hf0.out).mono ?_
  rintro e x3 ⟨rfl, b3⟩
  have B3 := B2.trans (b3.mono B2.size)
  have k3 := At_below hat B3
  go_wp2_with fail
  go_at_call 20
  refine (fromBig_any _ _ _ _ _ hn6 k3 hf0.out).mono ?_
  rintro e x4 ⟨rfl, b4⟩
  have B4 := B3.trans (b4.mono B3.size)
  have k4 := At_below hat B4
  go_wp2_with fail
  go_at_call 19
  refine (refText_big _ _ _ _ _ hn6 k4 hf0.out).mono ?_
  rintro e x5 ⟨rfl, b5⟩
  have B5 := B4.trans (b5.mono B4.size)
  go_wp2_with fail
  go_ret
  exact ⟨rfl, B5⟩
end Go.Proofs.Ytngfmkkkgkedoaa
