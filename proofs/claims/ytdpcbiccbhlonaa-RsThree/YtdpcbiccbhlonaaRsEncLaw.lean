/- The parity chunks of every data chunks: the law's walk. -/
import Derived.Test.YtdpcbiccbhlonaaRsCut
import Derived.Test.YtdpcbiccbhlonaaRsChk
namespace Go.Proofs.Ytdpcbiccbhlonaa
open Go.RowKit Go.PlainAid
set_option linter.unusedVariables false

theorem CutTo.txt {w : World} {base : Nat} {v : Value} {k N : Nat} {ev : Bool} {f : Nat → ByteArray} (h : CutTo w base v k N ev f) (hN : N ≤ 1000) : ∃ a c, v = .slice a k c ∧ k ≤ c ∧ c ≤ 9223372036854775807 ∧ TxtAt w a k (fun i => (f i).size) (fun i => teE (f i)) :=
  txt_of_strs h.1 (fun i hi => by have := h.2.1 i hi; omega)

set_option maxHeartbeats 1000000 in
theorem encodesLaw_arg (l : Option Addr) (len cap : Nat) (ev : Bool) (w : World) (hL : StrsArg w l len cap) :
    Calls Try.prog 3 #[.slice l len cap, .bool ev] w fun e w' => e = .returned (.bool true) ∧ Below w.heap.size w w' := by
  have hcut := cut_any l len cap 200 ev w hL (by decide)
  clear hL
  go_enter Try.func3, Try.ntmps3
  go_wp2_with fail
  go_at_call 9
  refine hcut.mono ?_
  rintro e w1 ⟨hb1, v, f, rfl, hC⟩
  obtain ⟨a, c, rfl, hc1, hc2, hT⟩ := hC.txt (by decide)
  have k12 : min len 12 ≤ 12 := by omega
  generalize min len 12 = k at hc1 hT hC k12 ⊢
  have henc := encode_any a k c _ _ w1 hc1 hc2 hT
  have href := fun x (hx : Below w1.heap.size w1 x) => refEncode_any a k c _ _ x (by unfold maxLen; omega) (hT.below hx)
  generalize encS k (fun i => (f i).size) (fun i => teE (f i)) 0 = p at henc href
  generalize encS k (fun i => (f i).size) (fun i => teE (f i)) 1 = q at henc href
  generalize encE k (fun i => (f i).size) = er at henc href
  clear hcut hC hT
  go_wp2_with fail
  go_at_call 10
  refine henc.mono ?_
  rintro e w2 ⟨hb2, rfl⟩
  have hb02 := hb1.trans (hb2.mono hb1.size)
  have href2 := href w2 hb2
  clear href henc
  go_wp2_with fail
  go_at_call 11
  refine href2.mono ?_
  rintro e w3 ⟨hb3, rfl⟩
  have hb03 := hb02.trans (hb3.mono hb02.size)
  clear href2
  go_wp2_with fail
  go_at_call 12
  refine (wakes_any _).mono ?_
  rintro e w4 ⟨rfl, hb4⟩
  have hb04 := hb03.trans (hb4.mono hb03.size)
  go_wp2_with fail
  go_ret
  exact ⟨by simp, hb04⟩
end Go.Proofs.Ytdpcbiccbhlonaa
