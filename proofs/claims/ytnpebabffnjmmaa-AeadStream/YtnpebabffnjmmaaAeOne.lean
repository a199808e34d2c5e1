/- The block of the counter 1 under a key and a nonce of noughts, reckoned by the kernel, and two tags that differ. -/
import Derived.Test.YtnpebabffnjmmaaAeTagB
import Derived.Test.YtnpebabffnjmmaaChZero
namespace Go.Proofs.Ytnpebabffnjmmaa
open Go.RowKit Go.PlainAid
set_option linter.unusedVariables false

set_option maxRecDepth 20000 in
theorem one_state : (List.range 16).map (stI z32 z12 1) = [1634760805, 857760878, 2036477234, 1797285236, 0, 0, 0, 0, 0, 0, 0, 0, 1, 0, 0, 0] := by decide +kernel
set_option maxRecDepth 20000 in
theorem one_rounds : drN 10 1634760805 857760878 2036477234 1797285236 0 0 0 0 0 0 0 0 1 0 0 0 = [1568051002, 1192750311, 53841254, 2716321791, 2687045579, 1768285000, 1045677586, 3984256562, 1981921065, 1129244316, 2956161493, 3577337972, 673180976, 1174080081, 520806828, 1867348299] := by decide +kernel
def oout (i : Nat) : Int := ([3202811807, 2050511189, 2090318488, 218639731, 2687045579, 1768285000, 1045677586, 3984256562, 1981921065, 1129244316, 2956161493, 3577337972, 673180977, 1174080081, 520806828, 1867348299] : List Int).getD i 0
def o64 : ByteArray := ⟨#[159, 7, 231, 190, 85, 81, 56, 122, 152, 186, 151, 124, 115, 45, 8, 13, 203, 15, 41, 160, 72, 227, 101, 105, 18, 198, 83, 62, 50, 238, 122, 237, 41, 183, 33, 118, 156, 230, 78, 67, 213, 113, 51, 176, 116, 216, 57, 213, 49, 237, 31, 40, 81, 10, 251, 69, 172, 225, 10, 31, 75, 121, 77, 111]⟩
set_option maxRecDepth 20000 in
theorem one_text : strOfNums (joinF four oout 16) = o64 := by decide +kernel
set_option maxRecDepth 20000 in
theorem one_match : Mt (stI z32 z12 1) [1634760805, 857760878, 2036477234, 1797285236, 0, 0, 0, 0, 0, 0, 0, 0, 1, 0, 0, 0] := by
  intro i hi
  have h := congrArg (fun l : List Int => l[i]?) one_state
  simp only [List.getElem?_map, List.getElem?_range hi, Option.map_some] at h
  have e : i = 0 ∨ i = 1 ∨ i = 2 ∨ i = 3 ∨ i = 4 ∨ i = 5 ∨ i = 6 ∨ i = 7 ∨ i = 8 ∨ i = 9 ∨ i = 10 ∨ i = 11 ∨ i = 12 ∨ i = 13 ∨ i = 14 ∨ i = 15 := by omega
  rcases e with rfl | rfl | rfl | rfl | rfl | rfl | rfl | rfl | rfl | rfl | rfl | rfl | rfl | rfl | rfl | rfl <;> exact ⟨by decide, Option.some.inj h⟩
set_option maxRecDepth 20000 in
theorem one_block : blkB (stI z32 z12 1) = o64 := by
  unfold blkB
  rw [← one_text, joinF_congr four (out (stI z32 z12 1)) oout 16 ?_]
  intro i hi
  have h1 := drN_ok 10 1634760805 857760878 2036477234 1797285236 0 0 0 0 0 0 0 0 1 0 0 0 _ one_match
  rw [one_rounds, show 2 * 10 = 20 from rfl] at h1
  have h2 := (h1 i hi).2
  have h3 := (one_match i hi).2
  unfold out
  rw [h2, h3]
  have e : i = 0 ∨ i = 1 ∨ i = 2 ∨ i = 3 ∨ i = 4 ∨ i = 5 ∨ i = 6 ∨ i = 7 ∨ i = 8 ∨ i = 9 ∨ i = 10 ∨ i = 11 ∨ i = 12 ∨ i = 13 ∨ i = 14 ∨ i = 15 := by omega
  rcases e with rfl | rfl | rfl | rfl | rfl | rfl | rfl | rfl | rfl | rfl | rfl | rfl | rfl | rfl | rfl | rfl <;> decide
def pl5 : ByteArray := ⟨#[112, 108, 97, 105, 110]⟩
def ct5 : ByteArray := ⟨#[239, 107, 134, 215, 59]⟩
set_option maxRecDepth 20000 in
theorem one_crypt : crB z32 z12 pl5 = ct5 := by
  apply bt_ext
  · rw [crB_size]; rfl
  · intro i hi
    rw [crB_size] at hi
    unfold crB
    rw [bt_cryB _ (ks_range z32 z12 1) _ i hi]
    have hi2 : i < 5 := hi
    have hks : ks z32 z12 1 i = bt o64 i := by
      unfold ks
      rw [show i / 64 = 0 by omega, show i % 64 = i by omega, ← one_block]
      rfl
    rw [hks]
    have e : i = 0 ∨ i = 1 ∨ i = 2 ∨ i = 3 ∨ i = 4 := by omega
    rcases e with rfl | rfl | rfl | rfl | rfl <;> decide +kernel
set_option maxRecDepth 20000 in
theorem tags_differ : ¬ tagB (z64.extract 0 32) (mcB ⟨#[119]⟩ ct5) = tagB (z64.extract 0 32) (mcB ⟨#[118]⟩ ct5) := by decide +kernel
set_option maxRecDepth 20000 in
theorem wake_bad : ¬ atg z32 z12 ⟨#[119]⟩ (crB z32 z12 pl5) = atg z32 z12 ⟨#[118]⟩ (crB z32 z12 pl5) := by
  rw [one_crypt]
  unfold atg kyB
  rw [zero_block]
  exact tags_differ
end Go.Proofs.Ytnpebabffnjmmaa
