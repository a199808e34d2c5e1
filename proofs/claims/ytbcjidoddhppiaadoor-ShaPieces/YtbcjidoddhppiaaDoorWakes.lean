/- What the document fixes: the digest of one text, at once and in two pieces. -/
import Derived.Test.YtbcjidoddhppiaaDoorSum
import Derived.Test.YtbcjidoddhppiaaDoorAbc
namespace Go.Proofs.YtbcjidoddhppiaaDoor
open Go.RowKit Go.PlainAid
set_option linter.unusedVariables false

theorem min_cut (x : Nat) (c : Int) (h : 0 ≤ c) : ∃ n : Nat, (if c < (x : Int) then c else (x : Int)) = (n : Int) ∧ n ≤ x ∧ (n : Int) ≤ c :=
  ⟨min x c.toNat, by split <;> omega, by omega, by omega⟩
theorem wakes_any (w : World) (ht : Tabs w) : Calls Tryd.prog 8 #[] w fun e w' => e = .returned (.bool true) ∧ Below w.heap.size w w' := by
  have h := shaSum_any ⟨#[97, 98, 99]⟩ (by decide) w ht
  rw [show digest ⟨#[97, 98, 99]⟩ = abcD from abc_digest] at h
  unfold abcD at h
  go_enter Tryd.func8, Tryd.ntmps8
  go_wp2_with (go_at_call 9; refine h.mono ?_; rintro e w' ⟨rfl, hb⟩)
  go_ret
  exact ⟨rfl, hb⟩
theorem goes_any (w : World) (ht : Tabs w) : Calls Tryd.prog 19 #[] w fun e w' => e = .returned (.bool true) ∧ Below w.heap.size w w' := by
  have h2 := ht.lt
  go_enter Tryd.func19, Tryd.ntmps19
  go_wp2_with fail
  refine (new_any w).mono ?_
  rintro e w1 ⟨rfl, hH1, hb1⟩
  obtain ⟨G, hG⟩ : ∃ G, w.heap.size = G := ⟨_, rfl⟩
  rw [hG] at hH1 hb1 h2 ⊢
  have HG : Hid (w.heap.size = G) := hG
  have ht1 := ht.below hb1 h2
  clear hG ht
  go_wp2_with fail
  refine (write_first G ⟨#[97]⟩ (by decide) w1 hH1 ht1 (by omega)).mono ?_
  rintro e w2 ⟨rfl, hH2, ho2⟩
  have ht2 := ht1.only ho2 (by omega)
  have hb2 : Below G w w2 := Below.only hb1 ho2 (Nat.le_of_lt hH1.lt) (Nat.le_refl _)
  clear hH1 ht1 hb1 ho2
  go_wp2_with fail
  refine (write_any G ⟨#[97]⟩ ⟨#[98, 99]⟩ (by decide) w2 hH2 ht2 (by omega)).mono ?_
  rintro e w3 ⟨rfl, hH3, ho3⟩
  have ht3 := ht2.only ho3 (by omega)
  have hb3 : Below G w w3 := Below.only hb2 ho3 (Nat.le_of_lt hH2.lt) (Nat.le_refl _)
  clear hH2 ht2 hb2 ho3
  rw [show (⟨#[97]⟩ : ByteArray) ++ ⟨#[98, 99]⟩ = ⟨#[97, 98, 99]⟩ by decide +kernel] at hH3
  have hS := sum_any G ⟨#[97, 98, 99]⟩ (by decide) w3 hH3 ht3
  rw [show digest ⟨#[97, 98, 99]⟩ = abcD from abc_digest] at hS
  unfold abcD at hS
  go_wp2_with fail
  refine hS.mono ?_
  rintro e w4 ⟨rfl, hb4⟩
  have hH4 := hH3.below hb4 hH3.lt
  have ht4 := ht3.below hb4 ht3.lt
  have hb5 : Below G w w4 := hb3.trans (hb4.mono (Nat.le_of_lt hH3.lt))
  clear hS hH3 ht3 hb3 hb4
  have hL := len_any G ⟨#[97, 98, 99]⟩ w4 hH4
  rw [show (((⟨#[97, 98, 99]⟩ : ByteArray).size : Nat) : Int) = 3 from rfl] at hL
  go_wp2_with fail
  refine hL.mono ?_
  rintro e w5 ⟨rfl, hw5⟩
  rw [hw5]
  clear hL hw5
  go_wp2_with fail
  refine (wakes_any w4 ht4).mono ?_
  rintro e w6 ⟨rfl, hb6⟩
  have hb7 : Below G w w6 := hb5.trans (hb6.mono (Nat.le_of_lt hH4.lt))
  clear hb5 hb6 hH4 ht4
  go_wp2_with fail
  go_ret
  exact ⟨rfl, by rw [HG.out]; exact hb7⟩
end Go.Proofs.YtbcjidoddhppiaaDoor
