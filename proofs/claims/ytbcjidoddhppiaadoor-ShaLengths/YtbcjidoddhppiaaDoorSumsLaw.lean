/- What the Go functions ShaSums and ShaKinds answer: true, for every text. -/
import Derived.Test.YtbcjidoddhppiaaDoorWakes
import Derived.Test.YtbcjidoddhppiaaDoorRSum
namespace Go.Proofs.YtbcjidoddhppiaaDoor
open Go.RowKit Go.PlainAid
set_option linter.unusedVariables false

theorem sumsLaw_walk (s : ByteArray) (hs : s.size ≤ maxLen) (w : World) (ht : Tabs w) (hr : RTabs w) :
    Calls Tryd.prog 3 #[.string s] w fun e w' => e = .returned (.bool true) ∧ Below w.heap.size w w' := by
  unfold maxLen at hs
  have h2 := ht.lt
  go_enter Tryd.func3, Tryd.ntmps3
  go_wp2_with fail
  have hA : (s.extract 0 (min (s.size : Int) 1000).toNat).size ≤ 1000 := by rw [ByteArray.size_extract]; omega
  generalize s.extract 0 (min (s.size : Int) 1000).toNat = A at hA ⊢
  clear hs
  refine (wakes_any w ht).mono ?_
  rintro e w1 ⟨rfl, hb1⟩
  have ht1 := ht.below hb1 h2
  have hr1 := hr.below hb1 (by omega)
  go_wp2_with fail
  refine (shaSum_any A (by omega) w1 ht1).mono ?_
  rintro e w2 ⟨rfl, hb2⟩
  have hr2 := hr1.below hb2 hr1.lt
  have hb3 := hb1.trans (hb2.mono hb1.size)
  clear ht hr ht1 hr1 hb1 hb2
  go_wp2_with fail
  refine (refSum_any A (by omega) w2 hr2).mono ?_
  rintro e w3 ⟨rfl, hb4⟩
  have hb5 := hb3.trans (hb4.mono hb3.size)
  clear hr2 hb3 hb4
  go_wp2_with fail
  go_ret
  exact ⟨rfl, hb5⟩
theorem kind_to (k : Nat) (hk : k < 256) (B : ByteArray) (hB : strOfNums [(k : Int)] = B) (s : ByteArray) (hs : s.size ≤ 1000) (w : World) (hr : RTabs w) :
    Calls Tryd.prog 12 #[.int .u8 (k : Int), .string s] w fun e w' => e = .returned (.string (digest (B ++ s))) ∧ Below w.heap.size w w' := by
  have h := refKind_any k hk s (by omega) w hr
  rw [hB] at h
  exact h
theorem kind0 (s : ByteArray) (hs : s.size ≤ 1000) (w : World) (hr : RTabs w) : Calls Tryd.prog 12 #[.int .u8 0, .string s] w fun e w' => e = .returned (.string (digest (⟨#[0]⟩ ++ s))) ∧ Below w.heap.size w w' := kind_to 0 (by decide) ⟨#[0]⟩ (by decide +kernel) s hs w hr
theorem kind1 (s : ByteArray) (hs : s.size ≤ 1000) (w : World) (hr : RTabs w) : Calls Tryd.prog 12 #[.int .u8 1, .string s] w fun e w' => e = .returned (.string (digest (⟨#[1]⟩ ++ s))) ∧ Below w.heap.size w w' := kind_to 1 (by decide) ⟨#[1]⟩ (by decide +kernel) s hs w hr
theorem kind2 (s : ByteArray) (hs : s.size ≤ 1000) (w : World) (hr : RTabs w) : Calls Tryd.prog 12 #[.int .u8 2, .string s] w fun e w' => e = .returned (.string (digest (⟨#[2]⟩ ++ s))) ∧ Below w.heap.size w w' := kind_to 2 (by decide) ⟨#[2]⟩ (by decide +kernel) s hs w hr
theorem kindsLaw_walk (s : ByteArray) (hs : s.size ≤ maxLen) (w : World) (ht : Tabs w) (hr : RTabs w) :
    Calls Tryd.prog 4 #[.string s] w fun e w' => e = .returned (.bool true) ∧ Below w.heap.size w w' := by
  unfold maxLen at hs
  have h2 := ht.lt
  go_enter Tryd.func4, Tryd.ntmps4
  go_wp2_with fail
  have hA : (s.extract 0 (min (s.size : Int) 500).toNat).size ≤ 500 := by rw [ByteArray.size_extract]; omega
  generalize s.extract 0 (min (s.size : Int) 500).toNat = A at hA ⊢
  clear hs
  refine (wakes_any w ht).mono ?_
  rintro e w1 ⟨rfl, hb1⟩
  have ht1 := ht.below hb1 h2
  have hr1 := hr.below hb1 (by omega)
  clear ht hr
  go_wp2_with fail
  refine (leaf_any A (by omega) w1 ht1).mono ?_
  rintro e w2 ⟨rfl, hc1⟩
  have ht2 := ht1.below hc1 ht1.lt
  have hr2 := hr1.below hc1 hr1.lt
  have hb2 := hb1.trans (hc1.mono hb1.size)
  clear ht1 hr1 hb1 hc1
  go_wp2_with fail
  refine (kind0 A (by omega) w2 hr2).mono ?_
  rintro e w3 ⟨rfl, hc2⟩
  have ht3 := ht2.below hc2 ht2.lt
  have hr3 := hr2.below hc2 hr2.lt
  have hb3 := hb2.trans (hc2.mono hb2.size)
  clear ht2 hr2 hb2 hc2
  go_wp2_with fail
  refine (node_any A (by omega) w3 ht3).mono ?_
  rintro e w4 ⟨rfl, hc3⟩
  have ht4 := ht3.below hc3 ht3.lt
  have hr4 := hr3.below hc3 hr3.lt
  have hb4 := hb3.trans (hc3.mono hb3.size)
  clear ht3 hr3 hb3 hc3
  go_wp2_with fail
  refine (kind1 A (by omega) w4 hr4).mono ?_
  rintro e w5 ⟨rfl, hc4⟩
  have ht5 := ht4.below hc4 ht4.lt
  have hr5 := hr4.below hc4 hr4.lt
  have hb5 := hb4.trans (hc4.mono hb4.size)
  clear ht4 hr4 hb4 hc4
  go_wp2_with fail
  refine (top_any A (by omega) w5 ht5).mono ?_
  rintro e w6 ⟨rfl, hc5⟩
  have ht6 := ht5.below hc5 ht5.lt
  have hr6 := hr5.below hc5 hr5.lt
  have hb6 := hb5.trans (hc5.mono hb5.size)
  clear ht5 hr5 hb5 hc5
  go_wp2_with fail
  refine (kind2 A (by omega) w6 hr6).mono ?_
  rintro e w7 ⟨rfl, hc6⟩
  have ht7 := ht6.below hc6 ht6.lt
  have hr7 := hr6.below hc6 hr6.lt
  have hb7 := hb6.trans (hc6.mono hb6.size)
  clear ht6 hr6 hb6 hc6
  go_wp2_with fail
  go_ret
  exact ⟨rfl, hb7⟩
end Go.Proofs.YtbcjidoddhppiaaDoor
