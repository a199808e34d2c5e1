/- The law AnchorLast, walked. -/
import Derived.Test.YtnfdpcinifppcaaAnRisesLaw
namespace Go.Proofs.Ytnfdpcinifppcaa
open Go.RowKit Go.PlainAid
set_option linter.unusedVariables false

theorem Try.size30 : (Try.prog.info? 30).map (·.size) = some 32 := by kernel_rfl
theorem zero30 : ∃ Z : List Value, Z.length = 32 ∧ ∀ w, (zeroValue 30).run Try.prog w = .ok (.agg Z.toArray) w := by
  refine ⟨nr .u8 32 (fun _ => 0), nr_length _ _ _, fun w => ?_⟩
  obtain ⟨i, hi, hz⟩ := Option.map_eq_some_iff.1 (show (Try.prog.info? 30).map (fun i => i.zero) = some (some (.agg (nr .u8 32 (fun _ => 0)).toArray)) by kernel_rfl)
  simp [zeroValue, typeInfo, hi, hz]
/-- What an anchor has behind j sets. -/
def cnt (x : Int) : Nat → Int
  | 0 => 0
  | j + 1 => x + (j : Int)
def dig (A : Nat → Nat → Nat) : Nat → ByteArray
  | 0 => noB
  | j + 1 => tx 32 (A j)
theorem cnt_lt (x : Int) (hx : 1 ≤ x) (j : Nat) : cnt x j < x + (j : Int) := by
  cases j with
  | zero => show (0 : Int) < _; omega
  | succ j => show x + (j : Int) < _; omega
section
variable {W w : World} {g : Nat} {R : Asn} {c : Int} {d : ByteArray}
theorem ri_ok (hR : Firm R) (h : Ri R W w g c d) (n : Int) (t : ByteArray) (ht : t.size = 32) (hn : c < n) : Calls Try.prog 8 #[.pointer (some ⟨g, 0, none⟩), .int .u64 n, .string t] w fun e w' => e = .returned (.int .i64 0) ∧ Ri R W w' g n t := aset_ok hR h n t ht hn
theorem ri_used (hR : Firm R) (h : Ri R W w g c d) (n : Int) (t : ByteArray) (ht : t.size = 32) (hn : n ≤ c) : Calls Try.prog 8 #[.pointer (some ⟨g, 0, none⟩), .int .u64 n, .string t] w fun e w' => e = .returned (.int .i64 25) ∧ Ri R W w' g c d := aset_used hR h n t ht hn
end
set_option maxRecDepth 20000 in
set_option maxHeartbeats 4000000 in
theorem anchorLast_law (a0 : Int) (s : Option Addr) (len cap : Nat) (W : World) (ha : 0 ≤ a0 ∧ a0 ≤ 18446744073709551615) (hs : Came (fun f : Nat → Nat => ∀ i, f i < 256) (fun f => nr .u8 32 f) 32 W s len cap) : Calls Try.prog 5 #[.int .u64 a0, .slice s len cap] W fun e w' => e = .returned (.bool true) ∧ Below W.heap.size W w' := by
  have hl1 := hs.1
  have hl2 := hs.2.1
  obtain ⟨A, hA⟩ := came_fun hs
  have HA : Hid (∀ w, Below W.heap.size W w → ∀ i, i < len → ∃ b o, s = some ⟨b, o, none⟩ ∧ (∀ k, A i k < 256) ∧ w.rangeAt b (o + i * 32) (nr .u8 32 (A i))) := hA
  have hnew := anew_any firm_nought (hold_nought W.heap.size W W (Nat.le_refl _) (Below.refl _ _))
  obtain ⟨Z, hZl, hZ⟩ := zero30
  have HZ : Hid (Z.length = 32) := hZl
  clear hs hZl hA
  obtain ⟨C, hC1, hC2, hC3⟩ : ∃ C : Nat, (if (100 : Int) < (len : Int) then (100 : Int) else (len : Int)) = (C : Int) ∧ C ≤ 100 ∧ C ≤ len := ⟨min len 100, by split <;> omega, by omega, by omega⟩
  have hC4 : C ≤ cap := by omega
  obtain ⟨x, hx, hx1, hx2⟩ : ∃ x : Int, a0 / 2 + 1 = x ∧ 1 ≤ x ∧ x ≤ 9223372036854775808 := ⟨_, rfl, by omega, by omega⟩
  go_enter Try.func5, Try.ntmps5
  go_wp2_with (go_at_call 6; refine hnew.mono ?_; rintro e w1 ⟨g, rfl, h1⟩; clear hnew; have hr0 : Hid (Ri nought W w1 g _ _) := h1; clear h1)
  clear hC1 hx ha
  go_loopw [21] (fun i wr => ∃ j : Nat, j ≤ C ∧ i = .int .i64 (j : Int) ∧ Hid (Ri nought W wr g (cnt x j) (dig A j))) (fun i _ => C - (intOf i).toNat)
  case atStart => exact ⟨0, Nat.zero_le _, rfl, hr0.out⟩
  case round =>
    clear hr0
    obtain ⟨j, hj, rfl, hrr⟩ := hrel
    by_cases hlt : j < C
    · have hj' : (j : Int) < (C : Int) := by omega
      obtain ⟨sb, so, hsa, hok, hra⟩ := HA.out _ hrr.out.low j (by omega)
      subst hsa
      have hcn := cnt_lt x hx1 j
      have hp : Hid (Ri (star (blkA _ _ _) _) _ _ _ _ _) := hrr.out.box 30 Z.toArray (nr .u8 32 (A j))
      have HR : Hid (wr.rangeAt sb (so + j * 32) (nr .u8 32 (A j))) := hra
      have HCN : Hid (cnt x j < x + (j : Int)) := hcn
      have HC : Hid (∀ z bx, Blk z bx 30 (nr .u8 32 (A j)) → (convert 42 9 (.slice (some ⟨bx, 0, none⟩) 32 32)).run Try.prog z = .ok (.string (tx 32 (A j))) z) := fun z bx h => conv_blk h 32 32 (Nat.le_refl _)
      have HL : Hid ((nr .u8 32 (A j)).length = 32) := nr_length _ _ _
      have HL1 : Hid (∀ v ∈ nr .u8 32 (A j), v.oneCell' = true) := nr_one _ _ _
      have hts : Hid ((tx 32 (A j)).size = 32) := tx_size _ _
      have hend : Hid (∀ z, Ri nought W z g (x + (j : Int)) (tx 32 (A j)) → Ri nought W z g (cnt x (j + 1)) (dig A (j + 1))) := fun z h => h
      clear hrr hra hok hcn
      generalize tx 32 (A j) = t at *
      generalize nr .u8 32 (A j) = L at *
      generalize cnt x j = cj at *
      generalize dig A j = dj at *
      go_wp2_with (first
        | (refine wpList_load_mid rfl 30 _ rfl sb (so + j * 32) rfl L _ HR.out Try.underlying30 rfl (by rw [Try.size30, HL.out]) ?_)
        | (refine wpList_store_blk rfl 30 _ _ rfl wr.heap.size Z L rfl rfl 30 (Blk.box _ _ _) (by rw [Try.size30, HL.out]) (by rw [HZ.out, HL.out]) HL1.out ?_; have hc1 := HC.out _ _ hp.out.blk)
        | (go_at_call 8; refine (ri_ok ((firm_blk _ _ _).star firm_nought) hp.out _ t hts.out HCN.out).mono ?_; rintro e wa ⟨rfl, h1⟩; clear hp hc1; have h1 : Hid (Ri _ _ _ _ _ _) := h1; have hc2 := HC.out _ _ h1.out.blk)
        | (go_at_call 8; refine (ri_used ((firm_blk _ _ _).star firm_nought) h1.out _ t hts.out (Int.le_refl _)).mono ?_; rintro e wb ⟨rfl, h2⟩; clear h1 hc2; have h2 : Hid (Ri _ _ _ _ _ _) := h2))
      go_roundw
      case rel => exact ⟨j + 1, by omega, by go_num, hend.out _ h2.out.unbox⟩
      case measure => simp [intOf]; omega
    · have hj' : ¬ (j : Int) < (C : Int) := by omega
      obtain rfl : j = C := by omega
      by_cases h0 : j = 0
      · subst h0
        have hrr : Hid (Ri nought W wr g 0 noB) := hrr
        go_wp2_with (first
          | (go_at_call 11; refine (ri_get firm_nought hrr.out).mono ?_; rintro e wd ⟨rfl, h1⟩; clear hrr; have h1 : Hid (Ri _ _ _ _ _ _) := h1)
          | (go_at_call 7; refine (anWakes_any _).mono ?_; rintro e we ⟨rfl, hbe⟩; have h2 : Hid (Ri _ _ _ _ _ _) := h1.out.below firm_nought hbe; clear h1 hbe))
        go_ret
        exact ⟨rfl, h2.out.low⟩
      · obtain ⟨m, rfl⟩ : ∃ m, j = m + 1 := ⟨j - 1, by omega⟩
        have hrr : Hid (Ri nought W wr g (x + (m : Int)) (tx 32 (A m))) := hrr
        have HT : Hid (∀ z, Below W.heap.size W z → ∃ sb so, s = some ⟨sb, so, none⟩ ∧ (convert 42 9 (.slice (some ⟨sb, so + m * 32, none⟩) 32 32)).run Try.prog z = .ok (.string (tx 32 (A m))) z) := fun z hz => by
          obtain ⟨sb, so, h1, h2, h3⟩ := HA.out z hz m (by omega)
          exact ⟨sb, so, h1, conv_range h3 32 32 (Nat.le_refl _)⟩
        generalize tx 32 (A m) = t at *
        go_wp2_with (first
          | (go_at_call 11; refine (ri_get firm_nought hrr.out).mono ?_; rintro e wd ⟨rfl, h1⟩; clear hrr; have h1 : Hid (Ri _ _ _ _ _ _) := h1)
          | (go_at_call 7; refine (anWakes_any _).mono ?_; rintro e we ⟨rfl, hbe⟩; have h2 : Hid (Ri _ _ _ _ _ _) := h1.out.below firm_nought hbe; clear h1 hbe; obtain ⟨sb, so, hsa, hcv⟩ := HT.out _ h2.out.low; subst hsa))
        go_ret
        exact ⟨rfl, h2.out.low⟩
end Go.Proofs.Ytnfdpcinifppcaa
