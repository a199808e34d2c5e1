/- The law NonceReads, walked. -/
import Derived.Test.YtikhhijbabllfaaNoWakes
import Derived.Test.YtikhhijbabllfaaNoRead
import Derived.Test.YtikhhijbabllfaaNoRef
namespace Go.Proofs.Ytikhhijbabllfaa
open Go.RowKit Go.PlainAid
set_option linter.unusedVariables false
set_option maxRecDepth 20000

theorem nr_cut {w : World} {g T : Nat} {f : Nat → Nat} (h : Blk w g T (nr .u8 12 f)) : w.rangeAt g 4 (nr .u8 8 (fun i => f (4 + i))) := by
  intro j v hv
  have hj : j < 8 := by
    rcases Nat.lt_or_ge j 8 with h | h
    · exact h
    · rw [List.getElem?_eq_none (by rw [nr_length]; exact h)] at hv; cases hv
  rw [nr_at .u8 8 _ j hj] at hv
  exact (h.cell (nr_at .u8 12 f (4 + j) (by omega))).trans hv
set_option maxHeartbeats 1000000 in
theorem nonceReads_law (f : Nat → Nat) (s : ByteArray) (W : World) (hf : ∀ i, f i < 256) (hs : s.size ≤ maxLen) : Calls Try.prog 4 #[.agg (nr .u8 12 f).toArray, .string s] W fun x w' => x = .returned (.bool true) ∧ Below W.heap.size W w' := by
  have hB : Hid (Blk (W.alloc (.cells (nr .u8 12 f).toArray 38)) W.heap.size 38 (nr .u8 12 f)) := Blk.box W 38 (nr .u8 12 f)
  have hL : Hid (Below W.heap.size W (W.alloc (.cells (nr .u8 12 f).toArray 38))) := (Below.refl _ _).alloc (Nat.le_refl _) _
  have hc1 : Hid (∀ z, Blk z W.heap.size 38 (nr .u8 12 f) → (convert 39 9 (.slice (some ⟨W.heap.size, 0, none⟩) 12 12)).run Try.prog z = .ok (.string (tx 12 f)) z ∧ (convert 39 9 (.slice (some ⟨W.heap.size, 4, none⟩) 8 8)).run Try.prog z = .ok (.string (tx 8 (fun i => f (4 + i)))) z) := fun z hz => ⟨conv_blk hz 12 12 (Nat.le_refl _), conv_range (nr_cut hz) 8 8 (Nat.le_refl _)⟩
  have hA : (tx 12 f).size = 12 := tx_size _ _
  have hC : (tx 8 (fun i => f (4 + i))).size = 8 := tx_size _ _
  have hl : ¬ 9223372036854775807 < 4 + (tx 8 (fun i => f (4 + i))).size := by rw [hC]; decide
  generalize tx 12 f = A at *
  generalize tx 8 (fun i => f (4 + i)) = C at *
  generalize (nr .u8 12 f) = V at *
  go_enter Try.func4, Try.ntmps4
  go_wp2_with fail
  have hB2 : Hid (Blk _ W.heap.size 38 V) := hB.out.drew
  have hL2 : Hid (Below W.heap.size W _) := hL.out.drew
  have hT : Hid (∀ i, i < 3 → ∃ t, [Value.string A, .string s, .string (⟨#[0, 0, 0, 0]⟩ ++ C)][i]? = some (.string t) ∧ t.size ≤ maxLen) := fun i hi => by
    rcases (by omega : i = 0 ∨ i = 1 ∨ i = 2) with rfl | rfl | rfl
    · exact ⟨_, rfl, by rw [hA]; decide⟩
    · exact ⟨_, rfl, hs⟩
    · exact ⟨_, rfl, by rw [ByteArray.size_append, hC]; decide⟩
  clear hB hL hA hC hf hs
  have hG : Hid (W.heap.size ≤ (W.alloc (.cells V.toArray 38)).heap.size) := hL2.out.size
  obtain ⟨G, hGe⟩ : ∃ G, W.heap.size = G := ⟨_, rfl⟩
  have hGW : Hid (G ≤ W.heap.size) := Nat.le_of_eq hGe.symm
  have HG : Hid (W.heap.size = G) := hGe
  rw [hGe] at hL2 hG hB2 hc1 ⊢
  generalize (W.alloc (.cells V.toArray 38)) = w1 at *
  refine wp_region_noPanic ?_
  refine wp_region_held_drew (S := fun z : World => (convert 39 9 (.slice (some ⟨G, 0, none⟩) 12 12)).run Try.prog z = .ok (.string A) z ∧ (convert 39 9 (.slice (some ⟨G, 4, none⟩) 8 8)).run Try.prog z = .ok (.string C) z) (by kernel_rfl) (hc1.out _ hB2.out) (fun hHeld => ?_)
  refine wpAnyH_take (i := 0) (v := ?_) rfl (by kernel_rfl) (by kernel_rfl) (by kernel_rfl) (fun _ _ _ h => h) (Or.inl ⟨by rfl, ?_⟩) (by assumption) ?_
  rotate_left
  · intro w hSw; go_simp; try with_reducible rfl
  go_simp
  refine wpAnyH_take (i := 1) (v := ?_) rfl (by kernel_rfl) (by kernel_rfl) (by kernel_rfl) (fun _ _ _ h => h) (Or.inl ⟨by rfl, ?_⟩) (by assumption) ?_
  rotate_left
  · intro w hSw; go_simp; try with_reducible rfl
  go_simp
  refine wpAnyH_take (i := 2) (v := ?_) rfl (by kernel_rfl) (by kernel_rfl) (by kernel_rfl) (fun _ _ _ h => h) (Or.inl ⟨by rfl, ?_⟩) (by assumption) ?_
  rotate_left
  · intro w hSw; go_simp; try with_reducible rfl
  go_simp
  refine wpAnyH_take (i := 3) (v := ?_) rfl (by kernel_rfl) (by kernel_rfl) (by kernel_rfl) (fun _ _ _ h => h) (Or.inl ⟨by rfl, ?_⟩) (by assumption) ?_
  rotate_left
  · intro w hSw; go_simp; try with_reducible rfl
  go_simp
  refine wpAnyH_take (i := 4) (v := ?_) rfl (by kernel_rfl) (by kernel_rfl) (by kernel_rfl) (fun _ _ _ h => h) (Or.inl ⟨by rfl, ?_⟩) (by assumption) ?_
  rotate_left
  · intro w hSw; go_simp; try with_reducible rfl
  go_simp
  refine wpAnyH_take (i := 5) (v := ?_) rfl (by kernel_rfl) (by kernel_rfl) (by kernel_rfl) (fun _ _ _ h => h) (Or.inl ⟨by rfl, ?_⟩) (by assumption) ?_
  rotate_left
  · intro w hSw; go_simp; try with_reducible rfl
  go_simp
  refine wpAnyH_take (i := 8) (v := ?_) rfl (by kernel_rfl) (by kernel_rfl) (by kernel_rfl) (fun _ _ _ h => h) (Or.inl ⟨by rfl, ?_⟩) (by assumption) ?_
  rotate_left
  · intro w hSw; go_simp; try with_reducible rfl
  go_simp
  have hB3 : Hid (Blk _ G 38 V) := hB2.out.alloc (.cells #[.string A, .string s, .string (⟨#[0, 0, 0, 0]⟩ ++ C)] 9)
  refine wpAnyH_ready (rs := [6]) (by kernel_rfl) (by simp) (AllReadyH.cons rfl (fun K hK => ?_) AllReadyH.nil)
  go_simp
  refine hK.out _ _ (hc1.out _ hB3.out) (fun hHeld => ?_)
  clear hK K
  refine wpAnyH_take (i := 7) (v := ?_) rfl (by kernel_rfl) (by kernel_rfl) (by kernel_rfl) (fun _ _ _ h => h) (Or.inl ⟨by rfl, ?_⟩) (by assumption) ?_
  rotate_left
  · intro w hSw; go_simp; try with_reducible rfl
  go_simp
  refine wpAnyH_done (by kernel_rfl) ?_ _
  refine NoPanic.normal ?_
  have hB4 : Hid (Blk (w1.drew.alloc (.cells #[.string A, .string s, .string (⟨#[0, 0, 0, 0]⟩ ++ C)] 9)) w1.drew.heap.size 9 [.string A, .string s, .string (⟨#[0, 0, 0, 0]⟩ ++ C)]) := Blk.new _ _ _
  have hL4 : Hid (Below G W (w1.drew.alloc (.cells #[.string A, .string s, .string (⟨#[0, 0, 0, 0]⟩ ++ C)] 9))) := hL2.out.alloc hG.out _
  clear hB2 hB3 hL2 hc1 hHeld
  generalize [Value.string A, .string s, .string (⟨#[0, 0, 0, 0]⟩ ++ C)] = L at *
  generalize w1.drew.alloc (.cells #[.string A, .string s, .string (⟨#[0, 0, 0, 0]⟩ ++ C)] 9) = w2 at *
  have hg : w1.drew.heap.size = w1.heap.size := rfl
  rw [hg] at hB4
  generalize w1.heap.size = g at *
  have hgG : Hid (G ≤ g) := hG.out
  go_wp2_with fail
  go_loopw [21] (fun i wr => ∃ k : Nat, k ≤ 3 ∧ i = .int .i64 (k : Int) ∧ Hid (Below G W wr) ∧ Hid (Blk wr g 9 L)) (fun i _ => 3 - (intOf i).toNat)
  case atStart => exact ⟨0, Nat.zero_le _, rfl, hL4.out, hB4.out⟩
  case round =>
    clear hB4 hL4
    obtain ⟨k, hk, rfl, hlo, hbk⟩ := hrel
    by_cases hlt : k < 3
    · have hk' : (k : Int) < 3 := by omega
      obtain ⟨t, ht1, ht2⟩ := hT.out k hlt
      have c0 := hbk.out.cell ht1
      have hr1 := nread_any t ht2
      have hr2 := r16read_any t ht2
      clear ht1 ht2
      generalize nrP t = p at *
      generalize nrQ t = q at *
      generalize nrE t = E at *
      go_wp2_with (first
        | (go_at_call 13; refine (hr1 _).mono ?_; rintro x wa ⟨rfl, ha⟩; clear hr1; have HA : Hid (Below G W wa) := hlo.out.trans (ha.mono (Nat.le_trans hGW.out hlo.out.size)); have HB : Hid (Blk wa g 9 L) := hbk.out.below ha hbk.out.lt; clear ha)
        | (go_at_call 14; refine (hr2 _).mono ?_; rintro x wb ⟨rfl, hb⟩; clear hr2; have HC : Hid (Below G W wb) := HA.out.trans (hb.mono (Nat.le_trans hGW.out HA.out.size)); have HD : Hid (Blk wb g 9 L) := HB.out.below hb HB.out.lt; clear hb HA HB))
      go_roundw
      case rel => exact ⟨k + 1, by omega, by go_num, HC.out, HD.out⟩
      case measure => simp [intOf]; omega
    · have hk' : ¬ (k : Int) < 3 := by omega
      go_wp2_with (go_at_call 8; refine (wakes16_any _).mono ?_; rintro x w4 ⟨rfl, hb⟩; have H4 : Hid (Below G W w4) := hlo.out.trans (hb.mono (Nat.le_trans hGW.out hlo.out.size)); clear hb)
      go_ret
      exact ⟨rfl, by rw [HG.out]; exact H4.out⟩
end Go.Proofs.Ytikhhijbabllfaa
