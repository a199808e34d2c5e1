/- A stripe's chunks, as the laws make them. -/
import Derived.Test.YtdpcbiccbhlonabRsChkLaw
import Derived.Laws.OwnMore
namespace Go.Proofs.Ytdpcbiccbhlonab
open Go.RowKit Go.PlainAid
set_option linter.unusedVariables false

theorem txt_of_any {w : World} {base n : Nat} {v : Value} {f : Nat → ByteArray} (h : w.ownsRow base 9 1 v n (strsL n f)) (hs : ∀ i, i < n → (f i).size ≤ 9223372036854775807) : ∃ a c, v = .slice a n c ∧ n ≤ c ∧ c ≤ 9223372036854775807 ∧ TxtAt w a n (fun i => (f i).size) (fun i => teE (f i)) := by
  obtain ⟨a, c, rfl, _, hv⟩ := owns_form h _ (fun i hi => strsL_at _ _ i hi)
  refine ⟨a, c, rfl, ?_, ?_, ?_, fun i hi => hs i hi⟩
  · rcases h.2 with ⟨h0, h1⟩ | ⟨g, cap, cur, e, _, _, h1, _⟩
    · omega
    · cases e; exact h1
  · rcases h.2 with ⟨h0, h1⟩ | ⟨g, cap, cur, e, _, _, _, h1, _⟩
    · injection h0 with _ _ h4; omega
    · cases e; unfold maxLen at h1; omega
  · rcases hv with h0 | ⟨b, o, e, hv⟩
    · exact .inl h0
    · exact .inr ⟨b, o, e, fun i hi => by show _ = some (Value.string (strE (f i).size (teE (f i)))); rw [strE_te]; exact hv i hi⟩
theorem teE_strE (m : Nat) (g : Nat → E) (c : Nat) (hc : c < m) : teE (strE m g) c = g c := by
  apply E.same
  show (bt (strE m g) c).toNat % 256 = _
  rw [bt_strE m g c hc, Int.toNat_natCast, Nat.mod_eq_of_lt (g c).h]
theorem chk_stripe {k m : Nat} (k1 : 1 ≤ k) (k8 : k ≤ 8) (hm : m ≤ 65536) (D : Mx) : chkB (k + 2) (fun _ => m) (St k D) = true := by
  have hz : encE k (fun _ => m) = 0 := encE_zero.2 ⟨⟨k1, k8⟩, fun _ _ => rfl, hm⟩
  have hs : ∀ r, encS k (fun _ => m) (St k D) r = strE m (St k D (k + r)) := fun r => by
    unfold encS
    rw [if_pos hz]
    refine strE_congr fun c hc => ?_
    rw [St_parity]
    exact S_congr fun j hj => by rw [St_data hj]
  unfold chkB
  exact decide_eq_true ⟨by omega, by omega, hz, hs 0, hs 1⟩
/-- The texts of an even cut, as elements. -/
theorem CutTo.elems {w : World} {base : Nat} {v : Value} {k N : Nat} {f : Nat → ByteArray} (h : CutTo w base v k N true f) (hN : N ≤ 1000) (k1 : 1 ≤ k) (k8 : k ≤ 8) : ∃ (m : Nat) (D : Mx), m ≤ N ∧ m ≤ 65536 ∧ encE k (fun i => (f i).size) = 0 ∧ (∀ i, i < k → f i = strE m (St k D i)) ∧
    encS k (fun i => (f i).size) (fun i => teE (f i)) 0 = strE m (St k D k) ∧ encS k (fun i => (f i).size) (fun i => teE (f i)) 1 = strE m (St k D (k + 1)) ∧ (f 0).size = m := by
  have hs := h.2.2 rfl
  have h0 := h.2.1 0 (by omega)
  have hz : encE k (fun i => (f i).size) = 0 := encE_zero.2 ⟨⟨k1, k8⟩, fun c hc => hs c hc, by show (f 0).size ≤ _; omega⟩
  refine ⟨(f 0).size, fun i => teE (f i), h0, by omega, hz, fun i hi => ?_, ?_, ?_, rfl⟩
  · rw [strE_congr (g := teE (f i)) fun c hc => St_data hi _ c, ← hs i hi, strE_te]
  · unfold encS; rw [if_pos hz]; exact strE_congr fun c hc => (St_parity k 0 _ c).symm
  · unfold encS; rw [if_pos hz]; exact strE_congr fun c hc => (St_parity k 1 _ c).symm
theorem cnt_or (p q r : Nat → Bool) (n : Nat) (h : ∀ i, i < n → r i = true → p i = true ∨ q i = true) : cnt r n ≤ cnt p n + cnt q n := by
  induction n with
  | zero => exact Nat.le_refl _
  | succ n ih =>
    have := ih fun i hi => h i (by omega)
    have h' := h n (by omega)
    simp only [cnt]
    by_cases h1 : r n = true
    · rcases h' h1 with h2 | h2 <;> simp [h1, h2] <;> omega
    · simp [h1]; omega
theorem cnt_eq_le (i n : Nat) : cnt (fun x => decide (x = i)) n ≤ if i < n then 1 else 0 := by
  induction n with
  | zero => simp [cnt]
  | succ n ih =>
    simp only [cnt]
    by_cases h : n = i
    · subst h; simp at ih ⊢; omega
    · simp only [decide_eq_false h]
      have : (if i < n + 1 then 1 else 0) = (if i < n then 1 else 0) := by
        by_cases h1 : i < n
        · rw [if_pos h1, if_pos (by omega)]
        · rw [if_neg h1, if_neg (by omega)]
      rw [this]
      simpa using ih
theorem cnt_but_two (T : Nat → Bool) (i j n : Nat) (hT : ∀ x, x < n → T x = false → x = i ∨ x = j) : n - 2 ≤ cnt T n := by
  have h1 := cnt_not T n
  have h2 := cnt_or (fun x => decide (x = i)) (fun x => decide (x = j)) (fun x => !T x) n (fun x hx h => by
    rcases hT x hx (by simpa using h) with h | h
    · exact .inl (decide_eq_true h)
    · exact .inr (decide_eq_true h))
  have h3 := cnt_eq_le i n
  have h4 := cnt_eq_le j n
  split at h3 <;> split at h4 <;> omega
end Go.Proofs.Ytdpcbiccbhlonab
