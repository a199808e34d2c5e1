/- Two matrices compared; what the document fixes. -/
import Derived.Test.YthcbnffhkbbkpaaMatInv
namespace Go.Proofs.Ythcbnffhkbbkpaa
open Go.RowKit Go.PlainAid
set_option linter.unusedVariables false

theorem conv_at {w : World} {a : Option Addr} {n cap : Nat} {f : Nat → E} (h : RowAt w a n f) : (convert 48 9 (.slice a n cap)).run Try.prog w = .ok (.string (strE n f)) w := by
  rcases h with h0 | ⟨b, o, rfl, h⟩
  · subst h0
    have e : strE 0 f = strOfNums [] := rfl
    rw [e]
    cases a with
    | none => exact run_convert_bytes_nil w 48 5 Try.underlying48 Try.underlying5 0 cap 9 Try.underlying9
    | some ad =>
      have hl : (loadCells ad 0).run Try.prog w = .ok (([] : List Int).map (Value.int .u8)).toArray w := run_loadCells_list (P := Try.prog) w ad [] (fun j v hj => by simp at hj)
      rw [run_convert_bytes_string w 48 9 5 _ 0 cap Try.underlying48 Try.underlying5 Try.underlying9, run_bytesToString w _ 0 cap [] hl]
      rfl
  · exact run_convert_bytes_arg (P := Try.prog) w 48 5 Try.underlying48 Try.underlying5 b o n cap (numsE n f) (numsE_length n f) (fun i hi => by
      rw [h i hi]
      simp [numsE, List.getD, hi, byteV]) 9 Try.underlying9

set_option maxHeartbeats 400000 in
theorem same_any (a b : Option Addr) (n ca cb : Nat) (L L' : Nat → Nat) (X Y : Mx) (w : World) (hn : n ≤ maxLen) (ha : MatAt w a n L X) (hb : MatAt w b n L' Y) (hl : ∀ r, r < n → L r = L' r) (he : ∀ r, r < n → ∀ c, c < L r → X r c = Y r c) :
    Calls Try.prog 17 #[.slice a n ca, .slice b n cb] w fun e w' => e = .returned (.bool true) ∧ ∃ q, w' = w.drewN q := by
  obtain ⟨AR, CR, ha, ha'⟩ := ha
  obtain ⟨BR, DR, hb, hb'⟩ := hb
  unfold maxLen at hn
  have t0 : ((n : Int) != (n : Int)) = false := by simp
  have HX : Hid (∀ k, k < n → ∃ ar cr br dr s, (∀ q, (w.drewN q).cell? ⟨(a.getD ⟨0, 0, none⟩).block, (a.getD ⟨0, 0, none⟩).off + k, none⟩ = some (.slice ar (L k) cr)) ∧ (∀ q, (w.drewN q).cell? ⟨(b.getD ⟨0, 0, none⟩).block, (b.getD ⟨0, 0, none⟩).off + k, none⟩ = some (.slice br (L k) dr)) ∧
      (∀ q, (convert 48 9 (.slice ar (L k) cr)).run Try.prog (w.drewN q) = .ok (.string s) (w.drewN q)) ∧ (∀ q, (convert 48 9 (.slice br (L k) dr)).run Try.prog (w.drewN q) = .ok (.string s) (w.drewN q))) := fun k hk => by
    rcases ha with h0 | ⟨b1, o1, rfl, ha⟩
    · omega
    rcases hb with h0 | ⟨b2, o2, rfl, hb⟩
    · omega
    refine ⟨AR k, CR k, BR k, DR k, strE (L k) (X k), fun q => ha k hk, fun q => by rw [hl k hk]; exact hb k hk, fun q => conv_at (w := w.drewN q) (ha' k hk).2, fun q => ?_⟩
    rw [strE_congr (he k hk), hl k hk]
    exact conv_at (w := w.drewN q) (hb' k hk).2
  have HA : Hid (0 < n → ∃ b1 o1, a = some ⟨b1, o1, none⟩) := fun h => by
    rcases ha with h0 | ⟨b1, o1, rfl, ha⟩
    · omega
    · exact ⟨_, _, rfl⟩
  have HB : Hid (0 < n → ∃ b1 o1, b = some ⟨b1, o1, none⟩) := fun h => by
    rcases hb with h0 | ⟨b1, o1, rfl, ha⟩
    · omega
    · exact ⟨_, _, rfl⟩
  clear ha ha' hb hb' hl he
  go_enter Try.func17, Try.ntmps17
  go_wp2_with fail
  go_loopw [13] (fun i wr => ∃ k : Nat, k ≤ n ∧ i = .int .i64 k ∧ ∃ q, wr = w.drewN q) (fun i _ => (n : Nat) - (intOf i).toNat)
  case atStart => exact ⟨0, Nat.zero_le _, rfl, 0, rfl⟩
  case round =>
    obtain ⟨k, hk, rfl, q, rfl⟩ := hrel
    by_cases hlt : k < n
    · obtain ⟨b1, o1, rfl⟩ := HA.out (by omega)
      obtain ⟨b2, o2, rfl⟩ := HB.out (by omega)
      obtain ⟨ar, cr, br, dr, s, q1, q2, q3, q4⟩ := HX.out k hlt
      simp only [Option.getD_some] at q1 q2
      have q1' := q1 q
      have q2' := q2 q
      have q3' := q3 q
      have q4' := q4 q
      go_wp2_with fail
      go_quiet (fail)
      go_wp2_with fail
      go_roundw
      case rel => exact ⟨k + 1, by omega, by go_num, q + nq, rfl⟩
      case measure => simp [intOf]; omega
    · go_wp2_with fail
      go_ret
      exact ⟨rfl, q, rfl⟩

def wkA : Mx := fun r c => if r = 1 ∧ c = 1 then ⟨2, by decide⟩ else 1
def wkB : Mx := fun r c => if r = 0 ∧ c = 0 then ⟨245, by decide⟩ else ⟨244, by decide⟩
theorem wk_right : ∀ r, r < 2 → ∀ c, c < 2 → mulM 2 wkA wkB r c = idM r c := by
  intro r hr c hc
  have h1 : r = 0 ∨ r = 1 := by omega
  have h2 : c = 0 ∨ c = 1 := by omega
  rcases h1 with rfl | rfl <;> rcases h2 with rfl | rfl <;> exact E.same (by decide +kernel)
theorem wk_left : ∀ r, r < 2 → ∀ c, c < 2 → mulM 2 wkB wkA r c = idM r c := by
  intro r hr c hc
  have h1 : r = 0 ∨ r = 1 := by omega
  have h2 : c = 0 ∨ c = 1 := by omega
  rcases h1 with rfl | rfl <;> rcases h2 with rfl | rfl <;> exact E.same (by decide +kernel)
/-- Two rows of two, laid one by one. -/
theorem mat_two (w : World) (t : TypeId) (x00 x01 x10 x11 : Int) (X : Mx) (h00 : x00 = (X 0 0).v) (h01 : x01 = (X 0 1).v) (h10 : x10 = (X 1 0).v) (h11 : x11 = (X 1 1).v) :
    MatAt (((w.alloc (.cells #[.int .u8 x00, .int .u8 x01] 5 (0, 0))).alloc (.cells #[.int .u8 x10, .int .u8 x11] 5 (0, 0))).alloc (.cells #[.slice (some ⟨w.heap.size, 0, none⟩) 2 2, .slice (some ⟨w.heap.size + 1, 0, none⟩) 2 2] t (0, 0)))
      (some ⟨w.heap.size + 2, 0, none⟩) 2 (fun _ => 2) X := by
  have two : ∀ k, k < 2 → k = 0 ∨ k = 1 := fun k hk => by omega
  refine ⟨fun r => some ⟨w.heap.size + r, 0, none⟩, fun _ => 2, .inr ⟨_, 0, rfl, fun r hr => ?_⟩, fun r hr => ⟨by show 2 ≤ maxLen; decide, .inr ⟨_, 0, rfl, fun c hc => ?_⟩⟩⟩
  · rcases two r hr with rfl | rfl
    · go_simp
    · go_simp
  · have hc' : c < 2 := hc
    rcases two r hr with rfl | rfl <;> rcases two c hc' with rfl | rfl
    · rw [h00]; go_simp; rfl
    · rw [h01]; go_simp; rfl
    · rw [h10]; go_simp; rfl
    · rw [h11]; go_simp; rfl
theorem gd_two : Gd 2 (fun _ => 2) := ⟨by decide, by decide, by decide, by decide, fun _ _ => rfl⟩

set_option maxHeartbeats 1000000 in
theorem wakes_any (w : World) : Calls Try.prog 16 #[] w fun e w' => e = .returned (.bool true) ∧ Below w.heap.size w w' := by
  have hM := mat_two w 48 1 1 1 2 wkA rfl rfl rfl rfl
  have hinv := invert_any (some ⟨w.heap.size + 2, 0, none⟩) 2 2 (fun _ => 2) wkA _ (by decide) hM
  have hbA : Below w.heap.size w (((w.alloc (.cells #[.int .u8 1, .int .u8 1] 5 (0, 0))).alloc (.cells #[.int .u8 1, .int .u8 2] 5 (0, 0))).alloc (.cells #[.slice (some ⟨w.heap.size, 0, none⟩) 2 2, .slice (some ⟨w.heap.size + 1, 0, none⟩) 2 2] 48 (0, 0))) :=
    (((Below.refl _ _).alloc (Nat.le_refl _) _).alloc (by simp) _).alloc (by simp; omega) _
  have HB : Hid (Below w.heap.size w (((w.alloc (.cells #[.int .u8 1, .int .u8 1] 5 (0, 0))).alloc (.cells #[.int .u8 1, .int .u8 2] 5 (0, 0))).alloc (.cells #[.slice (some ⟨w.heap.size, 0, none⟩) 2 2, .slice (some ⟨w.heap.size + 1, 0, none⟩) 2 2] 48 (0, 0)))) := hbA
  clear hM hbA
  go_enter Try.func16, Try.ntmps16
  go_wp2_with fail
  go_at_call 13
  refine hinv.mono ?_
  rintro e w1 ⟨hb1, h⟩
  have hb2 := HB.out.trans (hb1.mono HB.out.size)
  clear hb1 HB hinv
  rcases h with ⟨h, _⟩ | ⟨_, h, _⟩ | ⟨_, _, _, c, U, hc, hR, hu, hz⟩ | ⟨_, _, a', U, rfl, hM, hR, hu⟩
  · exact absurd gd_two h
  · exact absurd rfl h
  · exfalso
    obtain ⟨v, hv, hk⟩ := reach_kernel hR (by omega) hc hu hz
    refine no_inverse (A := wkA) (R := wkB) hc hv (fun r hr => ?_) wk_left
    rw [← hk r hr]
    exact S_congr fun j hj => by simp [wideM, hj]
  · have hone := inverse_one (reach_done hR hu).1 wk_right
    have hM2 := fun w2 (h : Below w1.heap.size w1 w2) => hM.below h
    have hN := mat_two w1 48 245 244 244 244 wkB rfl rfl rfl rfl
    have hbB : Below w1.heap.size w1 (((w1.alloc (.cells #[.int .u8 245, .int .u8 244] 5 (0, 0))).alloc (.cells #[.int .u8 244, .int .u8 244] 5 (0, 0))).alloc (.cells #[.slice (some ⟨w1.heap.size, 0, none⟩) 2 2, .slice (some ⟨w1.heap.size + 1, 0, none⟩) 2 2] 48 (0, 0))) :=
      (((Below.refl _ _).alloc (Nat.le_refl _) _).alloc (by simp) _).alloc (by simp; omega) _
    have hsame := same_any a' (some ⟨w1.heap.size + 2, 0, none⟩) 2 2 2 (fun _ => 2) (fun _ => 2) (rightM 2 U) wkB _ (by decide) (hM.below hbB) hN (fun _ _ => rfl) (fun r hr c hc => hone r hr c hc)
    have HB2 : Hid (Below w1.heap.size w1 (((w1.alloc (.cells #[.int .u8 245, .int .u8 244] 5 (0, 0))).alloc (.cells #[.int .u8 244, .int .u8 244] 5 (0, 0))).alloc (.cells #[.slice (some ⟨w1.heap.size, 0, none⟩) 2 2, .slice (some ⟨w1.heap.size + 1, 0, none⟩) 2 2] 48 (0, 0)))) := hbB
    have hgood := fun w2 h => good_any a' 2 2 (fun _ => 2) (rightM 2 U) w2 (by decide) (hM2 w2 h) true (good_yes gd_two)
    clear hM hN hbB hu hR hone
    go_wp2_with fail
    go_at_call 17
    refine hsame.mono ?_
    rintro e w2 ⟨rfl, q, rfl⟩
    go_wp2_with fail
    go_at_call 27
    refine (hgood _ (below_drewN HB2.out q)).mono ?_
    rintro e w3 ⟨rfl, hb3⟩
    go_wp2_with fail
    go_ret
    exact ⟨rfl, (hb2.trans ((below_drewN HB2.out q).mono hb2.size)).trans (hb3.mono (Nat.le_trans hb2.size HB2.out.size))⟩
end Go.Proofs.Ythcbnffhkbbkpaa
