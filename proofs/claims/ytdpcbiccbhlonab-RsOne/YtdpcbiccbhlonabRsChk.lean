/- Do chunks fit one another? The program's answer. -/
import Derived.Test.YtdpcbiccbhlonabRsEnc
import Derived.Test.YtdpcbiccbhlonabRsPair
namespace Go.Proofs.Ytdpcbiccbhlonab
open Go.RowKit Go.PlainAid
set_option linter.unusedVariables false

def chkB (n : Nat) (M : Nat → Nat) (Y : Mx) : Bool := decide (3 ≤ n ∧ n ≤ 10 ∧ encE (n - 2) M = 0 ∧ encS (n - 2) M Y 0 = strE (M (n - 2)) (Y (n - 2)) ∧ encS (n - 2) M Y 1 = strE (M (n - 1)) (Y (n - 1)))
theorem TxtAt.cut {w : World} {a : Option Addr} {n k : Nat} {M : Nat → Nat} {Y : Mx} (h : TxtAt w a n M Y) (hk : k ≤ n) : TxtAt w a k M Y := by
  refine ⟨?_, fun c hc => h.2 c (by omega)⟩
  rcases h.1 with h0 | ⟨b, o, e, h⟩
  · exact .inl (by omega)
  · exact .inr ⟨b, o, e, fun i hi => h i (by omega)⟩

set_option maxHeartbeats 1000000 in
theorem check_any (a : Option Addr) (n ca : Nat) (M : Nat → Nat) (Y : Mx) (w : World) (hca : n ≤ ca) (hcm : ca ≤ 9223372036854775807) (hT : TxtAt w a n M Y) :
    Calls Try.prog 9 #[.slice a n ca] w fun e w' => Below w.heap.size w w' ∧ e = .returned (.bool (chkB n M Y)) := by
  by_cases hn : 3 ≤ n ∧ n ≤ 10
  · obtain ⟨k, rfl⟩ : ∃ k, n = k + 2 := ⟨n - 2, by omega⟩
    have hin := fun x => inData_any (k : Int) true ⟨fun _ => by omega, fun _ => rfl⟩ x
    have henc := encode_any a k ca M Y w (by omega) hcm (hT.cut (by omega))
    have hB : chkB (k + 2) M Y = decide (encE k M = 0 ∧ encS k M Y 0 = strE (M k) (Y k) ∧ encS k M Y 1 = strE (M (k + 1)) (Y (k + 1))) := by
      unfold chkB
      exact decide_eq_decide.2 ⟨fun h => h.2.2, fun h => ⟨hn.1, hn.2, h⟩⟩
    rw [hB]
    obtain ⟨b, o, rfl, hc⟩ := hT.cell (by omega)
    have HC : Hid (∀ x, Below w.heap.size w x → x.cell? ⟨b, o + k, none⟩ = some (.string (strE (M k) (Y k))) ∧ x.cell? ⟨b, o + (k + 1), none⟩ = some (.string (strE (M (k + 1)) (Y (k + 1))))) := fun x hx =>
      ⟨(hx.cell (p := ⟨b, o + k, none⟩) (cell_lt (hc k (by omega)))).trans (hc k (by omega)), (hx.cell (p := ⟨b, o + (k + 1), none⟩) (cell_lt (hc (k + 1) (by omega)))).trans (hc (k + 1) (by omega))⟩
    generalize strE (M k) (Y k) = s0 at HC ⊢
    generalize strE (M (k + 1)) (Y (k + 1)) = s1 at HC ⊢
    generalize encS k M Y 0 = p at henc ⊢
    generalize encS k M Y 1 = q at henc ⊢
    generalize encE k M = er at henc ⊢
    have k8 : (k : Int) ≤ 8 := by omega
    have kk : ((k + 2 : Nat) : Int) - 2 = (k : Int) := by omega
    have kca : (k : Int) ≤ (ca : Int) := by omega
    have hca' : k ≤ ca := by omega
    have q1 : (k : Int) < (k : Int) + 2 := by omega
    have q2 : (k : Int) + 1 < (k : Int) + 2 := by omega
    have q3 : IntKind.i64.wrap ((k : Int) + 1) = (k : Int) + 1 := by rw [IntKind.wrap_i64]; omega
    have q4 : ((k : Int) + 1).toNat = k + 1 := by omega
    have q5 : (0 : Int) ≤ (k : Int) + 1 := by omega
    have q6 : ¬ ((k : Int) + 1 < 0) := by omega
    clear hB hT hc hn
    by_cases h0 : er = 0
    · subst h0
      have heql := fun x => eql_pair x p q s0 s1
      have hgu := Try.guard44
      go_enter Try.func9, Try.ntmps9
      go_wp2_with fail
      go_at_call 10
      refine (hin _).mono ?_
      rintro e w' ⟨rfl, rfl⟩
      go_wp2_with fail
      go_at_call 7
      refine henc.mono ?_
      rintro e w2 ⟨hb2, rfl⟩
      obtain ⟨c0, c1⟩ := HC.out w2 hb2
      clear henc hin
      go_wp2_with fail
      go_quiet (fail)
      go_wp2_with fail
      go_ret
      refine ⟨below_drewN hb2 _, ?_⟩
      simp
    · have t0 : (er == 0) = false := by simpa using h0
      clear h0
      go_enter Try.func9, Try.ntmps9
      go_wp2_with fail
      go_at_call 10
      refine (hin _).mono ?_
      rintro e w' ⟨rfl, rfl⟩
      go_wp2_with fail
      go_at_call 7
      refine henc.mono ?_
      rintro e w2 ⟨hb2, rfl⟩
      obtain ⟨c0, c1⟩ := HC.out w2 hb2
      clear henc hin
      go_wp2_with fail
      go_quiet (fail)
      go_wp2_with fail
      go_ret
      refine ⟨below_drewN hb2 _, ?_⟩
      have : ¬ er = 0 := by simpa using t0
      simp [this]
  · have hin := fun x => inData_any ((n : Int) - 2) false ⟨fun h => Bool.noConfusion h, fun h => absurd (by omega) hn⟩ x
    have hB : chkB n M Y = false := by
      unfold chkB
      exact decide_eq_false fun h => hn ⟨h.1, h.2.1⟩
    rw [hB]
    have n9 : (n : Int) ≤ 9223372036854775807 := by omega
    clear hB hT hn
    go_enter Try.func9, Try.ntmps9
    go_wp2_with fail
    go_at_call 10
    refine (hin _).mono ?_
    rintro e w' ⟨rfl, rfl⟩
    go_wp2_with fail
    go_ret
    exact ⟨Below.refl _ _, rfl⟩

def wkY : Mx := fun r _ => if r = 2 then 0 else if r = 3 then ⟨3, by decide⟩ else 1
theorem wk_enc : encE 2 (fun _ => 1) = 0 ∧ encS 2 (fun _ => 1) wkY 0 = ⟨#[0]⟩ ∧ encS 2 (fun _ => 1) wkY 1 = ⟨#[3]⟩ := by decide +kernel
theorem wk_chk : chkB 4 (fun _ => 1) wkY = true := by decide +kernel
theorem wk_str : strE 1 (wkY 0) = ⟨#[1]⟩ ∧ strE 1 (wkY 1) = ⟨#[1]⟩ ∧ strE 1 (wkY 2) = ⟨#[0]⟩ ∧ strE 1 (wkY 3) = ⟨#[3]⟩ := by decide +kernel
theorem wk_two (w : World) : TxtAt (w.alloc (.cells #[.string ⟨#[1]⟩, .string ⟨#[1]⟩] 9 (0, 0))) (some ⟨w.heap.size, 0, none⟩) 2 (fun _ => 1) wkY := by
  refine ⟨.inr ⟨w.heap.size, 0, rfl, fun i hi => ?_⟩, fun c _ => by show 1 ≤ 9223372036854775807; decide⟩
  match i, hi with
  | 0, _ => show _ = some (Value.string (strE 1 (wkY 0))); rw [wk_str.1]; go_simp
  | 1, _ => show _ = some (Value.string (strE 1 (wkY 1))); rw [wk_str.2.1]; go_simp
theorem wk_four (w : World) : TxtAt (w.alloc (.cells #[.string ⟨#[1]⟩, .string ⟨#[1]⟩, .string ⟨#[0]⟩, .string ⟨#[3]⟩] 9 (0, 0))) (some ⟨w.heap.size, 0, none⟩) 4 (fun _ => 1) wkY := by
  refine ⟨.inr ⟨w.heap.size, 0, rfl, fun i hi => ?_⟩, fun c _ => by show 1 ≤ 9223372036854775807; decide⟩
  match i, hi with
  | 0, _ => show _ = some (Value.string (strE 1 (wkY 0))); rw [wk_str.1]; go_simp
  | 1, _ => show _ = some (Value.string (strE 1 (wkY 1))); rw [wk_str.2.1]; go_simp
  | 2, _ => show _ = some (Value.string (strE 1 (wkY 2))); rw [wk_str.2.2.1]; go_simp
  | 3, _ => show _ = some (Value.string (strE 1 (wkY 3))); rw [wk_str.2.2.2]; go_simp
set_option maxHeartbeats 1000000 in
theorem rsWakes_any (w : World) : Calls Try.prog 6 #[] w fun e w' => e = .returned (.bool true) ∧ Below w.heap.size w w' := by
  have henc := encode_any (some ⟨w.heap.size, 0, none⟩) 2 2 (fun _ => 1) wkY _ (by decide) (by decide) (wk_two w)
  rw [wk_enc.1, wk_enc.2.1, wk_enc.2.2] at henc
  have hchk := fun x : World => check_any (some ⟨x.heap.size, 0, none⟩) 4 4 (fun _ => 1) wkY _ (by decide) (by decide) (wk_four x)
  rw [wk_chk] at hchk
  go_enter Try.func6, Try.ntmps6
  go_wp2_with fail
  go_at_call 7
  refine henc.mono ?_
  rintro e w2 ⟨hb2, rfl⟩
  have hb02 : Below w.heap.size w w2 := ((Below.refl _ _).alloc (Nat.le_refl _) _).trans (hb2.mono (by simp))
  go_wp2_with fail
  go_at_call 9
  refine (hchk _).mono ?_
  rintro e w3 ⟨hb3, rfl⟩
  have hb03 : Below w.heap.size w w3 := (hb02.alloc hb02.size _).trans (hb3.mono (Nat.le_trans hb02.size (by simp)))
  go_wp2_with fail
  go_ret
  exact ⟨rfl, hb03⟩
end Go.Proofs.Ytdpcbiccbhlonab
