/- What the document fixes of layer 13; texts and numbers that came in. -/
import Derived.Test.YtnlgpodeblmlhaaCdRead2
import Derived.Test.YtnlgpodeblmlhaaCdRNum
namespace Go.Proofs.Ytnlgpodeblmlhaa
open Go.ChangeShapes Go.WideShapes Go.ChangeAt Go.RowKit Go.PlainAid
set_option linter.unusedVariables false

def abB : ByteArray := ⟨#[97, 98]⟩
def abW : ByteArray := ⟨#[0, 0, 0, 0, 0, 0, 0, 2, 97, 98]⟩
theorem ab_text : textB abB = abW := by decide +kernel
theorem ab_tx : txV abW 0 = abB ∧ txL abW 0 = noB ∧ txE abW 0 = 0 := by
  have h := tx_text abB noB (by decide)
  have e : textB abB ++ noB = abW := by decide +kernel
  rw [e] at h
  exact h
theorem ab_done : dnE noB 0 = 0 := rfl
set_option maxRecDepth 20000 in
theorem cwakes_any (w : World) : Calls Try.prog 9 #[] w fun e w' => e = .returned (.bool true) ∧ Below w.heap.size w w' := by
  have ht := ctextF_any abB (by decide) w
  rw [ab_text] at ht
  have hx : Hid (∀ w1, Below w.heap.size w w1 → Calls Try.prog 14 #[.string abW] w1 fun x w' => ∃ g, x = .returned (.pointer (some ⟨g, 0, none⟩)) ∧ Hold w.heap.size w w' (star (rdr g abW 0) nought)) := fun w1 h1 => cnew_any firm_nought (hold_nought _ _ _ h1.size h1) abW
  have hr : Hid (∀ w2 g, Hold w.heap.size w w2 (star (rdr g abW 0) nought) → Calls Try.prog 19 #[.pointer (some ⟨g, 0, none⟩)] w2 fun x w' => x = .returned (.string abB) ∧ Hold w.heap.size w w' (star (rdr g noB 0) nought)) := fun w2 g h2 => by
    have := ctext_any firm_nought h2 (by decide)
    rw [ab_tx.1, ab_tx.2.1, ab_tx.2.2] at this
    exact this
  unfold abB abW at *
  go_enter Try.func9, Try.ntmps9
  go_wp2_with (first
    | (go_at_call 12; refine ht.mono ?_; rintro x w1 ⟨rfl, hb1⟩; have H1 : Hid (Below _ _ _) := hb1; clear ht hb1)
    | (go_at_call 14; refine (hx.out _ H1.out).mono ?_; rintro x w2 ⟨g, rfl, h2⟩; have H2 : Hid (Hold _ _ _ _) := h2; clear H1 hx h2)
    | (go_at_call 19; refine (hr.out _ _ H2.out).mono ?_; rintro x w3 ⟨rfl, h3⟩; have H3 : Hid (Hold _ _ _ _) := h3; clear H2 hr h3)
    | (go_at_call 23; refine (cleft_any H3.out).mono ?_; rintro x w4 ⟨rfl, hw⟩; rw [hw]; clear hw w4)
    | (go_at_call 21; refine (cdone_any H3.out).mono ?_; rw [ab_done]; rintro x w4 ⟨rfl, hw⟩; rw [hw]; clear hw w4))
  go_ret
  exact ⟨rfl, H3.out.low⟩
/-- Numbers, big numbers, texts that came in. -/
abbrev i64Ok (n : Int) : Prop := -9223372036854775808 ≤ n ∧ n ≤ 9223372036854775807
abbrev u64Ok (n : Int) : Prop := 0 ≤ n ∧ n ≤ 18446744073709551615
abbrev strOk (s : ByteArray) : Prop := s.size ≤ maxLen
section
variable {H : Type} {enc : TypeId × Value → H} {W : World}
theorem cints_arg {a : Option Addr} {len cap : Nat} {d : DataW H} {p : List MemPlace} (h : DataW.Trod enc Try.prog W 0 (fun _ => true) true 27 (.slice a len cap) d p) : Came i64Ok (fun n => [.int .i64 n]) 1 W a len cap :=
  came_arg 0 _ _ 1 (fun _ => rfl) (by decide) Try.underlying27 (by kernel_rfl) (fun fuel cs x h => by
    obtain ⟨n, e, -, hw⟩ := DataW.trod_int Try.underlying3 h
    exact ⟨n, bounds_i64 hw, e⟩) h
theorem cu64s_arg {a : Option Addr} {len cap : Nat} {d : DataW H} {p : List MemPlace} (h : DataW.Trod enc Try.prog W 0 (fun _ => true) true 45 (.slice a len cap) d p) : Came u64Ok (fun n => [.int .u64 n]) 1 W a len cap :=
  came_arg 0 _ _ 1 (fun _ => rfl) (by decide) Try.underlying45 (by kernel_rfl) (fun fuel cs x h => by
    obtain ⟨n, e, -, hw⟩ := DataW.trod_int Try.underlying22 h
    exact ⟨n, bounds_u64 hw, e⟩) h
theorem cstrs_arg {a : Option Addr} {len cap : Nat} {d : DataW H} {p : List MemPlace} (h : DataW.Trod enc Try.prog W 0 (fun _ => true) true 44 (.slice a len cap) d p) : Came strOk (fun s => [.string s]) 1 W a len cap :=
  came_arg noB _ _ 1 (fun _ => rfl) (by decide) Try.underlying44 (by kernel_rfl) (fun fuel cs x h => by
    obtain ⟨n, e, -, hw⟩ := DataW.trod_string Try.underlying9 h
    exact ⟨n, hw, e⟩) h
end
end Go.Proofs.Ytnlgpodeblmlhaa
