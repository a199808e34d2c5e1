/- Two matrices compared; what the document fixes. -/
import Derived.Test.YtdpcbiccbhlonabMatInv
namespace Go.Proofs.Ytdpcbiccbhlonab
open Go.RowKit Go.PlainAid
set_option linter.unusedVariables false

theorem conv_at {w : World} {a : Option Addr} {n cap : Nat} {f : Nat → E} (h : RowAt w a n f) : (convert 28 9 (.slice a n cap)).run Try.prog w = .ok (.string (strE n f)) w := by
  rcases h with h0 | ⟨b, o, rfl, h⟩
  · subst h0
    have e : strE 0 f = strOfNums [] := rfl
    rw [e]
    cases a with
    | none => exact run_convert_bytes_nil w 28 5 Try.underlying28 Try.underlying5 0 cap 9 Try.underlying9
    | some ad =>
      have hl : (loadCells ad 0).run Try.prog w = .ok (([] : List Int).map (Value.int .u8)).toArray w := run_loadCells_list (P := Try.prog) w ad [] (fun j v hj => by simp at hj)
      rw [run_convert_bytes_string w 28 9 5 _ 0 cap Try.underlying28 Try.underlying5 Try.underlying9, run_bytesToString w _ 0 cap [] hl]
      rfl
  · exact run_convert_bytes_arg (P := Try.prog) w 28 5 Try.underlying28 Try.underlying5 b o n cap (numsE n f) (numsE_length n f) (fun i hi => by
      rw [h i hi]
      simp [numsE, List.getD, hi, byteV]) 9 Try.underlying9

def wkA : Mx := fun r c => if r = 1 ∧ c = 1 then ⟨2, by decide⟩ else 1
def wkB : Mx := fun r c => if r = 0 ∧ c = 0 then ⟨245, by decide⟩ else ⟨244, by decide⟩
theorem wk_right : ∀ r, r < 2 → ∀ c, c < 2 → mulM 2 wkA wkB r c = idM r c := by
  intro r hr c hc
  have h1 : r = 0 ∨ r = 1 := by omega
  have h2 : c = 0 ∨ c = 1 := by omega
  rcases h1 with rfl | rfl <;> rcases h2 with rfl | rfl <;> exact E.same (by decide +kernel)
theorem wk_left : ∀ r, r < 2 → ∀ c, c < 2 → mulM 2 wkB wkA r c = idM r c := by
  intro r hr c hc
  have h1 : r = 0 ∨ r = 1 := by omega
  have h2 : c = 0 ∨ c = 1 := by omega
  rcases h1 with rfl | rfl <;> rcases h2 with rfl | rfl <;> exact E.same (by decide +kernel)
/-- Two rows of two, laid one by one. -/
theorem mat_two (w : World) (t : TypeId) (x00 x01 x10 x11 : Int) (X : Mx) (h00 : x00 = (X 0 0).v) (h01 : x01 = (X 0 1).v) (h10 : x10 = (X 1 0).v) (h11 : x11 = (X 1 1).v) :
    MatAt (((w.alloc (.cells #[.int .u8 x00, .int .u8 x01] 5 (0, 0))).alloc (.cells #[.int .u8 x10, .int .u8 x11] 5 (0, 0))).alloc (.cells #[.slice (some ⟨w.heap.size, 0, none⟩) 2 2, .slice (some ⟨w.heap.size + 1, 0, none⟩) 2 2] t (0, 0)))
      (some ⟨w.heap.size + 2, 0, none⟩) 2 (fun _ => 2) X := by
  have two : ∀ k, k < 2 → k = 0 ∨ k = 1 := fun k hk => by omega
  refine ⟨fun r => some ⟨w.heap.size + r, 0, none⟩, fun _ => 2, .inr ⟨_, 0, rfl, fun r hr => ?_⟩, fun r hr => ⟨by show 2 ≤ maxLen; decide, .inr ⟨_, 0, rfl, fun c hc => ?_⟩⟩⟩
  · rcases two r hr with rfl | rfl
    · go_simp
    · go_simp
  · have hc' : c < 2 := hc
    rcases two r hr with rfl | rfl <;> rcases two c hc' with rfl | rfl
    · rw [h00]; go_simp; rfl
    · rw [h01]; go_simp; rfl
    · rw [h10]; go_simp; rfl
    · rw [h11]; go_simp; rfl
theorem gd_two : Gd 2 (fun _ => 2) := ⟨by decide, by decide, by decide, by decide, fun _ _ => rfl⟩

end Go.Proofs.Ytdpcbiccbhlonab
