/- A matrix times texts: the document's answer. -/
import Derived.Test.YtdpcbiccbhlonabMatApply
namespace Go.Proofs.Ytdpcbiccbhlonab
open Go.RowKit Go.PlainAid
set_option linter.unusedVariables false

/-- Texts, one behind the other. -/
def strsL (k : Nat) (f : Nat → ByteArray) : List Value := (List.range k).map fun i => .string (f i)
theorem strsL_length (k : Nat) (f : Nat → ByteArray) : (strsL k f).length = k := by simp [strsL]
theorem strsL_at (k : Nat) (f : Nat → ByteArray) (i : Nat) (h : i < k) : (strsL k f)[i]? = some (.string (f i)) := by simp [strsL, h]
theorem strsL_succ (k : Nat) (f : Nat → ByteArray) : strsL (k + 1) f = strsL k f ++ [.string (f k)] := by
  unfold strsL; rw [List.range_succ, List.map_append]; rfl

section
variable {ops : Array Oper} {rest : List Oper} {o : Oper} {a : Act} {Q : Exit → Act → World → Prop}
/-- A text appended to texts. -/
theorem push_str_at (hgd : o.guard = none) (s x : Operand) (ho : o.op = .call { callee := .builtin .append, args := #[s, x], argTypes := #[22, 22] })
    (w0 : World) (base : Nat) (v : Value) (k : Nat) (f : Nat → ByteArray) (hA : w0.ownsRow base 9 1 v k (strsL k f)) (hs : a.eval s = v) (b : Value) (hbv : b = .string (f k))
    (sz : Nat) (hx : a.eval x = .slice (some ⟨sz, 0, none⟩) 1 1) (hsz : sz = w0.heap.size) (hk : k < 1000000000) (hbase : base ≤ w0.heap.size)
    (h : ∀ v' w', w'.ownsRow base 9 1 v' (k + 1) (strsL (k + 1) f) → Below base w0 w' → wpList Try.prog ops Q rest (a.put o.dst v') w') :
    wpList Try.prog ops Q (o :: rest) a (w0.alloc (.cells #[b] 9 (0, 0))) := by
  subst hsz
  subst hbv
  obtain ⟨i0, hi, hz0, hz1, hz2⟩ := info_parts Try.info9
  refine wpList_append_own _ hgd s x 22 ho base 9 i0 (.string ⟨#[]⟩) 1 16 Try.underlying22 hi hz0 hz1 hz2 rfl (by decide) v k _ hs (hA.alloc _) ⟨w0.heap.size, 0, none⟩ 1 1 [.string (f k)] hx rfl ?_ ?_ ?_ ?_ ?_ ?_
  · intro j u hu
    match j, hu with
    | 0, hu => simp at hu; subst hu; simp [Addr.add]
  · intro u hu; simp at hu; subst hu; rfl
  · unfold maxLen; omega
  · omega
  · simp; omega
  · intro v' w' hown hgrow _
    have hb0 : Below w0.heap.size w0 (w0.alloc (.cells #[.string (f k)] 9 (0, 0))) := (Below.refl _ _).alloc (Nat.le_refl _) _
    refine h v' w' (by rw [strsL_succ]; exact hown) ?_
    exact (hb0.mono hbase).grown hgrow (by simp; omega) (fun g hg => (hA.lt g hg).1)
end
theorem txt_of_owns {w : World} {base n : Nat} {v : Value} {m : Nat} {X : Mx} (h : w.ownsRow base 9 1 v n (strsL n fun r => strE m (X r))) (hm : m ≤ 65536) : ∃ a c, v = .slice a n c ∧ n ≤ c ∧ c ≤ 9223372036854775807 ∧ TxtAt w a n (fun _ => m) X := by
  obtain ⟨a, c, rfl, _, hv⟩ := owns_form h _ (fun i hi => strsL_at _ _ i hi)
  refine ⟨a, c, rfl, ?_, ?_, hv, fun _ _ => by show m ≤ _; omega⟩
  · rcases h.2 with ⟨h0, h1⟩ | ⟨g, cap, cur, e, _, _, h1, _⟩
    · omega
    · cases e; exact h1
  · rcases h.2 with ⟨h0, h1⟩ | ⟨g, cap, cur, e, _, _, _, h1, _⟩
    · cases h0; omega
    · cases e; unfold maxLen at h1; omega

end Go.Proofs.Ytdpcbiccbhlonab
