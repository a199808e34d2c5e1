/- Which chunks fit one another: the document's answer; the law's walk. -/
import Derived.Test.YtdpcbiccbhlonabRsEncLaw
namespace Go.Proofs.Ytdpcbiccbhlonab
open Go.RowKit Go.PlainAid
set_option linter.unusedVariables false

section
variable {ops : Array Oper} {rest : List Oper} {o : Oper} {a : Act} {Q : Exit → Act → World → Prop}
/-- Two texts appended. -/
theorem push_strs_two (hgd : o.guard = none) (s x : Operand) (ho : o.op = .call { callee := .builtin .append, args := #[s, x], argTypes := #[22, 22] })
    (w0 : World) (base : Nat) (v : Value) (k : Nat) (f : Nat → ByteArray) (hA : w0.ownsRow base 9 1 v k (strsL k f)) (hs : a.eval s = v) (p q : ByteArray) (hp : p = f k) (hq : q = f (k + 1))
    (sz : Nat) (hx : a.eval x = .slice (some ⟨sz, 0, none⟩) 2 2) (hsz : sz = w0.heap.size) (hk : k < 1000000000) (hbase : base ≤ w0.heap.size)
    (h : ∀ v' w', w'.ownsRow base 9 1 v' (k + 2) (strsL (k + 2) f) → Below base w0 w' → wpList Try.prog ops Q rest (a.put o.dst v') w') :
    wpList Try.prog ops Q (o :: rest) a (w0.alloc (.cells #[.string p, .string q] 9 (0, 0))) := by
  subst hsz
  subst hp
  subst hq
  obtain ⟨i0, hi, hz0, hz1, hz2⟩ := info_parts Try.info9
  refine wpList_append_own _ hgd s x 22 ho base 9 i0 (.string ⟨#[]⟩) 1 16 Try.underlying22 hi hz0 hz1 hz2 rfl (by decide) v k _ hs (hA.alloc _) ⟨w0.heap.size, 0, none⟩ 2 2 [.string (f k), .string (f (k + 1))] hx rfl ?_ ?_ ?_ ?_ ?_ ?_
  · intro j u hu
    match j, hu with
    | 0, hu => simp at hu; subst hu; simp [Addr.add]
    | 1, hu => simp at hu; subst hu; simp [Addr.add]
  · intro u hu; simp at hu; rcases hu with rfl | rfl <;> rfl
  · unfold maxLen; omega
  · omega
  · simp; omega
  · intro v' w' hown hgrow _
    have hb0 : Below w0.heap.size w0 (w0.alloc (.cells #[.string (f k), .string (f (k + 1))] 9 (0, 0))) := (Below.refl _ _).alloc (Nat.le_refl _) _
    refine h v' w' (by rw [strsL_succ, strsL_succ, List.append_assoc]; exact hown) ?_
    exact (hb0.mono hbase).grown hgrow (by simp; omega) (fun g hg => (hA.lt g hg).1)
end
/-- A function on numbers with two values more. -/
def ext2 {α : Type} (f : Nat → α) (k : Nat) (p q : α) : Nat → α := fun i => if i = k then p else if i = k + 1 then q else f i
theorem ext2_lt {α : Type} {f : Nat → α} {k i : Nat} {p q : α} (h : i < k) : ext2 f k p q i = f i := by unfold ext2; rw [if_neg (by omega), if_neg (by omega)]
theorem ext2_k {α : Type} {f : Nat → α} {k : Nat} {p q : α} : ext2 f k p q k = p := if_pos rfl
theorem ext2_k1 {α : Type} {f : Nat → α} {k : Nat} {p q : α} : ext2 f k p q (k + 1) = q := by unfold ext2; rw [if_neg (by omega), if_pos rfl]

end Go.Proofs.Ytdpcbiccbhlonab
