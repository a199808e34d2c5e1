/- Two rows of bytes side by side, each growing. -/
import Derived.Test.YtdpcbiccbhlonabMatRef
import Derived.Maps.AppendAt
namespace Go.Proofs.Ytdpcbiccbhlonab
open Go.RowKit
set_option linter.unusedVariables false

def Apart (v u : Value) : Prop := v.ownBlock = none ∨ v.ownBlock ≠ u.ownBlock
theorem Apart.symm {v u : Value} (h : Apart v u) : Apart u v := by
  rcases h with h | h
  · cases e : u.ownBlock with
    | none => exact .inl e
    | some g => exact .inr (by rw [h]; simp [e])
  · exact .inr (fun e => h e.symm)
theorem apart_nil (u : Value) : Apart (.slice none 0 0) u := .inl rfl
section
variable {ops : Array Oper} {rest : List Oper} {o : Oper} {a : Act} {Q : Exit → Act → World → Prop}
/-- A byte appended to a row, other rows of bytes staying as they are. -/
theorem push_byte_two (hgd : o.guard = none) (s x : Operand) (ho : o.op = .call { callee := .builtin .append, args := #[s, x], argTypes := #[28, 28] })
    (w0 : World) (base : Nat) (v : Value) (k : Nat) (f : Nat → E) (hA : w0.ownsRow base 5 1 v k (bytesL k f)) (hs : a.eval s = v) (b : Value) (hbv : b = byteV (f k))
    (sz : Nat) (hx : a.eval x = .slice (some ⟨sz, 0, none⟩) 1 1) (hsz : sz = w0.heap.size) (hk : k < 1000000000) (hbase : base ≤ w0.heap.size)
    (h : ∀ v' w', w'.ownsRow base 5 1 v' (k + 1) (bytesL (k + 1) f) → (∀ u e n xs, w0.ownsRow base e 1 u n xs → Apart v u → w'.ownsRow base e 1 u n xs ∧ Apart v' u) → Below base w0 w' → wpList Try.prog ops Q rest (a.put o.dst v') w') :
    wpList Try.prog ops Q (o :: rest) a (w0.alloc (.cells #[b] 5 (0, 0))) := by
  subst hsz
  subst hbv
  obtain ⟨i0, hi, hz0, hz1, hz2⟩ := info_parts Try.info5
  refine wpList_append_own_at _ hgd s x 28 ho base 5 i0 (.int .u8 0) 1 1 Try.underlying28 hi hz0 hz1 hz2 rfl (by decide) v k _ hs (hA.alloc _) ⟨w0.heap.size, 0, none⟩ 1 1 [byteV (f k)] hx rfl ?_ ?_ ?_ ?_ ?_ ?_
  · intro j u hu
    match j, hu with
    | 0, hu => simp at hu; subst hu; simp [Addr.add]
  · intro u hu; simp at hu; subst hu; rfl
  · unfold maxLen; omega
  · omega
  · simp; omega
  · intro v' w' hown hgrow _ hat
    have hb0 : Below w0.heap.size w0 (w0.alloc (.cells #[byteV (f k)] 5 (0, 0))) := (Below.refl _ _).alloc (Nat.le_refl _) _
    refine h v' w' (by rw [bytesL_succ]; exact hown) (fun u e n xs hu hap => ⟨(hu.alloc _).kept hgrow ?_, ?_⟩) ?_
    · rcases hap.symm with h | h
      · exact .inl h
      · exact .inr h
    · rcases hat with hat | hat
      · unfold Apart; rw [hat]; exact hap
      · refine .inr fun e => ?_
        rw [hat] at e
        have := (hu.lt _ e.symm).2
        have := hb0.size
        omega
    · exact (hb0.mono hbase).grown hgrow (by simp; omega) (fun g hg => (hA.lt g hg).1)
end
end Go.Proofs.Ytdpcbiccbhlonab
