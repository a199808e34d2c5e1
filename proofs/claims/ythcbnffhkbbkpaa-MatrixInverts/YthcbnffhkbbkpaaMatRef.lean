/- The document's unit matrix, its matrix of powers and its product. -/
import Derived.Test.YthcbnffhkbbkpaaMatSame
import Derived.Test.YthcbnffhkbbkpaaGfRefPow
import Derived.Test.YthcbnffhkbbkpaaGfRefAdd
namespace Go.Proofs.Ythcbnffhkbbkpaa
open Go.RowKit Go.PlainAid
set_option linter.unusedVariables false

section
variable {ops : Array Oper} {rest : List Oper} {o : Oper} {a : Act} {Q : Exit → Act → World → Prop}
theorem push_row_at (hgd : o.guard = none) (s x : Operand) (t : TypeId) (ho : o.op = .call { callee := .builtin .append, args := #[s, x], argTypes := #[t, t] }) (ht : Try.prog.underlying t = some (.slice 48))
    (w0 : World) (base : Nat) (vo v : Value) (k : Nat) (L : Nat → Nat) (X : Mx) (hA : AccM w0 base vo k L X) (hv : w0.ownsRow base 5 1 v (L k) (bytesL (L k) (X k))) (hs : a.eval s = vo)
    (sz : Nat) (hx : a.eval x = .slice (some ⟨sz, 0, none⟩) 1 1) (hsz : sz = w0.heap.size) (hk : k < 1000) (hbase : base ≤ w0.heap.size)
    (h : ∀ vo' w', AccM w' base vo' (k + 1) L X → Below base w0 w' → wpList Try.prog ops Q rest (a.put o.dst vo') w') :
    wpList Try.prog ops Q (o :: rest) a (w0.alloc (.cells #[v] 48 (0, 0))) := by
  subst hsz
  exact push_row hgd s x t ho ht w0 base vo v k L X hs hA hv hx hk hbase h
theorem push_byte_at (hgd : o.guard = none) (s x : Operand) (ho : o.op = .call { callee := .builtin .append, args := #[s, x], argTypes := #[48, 48] })
    (w0 : World) (base : Nat) (v : Value) (k : Nat) (f : Nat → E) (hA : w0.ownsRow base 5 1 v k (bytesL k f)) (hs : a.eval s = v) (b : Value) (hbv : b = byteV (f k))
    (sz : Nat) (hx : a.eval x = .slice (some ⟨sz, 0, none⟩) 1 1) (hsz : sz = w0.heap.size) (hk : k < 1000000000) (hbase : base ≤ w0.heap.size)
    (h : ∀ v' w', w'.ownsRow base 5 1 v' (k + 1) (bytesL (k + 1) f) → Below base w0 w' → wpList Try.prog ops Q rest (a.put o.dst v') w') :
    wpList Try.prog ops Q (o :: rest) a (w0.alloc (.cells #[b] 5 (0, 0))) := by
  subst hsz
  subst hbv
  exact push_byte hgd s x ho w0 base v k f hs hA hx hk hbase h
end
theorem id_row (n r : Nat) (hr : r < n) : (List.replicate n (Value.int .u8 0)).set r (.int .u8 1) = bytesL n (idM r) := by
  unfold bytesL
  apply List.ext_getElem
  · simp
  · intro i h1 h2
    rw [List.getElem_set]
    simp only [List.getElem_replicate, List.getElem_map, List.getElem_range, idM]
    by_cases e : r = i
    · subst e; simp [byteV, E.one_v]
    · simp [e, byteV, E.zero_v]

theorem owns_mono {w : World} {base base' : Nat} {e : TypeId} {size : Nat} {v : Value} {n : Nat} {xs : List Value} (h : w.ownsRow base e size v n xs) (hb : base' ≤ base) : w.ownsRow base' e size v n xs := by
  refine ⟨h.1, ?_⟩
  rcases h.2 with hn | ⟨g, cap, cur, rfl, hg0, rest⟩
  · exact .inl hn
  · exact .inr ⟨g, cap, cur, rfl, Nat.le_trans hb hg0, rest⟩

end Go.Proofs.Ythcbnffhkbbkpaa
