/- A matrix copied, row by row. -/
import Derived.Test.YtdpcbiccbhlonabMatApp
import Derived.Test.YtdpcbiccbhlonabMatRef
namespace Go.Proofs.Ytdpcbiccbhlonab
open Go.RowKit Go.PlainAid
set_option linter.unusedVariables false

theorem app_src (x : World) (ar : Option Addr) (k cr : Nat) (f : Nat → E) (h : RowAt x ar k f) (hn : ar = none → cr = 0 ∧ k = 0) (hk : k ≤ 1000) :
    ∃ v' w', (∀ ty, (Builtin.append_ #[28, 28] ty #[.slice none 0 0, .slice ar k cr]).run Try.prog x = .ok v' w') ∧ w'.ownsRow x.heap.size 5 1 v' k (bytesL k f) ∧ Below x.heap.size x w' := by
  obtain ⟨i, hi, hz0, hz1, hz2⟩ := info_parts Try.info5
  cases ar with
  | none =>
    obtain ⟨rfl, rfl⟩ := hn rfl
    exact ⟨.slice none 0 0, x, fun ty => run_append_owned_none (P := Try.prog) (w := x) x.heap.size 28 ty 5 i 1 Try.underlying28 hi _ 0 [] (World.ownsRow_nil _ _ _ _), World.ownsRow_nil _ _ _ _, Below.refl _ _⟩
  | some a =>
    have hnews : ∀ j u, (bytesL k f)[j]? = some u → x.cell? (a.add j) = some u := fun j u hu => by
      have hj : j < k := by
        rcases Nat.lt_or_ge j k with h | h
        · exact h
        · rw [List.getElem?_eq_none (by rw [bytesL_length]; exact h)] at hu; cases hu
      rcases h with h0 | ⟨b, o, e, h⟩
      · omega
      · cases e
        rw [bytesL_at k f j hj] at hu
        rw [show ((⟨b, o, none⟩ : Addr).add j) = ⟨b, o + j, none⟩ from by simp [Addr.add], h j hj]
        exact hu
    have h1 : ∀ u ∈ bytesL k f, u.oneCell' = true := fun v hv => by
      obtain ⟨i, _, rfl⟩ := List.mem_map.1 hv
      rfl
    have key : ∀ ty, ∃ v' w', (Builtin.append_ #[28, 28] ty #[.slice none 0 0, .slice (some a) k cr]).run Try.prog x = .ok v' w' ∧ w'.ownsRow x.heap.size 5 1 v' (0 + k) ([] ++ bytesL k f) ∧ x.grownBy w' none := fun ty => by
      obtain ⟨v', w', e1, e2, e3, _⟩ := run_append_own (P := Try.prog) x x.heap.size 28 ty 5 i (.int .u8 0) 1 1 Try.underlying28 hi hz0 hz1 hz2 rfl (by decide) (.slice none 0 0) 0 [] (World.ownsRow_nil _ _ _ _) a k cr (bytesL k f) (by rw [bytesL_length]; omega) hnews h1 (by unfold maxLen; omega) (by omega) (Nat.le_refl _)
      exact ⟨v', w', e1, e2, e3⟩
    obtain ⟨v', w', e1, e2, e3⟩ := key 28
    refine ⟨v', w', fun ty => ?_, by simpa using e2, (Below.refl _ _).grown e3 (Nat.le_refl _) (fun k h => by cases h)⟩
    exact e1
theorem step_append_run {ops : Array Oper} {o : Oper} {a : Act} {w : World} {K : Act → World → Prop} {Q : Exit → Act → World → Prop} {E' : Prop} (hgd : o.guard = none) (s x : Operand) (t tn : TypeId)
    (ho : o.op = .call { callee := .builtin .append, args := #[s, x], argTypes := #[t, tn] }) (vs vx : Value) (hs : a.eval s = vs) (hx : a.eval x = vx)
    (v' : Value) (w' : World) (hr : ∀ ty, (Builtin.append_ #[t, tn] ty #[vs, vx]).run Try.prog w = .ok v' w') (h : K (a.put o.dst v') w') :
    if Region.wanted o (yielded ops a.tmps) = true then Oper.wp Try.prog o a w K Q else E' := by
  have hw : Region.wanted o (yielded ops a.tmps) = true := by simp [Region.wanted, hgd]
  rw [if_pos hw]
  exact Lib.wp_append_run w s x t tn ho vs vx hs hx v' w' (hr _) h
theorem acc_empty (w : World) (base : Nat) (L : Nat → Nat) (X : Mx) (hb : base ≤ w.heap.size) : AccM (w.alloc (.cells #[] 28 (0, 0))) base (.slice (some ⟨w.heap.size, 0, none⟩) 0 0) 0 L X :=
  ⟨fun _ => undef, ⟨by simp, .inr ⟨w.heap.size, 0, #[], rfl, hb, heap_alloc_new w _, Nat.le_refl _, Nat.zero_le _, by simp, by simp⟩⟩, fun r hr => by omega⟩

end Go.Proofs.Ytdpcbiccbhlonab
