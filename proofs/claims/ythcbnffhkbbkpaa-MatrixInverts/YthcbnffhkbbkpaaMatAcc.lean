/- Rows gathered one by one by append: bytes into a row, rows into a matrix. -/
import Derived.Test.YthcbnffhkbbkpaaMatFill
namespace Go.Proofs.Ythcbnffhkbbkpaa
open Go.RowKit
set_option linter.unusedVariables false

theorem owns_below {w w' : World} {base : Nat} {e : TypeId} {size : Nat} {v : Value} {n : Nat} {xs : List Value} (h : w.ownsRow base e size v n xs) (hb : Below w.heap.size w w') : w'.ownsRow base e size v n xs := by
  refine ⟨h.1, ?_⟩
  rcases h.2 with hn | ⟨g, cap, cur, rfl, hg0, hg, rest⟩
  · exact .inl hn
  · exact .inr ⟨g, cap, cur, rfl, hg0, (hb.block g (Array.getElem?_eq_some_iff.1 hg).1).trans hg, rest⟩
/-- Rows of unlike types lie apart. -/
theorem owns_apart {w : World} {b b' : Nat} {e e' : TypeId} {z z' n n' : Nat} {v v' : Value} {xs xs' : List Value} (h : w.ownsRow b e z v n xs) (h' : w.ownsRow b' e' z' v' n' xs') (he : e ≠ e') :
    v'.ownBlock = none ∨ v'.ownBlock ≠ v.ownBlock := by
  rcases h'.2 with ⟨rfl, _⟩ | ⟨g', cap', cur', rfl, _, hg', _⟩
  · exact .inl rfl
  · refine .inr fun hh => ?_
    rcases h.2 with ⟨rfl, _⟩ | ⟨g, cap, cur, rfl, _, hg, _⟩
    · cases hh
    · have : g' = g := Option.some.inj hh
      subst this
      rw [hg] at hg'
      cases hg'
      exact he rfl
theorem owns_form {w : World} {base : Nat} {e : TypeId} {v : Value} {n : Nat} {xs : List Value} (h : w.ownsRow base e 1 v n xs) (f : Nat → Value) (hx : ∀ i, i < n → xs[i]? = some (f i)) :
    ∃ a cap, v = .slice a n cap ∧ n ≤ maxLen ∧ Vals w a n f := by
  have hc := h
  rcases h.2 with ⟨rfl, h0⟩ | ⟨g, cap, cur, rfl, hb, hg, h1, h2, _⟩
  · subst h0; exact ⟨none, 0, rfl, Nat.zero_le _, .inl rfl⟩
  · refine ⟨_, cap, rfl, Nat.le_trans h1 h2, .inr ⟨g, 0, rfl, fun i hi => ?_⟩⟩
    rw [Nat.zero_add, hc.cellAt i (by omega), hx i hi]
theorem bytesL_length (m : Nat) (f : Nat → E) : (bytesL m f).length = m := by simp [bytesL]
theorem bytesL_at (m : Nat) (f : Nat → E) (i : Nat) (h : i < m) : (bytesL m f)[i]? = some (byteV (f i)) := by simp [bytesL, h]
theorem bytesL_succ (m : Nat) (f : Nat → E) : bytesL (m + 1) f = bytesL m f ++ [byteV (f m)] := by
  unfold bytesL; rw [List.range_succ, List.map_append]; rfl

def slA : Value → Option Addr
  | .slice a _ _ => a
  | _ => none
def slC : Value → Nat
  | .slice _ _ c => c
  | _ => 0
/-- k rows, of L's lengths, gathered. -/
def AccM (w : World) (base : Nat) (vo : Value) (k : Nat) (L : Nat → Nat) (X : Mx) : Prop :=
  ∃ R : Nat → Value, w.ownsRow base 48 1 vo k ((List.range k).map R) ∧ ∀ r, r < k → w.ownsRow base 5 1 (R r) (L r) (bytesL (L r) (X r))
theorem AccM.nil (w : World) (base : Nat) (L : Nat → Nat) (X : Mx) : AccM w base (.slice none 0 0) 0 L X :=
  ⟨fun _ => undef, World.ownsRow_nil _ _ _ _, fun r hr => by omega⟩
theorem AccM.below {w w' : World} {base : Nat} {vo : Value} {k : Nat} {L : Nat → Nat} {X : Mx} (h : AccM w base vo k L X) (hb : Below w.heap.size w w') : AccM w' base vo k L X := by
  obtain ⟨R, h1, h2⟩ := h
  exact ⟨R, owns_below h1 hb, fun r hr => owns_below (h2 r hr) hb⟩
theorem AccM.mat {w : World} {base : Nat} {vo : Value} {k : Nat} {L : Nat → Nat} {X : Mx} (h : AccM w base vo k L X) : ∃ a cap, vo = .slice a k cap ∧ k ≤ maxLen ∧ MatAt w a k L X := by
  obtain ⟨R, h1, h2⟩ := h
  obtain ⟨a, cap, rfl, hk, hv⟩ := owns_form h1 R (fun i hi => by simp [hi])
  refine ⟨a, cap, rfl, hk, fun r => slA (R r), fun r => slC (R r), ?_, fun r hr => ?_⟩
  · rcases hv with h0 | ⟨b, o, rfl, hv⟩
    · exact .inl h0
    · refine .inr ⟨b, o, rfl, fun i hi => ?_⟩
      obtain ⟨a', c', e, _, _⟩ := owns_form (h2 i hi) _ (fun j hj => bytesL_at _ _ j hj)
      show _ = some (Value.slice (slA (R i)) (L i) (slC (R i)))
      rw [hv i hi, e]
      rfl
  · obtain ⟨a', c', e, hl, hv'⟩ := owns_form (h2 r hr) _ (fun j hj => bytesL_at _ _ j hj)
    refine ⟨hl, ?_⟩
    show RowAt w (slA (R r)) (L r) (X r)
    rw [e]
    exact hv'
theorem AccM.push {w w1 w' : World} {base : Nat} {vo vo' v : Value} {k : Nat} {L : Nat → Nat} {X : Mx} {R : Nat → Value}
    (h2 : ∀ r, r < k → w.ownsRow base 5 1 (R r) (L r) (bytesL (L r) (X r))) (hv : w.ownsRow base 5 1 v (L k) (bytesL (L k) (X k))) (h1 : w.ownsRow base 48 1 vo k ((List.range k).map R))
    (hb : Below w.heap.size w w1) (hown : w'.ownsRow base 48 1 vo' (k + 1) ((List.range k).map R ++ [v])) (hg : w1.grownBy w' vo.ownBlock) : AccM w' base vo' (k + 1) L X := by
  refine ⟨fun r => if r < k then R r else v, ?_, fun r hr => ?_⟩
  · have : (List.range (k + 1)).map (fun r => if r < k then R r else v) = (List.range k).map R ++ [v] := by
      rw [List.range_succ, List.map_append]
      congr 1
      · exact List.map_congr_left fun r hr => by simp [List.mem_range.1 hr]
      · simp
    rw [this]
    exact hown
  · by_cases e : r < k
    · simp only [if_pos e]
      exact (owns_below (h2 r e) hb).kept hg (owns_apart (owns_below h1 hb) (owns_below (h2 r e) hb) (by decide))
    · obtain rfl : r = k := by omega
      simp only [if_neg e]
      exact (owns_below hv hb).kept hg (owns_apart (owns_below h1 hb) (owns_below hv hb) (by decide))

section
variable {ops : Array Oper} {rest : List Oper} {o : Oper} {a : Act} {Q : Exit → Act → World → Prop}
/-- A row appended to rows. -/
theorem push_row (hgd : o.guard = none) (s x : Operand) (t : TypeId) (ho : o.op = .call { callee := .builtin .append, args := #[s, x], argTypes := #[t, t] }) (ht : Try.prog.underlying t = some (.slice 48))
    (w0 : World) (base : Nat) (vo v : Value) (k : Nat) (L : Nat → Nat) (X : Mx) (hs : a.eval s = vo) (hA : AccM w0 base vo k L X) (hv : w0.ownsRow base 5 1 v (L k) (bytesL (L k) (X k)))
    (hx : a.eval x = .slice (some ⟨w0.heap.size, 0, none⟩) 1 1) (hk : k < 1000) (hbase : base ≤ w0.heap.size)
    (h : ∀ vo' w', AccM w' base vo' (k + 1) L X → Below base w0 w' → wpList Try.prog ops Q rest (a.put o.dst vo') w') :
    wpList Try.prog ops Q (o :: rest) a (w0.alloc (.cells #[v] 48 (0, 0))) := by
  obtain ⟨j0, hj, hy0, hy1, hy2⟩ := info_parts Try.info48
  obtain ⟨R, h1, h2⟩ := hA
  obtain ⟨a', c', e', _, _⟩ := owns_form hv _ (fun j hj => bytesL_at _ _ j hj)
  refine wpList_append_own _ hgd s x t ho base 48 j0 (.slice none 0 0) 1 24 ht hj hy0 hy1 hy2 rfl (by decide) vo k _ hs (h1.alloc _) ⟨w0.heap.size, 0, none⟩ 1 1 [v] hx rfl ?_ ?_ ?_ ?_ ?_ ?_
  · intro j u hu
    match j, hu with
    | 0, hu => simp at hu; subst hu; simp [Addr.add]
  · intro u hu; simp at hu; subst hu; subst e'; rfl
  · unfold maxLen; omega
  · omega
  · simp; omega
  · intro vo' w' hown hgrow _
    have hb0 : Below w0.heap.size w0 (w0.alloc (.cells #[v] 48 (0, 0))) := (Below.refl _ _).alloc (Nat.le_refl _) _
    refine h vo' w' (AccM.push h2 hv h1 hb0 hown hgrow) ?_
    exact (hb0.mono hbase).grown hgrow (by simp; omega) (fun g hg => (h1.lt g hg).1)
/-- A byte appended to a row. -/
theorem push_byte (hgd : o.guard = none) (s x : Operand) (ho : o.op = .call { callee := .builtin .append, args := #[s, x], argTypes := #[48, 48] })
    (w0 : World) (base : Nat) (v : Value) (k : Nat) (f : Nat → E) (hs : a.eval s = v) (hA : w0.ownsRow base 5 1 v k (bytesL k f))
    (hx : a.eval x = .slice (some ⟨w0.heap.size, 0, none⟩) 1 1) (hk : k < 1000000000) (hbase : base ≤ w0.heap.size)
    (h : ∀ v' w', w'.ownsRow base 5 1 v' (k + 1) (bytesL (k + 1) f) → Below base w0 w' → wpList Try.prog ops Q rest (a.put o.dst v') w') :
    wpList Try.prog ops Q (o :: rest) a (w0.alloc (.cells #[byteV (f k)] 5 (0, 0))) := by
  obtain ⟨i0, hi, hz0, hz1, hz2⟩ := info_parts Try.info5
  refine wpList_append_own _ hgd s x 48 ho base 5 i0 (.int .u8 0) 1 1 Try.underlying48 hi hz0 hz1 hz2 rfl (by decide) v k _ hs (hA.alloc _) ⟨w0.heap.size, 0, none⟩ 1 1 [byteV (f k)] hx rfl ?_ ?_ ?_ ?_ ?_ ?_
  · intro j u hu
    match j, hu with
    | 0, hu => simp at hu; subst hu; simp [Addr.add]
  · intro u hu; simp at hu; subst hu; rfl
  · unfold maxLen; omega
  · omega
  · simp; omega
  · intro v' w' hown hgrow _
    have hb0 : Below w0.heap.size w0 (w0.alloc (.cells #[byteV (f k)] 5 (0, 0))) := (Below.refl _ _).alloc (Nat.le_refl _) _
    refine h v' w' (by rw [bytesL_succ]; exact hown) ?_
    exact (hb0.mono hbase).grown hgrow (by simp; omega) (fun g hg => (hA.lt g hg).1)
end
end Go.Proofs.Ythcbnffhkbbkpaa
