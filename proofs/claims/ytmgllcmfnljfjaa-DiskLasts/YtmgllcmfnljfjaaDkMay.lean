/- Sets of texts, kept as maps in a row. -/
import Derived.Test.YtmgllcmfnljfjaaDkPack
import Derived.Maps.Own
import Derived.Maps.Views
import Derived.StringKeys
namespace Go.Proofs.Ytmgllcmfnljfjaa
open Go.RowKit Go.PlainAid
open Go.Maps (Keyed IsMap)
set_option linter.unusedVariables false

theorem key9 : Keyed Try.prog 9 := Go.Maps.string_keyed Try.underlying9
/-- The map at block b, of at most n entries, has each text of I set. -/
def SetAt (w : World) (b n : Nat) (I : ByteArray → Prop) : Prop := ∃ D : DataW Unit, w.ownsMap Try.prog 9 (plainElem Try.prog 4) b n D ∧ IsMap D ∧ ∀ s : ByteArray, s.size ≤ maxLen → I s → D.atKey (.string s.data.toList) (.lit (.bool false)) = .lit (.bool true)
theorem SetAt.lt {w : World} {b n : Nat} {I : ByteArray → Prop} (h : SetAt w b n I) : b < w.heap.size := by
  obtain ⟨D, h1, _⟩ := h; exact h1.lt
theorem SetAt.kept {F : Nat → Prop} {w w' : World} {b n : Nat} {I : ByteArray → Prop} (h : SetAt w b n I) (hk : Kept F w w') (hb : ¬ F b) : SetAt w' b n I := by
  have hl := h.lt
  obtain ⟨D, ⟨es, clock, h1, h2⟩, h3⟩ := h
  exact ⟨D, ⟨es, clock, (hk.block b hl hb).trans h1, h2⟩, h3⟩
theorem SetAt.mono {w : World} {b n n' : Nat} {I : ByteArray → Prop} (h : SetAt w b n I) (hn : n ≤ n') : SetAt w b n' I := by
  obtain ⟨D, h1, h3⟩ := h; exact ⟨D, h1.mono hn, h3⟩
theorem set_made (w : World) : SetAt (w.alloc (.map #[] 0)) w.heap.size 0 (fun _ => False) := ⟨.map [], World.ownsMap_made w _ _ _, Go.Maps.isMap_empty, fun _ _ h => h.elim⟩
theorem SetAt.put {w : World} {b n : Nat} {I : ByteArray → Prop} (h : SetAt w b n I) (hn : n ≤ 1000000) (t : ByteArray) (ht : t.size ≤ maxLen) :
    ∃ w', (Instr.mapUpdate 50 (.map (some b)) (.string t) (.bool true)).run Try.prog w = .ok () w' ∧ SetAt w' b (n + 1) (fun s => I s ∨ s = t) ∧ Kept (fun k => k = b) w w' := by
  obtain ⟨D, h1, ⟨es, rfl⟩, h3⟩ := h
  obtain ⟨w', hrun, h4, h5⟩ := h1.update key9 Try.underlying50 (by unfold maxLen; omega) (Go.WideMaps.keyOf_string_mk Try.underlying9 ht) (plainElem_bool Try.underlying4 true)
  refine ⟨w', hrun, ⟨_, h4, ⟨_, rfl⟩, fun s hs hI => ?_⟩, ⟨h5.os, h5.tape, h5.output, h5.size, fun k hk hne => h5.block k hk (fun e => hne (Option.some.inj e))⟩⟩
  by_cases e : s = t
  · subst e; exact Go.Maps.atKey_put_same ⟨es, rfl⟩ (show WideAt.IsKeyLit (.string _) from trivial) _ _
  · rw [Go.Maps.atKey_put_other (fun e' => e (by
      have h := Lit.string.inj e'
      exact ByteArray.ext (Array.toList_inj.1 h)))]
    exact h3 s hs (hI.resolve_right e)
theorem SetAt.look {w : World} {b n : Nat} {I : ByteArray → Prop} (h : SetAt w b n I) (s : ByteArray) (hs : s.size ≤ maxLen) (hI : I s) : (Instr.lookup 50 (.map (some b)) (.string s) false).run Try.prog w = .ok (.bool true) w := by
  obtain ⟨D, h1, h2, h3⟩ := h
  obtain ⟨v, ps, hrun, hv⟩ := h1.lookup key9 Try.underlying50 (z := .bool false) (by
    obtain ⟨i0, hi, hz0, hz1, hz2⟩ := info_parts (show (Try.prog.info? 4).map (fun i => (i.zero, i.size, i.bytes)) = some (some (.bool false), 1, 1) by kernel_rfl)
    simp [zeroValue, typeInfo, hi, hz0]) (plainElem_bool Try.underlying4 false) (Go.WideMaps.keyOf_string_mk Try.underlying9 hs)
  rw [h3 s hs hI] at hv
  have : v = .bool true := by
    unfold plainElem at hv
    rw [Try.underlying4] at hv
    cases v <;> simp at hv ⊢
    exact hv.1
  rw [this] at hrun
  exact hrun
/-- Twenty maps, the first k of them laid. -/
def mapsL (k : Nat) (mb : Nat → Nat) : List Value := (List.range 20).map fun i => .map (if i < k then some (mb i) else none)
theorem mapsL_at (k : Nat) (mb : Nat → Nat) (i : Nat) (h : i < 20) : (mapsL k mb)[i]? = some (.map (if i < k then some (mb i) else none)) := by simp [mapsL, h]
theorem mapsL_set (k : Nat) (mb : Nat → Nat) (b : Nat) (h : k < 20) : (mapsL k mb).set k (.map (some b)) = mapsL (k + 1) (fun i => if i = k then b else mb i) := by
  apply List.ext_getElem?
  intro i
  by_cases e : i = k
  · subst e; rw [List.getElem?_set_self (by simp [mapsL]; exact h), mapsL_at _ _ _ h, if_pos (by omega), if_pos rfl]
  · rw [List.getElem?_set_ne (fun h => e h.symm)]
    by_cases hi : i < 20
    · rw [mapsL_at _ _ _ hi, mapsL_at _ _ _ hi]
      by_cases h1 : i < k
      · rw [if_pos h1, if_pos (by omega), if_neg e]
      · rw [if_neg h1, if_neg (by omega)]
    · rw [List.getElem?_eq_none (by simp [mapsL]; omega), List.getElem?_eq_none (by simp [mapsL]; omega)]
/-- The row gm of maps, the i-th one with the texts of I i set. -/
def mays (gm k n : Nat) (mb : Nat → Nat) (I : Nat → ByteArray → Prop) : Asn := fun w F => Blk w gm 50 (mapsL k mb) ∧ F gm ∧ (∀ i, i < k → SetAt w (mb i) n (I i) ∧ F (mb i) ∧ mb i ≠ gm) ∧ (∀ i j, i < k → j < k → mb i = mb j → i = j) ∧ ∀ x, F x → x < w.heap.size
theorem firm_mays (gm k n : Nat) (mb : Nat → Nat) (I : Nat → ByteArray → Prop) : Firm (mays gm k n mb I) :=
  ⟨fun ⟨h1, h2, h3, h4, h5⟩ hk hd => ⟨h1.kept hk (hd _ h2), h2, fun i hi => ⟨(h3 i hi).1.kept hk (hd _ (h3 i hi).2.1), (h3 i hi).2⟩, h4, fun x hx => Nat.lt_of_lt_of_le (h5 x hx) hk.size⟩, fun ⟨h1, h2, h3, h4, h5⟩ => h5⟩
section
variable {B : Nat} {w0 w : World} {gm k n : Nat} {mb : Nat → Nat} {I : Nat → ByteArray → Prop} {R : Asn}
theorem Hold.mays (h : Hold B w0 w (star (mays gm k n mb I) R)) : Blk w gm 50 (mapsL k mb) ∧ ∀ i, i < k → SetAt w (mb i) n (I i) := by
  obtain ⟨h1, h2, F, ⟨G, H, h3, h4⟩, h7⟩ := h
  exact ⟨h3.1, fun i hi => (h3.2.2.1 i hi).1⟩
/-- One more text for one of the maps. -/
theorem may_put (hR : Firm R) (h : Hold B w0 w (star (Go.Proofs.Ytmgllcmfnljfjaa.mays gm k n mb I) R)) (hn : n ≤ 1000000) (i : Nat) (hi : i < k) (t : ByteArray) (ht : t.size ≤ maxLen) :
    ∃ w', (Instr.mapUpdate 50 (.map (some (mb i))) (.string t) (.bool true)).run Try.prog w = .ok () w' ∧ Hold B w0 w' (star (Go.Proofs.Ytmgllcmfnljfjaa.mays gm k (n + 1) mb (fun j s => I j s ∨ (j = i ∧ s = t))) R) := by
  obtain ⟨h1, h2, F, ⟨G, H, ⟨m1, m2, m3, m4, m5⟩, h4, h5, h6⟩, h7⟩ := h
  obtain ⟨w', hrun, hs, hk⟩ := (m3 i hi).1.put hn t ht
  refine ⟨w', hrun, Hold.turned hR h1 h2 h4 h5 (fun k hk => h7 k ((h6 k).2 hk)) ⟨G, ⟨m1.kept hk (fun e => (m3 i hi).2.2 e.symm), m2, fun j hj => ?_, m4, fun x hx => Nat.lt_of_lt_of_le (m5 x hx) hk.size⟩, hk.mono (fun x _ e => by rw [e]; exact (m3 i hi).2.1), fun x hx => .inl hx⟩⟩
  by_cases e : j = i
  · subst e
    refine ⟨?_, (m3 j hj).2⟩
    obtain ⟨D, d1, d2, d3⟩ := hs
    exact ⟨D, d1, d2, fun s hs' hI => d3 s hs' (hI.imp id fun h => h.2)⟩
  · refine ⟨?_, (m3 j hj).2⟩
    obtain ⟨D, d1, d2, d3⟩ := ((m3 j hj).1.kept hk (fun e' => e (m4 j i hj hi e'))).mono (Nat.le_succ n)
    exact ⟨D, d1, d2, fun s hs' hI => d3 s hs' (hI.resolve_right (fun h => e h.1))⟩
/-- A new map, with one text, laid into the row. -/
theorem may_new (hR : Firm R) (h : Hold B w0 w (star (Go.Proofs.Ytmgllcmfnljfjaa.mays gm k (n + 1) mb I) R)) (hk20 : k < 20) (t : ByteArray) (ht : t.size ≤ maxLen) :
    ∃ w', (Instr.mapUpdate 50 (.map (some w.heap.size)) (.string t) (.bool true)).run Try.prog (w.alloc (.map #[] 0)) = .ok () w' ∧ (∃ u, w'.cell? ⟨gm, k, none⟩ = some u) ∧ w'.frozen? ⟨gm, k, none⟩ = false ∧
      Hold B w0 (w'.setCell ⟨gm, k, none⟩ (.map (some w.heap.size))) (star (Go.Proofs.Ytmgllcmfnljfjaa.mays gm (k + 1) (n + 1) (fun i => if i = k then w.heap.size else mb i) (fun j s => if j = k then s = t else I j s)) R) := by
  obtain ⟨h1, h2, F, ⟨G, H, ⟨m1, m2, m3, m4, m5⟩, h4, h5, h6⟩, h7⟩ := h
  obtain ⟨w', hrun, hs, hk⟩ := (set_made w).put (by omega) t ht
  have K0 : Kept (fun _ => False) w (w.alloc (.map #[] 0)) := (Kept.refl _ _).alloc _
  have K1 : Kept (fun x => x = w.heap.size) w w' := (K0.mono (fun _ _ h => h.elim)).trans hk (fun x e => .inl e)
  have bl : ∀ x, G x → x ≠ w.heap.size := fun x hx e => by have := m5 x hx; omega
  have m1' := m1.kept K1 (bl gm m2)
  have K2 := Kept.one w' gm k (.map (some w.heap.size))
  have K3 : Kept G w (w'.setCell ⟨gm, k, none⟩ (.map (some w.heap.size))) := (K0.trans (G := fun x => x = w.heap.size) hk (fun x e => .inr (by rw [e]; exact Nat.le_refl _))).mono (fun _ _ h => h.elim) |>.setCell (.inl m2) _ _
  have hsz : w.heap.size < w'.heap.size := hs.lt
  have hne : w.heap.size ≠ gm := fun e => by have := m5 gm m2; omega
  refine ⟨w', hrun, ⟨_, m1'.cell (mapsL_at k mb k hk20)⟩, m1'.frozen k, Hold.turned hR h1 h2 h4 h5 (fun k hk => h7 k ((h6 k).2 hk)) ⟨fun x => G x ∨ x = w.heap.size, ⟨?_, .inl m2, fun j hj => ?_, fun i j hi hj e => ?_, fun x hx => ?_⟩, K3, fun x hx => hx.imp id (fun e => by rw [e]; exact Nat.le_refl _)⟩⟩
  · rw [← mapsL_set k mb w.heap.size hk20]; exact m1'.setCell k _
  · by_cases e : j = k
    · subst e
      simp only [if_true]
      refine ⟨?_, .inr trivial, hne⟩
      obtain ⟨D, d1, d2, d3⟩ := (hs.kept K2 hne).mono (show 0 + 1 ≤ n + 1 by omega)
      exact ⟨D, d1, d2, fun s hs' hI => d3 s hs' (.inr hI)⟩
    · simp only [if_neg e]
      have m := m3 j (by omega)
      exact ⟨(m.1.kept K1 (bl _ m.2.1)).kept K2 m.2.2, .inl m.2.1, m.2.2⟩
  · by_cases e1 : i = k <;> by_cases e2 : j = k
    · omega
    · simp only [if_pos e1, if_neg e2] at e
      exact absurd e.symm (bl _ (m3 j (by omega)).2.1)
    · simp only [if_neg e1, if_pos e2] at e
      exact absurd e (bl _ (m3 i (by omega)).2.1)
    · simp only [if_neg e1, if_neg e2] at e
      exact m4 i j (by omega) (by omega) e
  · rcases hx with hx | rfl
    · exact Nat.lt_of_lt_of_le (m5 x hx) K3.size
    · simp; exact hsz
end
theorem Try.info50 : (Try.prog.info? 50).map (fun i => (i.zero, i.size, i.bytes)) = some (some (.map none), 1, 8) := by kernel_rfl
theorem make_maps (mb : Nat → Nat) (w : World) : (Instr.makeSlice 48 (.int .i64 20) (.int .i64 20)).run Try.prog w = .ok (.slice (some ⟨w.heap.size, 0, none⟩) 20 20) (w.alloc (.cells (mapsL 0 mb).toArray 50)) := by
  obtain ⟨i0, hi, hz0, hz1, hz2⟩ := info_parts Try.info50
  have hr := run_make (P := Try.prog) w 48 50 i0 (.map none) Try.underlying48 hi hz0 .i64 .i64 20 20 (by omega) (by omega) (by rw [hz2]; omega) (by omega)
  have e : madeCells (Value.map none).cells ((20 : Int).toNat * i0.size) = (mapsL 0 mb).toArray := by
    rw [hz1, show (20 : Int).toNat * 1 = 20 from rfl]
    apply Array.ext
    · simp [madeCells, mapsL]
    · intro i h1 h2
      simp [madeCells, mapsL, Value.cells, Nat.mod_one]
  rw [e] at hr
  exact hr
end Go.Proofs.Ytmgllcmfnljfjaa
