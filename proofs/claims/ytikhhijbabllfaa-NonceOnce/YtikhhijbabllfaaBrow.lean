/- Rows out of and into blocks that are known whole, results that lie in a block, and steps of a region that draws its order. -/
import Derived.Test.YtikhhijbabllfaaBlk
import Derived.Deep.MidRow
namespace Go.Proofs.Ytikhhijbabllfaa
open Go.RowKit Go.PlainAid
set_option linter.unusedVariables false

set_option maxRecDepth 20000 in
theorem Try.size47 : (Try.prog.info? 47).map (·.size) = some 1 := by kernel_rfl
set_option maxRecDepth 20000 in
theorem Blk.setRow {w : World} {g : Nat} {T : TypeId} {L M : List Value} (h : Blk w g T L) : Blk (w.setRow g M.toArray) g T M := setRow_heap w g _ _ T _ h
set_option maxRecDepth 20000 in
theorem Blk.setRowOther {w : World} {g k : Nat} {T : TypeId} {L : List Value} (h : Blk w g T L) (hk : g ≠ k) (cs : Array Value) : Blk (w.setRow k cs) g T L := by
  unfold Blk at h ⊢
  rw [setRow_other w k g cs hk]; exact h
set_option maxRecDepth 20000 in
theorem Blk.hasCell {w : World} {g : Nat} {T : TypeId} {L : List Value} (h : Blk w g T L) (i : Nat) (hi : i < L.length) : ∃ v, w.cell? ⟨g, i, none⟩ = some v := ⟨L[i], h.cell (List.getElem?_eq_getElem hi)⟩
set_option maxRecDepth 20000 in
/-- A whole row, out of and into a block that is known whole: laws at a region's list. -/
theorem wpList_load_blk {P : Program} {ops : Array Oper} {rest : List Oper} {o : Oper} {a : Act} {w : World} {Q : Exit → Act → World → Prop} (hgd : o.guard = none) (ty : TypeId) (x : Operand) (ho : o.op = .load ty x)
    (g : Nat) (hx : a.eval x = .pointer (some ⟨g, 0, none⟩)) (t : TypeId) (L : List Value) (d : TypeDesc) (hg : Blk w g t L)
    (hu : P.underlying ty = some d) (hd : (match d with | .struct _ | .array _ _ => true | _ => false) = true) (hi : (P.info? ty).map (·.size) = some L.length)
    (h : wpList P ops Q rest (a.put o.dst (.agg L.toArray)) w) : wpList P ops Q (o :: rest) a w :=
  wpList_plain hgd fun _ hK => wp_load_row ty x ho g hx t L.toArray (0, 0) d hg hu hd (by simpa using hi) (hK _ _ h)
set_option maxRecDepth 20000 in
theorem wpList_store_blk {P : Program} {ops : Array Oper} {rest : List Oper} {o : Oper} {a : Act} {w : World} {Q : Exit → Act → World → Prop} (hgd : o.guard = none) (ty : TypeId) (x y : Operand) (ho : o.op = .store ty x y)
    (g : Nat) (L M : List Value) (hx : a.eval x = .pointer (some ⟨g, 0, none⟩)) (hy : a.eval y = .agg M.toArray) (t : TypeId) (hg : Blk w g t L)
    (hi : (P.info? ty).map (·.size) = some M.length) (hl : L.length = M.length) (h1 : ∀ v ∈ M, v.oneCell' = true)
    (h : wpList P ops Q rest (a.put o.dst undef) (w.setRow g M.toArray)) : wpList P ops Q (o :: rest) a w :=
  wpList_plain hgd fun _ hK => wp_store_row ty x y ho g M.toArray hx hy t L.toArray hg (by simpa using hi) (by simpa using hl) (all_oneCell_toArray h1) (hK _ _ h)
set_option maxRecDepth 20000 in
/-- The same inside a region that draws its order. -/
theorem step_load_blk {P : Program} {ops : Array Oper} {o : Oper} {a : Act} {w : World} {K : Act → World → Prop} {Q : Exit → Act → World → Prop} {E : Prop} (hgd : o.guard = none) (ty : TypeId) (x : Operand) (ho : o.op = .load ty x)
    (g : Nat) (hx : a.eval x = .pointer (some ⟨g, 0, none⟩)) (t : TypeId) (L : List Value) (d : TypeDesc) (hg : Blk w g t L)
    (hu : P.underlying ty = some d) (hd : (match d with | .struct _ | .array _ _ => true | _ => false) = true) (hi : (P.info? ty).map (·.size) = some L.length)
    (h : K (a.put o.dst (.agg L.toArray)) w) : if Region.wanted o (yielded ops a.tmps) = true then Oper.wp P o a w K Q else E := by
  rw [if_pos (by simp [Region.wanted, hgd])]
  exact wp_load_row ty x ho g hx t L.toArray (0, 0) d hg hu hd (by simpa using hi) h
set_option maxRecDepth 20000 in
theorem step_store_blk {P : Program} {ops : Array Oper} {o : Oper} {a : Act} {w : World} {K : Act → World → Prop} {Q : Exit → Act → World → Prop} {E : Prop} (hgd : o.guard = none) (ty : TypeId) (x y : Operand) (ho : o.op = .store ty x y)
    (g : Nat) (L M : List Value) (hx : a.eval x = .pointer (some ⟨g, 0, none⟩)) (hy : a.eval y = .agg M.toArray) (t : TypeId) (hg : Blk w g t L)
    (hi : (P.info? ty).map (·.size) = some M.length) (hl : L.length = M.length) (h1 : ∀ v ∈ M, v.oneCell' = true)
    (h : K (a.put o.dst undef) (w.setRow g M.toArray)) :
    if Region.wanted o (yielded ops a.tmps) = true then Oper.wp P o a w K Q else E := by
  rw [if_pos (by simp [Region.wanted, hgd])]
  exact wp_store_row ty x y ho g M.toArray hx hy t L.toArray hg (by simpa using hi) (by simpa using hl) (all_oneCell_toArray h1) h
set_option maxRecDepth 20000 in
theorem step_copy_run {P : Program} {ops : Array Oper} {o : Oper} {a : Act} {w : World} {K : Act → World → Prop} {Q : Exit → Act → World → Prop} {E : Prop} (hgd : o.guard = none) (d s : Operand) (dT sT : TypeId)
    (ho : o.op = .call { callee := .builtin .copy, args := #[d, s], argTypes := #[dT, sT] }) (vd vs : Value) (hd : a.eval d = vd) (hs : a.eval s = vs) (r : Value) (w' : World)
    (hrun : (Builtin.copy_ #[dT, sT] o.type #[vd, vs]).run P w = .ok r w') (h : K (a.put o.dst r) w') :
    if Region.wanted o (yielded ops a.tmps) = true then Oper.wp P o a w K Q else E := by
  have hw : Region.wanted o (yielded ops a.tmps) = true := by simp [Region.wanted, hgd]
  rw [if_pos hw]
  unfold Oper.wp
  simp [execOp, ho, resolve, invoke, builtin, hd, hs, hrun, Result.andThen]
  exact h
set_option maxRecDepth 20000 in
theorem step_append_lit {P : Program} {ops : Array Oper} {o : Oper} {a : Act} {w : World} {K : Act → World → Prop} {Q : Exit → Act → World → Prop} {E' : Prop} (hgd : o.guard = none) (s x : Operand) (t tn : TypeId)
    (ho : o.op = .call { callee := .builtin .append, args := #[s, x], argTypes := #[t, tn] }) (vs vx : Value) (hs : a.eval s = vs) (hx : a.eval x = vx)
    (v' : Value) (w' : World) (hr : (Builtin.append_ #[t, tn] o.type #[vs, vx]).run P w = .ok v' w') (h : K (a.put o.dst v') w') :
    if Region.wanted o (yielded ops a.tmps) = true then Oper.wp P o a w K Q else E' := by
  have hw : Region.wanted o (yielded ops a.tmps) = true := by simp [Region.wanted, hgd]
  rw [if_pos hw]
  unfold Oper.wp
  simp [execOp, ho, resolve, invoke, builtin, hs, hx, hr, Result.andThen]
  exact h
set_option maxRecDepth 20000 in
/-- What a function answers whose one result lies in a block. -/
theorem results_cell {P : Program} {fn : Func} {tmps : Array Value} {w : World} {v : Value} (slot : Nat) (t : TypeId) (a : Addr) (h : fn.results = #[.cell slot t]) (ht : tmps.getD slot undef = .pointer (some a)) (hl : (loadVar t a).run P w = .ok v w) : (results fn tmps).run P w = .ok v w := by
  have e : (asAddr (tmps.getD slot undef)).run P w = .ok a w := by rw [ht]; rfl
  unfold results
  rw [h]
  simp [e, hl, -Array.getD_eq_getD_getElem?]
set_option maxRecDepth 20000 in
/-- What a function answers whose first result lies in a block. -/
theorem results_cell_tmp {P : Program} {fn : Func} {tmps : Array Value} {w : World} {v u : Value} (slot s2 : Nat) (t : TypeId) (a : Addr) (h : fn.results = #[.cell slot t, .tmp s2]) (ht : tmps.getD slot undef = .pointer (some a)) (hl : (loadVar t a).run P w = .ok v w) (hu : tmps.getD s2 undef = u) : (results fn tmps).run P w = .ok (.tuple #[v, u]) w := by
  have e : (asAddr (tmps.getD slot undef)).run P w = .ok a w := by rw [ht]; rfl
  unfold results
  rw [h]
  simp [e, hl, hu, -Array.getD_eq_getD_getElem?]
set_option maxRecDepth 20000 in
/-- A whole row out of a block, behind a guard that says yes. -/
theorem wpList_load_want {P : Program} {ops : Array Oper} {rest : List Oper} {o : Oper} {a : Act} {w : World} {Q : Exit → Act → World → Prop} (ty : TypeId) (x : Operand) (ho : o.op = .load ty x) (hw : Region.wanted o (yielded ops a.tmps) = true)
    (g : Nat) (hx : a.eval x = .pointer (some ⟨g, 0, none⟩)) (t : TypeId) (L : List Value) (d : TypeDesc) (hg : Blk w g t L)
    (hu : P.underlying ty = some d) (hd : (match d with | .struct _ | .array _ _ => true | _ => false) = true) (hi : (P.info? ty).map (·.size) = some L.length)
    (h : wpList P ops Q rest (a.put o.dst (.agg L.toArray)) w) : wpList P ops Q (o :: rest) a w :=
  BigFrame.wpList_want hw fun _ hK => wp_load_row ty x ho g hx t L.toArray (0, 0) d hg hu hd (by simpa using hi) (hK _ _ h)
section
variable {P : Program} {ops : Array Oper} {Q : Exit → Act → World → Prop} {md : Region.Mode} {S S' : World → Prop}
set_option maxRecDepth 20000 in
/-- A stronger condition on the world may be taken up on the way. -/
theorem wpAnyH_weaken (h : ∀ w, S' w → S w) : ∀ (fuel : Nat) (listed : Array Bool) (a : Act) (w : World), wpAnyH P md ops Q S' fuel listed a w → wpAnyH P md ops Q S fuel listed a w
  | 0, _, _, _, h0 => h0
  | fuel + 1, _, _, _, h0 => ⟨h0.1, fun i hi => wpOp_mono (fun a' w' h' => ⟨h _ h'.1, wpAnyH_weaken h fuel _ a' w' h'.2⟩) (h0.2 i hi)⟩
end

end Go.Proofs.Ytikhhijbabllfaa
