/- Rows of sixteen words, out of and into blocks that are known whole. -/
import Derived.Test.YtajkfjafhigcpabQuart
import Derived.Deep.MidRow
namespace Go.Proofs.Ytajkfjafhigcpab
open Go.RowKit Go.PlainAid
set_option linter.unusedVariables false

theorem Try.zero35 : (Try.prog.info? 35).map (fun i => i.zero) = some (some (.agg (ws 16 (fun _ => 0)).toArray)) := by kernel_rfl
theorem zero35_run (w : World) : (zeroValue 35).run Try.prog w = .ok (.agg (ws 16 (fun _ => 0)).toArray) w := by
  obtain ⟨i, hi, hz⟩ := Option.map_eq_some_iff.1 Try.zero35
  simp [zeroValue, typeInfo, hi, hz]
theorem Try.size35 : (Try.prog.info? 35).map (·.size) = some 16 := by kernel_rfl
theorem Try.size32 : (Try.prog.info? 32).map (·.size) = some 1 := by kernel_rfl
theorem load35 {w : World} {g : Nat} {T : TypeId} {S : Nat → Int} (h : Blk w g T (ws 16 S)) : (loadVar 35 ⟨g, 0, none⟩).run Try.prog w = .ok (.agg (ws 16 S).toArray) w :=
  run_loadVar_row w g T 35 _ (0, 0) _ h Try.underlying35 rfl (by rw [Try.size35]; simp [ws_length])
theorem Blk.setRow {w : World} {g : Nat} {T : TypeId} {L M : List Value} (h : Blk w g T L) : Blk (w.setRow g M.toArray) g T M := setRow_heap w g _ _ T _ h
theorem Blk.setRowOther {w : World} {g k : Nat} {T : TypeId} {L : List Value} (h : Blk w g T L) (hk : g ≠ k) (cs : Array Value) : Blk (w.setRow k cs) g T L := by
  unfold Blk at h ⊢
  rw [setRow_other w k g cs hk]; exact h

/-- A whole row, out of and into a block that is known whole: laws at a region's list. -/
theorem wpList_load_blk {P : Program} {ops : Array Oper} {rest : List Oper} {o : Oper} {a : Act} {w : World} {Q : Exit → Act → World → Prop} (hgd : o.guard = none) (ty : TypeId) (x : Operand) (ho : o.op = .load ty x)
    (g : Nat) (hx : a.eval x = .pointer (some ⟨g, 0, none⟩)) (t : TypeId) (L : List Value) (d : TypeDesc) (hg : Blk w g t L)
    (hu : P.underlying ty = some d) (hd : (match d with | .struct _ | .array _ _ => true | _ => false) = true) (hi : (P.info? ty).map (·.size) = some L.length)
    (h : wpList P ops Q rest (a.put o.dst (.agg L.toArray)) w) : wpList P ops Q (o :: rest) a w :=
  wpList_plain hgd fun _ hK => wp_load_row ty x ho g hx t L.toArray (0, 0) d hg hu hd (by simpa using hi) (hK _ _ h)
theorem wpList_store_blk {P : Program} {ops : Array Oper} {rest : List Oper} {o : Oper} {a : Act} {w : World} {Q : Exit → Act → World → Prop} (hgd : o.guard = none) (ty : TypeId) (x y : Operand) (ho : o.op = .store ty x y)
    (g : Nat) (L M : List Value) (hx : a.eval x = .pointer (some ⟨g, 0, none⟩)) (hy : a.eval y = .agg M.toArray) (t : TypeId) (hg : Blk w g t L)
    (hi : (P.info? ty).map (·.size) = some M.length) (hl : L.length = M.length) (h1 : ∀ v ∈ M, v.oneCell' = true)
    (h : wpList P ops Q rest (a.put o.dst undef) (w.setRow g M.toArray)) : wpList P ops Q (o :: rest) a w :=
  wpList_plain hgd fun _ hK => wp_store_row ty x y ho g M.toArray hx hy t L.toArray hg (by simpa using hi) (by simpa using hl) (all_oneCell_toArray h1) (hK _ _ h)
/-- The same inside a region that draws its order. -/
theorem step_load_blk {P : Program} {ops : Array Oper} {o : Oper} {a : Act} {w : World} {K : Act → World → Prop} {Q : Exit → Act → World → Prop} {E : Prop} (hgd : o.guard = none) (ty : TypeId) (x : Operand) (ho : o.op = .load ty x)
    (g : Nat) (hx : a.eval x = .pointer (some ⟨g, 0, none⟩)) (t : TypeId) (L : List Value) (d : TypeDesc) (hg : Blk w g t L)
    (hu : P.underlying ty = some d) (hd : (match d with | .struct _ | .array _ _ => true | _ => false) = true) (hi : (P.info? ty).map (·.size) = some L.length)
    (h : K (a.put o.dst (.agg L.toArray)) w) : if Region.wanted o (yielded ops a.tmps) = true then Oper.wp P o a w K Q else E := by
  rw [if_pos (by simp [Region.wanted, hgd])]
  exact wp_load_row ty x ho g hx t L.toArray (0, 0) d hg hu hd (by simpa using hi) h
theorem step_store_blk {P : Program} {ops : Array Oper} {o : Oper} {a : Act} {w : World} {K : Act → World → Prop} {Q : Exit → Act → World → Prop} {E : Prop} (hgd : o.guard = none) (ty : TypeId) (x y : Operand) (ho : o.op = .store ty x y)
    (g : Nat) (L M : List Value) (hx : a.eval x = .pointer (some ⟨g, 0, none⟩)) (hy : a.eval y = .agg M.toArray) (t : TypeId) (hg : Blk w g t L)
    (hi : (P.info? ty).map (·.size) = some M.length) (hl : L.length = M.length) (h1 : ∀ v ∈ M, v.oneCell' = true)
    (h : K (a.put o.dst undef) (w.setRow g M.toArray)) :
    if Region.wanted o (yielded ops a.tmps) = true then Oper.wp P o a w K Q else E := by
  rw [if_pos (by simp [Region.wanted, hgd])]
  exact wp_store_row ty x y ho g M.toArray hx hy t L.toArray hg (by simpa using hi) (by simpa using hl) (all_oneCell_toArray h1) h
theorem step_copy_run {P : Program} {ops : Array Oper} {o : Oper} {a : Act} {w : World} {K : Act → World → Prop} {Q : Exit → Act → World → Prop} {E : Prop} (hgd : o.guard = none) (d s : Operand) (dT sT : TypeId)
    (ho : o.op = .call { callee := .builtin .copy, args := #[d, s], argTypes := #[dT, sT] }) (vd vs : Value) (hd : a.eval d = vd) (hs : a.eval s = vs) (r : Value) (w' : World)
    (hrun : (Builtin.copy_ #[dT, sT] o.type #[vd, vs]).run P w = .ok r w') (h : K (a.put o.dst r) w') :
    if Region.wanted o (yielded ops a.tmps) = true then Oper.wp P o a w K Q else E := by
  have hw : Region.wanted o (yielded ops a.tmps) = true := by simp [Region.wanted, hgd]
  rw [if_pos hw]
  unfold Oper.wp
  simp [execOp, ho, resolve, invoke, builtin, hd, hs, hrun, Result.andThen]
  exact h
/-- What a function answers whose one result lies in a block. -/
theorem results_cell {P : Program} {fn : Func} {tmps : Array Value} {w : World} {v : Value} (slot : Nat) (t : TypeId) (a : Addr) (h : fn.results = #[.cell slot t]) (ht : tmps.getD slot undef = .pointer (some a)) (hl : (loadVar t a).run P w = .ok v w) : (results fn tmps).run P w = .ok v w := by
  have e : (asAddr (tmps.getD slot undef)).run P w = .ok a w := by rw [ht]; rfl
  unfold results
  rw [h]
  simp [e, hl, -Array.getD_eq_getD_getElem?]
/-- The row behind four stores. -/
theorem ws_four (S : Nat → Int) (a b c d : Nat) (x y z u : Int) : ((((ws 16 S).set a (.int .u32 x)).set b (.int .u32 y)).set c (.int .u32 z)).set d (.int .u32 u) = ws 16 (fun i => if i = d then u else if i = c then z else if i = b then y else if i = a then x else S i) := by
  rw [ws_set, ws_set, ws_set, ws_set]
theorem ws_quarter (S : Nat → Int) (a b c d : Nat) : ((((ws 16 S).set a (.int .u32 (qa (S a) (S b) (S c) (S d)))).set b (.int .u32 (qb (S a) (S b) (S c) (S d)))).set c (.int .u32 (qc (S a) (S b) (S c) (S d)))).set d (.int .u32 (qd (S a) (S b) (S c) (S d))) = ws 16 (qS S a b c d) := by
  rw [ws_four]; rfl
theorem Blk.four {w : World} {g : Nat} {T : TypeId} {S : Nat → Int} (h : Blk w g T (ws 16 S)) (a b c d : Nat) :
    Blk ((((w.setCell ⟨g, a, none⟩ (.int .u32 (qa (S a) (S b) (S c) (S d)))).setCell ⟨g, b, none⟩ (.int .u32 (qb (S a) (S b) (S c) (S d)))).setCell ⟨g, c, none⟩ (.int .u32 (qc (S a) (S b) (S c) (S d)))).setCell ⟨g, d, none⟩ (.int .u32 (qd (S a) (S b) (S c) (S d)))) g T (ws 16 (qS S a b c d)) := by
  rw [← ws_quarter]
  exact (((h.setCell a _).setCell b _).setCell c _).setCell d _
end Go.Proofs.Ytajkfjafhigcpab
