/- Rows of values of K cells each, that may grow. -/
import Derived.Test.YtegebaomhbogmaaDoorSep
import Derived.Test.YtegebaomhbogmaaDoorBrow
import Derived.Test.YtegebaomhbogmaaDoorNums
import Derived.Lib.AppendZeros
namespace Go.Proofs.YtegebaomhbogmaaDoor
open Go.RowKit Go.PlainAid
set_option linter.unusedVariables false
set_option maxRecDepth 20000

/-- A row of values of K cells each that may grow. -/
def rowK (T : TypeId) (K : Nat) (v : Value) (m : Nat) (xs : List Value) : Asn := fun w F => w.ownsRow 0 T K v m xs ∧ ∀ k, F k ↔ v.ownBlock = some k
theorem firm_rowK (T : TypeId) (K : Nat) (v : Value) (m : Nat) (xs : List Value) : Firm (rowK T K v m xs) :=
  ⟨fun h hk hd => ⟨owns_kept h.1 hk (fun k e => hd k ((h.2 k).2 e)), h.2⟩, fun h k hk => (World.ownsRow.lt h.1 k ((h.2 k).1 hk)).2⟩
theorem Hold.rowK {B : Nat} {w0 w : World} {T : TypeId} {K : Nat} {v : Value} {m : Nat} {xs : List Value} {R : Asn} (h : Hold B w0 w (star (rowK T K v m xs) R)) : w.ownsRow 0 T K v m xs := by
  obtain ⟨h1, h2, F, ⟨G, H, h3, h4⟩, h7⟩ := h; exact h3.1
/-- Values that lie somewhere are appended. -/
theorem rowK_app {B : Nat} {w0 w : World} {R : Asn} (hR : Firm R) (sl T ty : TypeId) (z : Value) (K by_ : Nat) (hu : Tryd.prog.underlying sl = some (.slice T)) (hT : (Tryd.prog.info? T).map (fun i => (i.zero, i.size, i.bytes)) = some (some z, K, by_)) (hz : z.cells.size = K) (hK : 0 < K) (hby : by_ ≤ 40)
    {v : Value} {m : Nat} {xs : List Value} (h : Hold B w0 w (star (rowK T K v m xs) R)) (ad : Addr) (n c : Nat) (news : List Value) (hl : news.length = n * K) (hnews : ∀ j u, news[j]? = some u → w.cell? (ad.add j) = some u) (h1 : ∀ u ∈ news, u.oneCell' = true) (hm : m + n ≤ 1000000) :
    ∃ v' w', (Builtin.append_ #[sl, sl] ty #[v, .slice (some ad) n c]).run Tryd.prog w = .ok v' w' ∧ Hold B w0 w' (star (rowK T K v' (m + n) (xs ++ news)) R) := by
  obtain ⟨i0, hi, hz0, hz1, hz2⟩ := info_parts hT
  have hb : (m + n) * by_ ≤ 140737488355328 := Nat.le_trans (Nat.mul_le_mul hm hby) (by decide)
  obtain ⟨v', w', hrun, hown, hgrow, _, hat⟩ := run_append_own_at (P := Tryd.prog) w 0 sl ty T i0 z K by_ hu hi hz0 hz1 hz2 hz hK v m xs h.rowK ad n c news hl hnews h1 (by unfold maxLen; omega) hb (Nat.zero_le _)
  refine ⟨v', w', hrun, ?_⟩
  obtain ⟨g1, g2, F, ⟨G, H, h3, h4, h5, h6⟩, h7⟩ := h
  refine Hold.turned hR g1 g2 h4 h5 (fun k hk => h7 k ((h6 k).2 hk)) ⟨fun k => v'.ownBlock = some k, ⟨hown, fun k => Iff.rfl⟩, (Kept.refl G w).grown hgrow (fun k e => .inl ((h3.2 k).2 e)), fun k hk => ?_⟩
  rcases hat with e | e
  · exact .inl ((h3.2 k).2 (by rw [← e]; exact hk))
  · rw [e] at hk; cases hk; exact .inr (Nat.le_refl _)
theorem own_form {w : World} {T : TypeId} {K : Nat} {v : Value} {m : Nat} {xs : List Value} (h : w.ownsRow 0 T K v m xs) : ∃ a c, v = .slice a m c := by
  rcases h.2 with ⟨rfl, rfl⟩ | ⟨g, cap, cur, rfl, _⟩
  · exact ⟨_, _, rfl⟩
  · exact ⟨_, _, rfl⟩
theorem own_cap {w : World} {T : TypeId} {K : Nat} {a : Option Addr} {m c : Nat} {xs : List Value} (h : w.ownsRow 0 T K (.slice a m c) m xs) : m ≤ c := by
  rcases h.2 with ⟨h1, h2⟩ | ⟨g, cap, cur, h1, _, _, hnc, _⟩
  · omega
  · cases h1; exact hnc
/-- A struct is loaded behind a guard that is met. -/
theorem wpList_load_blkG {P : Program} {ops : Array Oper} {rest : List Oper} {o : Oper} {a : Act} {w : World} {Q : Exit → Act → World → Prop} (hgd : Region.wanted o (yielded ops a.tmps) = true) (ty : TypeId) (x : Operand) (ho : o.op = .load ty x)
    (g : Nat) (hx : a.eval x = .pointer (some ⟨g, 0, none⟩)) (t : TypeId) (L : List Value) (d : TypeDesc) (hg : Blk w g t L)
    (hu : P.underlying ty = some d) (hd : (match d with | .struct _ | .array _ _ => true | _ => false) = true) (hi : (P.info? ty).map (·.size) = some L.length)
    (h : wpList P ops Q rest (a.put o.dst (.agg L.toArray)) w) : wpList P ops Q (o :: rest) a w :=
  wpList_step fun K hK => by simp only [hgd, if_true]; exact wp_load_row ty x ho g hx t L.toArray (0, 0) d hg hu hd (by simpa using hi) (hK _ _ h)
/-- A variable of its own, laid over. -/
theorem Below.boxed (w : World) (T : TypeId) (Z L : List Value) : Below w.heap.size w ((w.alloc (.cells Z.toArray T)).setRow w.heap.size L.toArray) :=
  Kept.below (F := fun k => k = w.heap.size) (w := w.alloc (.cells Z.toArray T)) ((Below.refl _ _).alloc (Nat.le_refl _) _) (Kept.oneRow _ _ _) (by simp) (fun k hk => by rw [hk]; exact Nat.le_refl _)
theorem Blk.boxed (w : World) (T : TypeId) (Z L : List Value) : Blk ((w.alloc (.cells Z.toArray T)).setRow w.heap.size L.toArray) w.heap.size T L := (Blk.box w T Z).setRow
/-- An append within a drawn region, whose run is known. -/
theorem step_append_ty {ops : Array Oper} {o : Oper} {a : Act} {w : World} {K : Act → World → Prop} {Q : Exit → Act → World → Prop} {E' : Prop} (hgd : o.guard = none) (s x : Operand) (t tn : TypeId)
    (ho : o.op = .call { callee := .builtin .append, args := #[s, x], argTypes := #[t, tn] }) (vs vx : Value) (hs : a.eval s = vs) (hx : a.eval x = vx)
    (v' : Value) (w' : World) (hr : (Builtin.append_ #[t, tn] o.type #[vs, vx]).run Tryd.prog w = .ok v' w') (h : K (a.put o.dst v') w') :
    if Region.wanted o (yielded ops a.tmps) = true then Oper.wp Tryd.prog o a w K Q else E' := by
  have hw : Region.wanted o (yielded ops a.tmps) = true := by simp [Region.wanted, hgd]
  rw [if_pos hw]
  exact Lib.wp_append_run w s x t tn ho vs vx hs hx v' w' hr h
end Go.Proofs.YtegebaomhbogmaaDoor
