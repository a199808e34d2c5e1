/- A write more: the program's Write and the document's Put. -/
import Derived.Test.YtfepmafjkgjmmaaDkLow
namespace Go.Proofs.Ytfepmafjkgjmmaa
open Go.RowKit Go.PlainAid
set_option linter.unusedVariables false

theorem Try.info84 : (Try.prog.info? 84).map (fun i => (i.zero, i.size, i.bytes)) = some (some (.agg #[.int .i64 0, .string noB]), 2, 24) := by kernel_rfl
theorem Try.info90 : (Try.prog.info? 90).map (fun i => (i.zero, i.size, i.bytes)) = some (some (.agg #[.int .i64 0, .string noB]), 2, 24) := by kernel_rfl
theorem wpList_append_run {P : Program} {ops : Array Oper} {rest : List Oper} {o : Oper} {a : Act} {w : World} {Q : Exit → Act → World → Prop} (hgd : o.guard = none) (s x : Operand) (t tn : TypeId)
    (ho : o.op = .call { callee := .builtin .append, args := #[s, x], argTypes := #[t, tn] }) (vs vx : Value) (hs : a.eval s = vs) (hx : a.eval x = vx)
    (v' : Value) (w' : World) (hr : (Builtin.append_ #[t, tn] o.type #[vs, vx]).run P w = .ok v' w') (h : wpList P ops Q rest (a.put o.dst v') w') : wpList P ops Q (o :: rest) a w :=
  wpList_plain hgd fun K hK => by
    unfold Oper.wp
    simp [execOp, ho, resolve, invoke, builtin, hs, hx, hr, Result.andThen]
    exact hK _ _ h
/-- One more write for a row of them. -/
theorem waits_push (sl T ty : TypeId) (hu : Try.prog.underlying sl = some (.slice T)) (hT : (Try.prog.info? T).map (fun i => (i.zero, i.size, i.bytes)) = some (some (.agg #[.int .i64 0, .string noB]), 2, 24))
    (w : World) (v : Value) (q : List Wr) (h : Waits w T v q) (p : Wr) (hq : q.length ≤ 1000000) :
    ∃ g' cap' w', (Builtin.append_ #[sl, sl] ty #[v, .slice (some ⟨w.heap.size, 0, none⟩) 1 1]).run Try.prog (w.alloc (.cells #[.int .i64 (p.1 : Int), .string p.2] T)) = .ok (.slice (some ⟨g', 0, none⟩) (q.length + 1) cap') w' ∧
      Waits w' T (.slice (some ⟨g', 0, none⟩) (q.length + 1) cap') (q ++ [p]) ∧ (w.alloc (.cells #[.int .i64 (p.1 : Int), .string p.2] T)).grownBy w' v.ownBlock ∧ (some g' = v.ownBlock ∨ w.heap.size ≤ g') := by
  obtain ⟨i0, hi, hz0, hz1, hz2⟩ := info_parts hT
  have hnews : ∀ (j : Nat) u, [Value.int .i64 (p.1 : Int), Value.string p.2][j]? = some u → (w.alloc (.cells #[.int .i64 (p.1 : Int), .string p.2] T)).cell? ((⟨w.heap.size, 0, none⟩ : Addr).add j) = some u := fun j u hj => by
    match j, hj with
    | 0, hj => simp at hj; subst hj; simp only [Addr.add]; exact (Blk.new w T #[.int .i64 (p.1 : Int), .string p.2]).cell rfl
    | 1, hj => simp at hj; subst hj; simp only [Addr.add]; exact (Blk.new w T #[.int .i64 (p.1 : Int), .string p.2]).cell rfl
  obtain ⟨v', w', hrun, hown, hgrow, _, hat⟩ := run_append_own_at (P := Try.prog) (w.alloc (.cells #[.int .i64 (p.1 : Int), .string p.2] T)) 0 sl ty T i0 (.agg #[.int .i64 0, .string noB]) 2 24 hu hi hz0 hz1 hz2 rfl (by decide) v q.length (pairs q) (World.ownsRow.alloc h _)
    ⟨w.heap.size, 0, none⟩ 1 1 [.int .i64 (p.1 : Int), .string p.2] rfl hnews (fun u hu => by simp at hu; rcases hu with rfl | rfl <;> rfl) (by unfold maxLen; omega) (by omega) (Nat.zero_le _)
  have hw : Waits w' T v' (q ++ [p]) := by
    unfold Waits
    rw [List.length_append, pairs_append]
    exact hown
  rcases hown.2 with ⟨_, h0⟩ | ⟨g', cap', cur, rfl, _⟩
  · omega
  · refine ⟨g', cap', w', hrun, hw, hgrow, ?_⟩
    rcases hat with h | h
    · exact .inl h
    · have h2 : g' = (w.alloc (.cells #[.int .i64 (p.1 : Int), .string p.2] T)).heap.size := Option.some.inj h
      rw [World.size_alloc] at h2
      exact .inr (by omega)
/-- What Write answers, and the row behind it. -/
def errW (dead : Bool) (n : Nat) (at_ : Int) (s : ByteArray) : Int := if errA dead n at_ = 0 then (if 2048 < s.size then 5 else 0) else errA dead n at_
def putQ (q : List Wr) (dead : Bool) (n : Nat) (at_ : Int) (s : ByteArray) : List Wr := if errW dead n at_ s = 0 then q ++ [(at_.toNat, s)] else q
theorem errW_cases (dead : Bool) (n : Nat) (at_ : Int) (s : ByteArray) : (∃ E, errA dead n at_ = E ∧ E ≠ 0 ∧ errW dead n at_ s = E) ∨ (errA dead n at_ = 0 ∧ errW dead n at_ s = 5 ∧ 2048 < s.size) ∨ (dead = false ∧ errW dead n at_ s = 0 ∧ s.size ≤ 2048 ∧ ∃ k : Nat, at_ = (k : Int) ∧ k < n) := by
  unfold errW
  by_cases h : errA dead n at_ = 0
  · rw [if_pos h]
    by_cases hs : 2048 < s.size
    · exact .inr (.inl ⟨h, by rw [if_pos hs], hs⟩)
    · refine .inr (.inr ?_)
      rcases errA_cases dead n at_ with rfl | ⟨rfl, ha⟩ | ⟨rfl, hk⟩
      · rw [errA_dead] at h; exact absurd h (by decide)
      · rw [errA_low n at_ ha] at h; exact absurd h (by decide)
      · exact ⟨rfl, by rw [if_neg hs], by omega, hk⟩
  · exact .inl ⟨_, rfl, h, by rw [if_neg h]⟩
theorem DiskIn.turn {w w' : World} {F : Nat → Prop} {g n : Nat} {l : Nat → ByteArray} {q : List Wr} {dead : Bool} (h : DiskAt w F g n l q dead) : Turned F w w (fun F' => DiskAt w F' g n l q dead) := ⟨F, h, Kept.refl _ _, fun k hk => .inl hk⟩
theorem dkWrite_nil (at_ : Int) (s : ByteArray) (w : World) : Calls Try.prog 42 #[.pointer none, .int .i64 at_, .string s] w fun e w' => e = .returned (.int .i64 1) ∧ w' = w := by
  go_enter Try.func42, Try.ntmps42
  go_wp2_with (go_at_call 45; refine (reach_nil _ _).mono ?_; rintro e w' ⟨rfl, rfl⟩)
  go_ret
  exact ⟨rfl, rfl⟩
set_option maxRecDepth 20000 in
theorem dkWrite_any {F : Nat → Prop} {g n : Nat} {l : Nat → ByteArray} {q : List Wr} {dead : Bool} {w : World} (h : DiskAt w F g n l q dead) (at_ : Int) (s : ByteArray) (hq : q.length ≤ 1000000) :
    Calls Try.prog 42 #[.pointer (some ⟨g, 0, none⟩), .int .i64 at_, .string s] w fun e w' => e = .returned (.int .i64 (errW dead n at_ s)) ∧ Turned F w w' (fun F' => DiskAt w' F' g n l (putQ q dead n at_ s) dead) := by
  have hu := reach_any h at_
  have h' := h
  obtain ⟨gc, gl, v, h⟩ := h
  unfold putQ
  rcases errW_cases dead n at_ s with ⟨E, hE, h0, hW⟩ | ⟨hE, hW, hs⟩ | ⟨rfl, hW, hs, k, rfl, hk⟩
  · rw [hW, if_neg h0]
    rw [hE] at hu
    have hb : (E == 0) = false := by simpa using h0
    have HT : Hid _ := DiskIn.turn (w' := w) h'
    clear h hE hW h0 h'
    go_enter Try.func42, Try.ntmps42
    go_wp2_with (go_at_call 45; refine hu.mono ?_; rintro e w' ⟨rfl, rfl⟩)
    go_ret
    exact ⟨rfl, HT.out⟩
  · rw [hW, if_neg (by decide)]
    rw [hE] at hu
    have HT : Hid _ := DiskIn.turn (w' := w) h'
    clear h hE hW h'
    go_enter Try.func42, Try.ntmps42
    go_wp2_with (go_at_call 45; refine hu.mono ?_; rintro e w' ⟨rfl, rfl⟩)
    go_ret
    exact ⟨rfl, HT.out⟩
  · rw [hW, if_pos rfl, Int.toNat_natCast]
    rw [errA_ok n k hk] at hu
    have hs' : ¬ 2048 < s.size := by omega
    have c0 := h.top.cell (i := 0) rfl
    have c2 := h.top.cell (i := 2) rfl
    have ck := h.cells.cell (strs_at n (app l q) k hk)
    have fk := h.cells.frozen k
    have hgc := h.top.ne h.cells (by decide)
    have hgl := h.top.ne h.lasts (by decide)
    have hvc := h.cells.owns_ne h.row (by decide)
    have hvl := h.lasts.owns_ne h.row (by decide)
    have hvg := h.top.owns_ne h.row (by decide)
    have K1 : Kept F w (w.setCell ⟨gc, k, none⟩ (.string s)) := (Kept.refl F w).setCell (.inl h.inn.2.1) _ _
    have K1' : Kept (fun i => i = gc) w (w.setCell ⟨gc, k, none⟩ (.string s)) := Kept.one _ _ _ _
    have T1 := h.top.kept K1' hgc
    have C1 := h.cells.setCell k (.string s)
    rw [strs_set] at C1
    have L1 := h.lasts.kept K1' (fun e => h.ne e.symm)
    have W1 := h.row.kept K1' (fun i hi e => hvc (by rw [hi, e]))
    obtain ⟨g', cap', w2, hrun, W2, hgrow, hat⟩ := waits_push 74 84 74 Try.underlying74 Try.info84 _ v q W1 (k, s) hq
    have K2' : Kept (fun i => v.ownBlock = some i) (w.setCell ⟨gc, k, none⟩ (.string s)) w2 := ((Kept.refl _ _).alloc _).grown hgrow (fun i hi => .inl hi)
    have T2 := T1.kept K2' hvg
    have C2 := C1.kept K2' hvc
    have L2 := L1.kept K2' hvl
    have K2 : Kept F w w2 := K1.trans K2' (fun i hi => .inl (h.inn.2.2.2 i hi))
    have d2 := T2.cell (i := 2) rfl
    have f2 := T2.frozen 2
    have T3 := T2.setCell 2 (.slice (some ⟨g', 0, none⟩) (q.length + 1) cap')
    have K3' : Kept (fun i => i = g) w2 (w2.setCell ⟨g, 2, none⟩ (.slice (some ⟨g', 0, none⟩) (q.length + 1) cap')) := Kept.one _ _ _ _
    have K3 := K2.setCell (.inl h.inn.1) 2 (.slice (some ⟨g', 0, none⟩) (q.length + 1) cap')
    have C3 := C2.kept K3' (fun e => hgc e.symm)
    have L3 := L2.kept K3' (fun e => hgl e.symm)
    have W3 := W2.kept K3' (fun i hi e => by
      have := T2.owns_ne W2 (by decide)
      rw [hi, e] at this
      exact this rfl)
    have hlt := W3.lt g' rfl
    have HT : Hid (Turned F w (w2.setCell ⟨g, 2, none⟩ (.slice (some ⟨g', 0, none⟩) (q.length + 1) cap')) (fun F' => DiskAt (w2.setCell ⟨g, 2, none⟩ (.slice (some ⟨g', 0, none⟩) (q.length + 1) cap')) F' g n l (q ++ [(k, s)]) false)) := by
      refine ⟨fun i => F i ∨ i = g', ⟨gc, gl, .slice (some ⟨g', 0, none⟩) (q.length + 1) cap', ⟨.inl h.inn.1, .inl h.inn.2.1, .inl h.inn.2.2.1, fun i hi => .inr (by cases hi; rfl)⟩, h.ne, h.low, h.high, ?_, T3, ?_, L3, W3, ?_⟩, K3, ?_⟩
      · intro p hp
        rcases List.mem_append.1 hp with hp | hp
        · exact h.ats p hp
        · rw [List.mem_singleton.1 hp]; exact hk
      · rw [app_snoc]; exact C3
      · rintro i (hi | rfl)
        · exact Nat.lt_of_lt_of_le (h.bound i hi) K3.size
        · exact hlt
      · rintro i (hi | rfl)
        · exact .inl hi
        · rcases hat with e | e
          · exact .inl (h.inn.2.2.2 _ e.symm)
          · exact .inr (by simpa using e)
    have h2c := T1.cell (i := 2) rfl
    rw [World.size_setCell] at hrun
    clear h' h hW K1 K1' T1 C1 L1 W1 W2 hgrow K2' T2 C2 L2 K2 T3 K3' K3 C3 L3 W3 hlt hvc hvl hvg hgc hgl hat
    go_enter Try.func42, Try.ntmps42
    go_wp2_with (first | (go_at_call 45; refine hu.mono ?_; rintro e w' ⟨rfl, rfl⟩) | (at_builtin; refine wpList_append_run rfl _ _ 74 74 rfl _ _ rfl rfl _ _ hrun ?_))
    go_ret
    exact ⟨rfl, HT.out⟩
end Go.Proofs.Ytfepmafjkgjmmaa
