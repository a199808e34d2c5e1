/- A range over a function: one law for a function that keeps what it knows in blocks of its own, and turns these between two rounds. -/
import Derived.Test.YtbbgagpompgagabDoorKept
import Derived.RangeFuncNested
import Derived.RangeFuncBound
import Derived.RangeFuncCalls
import Derived.RangeFuncLeaves
import Derived.Shelf.Abstract
import Derived.Shelf.RegionOpen
import Derived.WalkKit
import Derived.OwnWalkIn
import Derived.TacticsInMore
import Derived.LoopNIn
import Derived.LoopIn
namespace Go.Proofs.YtbbgagpompgagabDoor
open Go.RowKit Go.PlainAid Go.Shelf
set_option linter.unusedVariables false

theorem Kept.put (W : World) (l : Nat) (o : Obj) : Kept (fun k => k = l) W (W.putObj l o) :=
  (Kept.refl _ W).grown (grownBy_putObj' W l o) (fun k e => .inl (by cases e; rfl))
theorem Kept.block' {F : Nat → Prop} {A B : World} (h : Kept F A B) {k : Nat} {o : Obj} (hk : A.heap[k]? = some o) (hn : ¬ F k) : B.heap[k]? = some o :=
  (h.block k (Array.getElem?_eq_some_iff.1 hk).1 hn).trans hk

/-- How the k-th round's body may be left: it has turned blocks of MM alone. -/
def rngPost (MM : Nat → Prop) (I : Nat → World → Prop) (Ix : Code → Nat → World → Prop) (k : Nat) (W : World) : Exit → Act → World → Prop
  | .normal, _, W' => Kept MM W W' ∧ I k W'
  | .ret, _, W' => Kept MM W W' ∧ Ix .ret k W'
  | .exit d, _, W' => Kept MM W W' ∧ Ix (.exit d) k W'
  | .goto t, _, W' => Kept MM W W' ∧ Ix (.goto t) k W'
  | _, _, _ => False

/-- What a function that is ranged over does: it hands out N values, as long as no round has left; c blocks behind the loop's two are its own. -/
def Iter (P : Program) (n : Nat) (g : Nat) (lb : Array Value) (enc : Nat → Array Value) (N : Nat) (w : World) (c : Nat) (MM : Nat → Prop) : Prop :=
  ∀ (J Jx : Nat → World → Prop) (W : World), Below w.heap.size w W → W.heap.size = w.heap.size + 2 →
    (∀ s A B, J s A → Kept (fun k => w.heap.size + 2 ≤ k ∧ k < w.heap.size + 2 + c) A B → J s B) →
    (∀ s A B, Jx s A → Kept (fun k => w.heap.size + 2 ≤ k ∧ k < w.heap.size + 2 + c) A B → Jx s B) →
    (∀ k W1, k < N → J k W1 → w.heap.size + 2 + c ≤ W1.heap.size → YieldAt Fence.wide (n - 1) P (w.heap.size + 1) (enc k) W1 fun e W' =>
      Kept (fun k => k = w.heap.size + 1 ∨ MM k) W1 W' ∧ ((e = .returned (.bool true) ∧ J (k + 1) W') ∨ (e = .returned (.bool false) ∧ Jx (k + 1) W'))) →
    J 0 W →
    CallsIn Fence.wide n P g (#[.func (.yield (w.heap.size + 1)) #[] #[]] ++ lb) W fun e W' => (∃ v, e = .returned v) ∧ (J N W' ∨ ∃ k, k ≤ N ∧ Jx k W')

set_option maxHeartbeats 1000000 in
theorem range_law {P : Program} {n : Nat} {g : Operand} {ps : Array Tmp} {assign body : Code} {Q : Exit → Act → World → Prop} {a : Act} {w : World} {gf : Nat} {lb : Array Value}
    (hg : a.eval g = .func (.func gf) #[] lb) (eg : Enters P gf)
    {enc : Nat → Array Value} {c : Nat} {MM : Nat → Prop} {N : Nat} (hit : Iter P (n - 1) gf lb enc N w c MM)
    (hMM : ∀ k, MM k → k < w.heap.size ∨ w.heap.size + 2 + c ≤ k) (hps : ∀ k, (enc k).size = ps.size)
    (I : Nat → World → Prop) (Ix : Code → Nat → World → Prop)
    (hI : ∀ s A B, I s A → Kept (fun k => w.heap.size ≤ k ∧ k < w.heap.size + 2 + c) A B → I s B)
    (hIx : ∀ d s A B, Ix d s A → Kept (fun k => w.heap.size ≤ k ∧ k < w.heap.size + 2 + c) A B → Ix d s B)
    (h0 : I 0 w) (Ax : Nat → Act → World → Prop) (hAx : ∀ x a' A B, Ax x a' A → Kept (fun k => k = w.heap.size + 1) A B → Ax x a' B)
    (hassign : ∀ (k : Nat) (W : World) (K : Act → World → Prop), k < N → I k W → w.heap.size + 2 + c ≤ W.heap.size → (∀ a' W', Kept (fun _ => False) W W' → Ax k a' W' → K a' W') →
      assign.wpIn (Fence.wide.inRound (w.heap.size + 1)) (n - 1 - 1) P (Exit.then K (fun _ _ _ => False)) { tmps := (ps.zip (enc k)).foldl (fun t (p, v) => t.setIfInBounds p v) a.tmps, defers := [] } W)
    (hbody : ∀ (k : Nat) (a' : Act) (W : World), k < N → I k W → Ax k a' W → w.heap.size + 2 + c ≤ W.heap.size →
      body.wpIn (Fence.wide.inRound (w.heap.size + 1)) (n - 1 - 1) P (rngPost MM I Ix (k + 1) W) a' W)
    (hdone : ∀ W, I N W → W.heap[w.heap.size]? = some (.deferred (some [])) → Q .normal { a with defers := { target := .collected w.heap.size, args := #[] } :: a.defers } W)
    (hstop : ∀ d k W, k ≤ N → Ix d k W → W.heap[w.heap.size]? = some (.deferred (some [])) → d.wpIn Fence.wide n P Q { a with defers := { target := .collected w.heap.size, args := #[] } :: a.defers } W) :
    (Code.rangeFunc g ps assign body).wpIn Fence.wide n P Q a w := by
  refine wpIn_rangeFunc fun fn hfn => ?_
  generalize hB : w.heap.size = B at hit hMM hI hIx hAx hassign hbody hdone hstop
  let rec' : LoopState → Option Code → Loop := fun st pe => { state := st, pending := pe, fn := fn, tmps := a.tmps, params := ps, assign := assign, body := body, defers := B }
  let W1 := (w.alloc (.deferred (some []))).alloc (.loop (rec' .ready none))
  have hz1 : W1.heap.size = B + 2 := by show ((w.alloc _).alloc _).heap.size = _; rw [World.size_alloc, World.size_alloc, hB]
  have hk1 : Kept (fun _ => False) w W1 := ((Kept.refl _ w).alloc _).alloc _
  have hr1 : W1.heap[B + 1]? = some (.loop (rec' .ready none)) := by
    have h := World.alloc_heap_new (w.alloc (.deferred (some []))) (.loop (rec' .ready none))
    rw [World.size_alloc, hB] at h; exact h
  have hd1 : W1.heap[B]? = some (.deferred (some [])) := by
    have h := World.alloc_heap_new w (.deferred (some []))
    rw [hB] at h
    exact (Below.heap_alloc _ _ _ (by rw [World.size_alloc, hB]; omega)).trans h
  have hb1 : Below w.heap.size w W1 := ((Below.refl _ w).alloc (Nat.le_refl _) _).alloc (by rw [World.size_alloc]; omega) _
  refine ⟨B + 1, [{ target := .collected B, args := #[] }], W1, { target := .fn (.func gf) lb, args := #[.func (.yield (B + 1)) #[] #[]] }, W1, gf, #[.func (.yield (B + 1)) #[] #[]] ++ lb, W1, ?_, ?_, ?_, ?_, ?_, ?_⟩
  · have h := run_enterLoop_outer (P := P) (w := w) fn a.tmps ps assign body
    rw [hB] at h; exact h
  · simp only [resolve, hg]
    simp [go_sem]
  · intro f _; exact trivial
  · simp [invoke, go_sem]; exact eg _ _
  · intro h; cases h
  unfold Iter at hit
  rw [hB] at hit hb1
  refine (hit (fun pre W => I pre W ∧ W.heap[B + 1]? = some (.loop (rec' .ready none)) ∧ W.heap[B]? = some (.deferred (some [])))
    (fun pre W => ∃ d, Ix d pre W ∧ W.heap[B + 1]? = some (.loop (rec' .done (some d))) ∧ W.heap[B]? = some (.deferred (some [])))
    W1 hb1 hz1 ?_ ?_ ?_ ⟨hI _ _ _ h0 (hk1.mono fun _ _ h => h.elim), hr1, hd1⟩).mono ?_
  · rintro s A C ⟨h1, h2, h3⟩ hk
    exact ⟨hI _ _ _ h1 (hk.mono fun k _ h => ⟨by omega, h.2⟩), hk.block' h2 (by omega), hk.block' h3 (by omega)⟩
  · rintro s A C ⟨d, h1, h2, h3⟩ hk
    exact ⟨d, hIx _ _ _ _ h1 (hk.mono fun k _ h => ⟨by omega, h.2⟩), hk.block' h2 (by omega), hk.block' h3 (by omega)⟩
  · rintro k W hl ⟨h1, h2, h3⟩ hs
    refine ⟨fn, _, assign, body, run_yield h2 (hps k), roundIn_of_wpIn hfn (hassign k W _ hl h1 hs fun a' Wa hka hax => ?_)⟩
    have h2a := hka.block' h2 (fun h => h)
    have h3a := hka.block' h3 (fun h => h)
    refine ⟨_, run_beginRound h2a rfl, ?_⟩
    let Wb := Wa.putObj (B + 1) (.loop { rec' .ready none with state := .busy })
    have hkb : Kept (fun k => k = B + 1) Wa Wb := Kept.put _ _ _
    have h2b : Wb.heap[B + 1]? = some (.loop { rec' .ready none with state := .busy }) := World.putObj_heap_same (Array.getElem?_eq_some_iff.1 h2a).1
    have h3b : Wb.heap[B]? = some (.deferred (some [])) := hkb.block' h3a (by omega)
    have h1b : I k Wb := hI _ _ _ (hI _ _ _ h1 (hka.mono fun _ _ h => h.elim)) (hkb.mono fun k _ h => ⟨by omega, by omega⟩)
    have hk0 : Kept (fun k => k = B + 1 ∨ MM k) W Wb := (hka.mono fun _ _ h => h.elim).trans hkb (fun i h => .inl (.inl h))
    have hfin : ∀ (j : Option Code) (W3 : World), Kept MM Wb W3 → ∃ W4, (Instr.endRound (B + 1) j).run P W3 = .ok (.bool j.isNone) W4 ∧ Kept (fun k => k = B + 1) W3 W4 ∧ Kept (fun k => k = B + 1 ∨ MM k) W W4 ∧
        W4.heap[B + 1]? = some (.loop (rec' (if j.isNone then .ready else .done) j)) ∧ W4.heap[B]? = some (.deferred (some [])) := by
      intro j W3 hk3
      have hn : ∀ k, B ≤ k → k < B + 2 → ¬ MM k := fun k h1 h2 hm => by rcases hMM k hm with h | h <;> omega
      have h2c := hk3.block' h2b (hn _ (by omega) (by omega))
      have h3c := hk3.block' h3b (hn _ (by omega) (by omega))
      refine ⟨_, run_endRound j h2c, Kept.put _ _ _, ?_, World.putObj_heap_same (Array.getElem?_eq_some_iff.1 h2c).1, (Kept.put W3 (B + 1) _).block' h3c (by omega)⟩
      exact (hk0.trans hk3 (fun i h => .inl (.inr h))).trans (Kept.put W3 (B + 1) _) (fun i h => .inl (.inl h))
    refine wpIn_mono (hbody k a' Wb hl h1b (hAx _ _ _ _ hax hkb) (Nat.le_trans hs hk0.size)) ?_
    intro e a3 W3 hp
    match e, hp with
    | .normal, hp =>
      obtain ⟨W4, q1, q2, q3, q4, q5⟩ := hfin none W3 hp.1
      exact ⟨_, W4, q1, q3, .inl ⟨rfl, hI _ _ _ hp.2 (q2.mono fun k _ h => ⟨by omega, by omega⟩), q4, q5⟩⟩
    | .ret, hp =>
      obtain ⟨W4, q1, q2, q3, q4, q5⟩ := hfin (some .ret) W3 hp.1
      exact ⟨_, W4, q1, q3, .inr ⟨rfl, .ret, hIx _ _ _ _ hp.2 (q2.mono fun k _ h => ⟨by omega, by omega⟩), q4, q5⟩⟩
    | .exit d, hp =>
      obtain ⟨W4, q1, q2, q3, q4, q5⟩ := hfin (some (.exit d)) W3 hp.1
      exact ⟨_, W4, q1, q3, .inr ⟨rfl, .exit d, hIx _ _ _ _ hp.2 (q2.mono fun k _ h => ⟨by omega, by omega⟩), q4, q5⟩⟩
    | .goto t, hp =>
      obtain ⟨W4, q1, q2, q3, q4, q5⟩ := hfin (some (.goto t)) W3 hp.1
      exact ⟨_, W4, q1, q3, .inr ⟨rfl, .goto t, hIx _ _ _ _ hp.2 (q2.mono fun k _ h => ⟨by omega, by omega⟩), q4, q5⟩⟩
    | .panic _, hp => exact hp.elim
    | .outgrown, hp => exact hp.elim
  · rintro e W2 ⟨⟨v, rfl⟩, (⟨h1, h2, h3⟩ | ⟨k, hS, d, h1, h2, h3⟩)⟩
    · exact ⟨none, _, run_endLoop h2 (by intro h; cases h), hdone _ (hI _ _ _ h1 ((Kept.put _ _ _).mono fun k _ h => ⟨by omega, by omega⟩)) ((Kept.put W2 (B + 1) _).block' h3 (by omega))⟩
    · exact ⟨some d, _, run_endLoop h2 (by intro h; cases h), hstop d k _ hS (hIx _ _ _ _ h1 ((Kept.put _ _ _).mono fun k _ h => ⟨by omega, by omega⟩)) ((Kept.put W2 (B + 1) _).block' h3 (by omega))⟩

/-- A post for what goes on behind it alone. -/
def Onward (K : Act → World → Prop) : Exit → Act → World → Prop
  | .normal, a, w => K a w
  | _, _, _ => False
theorem Onward.mk {K : Act → World → Prop} {a : Act} {w : World} (h : K a w) : Onward K .normal a w := h
theorem Onward.shut {K : Act → World → Prop} : ¬ LetsOut (Onward K) := fun ⟨_, _, h⟩ => h
section
variable {P : Program} {ops : Array Oper} {l n : Nat} {T : Act → World → Prop}
/-- No operation is a 'defer'. -/
def noDefer (ops : Array Oper) : Bool := ops.all fun o => match o.op with | .defer _ => false | _ => true
theorem noDefer_at (h : noDefer ops = true) {i : Nat} {o : Oper} (ho : ops[i]? = some o) : ∀ c, o.op ≠ .defer c := by
  intro c e
  have := Array.all_eq_true'.1 h o (Array.mem_of_getElem? ho)
  rw [e] at this
  cases this
theorem oper_inRound {o : Oper} {a : Act} {w : World} {K : Act → World → Prop} (hd : ∀ c, o.op ≠ .defer c) (h : o.wp P a w K (Onward T)) : o.wpIn (Fence.wide.inRound l) n P a w K (Onward T) := by
  unfold Oper.wp at h
  unfold Oper.wpIn
  refine ⟨fun _ _ => trivial, ?_⟩
  rw [Fence.inRound_round, Oper.semAt_some _ _ _ hd]
  generalize (execOp a.eval o).run P w = r at h ⊢
  cases r with
  | ok x w' =>
    cases x with
    | value v => exact h
    | skip => exact h
    | defer d => exact h
    | enter f args =>
      refine ⟨fun e => (by cases e), CallsIn.inRound l (callsIn_wide.2 (Calls.mono h ?_))⟩
      intro e w'' he
      cases e <;> exact he
    | row r args =>
      refine ⟨fun e => (by cases e), fun c cs _ => ?_⟩
      obtain ⟨v, w'', hr, hs⟩ := h c cs
      exact ⟨v, w'', hr, stepsIn_wide.2 hs⟩
    | _ => exact h.elim
  | halt x w' =>
    cases x with
    | panic v => exact h
    | _ => exact h.elim
theorem any_inRound (hd : noDefer ops = true) (fuel : Nat) : ∀ (L : Array Bool) (a : Act) (w : World), wpAny P .any ops (Onward T) fuel L a w → wpAnyIn (Fence.wide.inRound l) n P .any ops (Onward T) fuel L a w := by
  induction fuel with
  | zero => exact fun _ _ _ h => h
  | succ fuel ih =>
    intro L a w h
    refine ⟨h.1, fun i hi => ?_⟩
    have h2 := h.2 i hi
    unfold wpOp at h2
    unfold wpOpIn
    cases ho : ops[i]? with
    | none => rw [ho] at h2; exact ih _ _ _ h2
    | some o =>
      rw [ho] at h2
      dsimp only at h2 ⊢
      by_cases hw : Region.wanted o (yielded ops a.tmps) = true
      · rw [if_pos hw] at h2 ⊢
        rcases h2 with h2 | h2
        · exact Oper.wpIn_mono (fun a w => ih _ a w) (oper_inRound (noDefer_at hd ho) h2)
        · exact absurd h2.2 Onward.shut
      · rw [if_neg hw] at h2 ⊢
        exact ⟨fun _ _ => trivial, ih _ _ _ h2⟩
/-- A region of a round that draws its order, by the walk of one that is in none. -/
theorem region_inRound {id : Nat} {Q : Exit → Act → World → Prop} {a : Act} {w : World} (hm : P.follows .mixedOrders = true) (hd : noDefer ops = true) {S : World → Prop} (hS : S w.drew)
    (h : S w.drew → wpAnyH P .any ops (Onward (Q .normal)) S ops.size (Array.replicate ops.size false) a w.drew) : (Code.region id ops true).wpIn (Fence.wide.inRound l) n P Q a w :=
  wpIn_mono (wpIn_region_any hm (any_inRound hd _ _ _ _ (wpAny_of_held _ _ _ _ (h hS)))) (fun e a w he => by cases e <;> first | exact he | exact he.elim)
theorem region_inRoundC {id : Nat} {Q : Exit → Act → World → Prop} {a : Act} {w : World} {c : Nat} {S : World → Prop} (hm : P.follows .mixedOrders = true) (hd : noDefer ops = true)
    (h : wpAnyC P .any ops (Onward (Q .normal)) S c ops.size (Array.replicate ops.size false) a w.drew) : (Code.region id ops true).wpIn (Fence.wide.inRound l) n P Q a w :=
  wpIn_mono (wpIn_region_any hm (any_inRound hd _ _ _ _ (wpAnyC_plain _ _ _ _ h))) (fun e a w he => by cases e <;> first | exact he | exact he.elim)
end
end Go.Proofs.YtbbgagpompgagabDoor
