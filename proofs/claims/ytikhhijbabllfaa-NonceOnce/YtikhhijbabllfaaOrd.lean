/- A region that draws its order, with loads ahead of one operation c (a call, a store) and stores over what they loaded behind it: a condition on the world that is to be shown only as long as c has not come up. -/
import Derived.Test.YtikhhijbabllfaaBrow
namespace Go.Proofs.Ytikhhijbabllfaa
open Go.RowKit Go.PlainAid
set_option linter.unusedVariables false

section
variable {P : Program} {ops : Array Oper} {Q : Exit → Act → World → Prop} {md : Region.Mode} {S S0 : World → Prop} {c i j : Nat} {L : Array Bool}

/-- What is asked of the world as long as c has not come up. -/
def Till (S : World → Prop) (c : Nat) (L : Array Bool) (w : World) : Prop := L.getD c true = false → S w
/-- Whichever order is drawn: Q in the end, and ahead of c the condition S behind each operation. -/
def wpAnyC (P : Program) (md : Region.Mode) (ops : Array Oper) (Q : Exit → Act → World → Prop) (S : World → Prop) (c : Nat) : Nat → Array Bool → Act → World → Prop
  | 0, L, a, w => Region.ready md ops L = [] ∧ Q .normal a w
  | n + 1, L, a, w => (Region.ready md ops L = [] → Q .normal a w) ∧
      ∀ k ∈ Region.ready md ops L, wpOp P ops Q k (fun b z => Till S c (L.setIfInBounds k true) z ∧ wpAnyC P md ops Q S c n (L.setIfInBounds k true) b z) a w
set_option maxRecDepth 20000 in
theorem wpAnyC_plain (n : Nat) : ∀ (L : Array Bool) (a : Act) (w : World), wpAnyC P md ops Q S c n L a w → wpAny P md ops Q n L a w := by
  induction n with
  | zero => exact fun _ _ _ h => h
  | succ n ih => exact fun _ _ _ h => ⟨h.1, fun k hk => wpOp_mono (fun b z hb => ih _ b z hb.2) (h.2 k hk)⟩
set_option maxRecDepth 20000 in
theorem Till.step {w : World} (h : Till S c L w) (hk : i ≠ c) : Till S c (L.setIfInBounds i true) w := fun e => h (by rwa [getD_set_ne true hk] at e)
set_option maxRecDepth 20000 in
theorem Till.back {w : World} (h : Till S c (L.setIfInBounds i true) w) (hk : i ≠ c) : Till S c L w := fun e => h (by rw [getD_set_ne true hk]; exact e)

set_option maxRecDepth 20000 in
/-- An operation that has not come up is not listed, whatever stands for what lies beyond the list. -/
theorem unlisted (hr : i ∈ Region.ready md ops L) (d : Bool) : L.getD i d = false := by
  have h0 := (mem_ready.1 hr).1
  rw [Array.getD_eq_getD_getElem?] at h0 ⊢
  cases hx : L[i]? with
  | none => rw [hx] at h0; cases h0
  | some v => rw [hx] at h0; exact h0
set_option maxRecDepth 20000 in
/-- Of two that may come up neither waits for the other. -/
theorem no_wait {oj : Oper} (hr : i ∈ Region.ready md ops L) (hj : j ∈ Region.ready md ops L) (ho : ops[j]? = some oj) : ∀ e ∈ oj.after, Region.binds md e = true → e.on ≠ i := by
  intro e he hb hon
  obtain ⟨-, o, ho', hall⟩ := mem_ready.1 hj
  obtain rfl : o = oj := Option.some.inj (ho'.symm.trans ho)
  have := hall e he hb
  rw [hon, unlisted hr false] at this
  cases this
/-- What is apart from i, of all that have not come up. -/
def Clear (md : Region.Mode) (ops : Array Oper) (i : Nat) (oi : Oper) (L : Array Bool) : Prop :=
  ∀ k ok, ops[k]? = some ok → k ≠ i → L.getD k true = false → (∀ e ∈ ok.after, Region.binds md e = true → e.on ≠ i) → oi.apart ops ok = true
set_option maxRecDepth 20000 in
theorem Clear.step {oi : Oper} (h : Clear md ops i oi L) (hj : L.getD j true = false) : Clear md ops i oi (L.setIfInBounds j true) := by
  intro k ok hk hki hun hno
  refine h k ok hk hki ?_ hno
  rcases Nat.decEq j k with hne | rfl
  · rwa [getD_set_ne true hne] at hun
  · exact hj
set_option maxRecDepth 20000 in
/-- An operation that may come up may be taken first, if it yields its value in each world that meets S0, and S0 follows from what is asked wherever J holds of the list; J lasts while i waits. -/
theorem wpAnyC_ahead {oi : Oper} {v : Value} (J : Array Bool → Prop) (hi : ops[i]? = some oi) (hsel : ∀ (k : Nat) (o : Oper) cs b, ops[k]? = some o → o.op ≠ .select cs b)
    (hQ : ∀ x a w, Q (.panic x) (a.put oi.dst v) w → Q (.panic x) a w) (hic : i ≠ c)
    (hJ : ∀ (L : Array Bool) k, J L → i ∈ Region.ready md ops L → k ∈ Region.ready md ops L → k ≠ i → J (L.setIfInBounds k true)) (hS : ∀ (L : Array Bool) w, J L → Till S c L w → S0 w) (n : Nat) :
    ∀ (L : Array Bool) (a : Act) (w : World), Clear md ops i oi L → i ∈ Region.ready md ops L → J L → YieldsIf P ops S0 oi v a → Till S c L w →
      wpAnyC P md ops Q S c n (L.setIfInBounds i true) (a.put oi.dst v) w → wpAnyC P md ops Q S c (n + 1) L a w := by
  have start : ∀ (m : Nat) (L : Array Bool) (a : Act) (w : World), i ∈ Region.ready md ops L → J L → YieldsIf P ops S0 oi v a → Till S c L w → wpAnyC P md ops Q S c m (L.setIfInBounds i true) (a.put oi.dst v) w →
      (∀ k ∈ Region.ready md ops L, k ≠ i → wpOp P ops Q k (fun b z => Till S c (L.setIfInBounds k true) z ∧ wpAnyC P md ops Q S c m (L.setIfInBounds k true) b z) a w) → wpAnyC P md ops Q S c (m + 1) L a w := by
    intro m L a w hr hj hy hw H rest
    refine ⟨fun e => absurd hr (by rw [e]; exact List.not_mem_nil), fun k hk => ?_⟩
    rcases Nat.decEq k i with hne | rfl
    · exact rest k hk hne
    · exact hy.wpOp hi (hS L w hj hw) ⟨hw.step hic, H⟩
  induction n with
  | zero =>
    intro L a w _ hr hj hy hw H
    exact start 0 L a w hr hj hy hw H fun k hk hne => absurd (ready_mono hk hne) (by rw [H.1]; exact List.not_mem_nil)
  | succ n ih =>
    intro L a w hcl hr hj hy hw H
    refine start (n + 1) L a w hr hj hy hw H fun k hk hne => ?_
    obtain ⟨hun, ok, hok, -⟩ := mem_ready.1 hk
    refine wpOp_mono (fun b z hb => ?_) (wpOp_putIf hok (hcl k ok hok hne hun (no_wait hr hk hok)) (fun cs b => hsel i oi cs b hi) (fun cs b => hsel k ok cs b hok) hQ hy (H.2 k (ready_mono hk hne)))
    obtain ⟨hy', ht, hrest⟩ := hb
    rw [Array.setIfInBounds_comm _ _ (Ne.symm hne)] at ht hrest
    have ht' := ht.back hic
    exact ⟨ht', ih _ b z (hcl.step hun) (ready_mono hr (Ne.symm hne)) (hJ L k hj hr hk hne) hy' ht' hrest⟩

/-- Does operation c wait for i? -/
def waitsB (md : Region.Mode) (ops : Array Oper) (c i : Nat) : Bool := match ops[c]? with
  | some o => o.after.any fun e => Region.binds md e && e.on == i
  | none => false
set_option maxRecDepth 20000 in
theorem wpAnyC_take {oi : Oper} {v : Value} {n : Nat} {a : Act} {w : World} (hi : ops[i]? = some oi)
    (hs : Region.noSelect ops = true) (hf : Region.free md ops L i = true) (hr : (Region.ready md ops L).contains i = true)
    (hci : (c != i && waitsB md ops c i && (L.getD c true == false)) = true)
    (hQ : ∀ x a w, Q (.panic x) (a.put oi.dst v) w → Q (.panic x) a w) (hy : YieldsIf P ops S oi v a) (hS : S w)
    (h : wpAnyC P md ops Q S c n (L.setIfInBounds i true) (a.put oi.dst v) w) : wpAnyC P md ops Q S c (n + 1) L a w := by
  simp only [Bool.and_eq_true, bne_iff_ne, beq_iff_eq] at hci
  obtain ⟨⟨h1, h2⟩, h3⟩ := hci
  unfold waitsB at h2
  split at h2
  · rename_i oc hoc
    rw [Array.any_eq_true'] at h2
    obtain ⟨e, he, hb⟩ := h2
    simp only [Bool.and_eq_true, beq_iff_eq] at hb
    refine wpAnyC_ahead (fun L => L.getD c true = false) hi (Region.noSelect_spec hs) hQ (Ne.symm h1) (fun L k hj hri hrk hne => ?_) (fun L w hj ht => ht hj) n L a w (Region.free_spec hi hf) (by simpa using hr) h3 hy (fun _ => hS) h
    have hkc : k ≠ c := fun hkc => by
      subst hkc
      exact no_wait hri hrk hoc e he hb.1 hb.2
    rw [getD_set_ne true hkc]; exact hj
  · cases h2
set_option maxRecDepth 20000 in
theorem wpAnyC_takeT {oi : Oper} {v : Value} {n : Nat} {a : Act} {w : World} (hi : ops[i]? = some oi)
    (hs : Region.noSelect ops = true) (hf : Region.free md ops L i = true) (hr : (Region.ready md ops L).contains i = true)
    (hci : (i != c) = true)
    (hQ : ∀ x a w, Q (.panic x) (a.put oi.dst v) w → Q (.panic x) a w) (hy : YieldsIf P ops (fun _ => True) oi v a) (hS : L.getD c true = false → S w)
    (h : wpAnyC P md ops Q S c n (L.setIfInBounds i true) (a.put oi.dst v) w) : wpAnyC P md ops Q S c (n + 1) L a w :=
  wpAnyC_ahead (fun _ => True) hi (Region.noSelect_spec hs) hQ (by simpa using hci) (fun _ _ _ _ _ _ => trivial) (fun _ _ _ _ => trivial) n L a w (Region.free_spec hi hf) (by simpa using hr) trivial hy hS h
set_option maxRecDepth 20000 in
theorem wpAnyC_done {a : Act} {w : World} (hr : Region.ready md ops L = []) (h : Q .normal a w) (n : Nat) : wpAnyC P md ops Q S c n L a w := by
  cases n with
  | zero => exact ⟨hr, h⟩
  | succ n => exact ⟨fun _ => h, by rw [hr]; simp⟩
set_option maxRecDepth 20000 in
/-- One operation alone may come up. -/
theorem wpAnyC_one {o : Oper} {n : Nat} {a : Act} {w : World} (hr : Region.ready md ops L = [i]) (ho : ops[i]? = some o)
    (h : ∀ K : Act → World → Prop, Shut (∀ b z, ((L.setIfInBounds i true).getD c true = false → S z) → wpAnyC P md ops Q S c n (L.setIfInBounds i true) b z → K b z) → if Region.wanted o (yielded ops a.tmps) = true then Oper.wp P o a w K Q else K (a.put o.dst undef) w) :
    wpAnyC P md ops Q S c (n + 1) L a w := by
  refine ⟨fun e => (by rw [hr] at e; cases e), fun k hk => ?_⟩
  rw [hr, List.mem_singleton] at hk
  subst hk
  exact wpOp_step ho (fun K hK => h K (fun b z ht hz => hK b z ⟨ht, hz⟩))
set_option maxRecDepth 20000 in
theorem wp_region_C {id : Nat} {a : Act} {w : World} (hm : P.follows .mixedOrders = true)
    (h : wpAnyC P .any ops Q S c ops.size (Array.replicate ops.size false) a w.drew) : (Code.region id ops true).wp P Q a w :=
  wp_region_any hm (wpAnyC_plain _ _ _ _ h)
end
end Go.Proofs.Ytikhhijbabllfaa
