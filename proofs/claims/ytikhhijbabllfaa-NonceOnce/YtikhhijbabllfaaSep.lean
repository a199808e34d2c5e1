/- Parts of memory side by side: what is said of parts that share no block. -/
import Derived.Test.YtikhhijbabllfaaKept
namespace Go.Proofs.Ytikhhijbabllfaa
open Go.RowKit Go.PlainAid
set_option linter.unusedVariables false

/-- What is said of a world and of a set of its blocks. -/
abbrev Asn := World → (Nat → Prop) → Prop
/-- It stays true while other blocks turn; its blocks are there. -/
structure Firm (P : Asn) : Prop where
  kept : ∀ {w w' : World} {F G : Nat → Prop}, P w F → Kept G w w' → (∀ k, F k → ¬ G k) → P w' F
  bound : ∀ {w : World} {F : Nat → Prop}, P w F → ∀ k, F k → k < w.heap.size
/-- Both, on blocks apart. -/
def star (P Q : Asn) : Asn := fun w F => ∃ G H, P w G ∧ Q w H ∧ (∀ k, G k → ¬ H k) ∧ ∀ k, F k ↔ G k ∨ H k
set_option maxRecDepth 20000 in
theorem Firm.star {P Q : Asn} (hP : Firm P) (hQ : Firm Q) : Firm (star P Q) :=
  ⟨fun ⟨G, H, h1, h2, h3, h4⟩ hk hd => ⟨G, H, hP.kept h1 hk (fun k hg => hd k ((h4 k).2 (.inl hg))), hQ.kept h2 hk (fun k hh => hd k ((h4 k).2 (.inr hh))), h3, h4⟩,
   fun ⟨G, H, h1, h2, h3, h4⟩ k hk => ((h4 k).1 hk).elim (hP.bound h1 k) (hQ.bound h2 k)⟩
/-- All that the call has made is so, and nothing ahead of block B has turned since w0. -/
def Hold (B : Nat) (w0 w : World) (P : Asn) : Prop := B ≤ w.heap.size ∧ Below B w0 w ∧ ∃ F, P w F ∧ ∀ k, F k → B ≤ k
set_option maxRecDepth 20000 in
theorem Hold.size {B : Nat} {w0 w : World} {P : Asn} (h : Hold B w0 w P) : B ≤ w.heap.size := h.1
set_option maxRecDepth 20000 in
theorem Hold.low {B : Nat} {w0 w : World} {P : Asn} (h : Hold B w0 w P) : Below B w0 w := h.2.1
set_option maxRecDepth 20000 in
theorem Hold.mono {B : Nat} {w0 w : World} {P Q : Asn} (h : Hold B w0 w P) (hPQ : ∀ F, P w F → Q w F) : Hold B w0 w Q := by
  obtain ⟨h1, h2, F, h3, h4⟩ := h; exact ⟨h1, h2, F, hPQ F h3, h4⟩
set_option maxRecDepth 20000 in
theorem Hold.below {B : Nat} {w0 w w' : World} {P : Asn} (h : Hold B w0 w P) (hP : Firm P) (hb : Below w.heap.size w w') : Hold B w0 w' P := by
  obtain ⟨h1, h2, F, h3, h4⟩ := h
  exact ⟨Nat.le_trans h1 hb.size, h2.trans (hb.mono h1), F, hP.kept h3 (Kept.ofBelow (F := fun _ => False) hb) (fun _ _ h => h), h4⟩
set_option maxRecDepth 20000 in
theorem star_swap {P Q R : Asn} {w : World} {F : Nat → Prop} (h : star P (star Q R) w F) : star Q (star P R) w F := by
  obtain ⟨G, H, h1, ⟨I, J, h2, h3, h4, h5⟩, h6, h7⟩ := h
  refine ⟨I, fun k => G k ∨ J k, h2, ⟨G, J, h1, h3, fun k hg hj => h6 k hg ((h5 k).2 (.inr hj)), fun k => Iff.rfl⟩, ?_, ?_⟩
  · rintro k hi (hg | hj)
    · exact h6 k hg ((h5 k).2 (.inl hi))
    · exact h4 k hi hj
  · intro k
    rw [h7 k, h5 k]
    constructor
    · rintro (h | h | h)
      · exact .inr (.inl h)
      · exact .inl h
      · exact .inr (.inr h)
    · rintro (h | h | h)
      · exact .inr (.inl h)
      · exact .inl h
      · exact .inr (.inr h)
set_option maxRecDepth 20000 in
theorem star_comm {P Q : Asn} {w : World} {F : Nat → Prop} (h : star P Q w F) : star Q P w F := by
  obtain ⟨G, H, h1, h2, h3, h4⟩ := h
  exact ⟨H, G, h2, h1, fun k hh hg => h3 k hg hh, fun k => (h4 k).trans Or.comm⟩
set_option maxRecDepth 20000 in
theorem Hold.swap {B : Nat} {w0 w : World} {P Q R : Asn} (h : Hold B w0 w (star P (star Q R))) : Hold B w0 w (star Q (star P R)) := h.mono (fun _ => star_swap)
set_option maxRecDepth 20000 in
theorem Hold.comm {B : Nat} {w0 w : World} {P Q : Asn} (h : Hold B w0 w (star P Q)) : Hold B w0 w (star Q P) := h.mono (fun _ => star_comm)
set_option maxRecDepth 20000 in
theorem Hold.left {B : Nat} {w0 w : World} {P Q : Asn} (h : Hold B w0 w (star P Q)) : Hold B w0 w P := by
  obtain ⟨h1, h2, F, ⟨G, H, h3, h4, h5, h6⟩, h7⟩ := h
  exact ⟨h1, h2, G, h3, fun k hk => h7 k ((h6 k).2 (.inl hk))⟩
set_option maxRecDepth 20000 in
theorem Hold.monoL {B : Nat} {w0 w : World} {P P' Q : Asn} (h : Hold B w0 w (star P Q)) (hP : ∀ F, P w F → P' w F) : Hold B w0 w (star P' Q) :=
  h.mono (fun F ⟨G, H, h3, h4⟩ => ⟨G, H, hP G h3, h4⟩)
set_option maxRecDepth 20000 in
theorem Hold.monoR {B : Nat} {w0 w : World} {P Q Q' : Asn} (h : Hold B w0 w (star P Q)) (hQ : ∀ F, Q w F → Q' w F) : Hold B w0 w (star P Q') :=
  h.mono (fun F ⟨G, H, h3, h4, h5⟩ => ⟨G, H, h3, hQ H h4, h5⟩)
set_option maxRecDepth 20000 in
/-- A call that turns the first part alone. -/
theorem Hold.turned {B : Nat} {w0 w w' : World} {P' R : Asn} (hR : Firm R) {G H : Nat → Prop} (hB : B ≤ w.heap.size) (hb : Below B w0 w) (hr : R w H) (hd : ∀ k, G k → ¬ H k) (hF : ∀ k, G k ∨ H k → B ≤ k) (hT : Turned G w w' (fun G' => P' w' G')) : Hold B w0 w' (star P' R) := by
  obtain ⟨G', h1, h2, h3⟩ := hT
  refine ⟨Nat.le_trans hB h2.size, h2.below hb hB (fun k hk => hF k (.inl hk)), fun k => G' k ∨ H k, ⟨G', H, h1, hR.kept hr h2 (fun k hh hg => hd k hg hh), ?_, fun k => Iff.rfl⟩, ?_⟩
  · intro k hk hh
    rcases h3 k hk with h | h
    · exact hd k h hh
    · have := hR.bound hr k hh; omega
  · rintro k (hk | hk)
    · rcases h3 k hk with h | h
      · exact hF k (.inl h)
      · exact Nat.le_trans hB h
    · exact hF k (.inr hk)
set_option maxRecDepth 20000 in
theorem Hold.call {B : Nat} {w0 w : World} {P P' R : Asn} (hR : Firm R) {f : Nat} {args : Array Value} {E : Ending → Prop} (h : Hold B w0 w (star P R)) (hc : ∀ G, P w G → (∀ k, G k → B ≤ k) → Calls Try.prog f args w fun e w' => E e ∧ Turned G w w' (fun G' => P' w' G')) :
    Calls Try.prog f args w fun e w' => E e ∧ Hold B w0 w' (star P' R) := by
  obtain ⟨h1, h2, F, ⟨G, H, h3, h4, h5, h6⟩, h7⟩ := h
  refine (hc G h3 (fun k hk => h7 k ((h6 k).2 (.inl hk)))).mono ?_
  rintro e w' ⟨he, hT⟩
  exact ⟨he, Hold.turned hR h1 h2 h4 h5 (fun k hk => h7 k ((h6 k).2 hk)) hT⟩
set_option maxRecDepth 20000 in
/-- New memory of its own. -/
theorem Hold.new {B : Nat} {w0 w w' : World} {P R : Asn} (hR : Firm R) (h : Hold B w0 w R) (hb : Below w.heap.size w w') {G : Nat → Prop} (hP : P w' G) (hG : ∀ k, G k → w.heap.size ≤ k) : Hold B w0 w' (star P R) := by
  obtain ⟨h1, h2, F, h3, h4⟩ := h
  refine ⟨Nat.le_trans h1 hb.size, h2.trans (hb.mono h1), fun k => G k ∨ F k, ⟨G, F, hP, hR.kept h3 (Kept.ofBelow (F := fun _ => False) hb) (fun _ _ h => h), ?_, fun k => Iff.rfl⟩, ?_⟩
  · intro k hk hf
    have := hG k hk
    have := hR.bound h3 k hf
    omega
  · rintro k (hk | hk)
    · exact Nat.le_trans h1 (hG k hk)
    · exact h4 k hk
/-- Nothing. -/
def nought : Asn := fun w F => ∀ k, ¬ F k
set_option maxRecDepth 20000 in
theorem firm_nought : Firm nought := ⟨fun h _ _ => h, fun h k hk => absurd hk (h k)⟩
set_option maxRecDepth 20000 in
theorem hold_nought (B : Nat) (w0 w : World) (hB : B ≤ w.heap.size) (hb : Below B w0 w) : Hold B w0 w nought := ⟨hB, hb, fun _ => False, fun _ h => h, fun _ h => h.elim⟩
def blkA (g : Nat) (T : TypeId) (L : List Value) : Asn := fun w F => Blk w g T L ∧ ∀ k, F k ↔ k = g
set_option maxRecDepth 20000 in
theorem firm_blk (g : Nat) (T : TypeId) (L : List Value) : Firm (blkA g T L) := ⟨fun h hk hd => ⟨h.1.kept hk (hd g ((h.2 g).2 rfl)), h.2⟩, fun h k hk => by rw [(h.2 k).1 hk]; exact h.1.lt⟩
set_option maxRecDepth 20000 in
theorem Hold.blk {B : Nat} {w0 w : World} {g : Nat} {T : TypeId} {L : List Value} {R : Asn} (h : Hold B w0 w (star (blkA g T L) R)) : Blk w g T L := by
  obtain ⟨h1, h2, F, ⟨G, H, h3, h4⟩, h7⟩ := h; exact h3.1
set_option maxRecDepth 20000 in
theorem pull_last {R X Bi Tx : Asn} {w : World} {F : Nat → Prop} (h : star R (star X (star Bi Tx)) w F) : star Tx (star R (star X Bi)) w F := by
  obtain ⟨G, H, h1, h2, h3⟩ := h
  have h4 : star Tx (star X Bi) w H := star_swap (by
    obtain ⟨G', H', k1, k2, k3⟩ := h2
    exact ⟨G', H', k1, star_comm k2, k3⟩)
  exact star_swap ⟨G, H, h1, h4, h3⟩
set_option maxRecDepth 20000 in
theorem push_last {R X Bi Tx : Asn} {w : World} {F : Nat → Prop} (h : star Tx (star R (star X Bi)) w F) : star R (star X (star Bi Tx)) w F := by
  obtain ⟨G, H, h1, h2, h3⟩ := star_swap h
  refine ⟨G, H, h1, ?_, h3⟩
  obtain ⟨G', H', k1, k2, k3⟩ := star_swap h2
  exact ⟨G', H', k1, star_comm k2, k3⟩
set_option maxRecDepth 20000 in
theorem star_left {P Q : Asn} {w : World} {F : Nat → Prop} (h : star P Q w F) : ∃ G, P w G ∧ ∀ k, G k → F k := by
  obtain ⟨G, H, h1, h2, h3, h4⟩ := h
  exact ⟨G, h1, fun k hk => (h4 k).2 (.inl hk)⟩
set_option maxRecDepth 20000 in
theorem star_right {P Q : Asn} {w : World} {F : Nat → Prop} (h : star P Q w F) : ∃ G, Q w G ∧ ∀ k, G k → F k := by
  obtain ⟨G, H, h1, h2, h3, h4⟩ := h
  exact ⟨H, h2, fun k hk => (h4 k).2 (.inr hk)⟩
set_option maxRecDepth 20000 in
theorem Hold.right {B : Nat} {w0 w : World} {P Q : Asn} (h : Hold B w0 w (star P Q)) : Hold B w0 w Q := h.comm.left
set_option maxRecDepth 20000 in
theorem unpack {D R X I T : Asn} {w : World} {F : Nat → Prop} (h : star D (star R (star X (star I T))) w F) : ∃ F1 F2 F3 F4 F5, D w F1 ∧ R w F2 ∧ X w F3 ∧ I w F4 ∧ T w F5 ∧
    (∀ k, F1 k → ¬ (F2 k ∨ F3 k ∨ F4 k ∨ F5 k)) ∧ (∀ k, F2 k → ¬ (F3 k ∨ F4 k ∨ F5 k)) ∧ (∀ k, F3 k → ¬ (F4 k ∨ F5 k)) ∧ (∀ k, F4 k → ¬ F5 k) ∧ ∀ k, F k ↔ F1 k ∨ F2 k ∨ F3 k ∨ F4 k ∨ F5 k := by
  obtain ⟨F1, H1, d1, ⟨F2, H2, d2, ⟨F3, H3, d3, ⟨F4, F5, d4, d5, e4, f4⟩, e3, f3⟩, e2, f2⟩, e1, f1⟩ := h
  refine ⟨F1, F2, F3, F4, F5, d1, d2, d3, d4, d5, fun k hk h => ?_, fun k hk h => ?_, fun k hk h => ?_, e4, fun k => ?_⟩
  · exact e1 k hk ((f2 k).2 (h.imp id fun h => (f3 k).2 (h.imp id fun h => (f4 k).2 h)))
  · exact e2 k hk ((f3 k).2 (h.imp id fun h => (f4 k).2 h))
  · exact e3 k hk ((f4 k).2 h)
  · rw [f1 k, f2 k, f3 k, f4 k]
set_option maxRecDepth 20000 in
theorem pack {D R X I T : Asn} {w : World} {F1 F2 F3 F4 F5 : Nat → Prop} (d1 : D w F1) (d2 : R w F2) (d3 : X w F3) (d4 : I w F4) (d5 : T w F5) (e1 : ∀ k, F1 k → ¬ (F2 k ∨ F3 k ∨ F4 k ∨ F5 k)) (e2 : ∀ k, F2 k → ¬ (F3 k ∨ F4 k ∨ F5 k)) (e3 : ∀ k, F3 k → ¬ (F4 k ∨ F5 k)) (e4 : ∀ k, F4 k → ¬ F5 k) :
    star D (star R (star X (star I T))) w (fun k => F1 k ∨ F2 k ∨ F3 k ∨ F4 k ∨ F5 k) :=
  ⟨F1, fun k => F2 k ∨ F3 k ∨ F4 k ∨ F5 k, d1, ⟨F2, fun k => F3 k ∨ F4 k ∨ F5 k, d2, ⟨F3, fun k => F4 k ∨ F5 k, d3, ⟨F4, F5, d4, d5, e4, fun k => Iff.rfl⟩, e3, fun k => Iff.rfl⟩, e2, fun k => Iff.rfl⟩, e1, fun k => Iff.rfl⟩
set_option maxRecDepth 20000 in
theorem pack4 {D R I T : Asn} {w : World} {F1 F2 F4 F5 : Nat → Prop} (d1 : D w F1) (d2 : R w F2) (d4 : I w F4) (d5 : T w F5) (e1 : ∀ k, F1 k → ¬ (F2 k ∨ F4 k ∨ F5 k)) (e2 : ∀ k, F2 k → ¬ (F4 k ∨ F5 k)) (e4 : ∀ k, F4 k → ¬ F5 k) :
    star D (star R (star I T)) w (fun k => F1 k ∨ F2 k ∨ F4 k ∨ F5 k) :=
  ⟨F1, fun k => F2 k ∨ F4 k ∨ F5 k, d1, ⟨F2, fun k => F4 k ∨ F5 k, d2, ⟨F4, F5, d4, d5, e4, fun k => Iff.rfl⟩, e2, fun k => Iff.rfl⟩, e1, fun k => Iff.rfl⟩
/-- P i for each i of S, on blocks apart. -/
def each (S : Nat → Prop) (P : Nat → Asn) : Asn := fun w F => ∃ H : Nat → Nat → Prop, (∀ i, S i → P i w (H i)) ∧ (∀ i j, S i → S j → i ≠ j → ∀ k, H i k → ¬ H j k) ∧ ∀ k, F k ↔ ∃ i, S i ∧ H i k
set_option maxRecDepth 20000 in
theorem firm_each {S : Nat → Prop} {P : Nat → Asn} (h : ∀ i, Firm (P i)) : Firm (each S P) :=
  ⟨fun ⟨H, h1, h2, h3⟩ hk hd => ⟨H, fun i hi => (h i).kept (h1 i hi) hk (fun k hh => hd k ((h3 k).2 ⟨i, hi, hh⟩)), h2, h3⟩,
   fun ⟨H, h1, h2, h3⟩ k hk => by obtain ⟨i, hi, hh⟩ := (h3 k).1 hk; exact (h i).bound (h1 i hi) k hh⟩
set_option maxRecDepth 20000 in
theorem each_take {S : Nat → Prop} {P : Nat → Asn} {w : World} {F : Nat → Prop} (i : Nat) (hi : S i) (h : each S P w F) : star (P i) (each (fun j => S j ∧ j ≠ i) P) w F := by
  obtain ⟨H, h1, h2, h3⟩ := h
  refine ⟨H i, fun k => ∃ j, (S j ∧ j ≠ i) ∧ H j k, h1 i hi, ⟨H, fun j hj => h1 j hj.1, fun a b ha hb => h2 a b ha.1 hb.1, fun k => Iff.rfl⟩, fun k hk ⟨j, hj, hjk⟩ => h2 i j hi hj.1 (Ne.symm hj.2) k hk hjk, fun k => ?_⟩
  rw [h3 k]
  constructor
  · rintro ⟨j, hj, hjk⟩
    by_cases e : j = i
    · exact .inl (e ▸ hjk)
    · exact .inr ⟨j, ⟨hj, e⟩, hjk⟩
  · rintro (hk | ⟨j, hj, hjk⟩)
    · exact ⟨i, hi, hk⟩
    · exact ⟨j, hj.1, hjk⟩
set_option maxRecDepth 20000 in
theorem each_put {S : Nat → Prop} {P P' : Nat → Asn} {w : World} {F : Nat → Prop} (i : Nat) (hi : S i) (hP : ∀ j, S j → j ≠ i → P j = P' j) (h : star (P' i) (each (fun j => S j ∧ j ≠ i) P) w F) : each S P' w F := by
  obtain ⟨G, K, g1, ⟨H, h1, h2, h3⟩, g3, g4⟩ := h
  refine ⟨fun j => if j = i then G else H j, fun j hj => ?_, fun a b ha hb hab k hk hk' => ?_, fun k => ?_⟩
  · show P' j w (if j = i then G else H j)
    by_cases e : j = i
    · rw [if_pos e, e]; exact g1
    · rw [if_neg e, ← hP j hj e]; exact h1 j ⟨hj, e⟩
  · have hk : (if a = i then G else H a) k := hk
    have hk' : (if b = i then G else H b) k := hk'
    by_cases ea : a = i
    · rw [if_pos ea] at hk
      rw [if_neg (fun e => hab (ea.trans e.symm))] at hk'
      exact g3 k hk ((h3 k).2 ⟨b, ⟨hb, fun e => hab (ea.trans e.symm)⟩, hk'⟩)
    · rw [if_neg ea] at hk
      by_cases eb : b = i
      · rw [if_pos eb] at hk'
        exact g3 k hk' ((h3 k).2 ⟨a, ⟨ha, ea⟩, hk⟩)
      · rw [if_neg eb] at hk'
        exact h2 a b ⟨ha, ea⟩ ⟨hb, eb⟩ hab k hk hk'
  · rw [g4 k, h3 k]
    constructor
    · rintro (hk | ⟨j, hj, hjk⟩)
      · exact ⟨i, hi, by show (if i = i then G else H i) k; rw [if_pos rfl]; exact hk⟩
      · exact ⟨j, hj.1, by show (if j = i then G else H j) k; rw [if_neg hj.2]; exact hjk⟩
    · rintro ⟨j, hj, hjk⟩
      have hjk : (if j = i then G else H j) k := hjk
      by_cases e : j = i
      · rw [if_pos e] at hjk; exact .inl hjk
      · rw [if_neg e] at hjk; exact .inr ⟨j, ⟨hj, e⟩, hjk⟩
set_option maxRecDepth 20000 in
theorem each_congr {S S' : Nat → Prop} {P P' : Nat → Asn} {w : World} {F : Nat → Prop} (hS : ∀ i, S i ↔ S' i) (hP : ∀ i, S i → P i = P' i) (h : each S P w F) : each S' P' w F := by
  obtain ⟨H, h1, h2, h3⟩ := h
  refine ⟨H, fun i hi => ?_, fun a b ha hb => h2 a b ((hS a).2 ha) ((hS b).2 hb), fun k => ?_⟩
  · rw [← hP i ((hS i).2 hi)]; exact h1 i ((hS i).2 hi)
  · rw [h3 k]; exact ⟨fun ⟨i, hi, hk⟩ => ⟨i, (hS i).1 hi, hk⟩, fun ⟨i, hi, hk⟩ => ⟨i, (hS i).2 hi, hk⟩⟩
set_option maxRecDepth 20000 in
theorem each_none {S : Nat → Prop} {P : Nat → Asn} {w : World} {F : Nat → Prop} (hS : ∀ i, ¬ S i) (h : nought w F) : each S P w F :=
  ⟨fun _ _ => False, fun i hi => absurd hi (hS i), fun i _ hi => absurd hi (hS i), fun k => ⟨fun hk => absurd hk (h k), fun ⟨i, hi, _⟩ => absurd hi (hS i)⟩⟩
set_option maxRecDepth 20000 in
/-- One more. -/
theorem each_more {P P' : Nat → Asn} {w : World} {F : Nat → Prop} (n : Nat) (hP : ∀ j, j < n → P j = P' j) (h : star (P' n) (each (fun j => j < n) P) w F) : each (fun j => j < n + 1) P' w F :=
  each_put (P := P) n (by omega) (fun j hj e => hP j (by omega)) (by
    obtain ⟨G, K, g1, g2, g3⟩ := h
    exact ⟨G, K, g1, each_congr (fun j => ⟨fun hj => ⟨by omega, by omega⟩, fun hj => by omega⟩) (fun _ _ => rfl) g2, g3⟩)
/-- A row of values that may grow. -/
def rowA (T : TypeId) (v : Value) (m : Nat) (xs : List Value) : Asn := fun w F => w.ownsRow 0 T 1 v m xs ∧ ∀ k, F k ↔ v.ownBlock = some k
set_option maxRecDepth 20000 in
theorem firm_row (T : TypeId) (v : Value) (m : Nat) (xs : List Value) : Firm (rowA T v m xs) :=
  ⟨fun h hk hd => ⟨owns_kept h.1 hk (fun k e => hd k ((h.2 k).2 e)), h.2⟩, fun h k hk => (World.ownsRow.lt h.1 k ((h.2 k).1 hk)).2⟩
set_option maxRecDepth 20000 in
theorem star_assoc {P Q R : Asn} {w : World} {F : Nat → Prop} (h : star (star P Q) R w F) : star P (star Q R) w F := by
  obtain ⟨G, H, ⟨I, J, h1, h2, h3, h4⟩, h5, h6, h7⟩ := h
  refine ⟨I, fun k => J k ∨ H k, h1, ⟨J, H, h2, h5, fun k hj hh => h6 k ((h4 k).2 (.inr hj)) hh, fun k => Iff.rfl⟩, ?_, fun k => ?_⟩
  · rintro k hi (hj | hh)
    · exact h3 k hi hj
    · exact h6 k ((h4 k).2 (.inl hi)) hh
  · rw [h7 k, h4 k, or_assoc]
set_option maxRecDepth 20000 in
theorem star_unassoc {P Q R : Asn} {w : World} {F : Nat → Prop} (h : star P (star Q R) w F) : star (star P Q) R w F := star_comm (by
  have h1 : star P (star R Q) w F := by
    obtain ⟨G, H, g1, g2, g3⟩ := h
    exact ⟨G, H, g1, star_comm g2, g3⟩
  have h2 := star_swap h1
  exact h2)
set_option maxRecDepth 20000 in
theorem star_monoL {P P' Q : Asn} {w : World} {F : Nat → Prop} (h : star P Q w F) (hP : ∀ F, P w F → P' w F) : star P' Q w F := by
  obtain ⟨G, H, h1, h2, h3⟩ := h; exact ⟨G, H, hP G h1, h2, h3⟩
set_option maxRecDepth 20000 in
theorem star_monoR {P Q Q' : Asn} {w : World} {F : Nat → Prop} (h : star P Q w F) (hQ : ∀ F, Q w F → Q' w F) : star P Q' w F := by
  obtain ⟨G, H, h1, h2, h3⟩ := h; exact ⟨G, H, h1, hQ H h2, h3⟩
set_option maxRecDepth 20000 in
theorem Hold.assoc {B : Nat} {w0 w : World} {P Q R : Asn} (h : Hold B w0 w (star (star P Q) R)) : Hold B w0 w (star P (star Q R)) := h.mono (fun _ => star_assoc)
set_option maxRecDepth 20000 in
theorem Hold.unassoc {B : Nat} {w0 w : World} {P Q R : Asn} (h : Hold B w0 w (star P (star Q R))) : Hold B w0 w (star (star P Q) R) := h.mono (fun _ => star_unassoc)
set_option maxRecDepth 20000 in
/-- One cell of a block turned. -/
theorem Hold.setBlk {B : Nat} {w0 w : World} {g : Nat} {T : TypeId} {L : List Value} {R : Asn} (hR : Firm R) (h : Hold B w0 w (star (blkA g T L) R)) (i : Nat) (v : Value) : Hold B w0 (w.setCell ⟨g, i, none⟩ v) (star (blkA g T (L.set i v)) R) := by
  obtain ⟨h1, h2, F, ⟨G, H, h3, h4, h5, h6⟩, h7⟩ := h
  exact Hold.turned hR h1 h2 h4 h5 (fun k hk => h7 k ((h6 k).2 hk)) ⟨G, ⟨h3.1.setCell i v, h3.2⟩, (Kept.one w g i v).mono (fun k _ e => (h3.2 k).2 e), fun k hk => .inl hk⟩
set_option maxRecDepth 20000 in
theorem Hold.drew {B : Nat} {w0 w : World} {P : Asn} (hP : Firm P) (h : Hold B w0 w P) : Hold B w0 w.drew P := h.below hP (Below.refl _ _).drew
set_option maxRecDepth 20000 in
theorem Hold.row {B : Nat} {w0 w : World} {T : TypeId} {v : Value} {m : Nat} {xs : List Value} {R : Asn} (h : Hold B w0 w (star (rowA T v m xs) R)) : w.ownsRow 0 T 1 v m xs := by
  obtain ⟨h1, h2, F, ⟨G, H, h3, h4⟩, h7⟩ := h; exact h3.1
set_option maxRecDepth 20000 in
theorem star_exists {P : Asn} {A : Nat → Asn} {w : World} {F : Nat → Prop} (h : star P (fun w F => ∃ x, A x w F) w F) : ∃ x, star P (A x) w F := by
  obtain ⟨G, H, h1, ⟨x, h2⟩, h3⟩ := h; exact ⟨x, G, H, h1, h2, h3⟩
set_option maxRecDepth 20000 in
/-- A row of one more value. -/
theorem row_push {B : Nat} {w0 w : World} {R : Asn} (hR : Firm R) (sl T ty : TypeId) (z : Value) (by_ : Nat) (hu : Try.prog.underlying sl = some (.slice T)) (hT : (Try.prog.info? T).map (fun i => (i.zero, i.size, i.bytes)) = some (some z, 1, by_)) (hz : z.cells.size = 1) (hby : by_ ≤ 24)
    {v : Value} {m : Nat} {xs : List Value} (h : Hold B w0 w (star (rowA T v m xs) R)) (x : Value) (hx : x.oneCell' = true) (hm : m ≤ 1000000) :
    ∃ g' cap' w', (Builtin.append_ #[sl, sl] ty #[v, .slice (some ⟨w.heap.size, 0, none⟩) 1 1]).run Try.prog (w.alloc (.cells #[x] T)) = .ok (.slice (some ⟨g', 0, none⟩) (m + 1) cap') w' ∧
      Hold B w0 w' (star (rowA T (.slice (some ⟨g', 0, none⟩) (m + 1) cap') (m + 1) (xs ++ [x])) R) := by
  obtain ⟨i0, hi, hz0, hz1, hz2⟩ := info_parts hT
  have hnews : ∀ (i : Nat) u, [x][i]? = some u → (w.alloc (.cells #[x] T)).cell? ((⟨w.heap.size, 0, none⟩ : Addr).add i) = some u := fun i u hi => by
    match i, hi with
    | 0, hi => simp at hi; subst hi; simp only [Addr.add]; exact (Blk.new w T #[x]).cell rfl
  have hb : (m + 1) * by_ ≤ 140737488355328 := Nat.le_trans (Nat.mul_le_mul (by omega : m + 1 ≤ 1000001) hby) (by decide)
  obtain ⟨v', w', hrun, hown, hgrow, _, hat⟩ := run_append_own_at (P := Try.prog) (w.alloc (.cells #[x] T)) 0 sl ty T i0 z 1 by_ hu hi hz0 hz1 hz2 hz (by decide) v m xs (World.ownsRow.alloc h.row _)
    ⟨w.heap.size, 0, none⟩ 1 1 [x] rfl hnews (fun u hu => by simp at hu; subst hu; exact hx) (by unfold maxLen; omega) hb (Nat.zero_le _)
  have hown' := hown
  rcases hown.2 with ⟨_, h0⟩ | ⟨g', cap', cur, rfl, _⟩
  · omega
  · refine ⟨g', cap', w', hrun, ?_⟩
    obtain ⟨h1, h2, F, ⟨G, H, h3, h4, h5, h6⟩, h7⟩ := h
    refine Hold.turned hR h1 h2 h4 h5 (fun k hk => h7 k ((h6 k).2 hk)) ⟨fun k => k = g', ⟨hown', fun k => ⟨fun e => by rw [e]; rfl, fun e => (Option.some.inj e).symm⟩⟩, ?_, ?_⟩
    · exact ((Kept.refl G w).alloc _).grown hgrow (fun k e => .inl ((h3.2 k).2 e))
    · rintro k rfl
      rcases hat with e | e
      · exact .inl ((h3.2 k).2 e.symm)
      · have h2 : k = (w.alloc (.cells #[x] T)).heap.size := Option.some.inj e
        rw [World.size_alloc] at h2
        exact .inr (by omega)
set_option maxRecDepth 20000 in
theorem Hold.addNought {B : Nat} {w0 w : World} {R : Asn} (h : Hold B w0 w R) : Hold B w0 w (star nought R) := h.mono (fun F h => ⟨fun _ => False, F, fun _ h => h, h, fun _ h => h.elim, fun k => ⟨.inr, fun h => h.elim (fun h => h.elim) id⟩⟩)
set_option maxRecDepth 20000 in
theorem Hold.newBlk {B : Nat} {w0 w : World} {R : Asn} (hR : Firm R) (h : Hold B w0 w R) (T : TypeId) (A : Array Value) : Hold B w0 (w.alloc (.cells A T)) (star (blkA w.heap.size T A.toList) R) :=
  Hold.new hR h ((Below.refl _ _).alloc (Nat.le_refl _) _) (G := fun k => k = w.heap.size) ⟨Blk.new w T A, fun k => Iff.rfl⟩ (fun k hk => by rw [hk]; exact Nat.le_refl _)
set_option maxRecDepth 20000 in
/-- A whole block laid over. -/
theorem Hold.setRowBlk {B : Nat} {w0 w : World} {g : Nat} {T : TypeId} {L : List Value} {R : Asn} (hR : Firm R) (h : Hold B w0 w (star (blkA g T L) R)) (M : List Value) : Hold B w0 (w.setRow g M.toArray) (star (blkA g T M) R) := by
  obtain ⟨h1, h2, F, ⟨G, H, h3, h4, h5, h6⟩, h7⟩ := h
  exact Hold.turned hR h1 h2 h4 h5 (fun k hk => h7 k ((h6 k).2 hk)) ⟨G, ⟨h3.1.setRow, h3.2⟩, (Kept.oneRow w g M.toArray).mono (fun k _ e => (h3.2 k).2 e), fun k hk => .inl hk⟩
end Go.Proofs.Ytikhhijbabllfaa
