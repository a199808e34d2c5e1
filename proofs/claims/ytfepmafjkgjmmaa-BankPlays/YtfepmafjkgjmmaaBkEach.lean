/- Parts of memory by number, each on blocks of its own; rows of values; a bank, the program's and the document's. -/
import Derived.Test.YtfepmafjkgjmmaaDkPack
namespace Go.Proofs.Ytfepmafjkgjmmaa
open Go.RowKit Go.PlainAid
set_option linter.unusedVariables false

/-- P i for each i of S, on blocks apart. -/
def each (S : Nat → Prop) (P : Nat → Asn) : Asn := fun w F => ∃ H : Nat → Nat → Prop, (∀ i, S i → P i w (H i)) ∧ (∀ i j, S i → S j → i ≠ j → ∀ k, H i k → ¬ H j k) ∧ ∀ k, F k ↔ ∃ i, S i ∧ H i k
theorem firm_each {S : Nat → Prop} {P : Nat → Asn} (h : ∀ i, Firm (P i)) : Firm (each S P) :=
  ⟨fun ⟨H, h1, h2, h3⟩ hk hd => ⟨H, fun i hi => (h i).kept (h1 i hi) hk (fun k hh => hd k ((h3 k).2 ⟨i, hi, hh⟩)), h2, h3⟩,
   fun ⟨H, h1, h2, h3⟩ k hk => by obtain ⟨i, hi, hh⟩ := (h3 k).1 hk; exact (h i).bound (h1 i hi) k hh⟩
theorem each_take {S : Nat → Prop} {P : Nat → Asn} {w : World} {F : Nat → Prop} (i : Nat) (hi : S i) (h : each S P w F) : star (P i) (each (fun j => S j ∧ j ≠ i) P) w F := by
  obtain ⟨H, h1, h2, h3⟩ := h
  refine ⟨H i, fun k => ∃ j, (S j ∧ j ≠ i) ∧ H j k, h1 i hi, ⟨H, fun j hj => h1 j hj.1, fun a b ha hb => h2 a b ha.1 hb.1, fun k => Iff.rfl⟩, fun k hk ⟨j, hj, hjk⟩ => h2 i j hi hj.1 (Ne.symm hj.2) k hk hjk, fun k => ?_⟩
  rw [h3 k]
  constructor
  · rintro ⟨j, hj, hjk⟩
    by_cases e : j = i
    · exact .inl (e ▸ hjk)
    · exact .inr ⟨j, ⟨hj, e⟩, hjk⟩
  · rintro (hk | ⟨j, hj, hjk⟩)
    · exact ⟨i, hi, hk⟩
    · exact ⟨j, hj.1, hjk⟩
theorem each_put {S : Nat → Prop} {P P' : Nat → Asn} {w : World} {F : Nat → Prop} (i : Nat) (hi : S i) (hP : ∀ j, S j → j ≠ i → P j = P' j) (h : star (P' i) (each (fun j => S j ∧ j ≠ i) P) w F) : each S P' w F := by
  obtain ⟨G, K, g1, ⟨H, h1, h2, h3⟩, g3, g4⟩ := h
  refine ⟨fun j => if j = i then G else H j, fun j hj => ?_, fun a b ha hb hab k hk hk' => ?_, fun k => ?_⟩
  · show P' j w (if j = i then G else H j)
    by_cases e : j = i
    · rw [if_pos e, e]; exact g1
    · rw [if_neg e, ← hP j hj e]; exact h1 j ⟨hj, e⟩
  · have hk : (if a = i then G else H a) k := hk
    have hk' : (if b = i then G else H b) k := hk'
    by_cases ea : a = i
    · rw [if_pos ea] at hk
      rw [if_neg (fun e => hab (ea.trans e.symm))] at hk'
      exact g3 k hk ((h3 k).2 ⟨b, ⟨hb, fun e => hab (ea.trans e.symm)⟩, hk'⟩)
    · rw [if_neg ea] at hk
      by_cases eb : b = i
      · rw [if_pos eb] at hk'
        exact g3 k hk' ((h3 k).2 ⟨a, ⟨ha, ea⟩, hk⟩)
      · rw [if_neg eb] at hk'
        exact h2 a b ⟨ha, ea⟩ ⟨hb, eb⟩ hab k hk hk'
  · rw [g4 k, h3 k]
    constructor
    · rintro (hk | ⟨j, hj, hjk⟩)
      · exact ⟨i, hi, by show (if i = i then G else H i) k; rw [if_pos rfl]; exact hk⟩
      · exact ⟨j, hj.1, by show (if j = i then G else H j) k; rw [if_neg hj.2]; exact hjk⟩
    · rintro ⟨j, hj, hjk⟩
      have hjk : (if j = i then G else H j) k := hjk
      by_cases e : j = i
      · rw [if_pos e] at hjk; exact .inl hjk
      · rw [if_neg e] at hjk; exact .inr ⟨j, ⟨hj, e⟩, hjk⟩
theorem each_congr {S S' : Nat → Prop} {P P' : Nat → Asn} {w : World} {F : Nat → Prop} (hS : ∀ i, S i ↔ S' i) (hP : ∀ i, S i → P i = P' i) (h : each S P w F) : each S' P' w F := by
  obtain ⟨H, h1, h2, h3⟩ := h
  refine ⟨H, fun i hi => ?_, fun a b ha hb => h2 a b ((hS a).2 ha) ((hS b).2 hb), fun k => ?_⟩
  · rw [← hP i ((hS i).2 hi)]; exact h1 i ((hS i).2 hi)
  · rw [h3 k]; exact ⟨fun ⟨i, hi, hk⟩ => ⟨i, (hS i).1 hi, hk⟩, fun ⟨i, hi, hk⟩ => ⟨i, (hS i).2 hi, hk⟩⟩
theorem each_none {S : Nat → Prop} {P : Nat → Asn} {w : World} {F : Nat → Prop} (hS : ∀ i, ¬ S i) (h : nought w F) : each S P w F :=
  ⟨fun _ _ => False, fun i hi => absurd hi (hS i), fun i _ hi => absurd hi (hS i), fun k => ⟨fun hk => absurd hk (h k), fun ⟨i, hi, _⟩ => absurd hi (hS i)⟩⟩
/-- One more. -/
theorem each_more {P P' : Nat → Asn} {w : World} {F : Nat → Prop} (n : Nat) (hP : ∀ j, j < n → P j = P' j) (h : star (P' n) (each (fun j => j < n) P) w F) : each (fun j => j < n + 1) P' w F :=
  each_put (P := P) n (by omega) (fun j hj e => hP j (by omega)) (by
    obtain ⟨G, K, g1, g2, g3⟩ := h
    exact ⟨G, K, g1, each_congr (fun j => ⟨fun hj => ⟨by omega, by omega⟩, fun hj => by omega⟩) (fun _ _ => rfl) g2, g3⟩)
/-- A row of values that may grow. -/
def rowA (T : TypeId) (v : Value) (m : Nat) (xs : List Value) : Asn := fun w F => w.ownsRow 0 T 1 v m xs ∧ ∀ k, F k ↔ v.ownBlock = some k
theorem firm_row (T : TypeId) (v : Value) (m : Nat) (xs : List Value) : Firm (rowA T v m xs) :=
  ⟨fun h hk hd => ⟨owns_kept h.1 hk (fun k e => hd k ((h.2 k).2 e)), h.2⟩, fun h k hk => (World.ownsRow.lt h.1 k ((h.2 k).1 hk)).2⟩
theorem star_assoc {P Q R : Asn} {w : World} {F : Nat → Prop} (h : star (star P Q) R w F) : star P (star Q R) w F := by
  obtain ⟨G, H, ⟨I, J, h1, h2, h3, h4⟩, h5, h6, h7⟩ := h
  refine ⟨I, fun k => J k ∨ H k, h1, ⟨J, H, h2, h5, fun k hj hh => h6 k ((h4 k).2 (.inr hj)) hh, fun k => Iff.rfl⟩, ?_, fun k => ?_⟩
  · rintro k hi (hj | hh)
    · exact h3 k hi hj
    · exact h6 k ((h4 k).2 (.inl hi)) hh
  · rw [h7 k, h4 k, or_assoc]
theorem star_unassoc {P Q R : Asn} {w : World} {F : Nat → Prop} (h : star P (star Q R) w F) : star (star P Q) R w F := star_comm (by
  have h1 : star P (star R Q) w F := by
    obtain ⟨G, H, g1, g2, g3⟩ := h
    exact ⟨G, H, g1, star_comm g2, g3⟩
  have h2 := star_swap h1
  exact h2)
theorem star_monoL {P P' Q : Asn} {w : World} {F : Nat → Prop} (h : star P Q w F) (hP : ∀ F, P w F → P' w F) : star P' Q w F := by
  obtain ⟨G, H, h1, h2, h3⟩ := h; exact ⟨G, H, hP G h1, h2, h3⟩
theorem star_monoR {P Q Q' : Asn} {w : World} {F : Nat → Prop} (h : star P Q w F) (hQ : ∀ F, Q w F → Q' w F) : star P Q' w F := by
  obtain ⟨G, H, h1, h2, h3⟩ := h; exact ⟨G, H, h1, hQ H h2, h3⟩
theorem Hold.assoc {B : Nat} {w0 w : World} {P Q R : Asn} (h : Hold B w0 w (star (star P Q) R)) : Hold B w0 w (star P (star Q R)) := h.mono (fun _ => star_assoc)
theorem Hold.unassoc {B : Nat} {w0 w : World} {P Q R : Asn} (h : Hold B w0 w (star P (star Q R))) : Hold B w0 w (star (star P Q) R) := h.mono (fun _ => star_unassoc)
/-- One cell of a block turned. -/
theorem Hold.setBlk {B : Nat} {w0 w : World} {g : Nat} {T : TypeId} {L : List Value} {R : Asn} (hR : Firm R) (h : Hold B w0 w (star (blkA g T L) R)) (i : Nat) (v : Value) : Hold B w0 (w.setCell ⟨g, i, none⟩ v) (star (blkA g T (L.set i v)) R) := by
  obtain ⟨h1, h2, F, ⟨G, H, h3, h4, h5, h6⟩, h7⟩ := h
  exact Hold.turned hR h1 h2 h4 h5 (fun k hk => h7 k ((h6 k).2 hk)) ⟨G, ⟨h3.1.setCell i v, h3.2⟩, (Kept.one w g i v).mono (fun k _ e => (h3.2 k).2 e), fun k hk => .inl hk⟩
theorem Hold.drew {B : Nat} {w0 w : World} {P : Asn} (hP : Firm P) (h : Hold B w0 w P) : Hold B w0 w.drew P := h.below hP (Below.refl _ _).drew
theorem Hold.row {B : Nat} {w0 w : World} {T : TypeId} {v : Value} {m : Nat} {xs : List Value} {R : Asn} (h : Hold B w0 w (star (rowA T v m xs) R)) : w.ownsRow 0 T 1 v m xs := by
  obtain ⟨h1, h2, F, ⟨G, H, h3, h4⟩, h7⟩ := h; exact h3.1

/-- How a disk is; where it lies. -/
structure Dk where
  g : Nat
  n : Nat
  l : Nat → ByteArray
  q : List Wr
  dead : Bool
abbrev Dk.ptr (d : Dk) : Value := .pointer (some ⟨d.g, 0, none⟩)
def dk (d : Dk) : Asn := dsk d.g d.n d.l d.q d.dead
def rk (d : Dk) : Asn := rf d.g d.n d.l d.q d.dead
theorem firm_dk (d : Dk) : Firm (dk d) := firm_dsk _ _ _ _ _
theorem firm_rk (d : Dk) : Firm (rk d) := firm_rf _ _ _ _ _
def ptrs (N : Nat) (D : Nat → Dk) : List Value := (List.range N).map fun i => (D i).ptr
theorem ptrs_length (N : Nat) (D : Nat → Dk) : (ptrs N D).length = N := by simp [ptrs]
theorem ptrs_at (N : Nat) (D : Nat → Dk) (i : Nat) (h : i < N) : (ptrs N D)[i]? = some (.pointer (some ⟨(D i).g, 0, none⟩)) := by simp [ptrs, h]
theorem ptrs_congr (N : Nat) (D D' : Nat → Dk) (h : ∀ i, i < N → (D i).g = (D' i).g) : ptrs N D = ptrs N D' := by
  unfold ptrs; exact List.map_congr_left fun i hi => by unfold Dk.ptr; rw [h i (List.mem_range.1 hi)]
theorem ptrs_succ (N : Nat) (D : Nat → Dk) : ptrs (N + 1) D = ptrs N D ++ [.pointer (some ⟨(D N).g, 0, none⟩)] := by
  unfold ptrs; rw [List.range_succ, List.map_append]; rfl
/-- How many steps are left: as the program, and as the document has it. -/
def pl : Option Nat → Int
  | none => 0
  | some k => (k : Int)
def pr : Option Nat → Int
  | none => -1
  | some k => (k : Int)
/-- How many disks and steps there may be. -/
def Fit (N : Nat) (p : Option Nat) : Prop := (1 ≤ N ∧ N ≤ 12) ∧ ∀ k, p = some k → k ≤ 9223372036854775807
/-- A bank: its disks, the steps that were made, those that are left. -/
def bnk (g N : Nat) (D : Nat → Dk) (s : Nat) (p : Option Nat) : Asn := fun w F => Fit N p ∧ ∃ gd, star (blkA g 62 [.slice (some ⟨gd, 0, none⟩) N N, .int .i64 (s : Int), .bool p.isSome, .int .i64 (pl p)]) (star (blkA gd 38 (ptrs N D)) (each (fun i => i < N) fun i => dk (D i))) w F
theorem firm_bnk (g N : Nat) (D : Nat → Dk) (s : Nat) (p : Option Nat) : Firm (bnk g N D s p) :=
  ⟨fun ⟨hN, gd, h⟩ hk hd => ⟨hN, gd, ((firm_blk _ _ _).star ((firm_blk _ _ _).star (firm_each fun _ => firm_dk _))).kept h hk hd⟩, fun ⟨hN, gd, h⟩ => ((firm_blk _ _ _).star ((firm_blk _ _ _).star (firm_each fun _ => firm_dk _))).bound h⟩
/-- The document's bank. -/
def rbk (g N : Nat) (D : Nat → Dk) (s : Nat) (p : Option Nat) : Asn := fun w F => Fit N p ∧ ∃ gd cap, star (blkA g 31 [.slice (some ⟨gd, 0, none⟩) N cap, .int .i64 (s : Int), .int .i64 (pr p)]) (star (rowA 36 (.slice (some ⟨gd, 0, none⟩) N cap) N (ptrs N D)) (each (fun i => i < N) fun i => rk (D i))) w F
theorem firm_rbk (g N : Nat) (D : Nat → Dk) (s : Nat) (p : Option Nat) : Firm (rbk g N D s p) :=
  ⟨fun ⟨hN, gd, cap, h⟩ hk hd => ⟨hN, gd, cap, ((firm_blk _ _ _).star ((firm_row _ _ _ _).star (firm_each fun _ => firm_rk _))).kept h hk hd⟩, fun ⟨hN, gd, cap, h⟩ => ((firm_blk _ _ _).star ((firm_row _ _ _ _).star (firm_each fun _ => firm_rk _))).bound h⟩
/-- One disk changed. -/
def updD (D : Nat → Dk) (i : Nat) (d : Dk) : Nat → Dk := fun j => if j = i then d else D j
theorem updD_same (D : Nat → Dk) (i : Nat) (d : Dk) : updD D i d i = d := if_pos rfl
theorem updD_ne (D : Nat → Dk) (i : Nat) (d : Dk) (j : Nat) (h : j ≠ i) : updD D i d j = D j := if_neg h
section
variable {B : Nat} {w0 w : World} {g N : Nat} {D : Nat → Dk} {s : Nat} {p : Option Nat} {R : Asn}
theorem Hold.bnkN (h : Hold B w0 w (star (bnk g N D s p) R)) : 1 ≤ N ∧ N ≤ 12 := by
  obtain ⟨h1, h2, F, ⟨G, H, h3, h4⟩, h7⟩ := h; exact h3.1.1
theorem Hold.bnkFit (h : Hold B w0 w (star (bnk g N D s p) R)) : Fit N p := by
  obtain ⟨h1, h2, F, ⟨G, H, h3, h4⟩, h7⟩ := h; exact h3.1
theorem Hold.rbkFit (h : Hold B w0 w (star (rbk g N D s p) R)) : Fit N p := by
  obtain ⟨h1, h2, F, ⟨G, H, h3, h4⟩, h7⟩ := h; exact h3.1
theorem Hold.rbkN (h : Hold B w0 w (star (rbk g N D s p) R)) : 1 ≤ N ∧ N ≤ 12 := by
  obtain ⟨h1, h2, F, ⟨G, H, h3, h4⟩, h7⟩ := h; exact h3.1.1
/-- What a bank is but for one disk. -/
def bnkX (g N : Nat) (D : Nat → Dk) (s : Nat) (p : Option Nat) (i : Nat) : Asn := fun w F => Fit N p ∧ ∃ gd, star (blkA g 62 [.slice (some ⟨gd, 0, none⟩) N N, .int .i64 (s : Int), .bool p.isSome, .int .i64 (pl p)]) (star (blkA gd 38 (ptrs N D)) (each (fun j => j < N ∧ j ≠ i) fun i => dk (D i))) w F
def rbkX (g N : Nat) (D : Nat → Dk) (s : Nat) (p : Option Nat) (i : Nat) : Asn := fun w F => Fit N p ∧ ∃ gd cap, star (blkA g 31 [.slice (some ⟨gd, 0, none⟩) N cap, .int .i64 (s : Int), .int .i64 (pr p)]) (star (rowA 36 (.slice (some ⟨gd, 0, none⟩) N cap) N (ptrs N D)) (each (fun j => j < N ∧ j ≠ i) fun i => rk (D i))) w F
theorem firm_bnkX (i : Nat) : Firm (bnkX g N D s p i) :=
  ⟨fun ⟨hN, gd, h⟩ hk hd => ⟨hN, gd, ((firm_blk _ _ _).star ((firm_blk _ _ _).star (firm_each fun _ => firm_dk _))).kept h hk hd⟩, fun ⟨hN, gd, h⟩ => ((firm_blk _ _ _).star ((firm_blk _ _ _).star (firm_each fun _ => firm_dk _))).bound h⟩
theorem firm_rbkX (i : Nat) : Firm (rbkX g N D s p i) :=
  ⟨fun ⟨hN, gd, cap, h⟩ hk hd => ⟨hN, gd, cap, ((firm_blk _ _ _).star ((firm_row _ _ _ _).star (firm_each fun _ => firm_rk _))).kept h hk hd⟩, fun ⟨hN, gd, cap, h⟩ => ((firm_blk _ _ _).star ((firm_row _ _ _ _).star (firm_each fun _ => firm_rk _))).bound h⟩
theorem star_exists {P : Asn} {A : Nat → Asn} {w : World} {F : Nat → Prop} (h : star P (fun w F => ∃ x, A x w F) w F) : ∃ x, star P (A x) w F := by
  obtain ⟨G, H, h1, ⟨x, h2⟩, h3⟩ := h; exact ⟨x, G, H, h1, h2, h3⟩
theorem bnk_open {F : Nat → Prop} (i : Nat) (hi : i < N) (h : bnk g N D s p w F) : star (dk (D i)) (bnkX g N D s p i) w F := by
  obtain ⟨hN, gd, h⟩ := h
  have h1 := star_monoR h (fun F h => star_monoR h (fun F h => each_take (S := fun j => j < N) (P := fun i => dk (D i)) i hi h))
  obtain ⟨G, H, g1, g2, g3⟩ := star_swap (star_monoR h1 (fun F h => star_swap h))
  exact ⟨G, H, g1, ⟨hN, gd, g2⟩, g3⟩
theorem bnk_shut {F : Nat → Prop} (i : Nat) (hi : i < N) (d : Dk) (hg : d.g = (D i).g) (h : star (dk d) (bnkX g N D s p i) w F) : bnk g N (updD D i d) s p w F := by
  obtain ⟨G, H, g1, ⟨hN, gd, g2⟩, g3⟩ := h
  have h0 : star (dk d) (star (blkA g 62 [.slice (some ⟨gd, 0, none⟩) N N, .int .i64 (s : Int), .bool p.isSome, .int .i64 (pl p)]) (star (blkA gd 38 (ptrs N D)) (each (fun j => j < N ∧ j ≠ i) fun i => dk (D i)))) w F := ⟨G, H, g1, g2, g3⟩
  have h1 := star_monoR (star_swap h0) (fun F h => star_swap h)
  refine ⟨hN, gd, star_monoR h1 (fun F h => ?_)⟩
  have hp : ptrs N D = ptrs N (updD D i d) := ptrs_congr _ _ _ (fun j hj => by
    by_cases e : j = i
    · subst e; rw [updD_same, hg]
    · rw [updD_ne _ _ _ _ e])
  rw [← hp]
  refine star_monoR h (fun F h => each_put (P := fun i => dk (D i)) i hi (fun j hj e => by rw [updD_ne _ _ _ _ e]) (star_monoL h (fun F h => by rw [updD_same]; exact h)))
theorem rbk_open {F : Nat → Prop} (i : Nat) (hi : i < N) (h : rbk g N D s p w F) : star (rk (D i)) (rbkX g N D s p i) w F := by
  obtain ⟨hN, gd, cap, h⟩ := h
  have h1 := star_monoR h (fun F h => star_monoR h (fun F h => each_take (S := fun j => j < N) (P := fun i => rk (D i)) i hi h))
  obtain ⟨G, H, g1, g2, g3⟩ := star_swap (star_monoR h1 (fun F h => star_swap h))
  exact ⟨G, H, g1, ⟨hN, gd, cap, g2⟩, g3⟩
theorem rbk_shut {F : Nat → Prop} (i : Nat) (hi : i < N) (d : Dk) (hg : d.g = (D i).g) (h : star (rk d) (rbkX g N D s p i) w F) : rbk g N (updD D i d) s p w F := by
  obtain ⟨G, H, g1, ⟨hN, gd, cap, g2⟩, g3⟩ := h
  have h0 : star (rk d) (star (blkA g 31 [.slice (some ⟨gd, 0, none⟩) N cap, .int .i64 (s : Int), .int .i64 (pr p)]) (star (rowA 36 (.slice (some ⟨gd, 0, none⟩) N cap) N (ptrs N D)) (each (fun j => j < N ∧ j ≠ i) fun i => rk (D i)))) w F := ⟨G, H, g1, g2, g3⟩
  have h1 := star_monoR (star_swap h0) (fun F h => star_swap h)
  refine ⟨hN, gd, cap, star_monoR h1 (fun F h => ?_)⟩
  have hp : ptrs N D = ptrs N (updD D i d) := ptrs_congr _ _ _ (fun j hj => by
    by_cases e : j = i
    · subst e; rw [updD_same, hg]
    · rw [updD_ne _ _ _ _ e])
  rw [← hp]
  refine star_monoR h (fun F h => each_put (P := fun i => rk (D i)) i hi (fun j hj e => by rw [updD_ne _ _ _ _ e]) (star_monoL h (fun F h => by rw [updD_same]; exact h)))
/-- One disk of a bank, and all that is left. -/
theorem Hold.openD (h : Hold B w0 w (star (bnk g N D s p) R)) (i : Nat) (hi : i < N) : Hold B w0 w (star (dk (D i)) (star (bnkX g N D s p i) R)) := (h.monoL (fun F => bnk_open i hi)).assoc
theorem Hold.shutD (i : Nat) (hi : i < N) (d : Dk) (hg : d.g = (D i).g) (h : Hold B w0 w (star (dk d) (star (bnkX g N D s p i) R))) : Hold B w0 w (star (bnk g N (updD D i d) s p) R) := h.unassoc.monoL (fun F => bnk_shut i hi d hg)
theorem Hold.openR (h : Hold B w0 w (star (rbk g N D s p) R)) (i : Nat) (hi : i < N) : Hold B w0 w (star (rk (D i)) (star (rbkX g N D s p i) R)) := (h.monoL (fun F => rbk_open i hi)).assoc
theorem Hold.shutR (i : Nat) (hi : i < N) (d : Dk) (hg : d.g = (D i).g) (h : Hold B w0 w (star (rk d) (star (rbkX g N D s p i) R))) : Hold B w0 w (star (rbk g N (updD D i d) s p) R) := h.unassoc.monoL (fun F => rbk_shut i hi d hg)
/-- The block of a bank; where its disks are named. -/
theorem Hold.bnkTop (h : Hold B w0 w (star (bnk g N D s p) R)) : ∃ gd, Blk w g 62 [.slice (some ⟨gd, 0, none⟩) N N, .int .i64 (s : Int), .bool p.isSome, .int .i64 (pl p)] ∧ Blk w gd 38 (ptrs N D) ∧ Hold B w0 w (star (blkA g 62 [.slice (some ⟨gd, 0, none⟩) N N, .int .i64 (s : Int), .bool p.isSome, .int .i64 (pl p)]) (star (star (blkA gd 38 (ptrs N D)) (each (fun i => i < N) fun i => dk (D i))) R)) := by
  obtain ⟨h1, h2, F, ⟨G, H, ⟨hN, gd, h3⟩, h4⟩, h7⟩ := h
  have h' : Hold B w0 w (star (star (blkA g 62 [.slice (some ⟨gd, 0, none⟩) N N, .int .i64 (s : Int), .bool p.isSome, .int .i64 (pl p)]) (star (blkA gd 38 (ptrs N D)) (each (fun i => i < N) fun i => dk (D i)))) R) := ⟨h1, h2, F, ⟨G, H, h3, h4⟩, h7⟩
  refine ⟨gd, h'.assoc.blk, ?_, h'.assoc⟩
  obtain ⟨G1, k1, _⟩ := star_right h3
  obtain ⟨G2, k2, _⟩ := star_left k1
  exact k2.1
theorem Hold.ofTop (hN : Fit N p) (gd : Nat) {P : Asn} (h : Hold B w0 w (star P (star (star (blkA gd 38 (ptrs N D)) (each (fun i => i < N) fun i => dk (D i))) R))) (e : P = blkA g 62 [.slice (some ⟨gd, 0, none⟩) N N, .int .i64 (s : Int), .bool p.isSome, .int .i64 (pl p)]) : Hold B w0 w (star (bnk g N D s p) R) := by
  subst e
  exact h.unassoc.monoL (fun F h => ⟨hN, gd, h⟩)
theorem Hold.rbkTop (h : Hold B w0 w (star (rbk g N D s p) R)) : ∃ gd cap, Blk w g 31 [.slice (some ⟨gd, 0, none⟩) N cap, .int .i64 (s : Int), .int .i64 (pr p)] ∧ w.ownsRow 0 36 1 (.slice (some ⟨gd, 0, none⟩) N cap) N (ptrs N D) ∧ Hold B w0 w (star (blkA g 31 [.slice (some ⟨gd, 0, none⟩) N cap, .int .i64 (s : Int), .int .i64 (pr p)]) (star (star (rowA 36 (.slice (some ⟨gd, 0, none⟩) N cap) N (ptrs N D)) (each (fun i => i < N) fun i => rk (D i))) R)) := by
  obtain ⟨h1, h2, F, ⟨G, H, ⟨hN, gd, cap, h3⟩, h4⟩, h7⟩ := h
  have h' : Hold B w0 w (star (star (blkA g 31 [.slice (some ⟨gd, 0, none⟩) N cap, .int .i64 (s : Int), .int .i64 (pr p)]) (star (rowA 36 (.slice (some ⟨gd, 0, none⟩) N cap) N (ptrs N D)) (each (fun i => i < N) fun i => rk (D i)))) R) := ⟨h1, h2, F, ⟨G, H, h3, h4⟩, h7⟩
  refine ⟨gd, cap, h'.assoc.blk, ?_, h'.assoc⟩
  obtain ⟨G1, k1, _⟩ := star_right h3
  obtain ⟨G2, k2, _⟩ := star_left k1
  exact k2.1
theorem Hold.ofRTop (hN : Fit N p) (gd cap : Nat) {P : Asn} (h : Hold B w0 w (star P (star (star (rowA 36 (.slice (some ⟨gd, 0, none⟩) N cap) N (ptrs N D)) (each (fun i => i < N) fun i => rk (D i))) R))) (e : P = blkA g 31 [.slice (some ⟨gd, 0, none⟩) N cap, .int .i64 (s : Int), .int .i64 (pr p)]) : Hold B w0 w (star (rbk g N D s p) R) := by
  subst e
  exact h.unassoc.monoL (fun F h => ⟨hN, gd, cap, h⟩)
theorem firm_top (gd : Nat) (hR : Firm R) : Firm (star (star (blkA gd 38 (ptrs N D)) (each (fun i => i < N) fun i => dk (D i))) R) := ((firm_blk _ _ _).star (firm_each fun _ => firm_dk _)).star hR
theorem firm_rtop (gd cap : Nat) (hR : Firm R) : Firm (star (star (rowA 36 (.slice (some ⟨gd, 0, none⟩) N cap) N (ptrs N D)) (each (fun i => i < N) fun i => rk (D i))) R) := ((firm_row _ _ _ _).star (firm_each fun _ => firm_rk _)).star hR
end
theorem bnk_congr {g N : Nat} {D D' : Nat → Dk} {s : Nat} {p : Option Nat} (h : ∀ i, i < N → D i = D' i) {w : World} {F : Nat → Prop} (hb : bnk g N D s p w F) : bnk g N D' s p w F := by
  obtain ⟨hN, gd, hb⟩ := hb
  rw [ptrs_congr N D D' (fun i hi => by rw [h i hi])] at hb
  exact ⟨hN, gd, star_monoR hb (fun F hb => star_monoR hb (fun F hb => each_congr (fun _ => Iff.rfl) (fun i hi => by show dk (D i) = dk (D' i); rw [h i hi]) hb))⟩
theorem rbk_congr {g N : Nat} {D D' : Nat → Dk} {s : Nat} {p : Option Nat} (h : ∀ i, i < N → D i = D' i) {w : World} {F : Nat → Prop} (hb : rbk g N D s p w F) : rbk g N D' s p w F := by
  obtain ⟨hN, gd, cap, hb⟩ := hb
  rw [ptrs_congr N D D' (fun i hi => by rw [h i hi])] at hb
  exact ⟨hN, gd, cap, star_monoR hb (fun F hb => star_monoR hb (fun F hb => each_congr (fun _ => Iff.rfl) (fun i hi => by show rk (D i) = rk (D' i); rw [h i hi]) hb))⟩
end Go.Proofs.Ytfepmafjkgjmmaa
