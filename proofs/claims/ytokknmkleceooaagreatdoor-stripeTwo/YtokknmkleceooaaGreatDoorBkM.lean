import Derived.Test.YtokknmkleceooaaGreatDoorBaseM
import Derived.Test.YtokknmkleceooaaGreatDoorDkM
namespace Go.Proofs.YtokknmkleceooaaGreatDoor
set_option maxRecDepth 20000
open Go.RowKit Go.PlainAid
set_option linter.unusedVariables false
structure Dk where
  g : Nat
  n : Nat
  l : Nat → ByteArray
  q : List Wr
  dead : Bool
abbrev Dk.ptr (d : Dk) : Value := .pointer (some ⟨d.g, 0, none⟩)
def dk (d : Dk) : Asn := dsk d.g d.n d.l d.q d.dead
def rdk (d : Dk) : Asn := rf d.g d.n d.l d.q d.dead
theorem firm_dk (d : Dk) : Firm (dk d) := firm_dsk _ _ _ _ _
theorem firm_rdk (d : Dk) : Firm (rdk d) := firm_rf _ _ _ _ _
def ptrs (N : Nat) (D : Nat → Dk) : List Value := (List.range N).map fun i => (D i).ptr
theorem ptrs_at (N : Nat) (D : Nat → Dk) (i : Nat) (h : i < N) : (ptrs N D)[i]? = some (.pointer (some ⟨(D i).g, 0, none⟩)) := by simp [ptrs, h]
theorem ptrs_congr (N : Nat) (D D' : Nat → Dk) (h : ∀ i, i < N → (D i).g = (D' i).g) : ptrs N D = ptrs N D' := by
  unfold ptrs; exact List.map_congr_left fun i hi => by unfold Dk.ptr; rw [h i (List.mem_range.1 hi)]
theorem ptrs_succ (N : Nat) (D : Nat → Dk) : ptrs (N + 1) D = ptrs N D ++ [.pointer (some ⟨(D N).g, 0, none⟩)] := by
  unfold ptrs; rw [List.range_succ, List.map_append]; rfl
def pl : Option Nat → Int
  | none => 0
  | some k => (k : Int)
def pr : Option Nat → Int
  | none => -1
  | some k => (k : Int)
def Fit (N : Nat) (p : Option Nat) : Prop := (1 ≤ N ∧ N ≤ 12) ∧ ∀ k, p = some k → k ≤ 9223372036854775807
def bnk (g N : Nat) (D : Nat → Dk) (s : Nat) (p : Option Nat) : Asn := fun w F => Fit N p ∧ ∃ gd, star (blkA g 105 [.slice (some ⟨gd, 0, none⟩) N N, .int .i64 (s : Int), .bool p.isSome, .int .i64 (pl p)]) (star (blkA gd 71 (ptrs N D)) (each (fun i => i < N) fun i => dk (D i))) w F
theorem firm_bnk (g N : Nat) (D : Nat → Dk) (s : Nat) (p : Option Nat) : Firm (bnk g N D s p) :=
  ⟨fun ⟨hN, gd, h⟩ hk hd => ⟨hN, gd, ((firm_blk _ _ _).star ((firm_blk _ _ _).star (firm_each fun _ => firm_dk _))).kept h hk hd⟩, fun ⟨hN, gd, h⟩ => ((firm_blk _ _ _).star ((firm_blk _ _ _).star (firm_each fun _ => firm_dk _))).bound h⟩
def rbk (g N : Nat) (D : Nat → Dk) (s : Nat) (p : Option Nat) : Asn := fun w F => Fit N p ∧ ∃ gd cap, star (blkA g 98 [.slice (some ⟨gd, 0, none⟩) N cap, .int .i64 (s : Int), .int .i64 (pr p)]) (star (rowA 95 (.slice (some ⟨gd, 0, none⟩) N cap) N (ptrs N D)) (each (fun i => i < N) fun i => rdk (D i))) w F
theorem firm_rbk (g N : Nat) (D : Nat → Dk) (s : Nat) (p : Option Nat) : Firm (rbk g N D s p) :=
  ⟨fun ⟨hN, gd, cap, h⟩ hk hd => ⟨hN, gd, cap, ((firm_blk _ _ _).star ((firm_row _ _ _ _).star (firm_each fun _ => firm_rdk _))).kept h hk hd⟩, fun ⟨hN, gd, cap, h⟩ => ((firm_blk _ _ _).star ((firm_row _ _ _ _).star (firm_each fun _ => firm_rdk _))).bound h⟩
def updD (D : Nat → Dk) (i : Nat) (d : Dk) : Nat → Dk := fun j => if j = i then d else D j
theorem updD_same (D : Nat → Dk) (i : Nat) (d : Dk) : updD D i d i = d := if_pos rfl
theorem updD_ne (D : Nat → Dk) (i : Nat) (d : Dk) (j : Nat) (h : j ≠ i) : updD D i d j = D j := if_neg h
section
variable {B : Nat} {w0 w : World} {g N : Nat} {D : Nat → Dk} {s : Nat} {p : Option Nat} {R : Asn}
theorem Hold.bnkN (h : Hold B w0 w (star (bnk g N D s p) R)) : 1 ≤ N ∧ N ≤ 12 := by
  obtain ⟨h1, h2, F, ⟨G, H, h3, h4⟩, h7⟩ := h; exact h3.1.1
theorem Hold.bnkFit (h : Hold B w0 w (star (bnk g N D s p) R)) : Fit N p := by
  obtain ⟨h1, h2, F, ⟨G, H, h3, h4⟩, h7⟩ := h; exact h3.1
theorem Hold.rbkN (h : Hold B w0 w (star (rbk g N D s p) R)) : 1 ≤ N ∧ N ≤ 12 := by
  obtain ⟨h1, h2, F, ⟨G, H, h3, h4⟩, h7⟩ := h; exact h3.1.1
def bnkX (g N : Nat) (D : Nat → Dk) (s : Nat) (p : Option Nat) (i : Nat) : Asn := fun w F => Fit N p ∧ ∃ gd, star (blkA g 105 [.slice (some ⟨gd, 0, none⟩) N N, .int .i64 (s : Int), .bool p.isSome, .int .i64 (pl p)]) (star (blkA gd 71 (ptrs N D)) (each (fun j => j < N ∧ j ≠ i) fun i => dk (D i))) w F
def rbkX (g N : Nat) (D : Nat → Dk) (s : Nat) (p : Option Nat) (i : Nat) : Asn := fun w F => Fit N p ∧ ∃ gd cap, star (blkA g 98 [.slice (some ⟨gd, 0, none⟩) N cap, .int .i64 (s : Int), .int .i64 (pr p)]) (star (rowA 95 (.slice (some ⟨gd, 0, none⟩) N cap) N (ptrs N D)) (each (fun j => j < N ∧ j ≠ i) fun i => rdk (D i))) w F
theorem firm_bnkX (i : Nat) : Firm (bnkX g N D s p i) :=
  ⟨fun ⟨hN, gd, h⟩ hk hd => ⟨hN, gd, ((firm_blk _ _ _).star ((firm_blk _ _ _).star (firm_each fun _ => firm_dk _))).kept h hk hd⟩, fun ⟨hN, gd, h⟩ => ((firm_blk _ _ _).star ((firm_blk _ _ _).star (firm_each fun _ => firm_dk _))).bound h⟩
theorem firm_rbkX (i : Nat) : Firm (rbkX g N D s p i) :=
  ⟨fun ⟨hN, gd, cap, h⟩ hk hd => ⟨hN, gd, cap, ((firm_blk _ _ _).star ((firm_row _ _ _ _).star (firm_each fun _ => firm_rdk _))).kept h hk hd⟩, fun ⟨hN, gd, cap, h⟩ => ((firm_blk _ _ _).star ((firm_row _ _ _ _).star (firm_each fun _ => firm_rdk _))).bound h⟩
theorem bnk_open {F : Nat → Prop} (i : Nat) (hi : i < N) (h : bnk g N D s p w F) : star (dk (D i)) (bnkX g N D s p i) w F := by
  obtain ⟨hN, gd, h⟩ := h
  have h1 := star_monoR h (fun F h => star_monoR h (fun F h => each_take (S := fun j => j < N) (P := fun i => dk (D i)) i hi h))
  obtain ⟨G, H, g1, g2, g3⟩ := star_swap (star_monoR h1 (fun F h => star_swap h))
  exact ⟨G, H, g1, ⟨hN, gd, g2⟩, g3⟩
theorem bnk_shut {F : Nat → Prop} (i : Nat) (hi : i < N) (d : Dk) (hg : d.g = (D i).g) (h : star (dk d) (bnkX g N D s p i) w F) : bnk g N (updD D i d) s p w F := by
  obtain ⟨G, H, g1, ⟨hN, gd, g2⟩, g3⟩ := h
  have h0 : star (dk d) (star (blkA g 105 [.slice (some ⟨gd, 0, none⟩) N N, .int .i64 (s : Int), .bool p.isSome, .int .i64 (pl p)]) (star (blkA gd 71 (ptrs N D)) (each (fun j => j < N ∧ j ≠ i) fun i => dk (D i)))) w F := ⟨G, H, g1, g2, g3⟩
  have h1 := star_monoR (star_swap h0) (fun F h => star_swap h)
  refine ⟨hN, gd, star_monoR h1 (fun F h => ?_)⟩
  have hp : ptrs N D = ptrs N (updD D i d) := ptrs_congr _ _ _ (fun j hj => by
    by_cases e : j = i
    · subst e; rw [updD_same, hg]
    · rw [updD_ne _ _ _ _ e])
  rw [← hp]
  refine star_monoR h (fun F h => each_put (P := fun i => dk (D i)) i hi (fun j hj e => by rw [updD_ne _ _ _ _ e]) (star_monoL h (fun F h => by rw [updD_same]; exact h)))
theorem rbk_open {F : Nat → Prop} (i : Nat) (hi : i < N) (h : rbk g N D s p w F) : star (rdk (D i)) (rbkX g N D s p i) w F := by
  obtain ⟨hN, gd, cap, h⟩ := h
  have h1 := star_monoR h (fun F h => star_monoR h (fun F h => each_take (S := fun j => j < N) (P := fun i => rdk (D i)) i hi h))
  obtain ⟨G, H, g1, g2, g3⟩ := star_swap (star_monoR h1 (fun F h => star_swap h))
  exact ⟨G, H, g1, ⟨hN, gd, cap, g2⟩, g3⟩
theorem rbk_shut {F : Nat → Prop} (i : Nat) (hi : i < N) (d : Dk) (hg : d.g = (D i).g) (h : star (rdk d) (rbkX g N D s p i) w F) : rbk g N (updD D i d) s p w F := by
  obtain ⟨G, H, g1, ⟨hN, gd, cap, g2⟩, g3⟩ := h
  have h0 : star (rdk d) (star (blkA g 98 [.slice (some ⟨gd, 0, none⟩) N cap, .int .i64 (s : Int), .int .i64 (pr p)]) (star (rowA 95 (.slice (some ⟨gd, 0, none⟩) N cap) N (ptrs N D)) (each (fun j => j < N ∧ j ≠ i) fun i => rdk (D i)))) w F := ⟨G, H, g1, g2, g3⟩
  have h1 := star_monoR (star_swap h0) (fun F h => star_swap h)
  refine ⟨hN, gd, cap, star_monoR h1 (fun F h => ?_)⟩
  have hp : ptrs N D = ptrs N (updD D i d) := ptrs_congr _ _ _ (fun j hj => by
    by_cases e : j = i
    · subst e; rw [updD_same, hg]
    · rw [updD_ne _ _ _ _ e])
  rw [← hp]
  refine star_monoR h (fun F h => each_put (P := fun i => rdk (D i)) i hi (fun j hj e => by rw [updD_ne _ _ _ _ e]) (star_monoL h (fun F h => by rw [updD_same]; exact h)))
theorem Hold.openD (h : Hold B w0 w (star (bnk g N D s p) R)) (i : Nat) (hi : i < N) : Hold B w0 w (star (dk (D i)) (star (bnkX g N D s p i) R)) := (h.monoL (fun F => bnk_open i hi)).assoc
theorem Hold.shutD (i : Nat) (hi : i < N) (d : Dk) (hg : d.g = (D i).g) (h : Hold B w0 w (star (dk d) (star (bnkX g N D s p i) R))) : Hold B w0 w (star (bnk g N (updD D i d) s p) R) := h.unassoc.monoL (fun F => bnk_shut i hi d hg)
theorem Hold.openR (h : Hold B w0 w (star (rbk g N D s p) R)) (i : Nat) (hi : i < N) : Hold B w0 w (star (rdk (D i)) (star (rbkX g N D s p i) R)) := (h.monoL (fun F => rbk_open i hi)).assoc
theorem Hold.shutR (i : Nat) (hi : i < N) (d : Dk) (hg : d.g = (D i).g) (h : Hold B w0 w (star (rdk d) (star (rbkX g N D s p i) R))) : Hold B w0 w (star (rbk g N (updD D i d) s p) R) := h.unassoc.monoL (fun F => rbk_shut i hi d hg)
theorem Hold.bnkTop (h : Hold B w0 w (star (bnk g N D s p) R)) : ∃ gd, Blk w g 105 [.slice (some ⟨gd, 0, none⟩) N N, .int .i64 (s : Int), .bool p.isSome, .int .i64 (pl p)] ∧ Blk w gd 71 (ptrs N D) ∧ Hold B w0 w (star (blkA g 105 [.slice (some ⟨gd, 0, none⟩) N N, .int .i64 (s : Int), .bool p.isSome, .int .i64 (pl p)]) (star (star (blkA gd 71 (ptrs N D)) (each (fun i => i < N) fun i => dk (D i))) R)) := by
  obtain ⟨h1, h2, F, ⟨G, H, ⟨hN, gd, h3⟩, h4⟩, h7⟩ := h
  have h' : Hold B w0 w (star (star (blkA g 105 [.slice (some ⟨gd, 0, none⟩) N N, .int .i64 (s : Int), .bool p.isSome, .int .i64 (pl p)]) (star (blkA gd 71 (ptrs N D)) (each (fun i => i < N) fun i => dk (D i)))) R) := ⟨h1, h2, F, ⟨G, H, h3, h4⟩, h7⟩
  refine ⟨gd, h'.assoc.blk, ?_, h'.assoc⟩
  obtain ⟨G1, k1, _⟩ := star_right h3
  obtain ⟨G2, k2, _⟩ := star_left k1
  exact k2.1
theorem Hold.ofTop (hN : Fit N p) (gd : Nat) {P : Asn} (h : Hold B w0 w (star P (star (star (blkA gd 71 (ptrs N D)) (each (fun i => i < N) fun i => dk (D i))) R))) (e : P = blkA g 105 [.slice (some ⟨gd, 0, none⟩) N N, .int .i64 (s : Int), .bool p.isSome, .int .i64 (pl p)]) : Hold B w0 w (star (bnk g N D s p) R) := by
  subst e
  exact h.unassoc.monoL (fun F h => ⟨hN, gd, h⟩)
theorem Hold.rbkTop (h : Hold B w0 w (star (rbk g N D s p) R)) : ∃ gd cap, Blk w g 98 [.slice (some ⟨gd, 0, none⟩) N cap, .int .i64 (s : Int), .int .i64 (pr p)] ∧ w.ownsRow 0 95 1 (.slice (some ⟨gd, 0, none⟩) N cap) N (ptrs N D) ∧ Hold B w0 w (star (blkA g 98 [.slice (some ⟨gd, 0, none⟩) N cap, .int .i64 (s : Int), .int .i64 (pr p)]) (star (star (rowA 95 (.slice (some ⟨gd, 0, none⟩) N cap) N (ptrs N D)) (each (fun i => i < N) fun i => rdk (D i))) R)) := by
  obtain ⟨h1, h2, F, ⟨G, H, ⟨hN, gd, cap, h3⟩, h4⟩, h7⟩ := h
  have h' : Hold B w0 w (star (star (blkA g 98 [.slice (some ⟨gd, 0, none⟩) N cap, .int .i64 (s : Int), .int .i64 (pr p)]) (star (rowA 95 (.slice (some ⟨gd, 0, none⟩) N cap) N (ptrs N D)) (each (fun i => i < N) fun i => rdk (D i)))) R) := ⟨h1, h2, F, ⟨G, H, h3, h4⟩, h7⟩
  refine ⟨gd, cap, h'.assoc.blk, ?_, h'.assoc⟩
  obtain ⟨G1, k1, _⟩ := star_right h3
  obtain ⟨G2, k2, _⟩ := star_left k1
  exact k2.1
theorem Hold.ofRTop (hN : Fit N p) (gd cap : Nat) {P : Asn} (h : Hold B w0 w (star P (star (star (rowA 95 (.slice (some ⟨gd, 0, none⟩) N cap) N (ptrs N D)) (each (fun i => i < N) fun i => rdk (D i))) R))) (e : P = blkA g 98 [.slice (some ⟨gd, 0, none⟩) N cap, .int .i64 (s : Int), .int .i64 (pr p)]) : Hold B w0 w (star (rbk g N D s p) R) := by
  subst e
  exact h.unassoc.monoL (fun F h => ⟨hN, gd, cap, h⟩)
theorem firm_top (gd : Nat) (hR : Firm R) : Firm (star (star (blkA gd 71 (ptrs N D)) (each (fun i => i < N) fun i => dk (D i))) R) := ((firm_blk _ _ _).star (firm_each fun _ => firm_dk _)).star hR
end
def spendE (p : Option Nat) : Int := if p = some 0 then 21 else 0
def spendS (p : Option Nat) (s : Nat) : Nat := if p = some 0 then s else s + 1
def spendP (p : Option Nat) : Option Nat := p.map (· - 1)
theorem spendE_dark : spendE (some 0) = 21 := rfl
theorem spendE_none : spendE none = 0 := rfl
theorem spendE_more (k : Nat) : spendE (some (k + 1)) = 0 := by unfold spendE; rw [if_neg (by simp)]
theorem spendS_none (s : Nat) : spendS none s = s + 1 := rfl
theorem spendS_dark (s : Nat) : spendS (some 0) s = s := rfl
theorem spendS_more (k s : Nat) : spendS (some (k + 1)) s = s + 1 := by unfold spendS; rw [if_neg (by simp)]
section
variable {B : Nat} {w0 w : World} {g N : Nat} {D : Nat → Dk} {s : Nat} {p : Option Nat} {R : Asn}
theorem bdark_any (h : Hold B w0 w (star (bnk g N D s p) R)) : Calls Tryz.prog 101 #[.pointer (some ⟨g, 0, none⟩)] w fun e w' => e = .returned (.bool (decide (p = some 0))) ∧ w' = w := by
  obtain ⟨gd, hb, -, -⟩ := h.bnkTop
  have c2 := hb.cell (i := 2) rfl
  have c3 := hb.cell (i := 3) rfl
  clear h hb
  rcases p with _ | _ | k
  · rw [show decide (none = some 0) = false from rfl]
    rw [show (none : Option Nat).isSome = false from rfl] at c2
    rw [show pl none = 0 from rfl] at c3
    go_enter Tryz.func101, Tryz.ntmps101
    go_wp2
    go_ret
    exact ⟨rfl, rfl⟩
  · rw [show decide (some 0 = some 0) = true from rfl]
    rw [show (some 0 : Option Nat).isSome = true from rfl] at c2
    rw [show pl (some 0) = 0 from rfl] at c3
    go_enter Tryz.func101, Tryz.ntmps101
    go_wp2
    go_ret
    exact ⟨rfl, rfl⟩
  · rw [show decide (some (k + 1) = some 0) = false from by simp]
    rw [show (some (k + 1) : Option Nat).isSome = true from rfl] at c2
    obtain ⟨x, hx⟩ : ∃ x, pl (some (k + 1)) = x := ⟨_, rfl⟩
    have hx0 : (x == 0) = false := by
      rw [← hx]; show (((k + 1 : Nat) : Int) == 0) = false
      simp only [beq_eq_false_iff_ne, ne_eq]; omega
    rw [hx] at c3
    clear hx
    go_enter Tryz.func101, Tryz.ntmps101
    go_wp2
    go_ret
    exact ⟨rfl, rfl⟩
theorem bfind_out (h : Hold B w0 w (star (bnk g N D s p) R)) (i : Int) (hi : i < 0 ∨ (N : Int) ≤ i) : Calls Tryz.prog 59 #[.pointer (some ⟨g, 0, none⟩), .int .i64 i] w fun e w' => e = .returned (.tuple #[.pointer none, .int .i64 11]) ∧ w' = w := by
  obtain ⟨gd, hb, -, -⟩ := h.bnkTop
  have c0 := hb.cell (i := 0) rfl
  clear h hb
  have HI : Hid _ := hi
  clear hi
  by_cases h0 : i < 0
  · go_enter Tryz.func59, Tryz.ntmps59
    go_wp2
    go_ret2
    exact ⟨rfl, rfl⟩
  · have h1 : (N : Int) ≤ i := HI.out.resolve_left h0
    go_enter Tryz.func59, Tryz.ntmps59
    go_wp2
    go_ret2
    exact ⟨rfl, rfl⟩
theorem bfind_in (h : Hold B w0 w (star (bnk g N D s p) R)) (i : Nat) (hi : i < N) : Calls Tryz.prog 59 #[.pointer (some ⟨g, 0, none⟩), .int .i64 (i : Int)] w fun e w' => e = .returned (.tuple #[.pointer (some ⟨(D i).g, 0, none⟩), .int .i64 0]) ∧ w' = w := by
  obtain ⟨gd, hb, hd, -⟩ := h.bnkTop
  have hN := h.bnkN
  have c0 := hb.cell (i := 0) rfl
  have ci := hd.cell (ptrs_at N D i hi)
  clear h hb hd
  have hi' : ¬ (N : Int) ≤ (i : Int) := by omega
  have hi0 : ¬ (i : Int) < 0 := by omega
  go_enter Tryz.func59, Tryz.ntmps59
  go_wp2
  go_ret2
  exact ⟨rfl, rfl⟩
theorem bdisk_out (h : Hold B w0 w (star (bnk g N D s p) R)) (i : Int) (hi : i < 0 ∨ (N : Int) ≤ i) : Calls Tryz.prog 24 #[.pointer (some ⟨g, 0, none⟩), .int .i64 i] w fun e w' => e = .returned (.pointer none) ∧ w' = w := by
  have hf := bfind_out h i hi
  clear h hi
  go_enter Tryz.func24, Tryz.ntmps24
  go_wp2_with (go_at_call 59; refine hf.mono ?_; rintro e w' ⟨rfl, rfl⟩)
  go_ret
  exact ⟨rfl, rfl⟩
theorem bdisk_in (h : Hold B w0 w (star (bnk g N D s p) R)) (i : Nat) (hi : i < N) : Calls Tryz.prog 24 #[.pointer (some ⟨g, 0, none⟩), .int .i64 (i : Int)] w fun e w' => e = .returned (.pointer (some ⟨(D i).g, 0, none⟩)) ∧ w' = w := by
  have hf := bfind_in h i hi
  clear h
  go_enter Tryz.func24, Tryz.ntmps24
  go_wp2_with (go_at_call 59; refine hf.mono ?_; rintro e w' ⟨rfl, rfl⟩)
  go_ret
  exact ⟨rfl, rfl⟩
theorem bspend_any (hR : Firm R) (h : Hold B w0 w (star (bnk g N D s p) R)) (hs : s ≤ 1000000000) : Calls Tryz.prog 174 #[.pointer (some ⟨g, 0, none⟩)] w fun e w' => e = .returned (.int .i64 (spendE p)) ∧ Hold B w0 w' (star (bnk g N D (spendS p s) (spendP p)) R) := by
  have hd := bdark_any h
  have hN := h.bnkFit
  obtain ⟨gd, hb, -, ht⟩ := h.bnkTop
  have c1 := hb.cell (i := 1) rfl
  have c2 := hb.cell (i := 2) rfl
  have c3 := hb.cell (i := 3) rfl
  have f1 := hb.frozen 1
  have f3 := hb.frozen 3
  rcases p with _ | _ | k
  · rw [show decide (none = some 0) = false from rfl] at hd
    rw [show (none : Option Nat).isSome = false from rfl] at c2
    rw [spendE_none, spendS_none, show spendP none = none from rfl]
    have HT : Hid (Hold B w0 (w.setCell ⟨g, 1, none⟩ (.int .i64 ((s : Int) + 1))) (star (bnk g N D (s + 1) none) R)) := (ht.setBlk (firm_top gd hR) 1 (.int .i64 ((s : Int) + 1))).ofTop hN gd (by simp [pl])
    clear h hb ht hN
    go_enter Tryz.func174, Tryz.ntmps174
    go_wp2_with (go_at_call 101; refine hd.mono ?_; rintro e w' ⟨rfl, rfl⟩)
    go_ret
    exact ⟨rfl, HT.out⟩
  · rw [show decide (some 0 = some 0) = true from rfl] at hd
    rw [spendE_dark, spendS_dark, show spendP (some 0) = some 0 from rfl]
    have HT : Hid (Hold B w0 w (star (bnk g N D s (some 0)) R)) := h
    clear h hb ht
    go_enter Tryz.func174, Tryz.ntmps174
    go_wp2_with (go_at_call 101; refine hd.mono ?_; rintro e w' ⟨rfl, rfl⟩)
    go_ret
    exact ⟨rfl, HT.out⟩
  · rw [show decide (some (k + 1) = some 0) = false from by simp] at hd
    rw [show (some (k + 1) : Option Nat).isSome = true from rfl] at c2
    rw [spendE_more, spendS_more, show spendP (some (k + 1)) = some k from rfl]
    have hv := ht
    have h3 := ht.setBlk (firm_top gd hR) 3 (.int .i64 (k : Int))
    have b3 := h3.blk
    have c1' := b3.cell (i := 1) rfl
    have f1' := b3.frozen 1
    have HT : Hid (Hold B w0 ((w.setCell ⟨g, 3, none⟩ (.int .i64 (k : Int))).setCell ⟨g, 1, none⟩ (.int .i64 ((s : Int) + 1))) (star (bnk g N D (s + 1) (some k)) R)) := (h3.setBlk (firm_top gd hR) 1 (.int .i64 ((s : Int) + 1))).ofTop ⟨hN.1, fun j e => by cases e; have := hN.2 (k + 1) rfl; omega⟩ gd (by simp [pl])
    rw [show pl (some (k + 1)) = (k : Int) + 1 from by simp [pl]] at c3
    have hk : wrap64 (k : Int) = (k : Int) := IntWalk.wrap64_in _ ⟨by omega, by have := hN.2 (k + 1) rfl; omega⟩
    clear h hb ht hv h3 b3 hN
    go_enter Tryz.func174, Tryz.ntmps174
    go_wp2_with (go_at_call 101; refine hd.mono ?_; rintro e w' ⟨rfl, rfl⟩)
    go_ret
    exact ⟨rfl, HT.out⟩
theorem buse_out (h : Hold B w0 w (star (bnk g N D s p) R)) (i : Int) (hi : i < 0 ∨ (N : Int) ≤ i) : Calls Tryz.prog 121 #[.pointer (some ⟨g, 0, none⟩), .int .i64 i] w fun e w' => e = .returned (.tuple #[.pointer none, .int .i64 11]) ∧ w' = w := by
  have hf := bfind_out h i hi
  clear h hi
  go_enter Tryz.func121, Tryz.ntmps121
  go_wp2_with (go_at_call 59; refine hf.mono ?_; rintro e w' ⟨rfl, rfl⟩)
  go_ret2
  exact ⟨rfl, rfl⟩
theorem buse_in (hR : Firm R) (h : Hold B w0 w (star (bnk g N D s p) R)) (hs : s ≤ 1000000000) (i : Nat) (hi : i < N) : Calls Tryz.prog 121 #[.pointer (some ⟨g, 0, none⟩), .int .i64 (i : Int)] w fun e w' => e = .returned (.tuple #[.pointer (some ⟨(D i).g, 0, none⟩), .int .i64 (spendE p)]) ∧ Hold B w0 w' (star (bnk g N D (spendS p s) (spendP p)) R) := by
  have hf := bfind_in h i hi
  have hsp := bspend_any hR h hs
  obtain ⟨E, hE⟩ : ∃ E, spendE p = E := ⟨_, rfl⟩
  rw [hE] at hsp ⊢
  clear h hi
  go_enter Tryz.func121, Tryz.ntmps121
  go_wp2_with (first
    | (go_at_call 59; refine hf.mono ?_; rintro e w' ⟨rfl, rfl⟩)
    | (go_at_call 174; refine hsp.mono ?_; rintro e w1 ⟨rfl, h1⟩; have h1 : Hid _ := h1))
  go_ret2
  exact ⟨rfl, h1.out⟩
end
def putD (d : Dk) (at_ : Int) (t : ByteArray) : Dk := ⟨d.g, d.n, d.l, putQ d.q d.dead d.n at_ t, d.dead⟩
def flushD (d : Dk) : Dk := ⟨d.g, d.n, flushL d.l d.q d.dead, flushQ d.q d.dead, d.dead⟩
def tampD (d : Dk) (at_ : Int) (t : ByteArray) : Dk := ⟨d.g, d.n, tampL d.l d.dead d.n at_ t, tampQ d.q d.dead d.n at_ t, d.dead⟩
def Out (N : Nat) (i : Int) : Prop := i < 0 ∨ (N : Int) ≤ i
instance (N : Nat) (i : Int) : Decidable (Out N i) := by unfold Out; infer_instance
theorem out_cases (N : Nat) (i : Int) : Out N i ∨ ∃ k : Nat, i = (k : Int) ∧ k < N ∧ ¬ Out N i := by
  by_cases h : Out N i
  · exact .inl h
  · unfold Out at h
    exact .inr ⟨i.toNat, by omega, by omega, by unfold Out; omega⟩
theorem out_not (N k : Nat) (h : k < N) : ¬ Out N (k : Int) := by unfold Out; omega
def stE (N : Nat) (p : Option Nat) (i : Int) (e : Int) : Int := if Out N i then 11 else if p = some 0 then 21 else e
def stS (N : Nat) (p : Option Nat) (i : Int) (s : Nat) : Nat := if Out N i then s else spendS p s
def stP (N : Nat) (p : Option Nat) (i : Int) : Option Nat := if Out N i then p else spendP p
def stD (N : Nat) (p : Option Nat) (i : Int) (D : Nat → Dk) (d : Dk) : Nat → Dk := if Out N i then D else if p = some 0 then D else updD D i.toNat d
theorem stS_le (N : Nat) (p : Option Nat) (i : Int) (s : Nat) : stS N p i s ≤ s + 1 := by
  unfold stS spendS; split
  · omega
  · split <;> omega
section
variable {B : Nat} {w0 w : World} {g N : Nat} {D : Nat → Dk} {s : Nat} {p : Option Nat} {R : Asn}
theorem bwrite_any (hR : Firm R) (h : Hold B w0 w (star (bnk g N D s p) R)) (hs : s ≤ 1000000000) (hq : ∀ j, j < N → (D j).q.length ≤ 1000000) (i at_ : Int) (t : ByteArray) :
    Calls Tryz.prog 76 #[.pointer (some ⟨g, 0, none⟩), .int .i64 i, .int .i64 at_, .string t] w fun e w' => e = .returned (.int .i64 (stE N p i (errW (D i.toNat).dead (D i.toNat).n at_ t))) ∧ Hold B w0 w' (star (bnk g N (stD N p i D (putD (D i.toNat) at_ t)) (stS N p i s) (stP N p i)) R) := by
  rcases out_cases N i with ho | ⟨k, rfl, hk, ho⟩
  · have hf := buse_out h i ho
    simp only [stE, stD, stS, stP, if_pos ho]
    have h : Hid _ := h
    clear hR hq ho
    go_enter Tryz.func76, Tryz.ntmps76
    go_wp2_with (go_at_call 121; refine hf.mono ?_; rintro e w' ⟨rfl, rfl⟩)
    go_ret
    exact ⟨rfl, h.out⟩
  · have hf := buse_in hR h hs k hk
    simp only [stE, stD, stS, stP, if_neg ho, Int.toNat_natCast]
    by_cases h0 : p = some 0
    · subst h0
      simp only [if_true]
      rw [spendE_dark] at hf
      clear h hR hq ho hk
      go_enter Tryz.func76, Tryz.ntmps76
      go_wp2_with (go_at_call 121; refine hf.mono ?_; rintro e w' ⟨rfl, h1⟩; have h1 : Hid _ := h1)
      go_ret
      exact ⟨rfl, h1.out⟩
    · simp only [if_neg h0]
      rw [show spendE p = 0 from if_neg h0] at hf
      have hw : Hid (∀ w', Hold B w0 w' (star (bnk g N D (spendS p s) (spendP p)) R) → Calls Tryz.prog 122 #[.pointer (some ⟨(D k).g, 0, none⟩), .int .i64 at_, .string t] w' fun e w' => e = .returned (.int .i64 (errW (D k).dead (D k).n at_ t)) ∧ Hold B w0 w' (star (bnk g N (updD D k (putD (D k) at_ t)) (spendS p s) (spendP p)) R)) := fun w' h' =>
        (h_write ((firm_bnkX k).star hR) (h'.openD k hk) at_ t (hq k hk)).mono fun e w2 ⟨he, h2⟩ => ⟨he, Hold.shutD k hk (putD (D k) at_ t) rfl h2⟩
      obtain ⟨E, hE⟩ : ∃ E, errW (D k).dead (D k).n at_ t = E := ⟨_, rfl⟩
      rw [hE] at hw ⊢
      clear h hR hq ho hk h0 hE
      go_enter Tryz.func76, Tryz.ntmps76
      go_wp2_with (first
        | (go_at_call 121; refine hf.mono ?_; rintro e w' ⟨rfl, h1⟩; have h1 : Hid _ := h1)
        | (go_at_call 122; refine (hw.out _ h1.out).mono ?_; rintro e w2 ⟨rfl, h2⟩; have h2 : Hid _ := h2))
      go_ret
      exact ⟨rfl, h2.out⟩
theorem bflush_any (hR : Firm R) (h : Hold B w0 w (star (bnk g N D s p) R)) (hs : s ≤ 1000000000) (i : Int) :
    Calls Tryz.prog 77 #[.pointer (some ⟨g, 0, none⟩), .int .i64 i] w fun e w' => e = .returned (.int .i64 (stE N p i (errD (D i.toNat).dead))) ∧ Hold B w0 w' (star (bnk g N (stD N p i D (flushD (D i.toNat))) (stS N p i s) (stP N p i)) R) := by
  rcases out_cases N i with ho | ⟨k, rfl, hk, ho⟩
  · have hf := buse_out h i ho
    simp only [stE, stD, stS, stP, if_pos ho]
    have h : Hid _ := h
    clear hR ho
    go_enter Tryz.func77, Tryz.ntmps77
    go_wp2_with (go_at_call 121; refine hf.mono ?_; rintro e w' ⟨rfl, rfl⟩)
    go_ret
    exact ⟨rfl, h.out⟩
  · have hf := buse_in hR h hs k hk
    simp only [stE, stD, stS, stP, if_neg ho, Int.toNat_natCast]
    by_cases h0 : p = some 0
    · subst h0
      simp only [if_true]
      rw [spendE_dark] at hf
      clear h hR ho hk
      go_enter Tryz.func77, Tryz.ntmps77
      go_wp2_with (go_at_call 121; refine hf.mono ?_; rintro e w' ⟨rfl, h1⟩; have h1 : Hid _ := h1)
      go_ret
      exact ⟨rfl, h1.out⟩
    · simp only [if_neg h0]
      rw [show spendE p = 0 from if_neg h0] at hf
      have hw : Hid (∀ w', Hold B w0 w' (star (bnk g N D (spendS p s) (spendP p)) R) → Calls Tryz.prog 123 #[.pointer (some ⟨(D k).g, 0, none⟩)] w' fun e w' => e = .returned (.int .i64 (errD (D k).dead)) ∧ Hold B w0 w' (star (bnk g N (updD D k (flushD (D k))) (spendS p s) (spendP p)) R)) := fun w' h' =>
        (h_flush ((firm_bnkX k).star hR) (h'.openD k hk)).mono fun e w2 ⟨he, h2⟩ => ⟨he, Hold.shutD k hk (flushD (D k)) rfl h2⟩
      obtain ⟨E, hE⟩ : ∃ E, errD (D k).dead = E := ⟨_, rfl⟩
      rw [hE] at hw ⊢
      clear h hR ho hk h0 hE
      go_enter Tryz.func77, Tryz.ntmps77
      go_wp2_with (first
        | (go_at_call 121; refine hf.mono ?_; rintro e w' ⟨rfl, h1⟩; have h1 : Hid _ := h1)
        | (go_at_call 123; refine (hw.out _ h1.out).mono ?_; rintro e w2 ⟨rfl, h2⟩; have h2 : Hid _ := h2))
      go_ret
      exact ⟨rfl, h2.out⟩
def rdB (N : Nat) (p : Option Nat) (i : Int) (t : ByteArray) : ByteArray := if Out N i then noB else if p = some 0 then noB else t
theorem bread_any (h : Hold B w0 w (star (bnk g N D s p) R)) (i at_ : Int) :
    Calls Tryz.prog 55 #[.pointer (some ⟨g, 0, none⟩), .int .i64 i, .int .i64 at_] w fun e w' => e = .returned (.tuple #[.string (rdB N p i (readB (D i.toNat).l (D i.toNat).q (D i.toNat).dead (D i.toNat).n at_)), .int .i64 (stE N p i (errA (D i.toNat).dead (D i.toNat).n at_))]) ∧ w' = w := by
  rcases out_cases N i with ho | ⟨k, rfl, hk, ho⟩
  · have hf := bfind_out h i ho
    simp only [stE, rdB, if_pos ho]
    clear h ho
    go_enter Tryz.func55, Tryz.ntmps55
    go_wp2_with (go_at_call 59; refine hf.mono ?_; rintro e w' ⟨rfl, rfl⟩)
    go_ret2
    exact ⟨rfl, rfl⟩
  · have hf := bfind_in h k hk
    have hd := bdark_any h
    simp only [stE, rdB, if_neg ho, Int.toNat_natCast]
    by_cases h0 : p = some 0
    · rw [decide_eq_true h0] at hd
      simp only [if_pos h0]
      clear h ho hk h0
      go_enter Tryz.func55, Tryz.ntmps55
      go_wp2_with (first
        | (go_at_call 59; refine hf.mono ?_; rintro e w' ⟨rfl, rfl⟩)
        | (go_at_call 101; refine hd.mono ?_; rintro e w' ⟨rfl, hw'⟩; rw [hw']; clear hw' w'))
      go_ret2
      exact ⟨rfl, rfl⟩
    · rw [decide_eq_false h0] at hd
      simp only [if_neg h0]
      obtain ⟨F, hF⟩ := (h.openD k hk).dsk
      have hr := read_any hF at_
      obtain ⟨E, hE⟩ : ∃ E, errA (D k).dead (D k).n at_ = E := ⟨_, rfl⟩
      obtain ⟨T, hT⟩ : ∃ T, readB (D k).l (D k).q (D k).dead (D k).n at_ = T := ⟨_, rfl⟩
      rw [hE, hT] at hr
      rw [hE, hT]
      clear h ho hk h0 hE hT hF
      go_enter Tryz.func55, Tryz.ntmps55
      go_wp2_with (first
        | (go_at_call 59; refine hf.mono ?_; rintro e w' ⟨rfl, rfl⟩)
        | (go_at_call 101; refine hd.mono ?_; rintro e w' ⟨rfl, hw'⟩; rw [hw']; clear hw' w')
        | (go_at_call 102; refine hr.mono ?_; rintro e w' ⟨rfl, hw'⟩; rw [hw']; clear hw' w'))
      go_ret2
      exact ⟨rfl, rfl⟩
end
section
variable {B : Nat} {w0 w : World} {g N : Nat} {D : Nat → Dk} {s : Nat} {p : Option Nat} {R : Asn}
theorem Hold.rbkAt (h : Hold B w0 w (star (rbk g N D s p) R)) (i : Nat) (hi : i < N) : ∃ gd cap, w.cell? ⟨g, 0, none⟩ = some (.slice (some ⟨gd, 0, none⟩) N cap) ∧ w.cell? ⟨gd, i, none⟩ = some (.pointer (some ⟨(D i).g, 0, none⟩)) := by
  obtain ⟨gd, cap, hb, hr, -⟩ := h.rbkTop
  refine ⟨gd, cap, hb.cell (i := 0) rfl, ?_⟩
  rw [World.ownsRow.cellAt hr i (by omega), ptrs_at N D i hi]
end
theorem Tryz.info71 : (Tryz.prog.info? 71).map (fun i => (i.zero, i.size, i.bytes)) = some (some (.pointer none), 1, 8) := by kernel_rfl
theorem Tryz.info95 : (Tryz.prog.info? 95).map (fun i => (i.zero, i.size, i.bytes)) = some (some (.pointer none), 1, 8) := by kernel_rfl
def newB (c : Int) : Nat := if c < 1 then 1 else if 12 < c then 12 else c.toNat
theorem newB_low (c : Int) : 1 ≤ newB c ∧ newB c ≤ 12 := by
  unfold newB
  split
  · omega
  · split <;> omega
def Fresh (d : Dk) (c : Int) : Prop := d.n = newN c ∧ d.l = (fun _ => noB) ∧ d.q = [] ∧ d.dead = false
def freshD (g : Nat) (c : Int) : Dk := ⟨g, newN c, fun _ => noB, [], false⟩
def ptrsX (N j : Nat) (D : Nat → Dk) : List Value := (List.range N).map fun i => if i < j then (D i).ptr else .pointer none
theorem ptrsX_end (N : Nat) (D : Nat → Dk) : ptrsX N N D = ptrs N D := by
  unfold ptrsX ptrs; exact List.map_congr_left fun i hi => by rw [if_pos (List.mem_range.1 hi)]
theorem ptrsX_at (N j : Nat) (D : Nat → Dk) (i : Nat) (hi : i < N) (h : j ≤ i) : (ptrsX N j D)[i]? = some (.pointer none) := by
  have : ¬ i < j := by omega
  simp [ptrsX, hi, this]
theorem ptrsX_set (N j : Nat) (D : Nat → Dk) (d : Dk) : (ptrsX N j D).set j d.ptr = ptrsX N (j + 1) (updD D j d) := by
  apply List.ext_getElem
  · simp [ptrsX]
  · intro i h1 h2
    rw [List.getElem_set]
    simp only [ptrsX, List.getElem_map, List.getElem_range]
    by_cases e : j = i
    · subst e; rw [if_pos rfl, if_pos (by omega), updD_same]
    · rw [if_neg e, updD_ne _ _ _ _ (fun h => e h.symm)]
      by_cases h : i < j
      · rw [if_pos h, if_pos (by omega)]
      · rw [if_neg h, if_neg (by omega)]
theorem made_ptrs (n : Nat) (D : Nat → Dk) : madeCells (Value.pointer none).cells (n * 1) = (ptrsX n 0 D).toArray := by
  apply Array.ext
  · simp [madeCells, ptrsX]
  · intro i h1 h2
    simp [madeCells, ptrsX, Value.cells, Nat.mod_one]
theorem make_ptrs (n : Nat) (D : Nat → Dk) (h : n ≤ 12) (w : World) : (Instr.makeSlice 103 (.int .i64 (n : Int)) (.int .i64 (n : Int))).run Tryz.prog w = .ok (.slice (some ⟨w.heap.size, 0, none⟩) n n) (w.alloc (.cells (ptrsX n 0 D).toArray 71)) := by
  obtain ⟨i0, hi, hz0, hz1, hz2⟩ := info_parts Tryz.info71
  have hr := run_make (P := Tryz.prog) w 103 71 i0 (.pointer none) Tryz.underlying103 hi hz0 .i64 .i64 n n (by omega) (by omega) (by rw [hz2]; omega) (by omega)
  rw [hz1, Int.toNat_natCast, made_ptrs n D] at hr
  exact hr
def Making (B : Nat) (w0 w : World) (R : Asn) (g gd N j : Nat) (c : Int) : Prop := ∃ D : Nat → Dk, (∀ i, i < j → Fresh (D i) c) ∧ Hold B w0 w (star (blkA g 105 [.slice (some ⟨gd, 0, none⟩) N N, .int .i64 0, .bool false, .int .i64 0]) (star (blkA gd 71 (ptrsX N j D)) (star (each (fun i => i < j) fun i => dk (D i)) R)))
theorem Making.start {B : Nat} {w0 w : World} {R : Asn} (hR : Firm R) (h : Hold B w0 w R) (N : Nat) (c : Int) (D : Nat → Dk) : Making B w0 ((w.alloc (.cells (ptrsX N 0 D).toArray 71)).alloc (.cells #[.slice (some ⟨w.heap.size, 0, none⟩) N N, .int .i64 0, .bool false, .int .i64 0] 105)) R (w.heap.size + 1) w.heap.size N 0 c := by
  have h0 : Hold B w0 w (star (each (fun i => i < 0) fun i => dk (D i)) R) := h.addNought.monoL (fun F h => each_none (fun i hi => by omega) h)
  have f0 : Firm (star (each (fun i => i < 0) fun i => dk (D i)) R) := (firm_each fun _ => firm_dk _).star hR
  have h1 := h0.newBlk f0 71 (ptrsX N 0 D).toArray
  have h2 := h1.newBlk ((firm_blk _ _ _).star f0) 105 #[.slice (some ⟨w.heap.size, 0, none⟩) N N, .int .i64 0, .bool false, .int .i64 0]
  rw [World.size_alloc, List.toList_toArray] at h2
  exact ⟨D, fun i hi => by omega, h2⟩
theorem Making.firm {R : Asn} (hR : Firm R) (g gd N j : Nat) (D : Nat → Dk) : Firm (star (blkA g 105 [.slice (some ⟨gd, 0, none⟩) N N, .int .i64 0, .bool false, .int .i64 0]) (star (blkA gd 71 (ptrsX N j D)) (star (each (fun i => i < j) fun i => dk (D i)) R))) := (firm_blk _ _ _).star ((firm_blk _ _ _).star ((firm_each fun _ => firm_dk _).star hR))
theorem Making.drew {B : Nat} {w0 w : World} {R : Asn} (hR : Firm R) {g gd N j : Nat} {c : Int} (h : Making B w0 w R g gd N j c) : Making B w0 w.drew R g gd N j c := by
  obtain ⟨D, h1, h2⟩ := h
  exact ⟨D, h1, h2.drew (Making.firm hR g gd N j D)⟩
theorem Making.more {B : Nat} {w0 w : World} {R : Asn} (hR : Firm R) {g gd N j : Nat} {c : Int} {D : Nat → Dk} (hj : j < N) (hD : ∀ i, i < j → Fresh (D i) c) {gj : Nat} (h : Hold B w0 w (star (dsk gj (newN c) (fun _ => noB) [] false) (star (blkA g 105 [.slice (some ⟨gd, 0, none⟩) N N, .int .i64 0, .bool false, .int .i64 0]) (star (blkA gd 71 (ptrsX N j D)) (star (each (fun i => i < j) fun i => dk (D i)) R))))) :
    w.cell? ⟨g, 0, none⟩ = some (.slice (some ⟨gd, 0, none⟩) N N) ∧ w.cell? ⟨gd, j, none⟩ = some (.pointer none) ∧ w.frozen? ⟨gd, j, none⟩ = false ∧ Making B w0 (w.setCell ⟨gd, j, none⟩ (.pointer (some ⟨gj, 0, none⟩))) R g gd N (j + 1) c ∧ (w.setCell ⟨gd, j, none⟩ (.pointer (some ⟨gj, 0, none⟩))).cell? ⟨g, 0, none⟩ = some (.slice (some ⟨gd, 0, none⟩) N N) := by
  have hg := h.swap.blk
  have h1 := h.swap.monoR (fun F h => star_swap h)
  have h2 := h1.swap
  have hd := h2.blk
  have h3 := h2.setBlk ((firm_blk _ _ _).star ((firm_dsk _ _ _ _ _).star ((firm_each fun _ => firm_dk _).star hR))) j (.pointer (some ⟨gj, 0, none⟩))
  have hg3 := h3.swap.blk
  refine ⟨hg.cell (i := 0) rfl, hd.cell (ptrsX_at N j D j hj (Nat.le_refl _)), hd.frozen j, ⟨updD D j (freshD gj c), fun i hi => ?_, ?_⟩, hg3.cell (i := 0) rfl⟩
  · by_cases e : i = j
    · subst e; rw [updD_same]; exact ⟨rfl, rfl, rfl, rfl⟩
    · rw [updD_ne _ _ _ _ e]; exact hD i (by omega)
  · rw [← ptrsX_set N j D (freshD gj c)]
    refine h3.swap.monoR (fun F h => star_monoR h (fun F h => star_monoL (star_unassoc h) (fun F h => each_more (P := fun i => dk (D i)) j (fun i hi => by rw [updD_ne _ _ _ _ (by omega)]) (star_monoL h (fun F h => by rw [updD_same]; exact h)))))
theorem Making.done {B : Nat} {w0 w : World} {R : Asn} {g gd N : Nat} {c : Int} (hN : 1 ≤ N ∧ N ≤ 12) (h : Making B w0 w R g gd N N c) : ∃ D, (∀ i, i < N → Fresh (D i) c) ∧ Hold B w0 w (star (bnk g N D 0 none) R) := by
  obtain ⟨D, h1, h2⟩ := h
  rw [ptrsX_end] at h2
  exact ⟨D, h1, (h2.monoR (fun F h => star_unassoc h)).ofTop ⟨hN, fun k e => by cases e⟩ gd rfl⟩
theorem Making.read {B : Nat} {w0 w : World} {R : Asn} {g gd N j : Nat} {c : Int} (h : Making B w0 w R g gd N j c) : w.cell? ⟨g, 0, none⟩ = some (.slice (some ⟨gd, 0, none⟩) N N) := by
  obtain ⟨D, h1, h2⟩ := h
  exact h2.blk.cell (i := 0) rfl
set_option maxHeartbeats 1000000 in
theorem bnew_any {B : Nat} {w0 w : World} {R : Asn} (hR : Firm R) (h : Hold B w0 w R) (d c : Int) : Calls Tryz.prog 32 #[.int .i64 d, .int .i64 c] w fun e w' => ∃ g, e = .returned (.pointer (some ⟨g, 0, none⟩)) ∧ ∃ D, (∀ i, i < newB d → Fresh (D i) c) ∧ Hold B w0 w' (star (bnk g (newB d) D 0 none) R) := by
  obtain ⟨N, hN⟩ : ∃ N, newB d = N := ⟨_, rfl⟩
  have hl := newB_low d
  rw [hN] at hl ⊢
  have D0 : Nat → Dk := fun _ => freshD 0 c
  have hmk := make_ptrs N D0 hl.2
  have HM : Hid (Making _ _ _ _ _ _ _ _ _) := Making.start hR h N c D0
  obtain ⟨Z, hZ⟩ : ∃ Z, ptrsX N 0 D0 = Z := ⟨_, rfl⟩
  rw [hZ] at hmk HM
  have HR : Hid _ := hR
  clear hZ h hR
  obtain ⟨a, ha⟩ : ∃ a : Int, (if d < 1 then (1 : Int) else d) = a := ⟨_, rfl⟩
  have hb : (if 12 < a then (12 : Int) else a) = (N : Int) := by
    rw [← ha, ← hN]; unfold newB
    by_cases h1 : d < 1
    · rw [if_pos h1, if_pos h1]; rfl
    · rw [if_neg h1, if_neg h1]
      by_cases h2 : 12 < d
      · rw [if_pos h2, if_pos h2]; rfl
      · rw [if_neg h2, if_neg h2]; omega
  go_enter Tryz.func32, Tryz.ntmps32
  go_wp2_with fail
  clear hmk ha hb hN
  obtain ⟨gd, hgd⟩ : ∃ gd, w.heap.size = gd := ⟨_, rfl⟩
  rw [hgd] at HM ⊢
  go_loopw [18] (fun i wr => ∃ j : Nat, j ≤ N ∧ i = .int .i64 (j : Int) ∧ Hid (Making B w0 wr R (gd + 1) gd N j c)) (fun i _ => N - (intOf i).toNat)
  case atStart => exact ⟨0, Nat.zero_le _, rfl, HM.out⟩
  case round =>
    clear HM
    obtain ⟨j, hj, rfl, hrr⟩ := hrel
    by_cases hlt : j < N
    · have hj' : (j : Int) < (N : Int) := by omega
      obtain ⟨D, hD, hH⟩ := Making.drew HR.out hrr.out
      have c0 := hH.blk.cell (i := 0) rfl
      have hnew := h_new (Making.firm HR.out (gd + 1) gd N j D) hH c
      have HD : Hid _ := hD
      have HL : Hid _ := hlt
      clear hrr hH hD
      go_wp2_with fail
      refine wp_region_noPanic ?_
      refine wp_region_held_drew (S := fun z => z.cell? ⟨gd + 1, 0, none⟩ = some (.slice (some ⟨gd, 0, none⟩) N N)) (by kernel_rfl) c0 (fun hHeld => ?_)
      refine tkH 0 ?_; go_simp
      refine tkH 1 ?_; go_simp
      refine tkH 2 ?_; go_simp
      refine tkH 3 ?_; go_simp
      refine tkH 4 ?_; go_simp
      refine tkH 5 ?_; go_simp
      refine rdH 6 fun K hK => ?_
      go_simp
      go_at_call 68
      refine hnew.mono ?_
      rintro e wz ⟨gj, rfl, hz⟩
      obtain ⟨z0, z1, z2, z3, z4⟩ := Making.more HR.out HL.out HD.out hz
      clear hz hnew
      have z3 : Hid _ := z3
      refine hK.out _ _ z0 (fun hHeld => ?_)
      clear hK K
      refine tkH 7 ?_; go_simp
      refine rdH 8 fun K hK => ?_
      go_simp
      refine hK.out _ _ z4 (fun hHeld => ?_)
      clear hK K
      refine wpAnyH_done (by kernel_rfl) ?_ _
      refine NoPanic.normal ?_
      go_wp2_with fail
      go_roundw
      case rel => exact ⟨j + 1, by omega, by go_num, z3.out⟩
      case measure => simp [intOf]; omega
    · obtain rfl : j = N := by omega
      have HT : Hid _ := Making.done hl hrr.out
      clear hrr
      go_wp2_with fail
      go_ret
      exact ⟨_, rfl, HT.out⟩
def RMaking (B : Nat) (w0 w : World) (R : Asn) (g j : Nat) (c : Int) : Prop := ∃ (D : Nat → Dk) (v : Value), (∀ i, i < j → Fresh (D i) c) ∧ Hold B w0 w (star (blkA g 98 [v, .int .i64 0, .int .i64 (-1)]) (star (rowA 95 v j (ptrs j D)) (star (each (fun i => i < j) fun i => rdk (D i)) R)))
theorem RMaking.start {B : Nat} {w0 w : World} {R : Asn} (hR : Firm R) (h : Hold B w0 w R) (c : Int) : RMaking B w0 (w.alloc (.cells #[.slice none 0 0, .int .i64 0, .int .i64 (-1)] 98)) R w.heap.size 0 c := by
  have h0 : Hold B w0 w (star (each (fun i => i < 0) fun i => rdk (freshD 0 c)) R) := h.addNought.monoL (fun F h => each_none (fun i hi => by omega) h)
  have f0 : Firm (star (each (fun i => i < 0) fun i => rdk (freshD 0 c)) R) := (firm_each fun _ => firm_rdk _).star hR
  have h1 : Hold B w0 w (star (rowA 95 (.slice none 0 0) 0 []) (star (each (fun i => i < 0) fun i => rdk (freshD 0 c)) R)) := h0.addNought.monoL (fun F h => ⟨World.ownsRow_nil _ _ _ _, fun k => ⟨fun hk => absurd hk (h k), fun e => by cases e⟩⟩)
  have h2 := h1.newBlk ((firm_row _ _ _ _).star f0) 98 #[.slice none 0 0, .int .i64 0, .int .i64 (-1)]
  exact ⟨fun _ => freshD 0 c, .slice none 0 0, fun i hi => by omega, h2⟩
theorem RMaking.firm {R : Asn} (hR : Firm R) (g j : Nat) (v : Value) (D : Nat → Dk) : Firm (star (blkA g 98 [v, .int .i64 0, .int .i64 (-1)]) (star (rowA 95 v j (ptrs j D)) (star (each (fun i => i < j) fun i => rdk (D i)) R))) := (firm_blk _ _ _).star ((firm_row _ _ _ _).star ((firm_each fun _ => firm_rdk _).star hR))
theorem RMaking.more {B : Nat} {w0 w : World} {R : Asn} (hR : Firm R) {g j : Nat} {c : Int} {D : Nat → Dk} {v : Value} (hj : j < 12) (hD : ∀ i, i < j → Fresh (D i) c) {gj : Nat} (h : Hold B w0 w (star (rf gj (newN c) (fun _ => noB) [] false) (star (blkA g 98 [v, .int .i64 0, .int .i64 (-1)]) (star (rowA 95 v j (ptrs j D)) (star (each (fun i => i < j) fun i => rdk (D i)) R))))) :
    w.cell? ⟨g, 0, none⟩ = some v ∧ ∃ g' cap' w', (Builtin.append_ #[96, 96] 96 #[v, .slice (some ⟨w.heap.size, 0, none⟩) 1 1]).run Tryz.prog (w.alloc (.cells #[.pointer (some ⟨gj, 0, none⟩)] 95)) = .ok (.slice (some ⟨g', 0, none⟩) (j + 1) cap') w' ∧ w'.cell? ⟨g, 0, none⟩ = some v ∧ w'.frozen? ⟨g, 0, none⟩ = false ∧ RMaking B w0 (w'.setCell ⟨g, 0, none⟩ (.slice (some ⟨g', 0, none⟩) (j + 1) cap')) R g (j + 1) c := by
  have hg := h.swap.blk
  have h1 := (h.swap.monoR (fun F h => star_swap h)).swap
  obtain ⟨g', cap', w', hrun, h2⟩ := row_push ((firm_blk _ _ _).star ((firm_rf _ _ _ _ _).star ((firm_each fun _ => firm_rdk _).star hR))) 96 95 96 (.pointer none) 8 Tryz.underlying96 Tryz.info95 rfl (by decide) h1 (.pointer (some ⟨gj, 0, none⟩)) rfl (by omega)
  have h3 := h2.swap
  have hg3 := h3.blk
  have h4 := h3.setBlk ((firm_row _ _ _ _).star ((firm_rf _ _ _ _ _).star ((firm_each fun _ => firm_rdk _).star hR))) 0 (.slice (some ⟨g', 0, none⟩) (j + 1) cap')
  refine ⟨hg.cell (i := 0) rfl, g', cap', w', hrun, hg3.cell (i := 0) rfl, hg3.frozen 0, updD D j (freshD gj c), .slice (some ⟨g', 0, none⟩) (j + 1) cap', fun i hi => ?_, ?_⟩
  · by_cases e : i = j
    · subst e; rw [updD_same]; exact ⟨rfl, rfl, rfl, rfl⟩
    · rw [updD_ne _ _ _ _ e]; exact hD i (by omega)
  · rw [ptrs_succ, updD_same, ← ptrs_congr j D (updD D j (freshD gj c)) (fun i hi => by rw [updD_ne _ _ _ _ (by omega)])]
    exact h4.monoR (fun F h => star_monoR h (fun F h => star_monoL (star_unassoc h) (fun F h => each_more (P := fun i => rdk (D i)) j (fun i hi => by rw [updD_ne _ _ _ _ (by omega)]) (star_monoL h (fun F h => by rw [updD_same]; exact h)))))
theorem RMaking.done {B : Nat} {w0 w : World} {R : Asn} {g N : Nat} {c : Int} (hN : 1 ≤ N ∧ N ≤ 12) (h : RMaking B w0 w R g N c) : ∃ D, (∀ i, i < N → Fresh (D i) c) ∧ Hold B w0 w (star (rbk g N D 0 none) R) := by
  obtain ⟨D, v, h1, h2⟩ := h
  have hr := h2.swap.row
  rcases hr.2 with ⟨_, h0⟩ | ⟨gd, cap, cur, rfl, _⟩
  · omega
  · exact ⟨D, h1, (h2.monoR (fun F h => star_unassoc h)).ofRTop ⟨hN, fun k e => by cases e⟩ gd cap rfl⟩
set_option maxHeartbeats 1000000 in
theorem rnew_any {B : Nat} {w0 w : World} {R : Asn} (hR : Firm R) (h : Hold B w0 w R) (d c : Int) : Calls Tryz.prog 33 #[.int .i64 d, .int .i64 c] w fun e w' => ∃ g, e = .returned (.pointer (some ⟨g, 0, none⟩)) ∧ ∃ D, (∀ i, i < newB d → Fresh (D i) c) ∧ Hold B w0 w' (star (rbk g (newB d) D 0 none) R) := by
  obtain ⟨N, hN⟩ : ∃ N, newB d = N := ⟨_, rfl⟩
  have hl := newB_low d
  rw [hN] at hl ⊢
  have HM : Hid (RMaking _ _ _ _ _ _ _) := RMaking.start hR h c
  have HR : Hid _ := hR
  clear h hR
  obtain ⟨gr, hgr⟩ : ∃ gr, w.heap.size = gr := ⟨_, rfl⟩
  unfold newB at hN
  by_cases h1 : d < 1
  · rw [if_pos h1] at hN
    have HN : Hid (1 = N) := hN
    clear hN
    go_enter Tryz.func33, Tryz.ntmps33
    go_wp2_with fail
    try rw [hgr] at HM
    try rw [hgr]
    go_loopw [6] (fun i wr => ∃ j : Nat, j ≤ N ∧ i = .int .i64 (j : Int) ∧ Hid (RMaking B w0 wr R gr j c)) (fun i _ => N - (intOf i).toNat)
    case atStart => exact ⟨0, Nat.zero_le _, rfl, HM.out⟩
    case round =>
      clear HM
      obtain ⟨j, hj, rfl, hrr⟩ := hrel
      by_cases hlt : j < N
      · have hj' : (j : Int) < (1 : Int) := by have := HN.out; omega
        obtain ⟨D, v, hD, hH⟩ := hrr.out
        have hnew := h_rnew (RMaking.firm HR.out gr j v D) hH c
        have HD : Hid _ := hD
        have HL : Hid (j < 12) := by have := hl.2; exact (by omega : j < 12)
        clear hrr hH hD
        go_wp2_with (first
          | (go_at_call 69; refine hnew.mono ?_; rintro e wz ⟨gj, rfl, hz⟩; obtain ⟨z0, g', cap', w2, hrun, z1, z2, z3⟩ := RMaking.more HR.out HL.out HD.out hz; clear hz hnew; have z3 : Hid _ := z3)
          | (at_builtin; refine wpList_append_run rfl _ _ 96 96 rfl _ _ rfl rfl _ _ hrun ?_))
        go_roundw
        case rel => exact ⟨j + 1, by omega, by go_num, z3.out⟩
        case measure => simp [intOf]; omega
      · have hj' : ¬ (j : Int) < (1 : Int) := by have := HN.out; omega
        obtain rfl : j = N := by omega
        have HT : Hid _ := RMaking.done hl hrr.out
        clear hrr
        go_wp2_with fail
        go_ret
        exact ⟨_, rfl, HT.out⟩
  · rw [if_neg h1] at hN
    by_cases h2 : 12 < d
    · rw [if_pos h2] at hN
      have HN : Hid (12 = N) := hN
      clear hN
      go_enter Tryz.func33, Tryz.ntmps33
      go_wp2_with fail
      try rw [hgr] at HM
      try rw [hgr]
      go_loopw [6] (fun i wr => ∃ j : Nat, j ≤ N ∧ i = .int .i64 (j : Int) ∧ Hid (RMaking B w0 wr R gr j c)) (fun i _ => N - (intOf i).toNat)
      case atStart => exact ⟨0, Nat.zero_le _, rfl, HM.out⟩
      case round =>
        clear HM
        obtain ⟨j, hj, rfl, hrr⟩ := hrel
        by_cases hlt : j < N
        · have hj' : (j : Int) < (12 : Int) := by have := HN.out; omega
          obtain ⟨D, v, hD, hH⟩ := hrr.out
          have hnew := h_rnew (RMaking.firm HR.out gr j v D) hH c
          have HD : Hid _ := hD
          have HL : Hid (j < 12) := by have := hl.2; exact (by omega : j < 12)
          clear hrr hH hD
          go_wp2_with (first
            | (go_at_call 69; refine hnew.mono ?_; rintro e wz ⟨gj, rfl, hz⟩; obtain ⟨z0, g', cap', w2, hrun, z1, z2, z3⟩ := RMaking.more HR.out HL.out HD.out hz; clear hz hnew; have z3 : Hid _ := z3)
            | (at_builtin; refine wpList_append_run rfl _ _ 96 96 rfl _ _ rfl rfl _ _ hrun ?_))
          go_roundw
          case rel => exact ⟨j + 1, by omega, by go_num, z3.out⟩
          case measure => simp [intOf]; omega
        · have hj' : ¬ (j : Int) < (12 : Int) := by have := HN.out; omega
          obtain rfl : j = N := by omega
          have HT : Hid _ := RMaking.done hl hrr.out
          clear hrr
          go_wp2_with fail
          go_ret
          exact ⟨_, rfl, HT.out⟩
    · rw [if_neg h2] at hN
      obtain rfl : d = (N : Int) := by omega
      go_enter Tryz.func33, Tryz.ntmps33
      go_wp2_with fail
      try rw [hgr] at HM
      try rw [hgr]
      clear h1 h2
      go_loopw [6] (fun i wr => ∃ j : Nat, j ≤ N ∧ i = .int .i64 (j : Int) ∧ Hid (RMaking B w0 wr R gr j c)) (fun i _ => N - (intOf i).toNat)
      case atStart => exact ⟨0, Nat.zero_le _, rfl, HM.out⟩
      case round =>
        clear HM
        obtain ⟨j, hj, rfl, hrr⟩ := hrel
        by_cases hlt : j < N
        · have hj' : (j : Int) < (N : Int) := by omega
          obtain ⟨D, v, hD, hH⟩ := hrr.out
          have hnew := h_rnew (RMaking.firm HR.out gr j v D) hH c
          have HD : Hid _ := hD
          have HL : Hid (j < 12) := by have := hl.2; exact (by omega : j < 12)
          clear hrr hH hD
          go_wp2_with (first
            | (go_at_call 69; refine hnew.mono ?_; rintro e wz ⟨gj, rfl, hz⟩; obtain ⟨z0, g', cap', w2, hrun, z1, z2, z3⟩ := RMaking.more HR.out HL.out HD.out hz; clear hz hnew; have z3 : Hid _ := z3)
            | (at_builtin; refine wpList_append_run rfl _ _ 96 96 rfl _ _ rfl rfl _ _ hrun ?_))
          go_roundw
          case rel => exact ⟨j + 1, by omega, by go_num, z3.out⟩
          case measure => simp [intOf]; omega
        · have hj' : ¬ (j : Int) < (N : Int) := by omega
          obtain rfl : j = N := by omega
          have HT : Hid _ := RMaking.done hl hrr.out
          clear hrr
          go_wp2_with fail
          go_ret
          exact ⟨_, rfl, HT.out⟩
structure Bl where
  a : Option Addr
  m : Nat
  c : Nat
  k : Nat → Bool
abbrev Bl.v (b : Bl) : Value := .slice b.a b.m b.c
end Go.Proofs.YtokknmkleceooaaGreatDoor
