/- Crash of a bank: lists of bools; each disk crashes by its own. -/
import Derived.Test.YtfepmafjkgjmmaaBkNew
namespace Go.Proofs.Ytfepmafjkgjmmaa
open Go.RowKit Go.PlainAid
set_option linter.unusedVariables false

/-- A list of bools: where it lies, what it holds. -/
structure Bl where
  a : Option Addr
  m : Nat
  c : Nat
  k : Nat → Bool
abbrev Bl.v (b : Bl) : Value := .slice b.a b.m b.c
def blV (m : Nat) (L : Nat → Bl) : List Value := (List.range m).map fun i => (L i).v
theorem blV_length (m : Nat) (L : Nat → Bl) : (blV m L).length = m := by simp [blV]
theorem blV_at (m : Nat) (L : Nat → Bl) (i : Nat) (h : i < m) : (blV m L)[i]? = some (.slice (L i).a (L i).m (L i).c) := by simp [blV, h]
theorem blV_succ (m : Nat) (L : Nat → Bl) : blV (m + 1) L = blV m L ++ [.slice (L m).a (L m).m (L m).c] := by
  unfold blV; rw [List.range_succ, List.map_append]; rfl
/-- What is known of each. -/
def BlOk (B : Nat) (W : World) (b : Bl) : Prop := BoolsAt W b.v b.m b.k ∧ Old B b.v ∧ b.m ≤ 1000000000
/-- The places that the i-th list keeps. -/
def keptK (m : Nat) (L : Nat → Bl) (i : Nat) : Nat → Bool := if i < m then (L i).k else fun _ => false
/-- Disks of which the first j have crashed. -/
def crD (j : Nat) (D : Nat → Dk) (K : Nat → Nat → Bool) : Nat → Dk := fun i => if i < j then crashD (D i) (K i) else D i
theorem crD_zero (D : Nat → Dk) (K : Nat → Nat → Bool) : crD 0 D K = D := by funext i; unfold crD; rw [if_neg (by omega)]
theorem crD_here (j : Nat) (D : Nat → Dk) (K : Nat → Nat → Bool) : crD j D K j = D j := if_neg (by omega)
theorem crD_step (j : Nat) (D : Nat → Dk) (K : Nat → Nat → Bool) : updD (crD j D K) j (crashD (D j) (K j)) = crD (j + 1) D K := by
  funext i; unfold updD crD
  by_cases e : i = j
  · subst e; rw [if_pos rfl, if_pos (by omega)]
  · rw [if_neg e]
    by_cases h : i < j
    · rw [if_pos h, if_pos (by omega)]
    · rw [if_neg h, if_neg (by omega)]
/-- A bank whose list of disks is known by its block. -/
def bnkG (g gd N : Nat) (D : Nat → Dk) (s : Nat) (p : Option Nat) : Asn := fun w F => Fit N p ∧ star (blkA g 62 [.slice (some ⟨gd, 0, none⟩) N N, .int .i64 (s : Int), .bool p.isSome, .int .i64 (pl p)]) (star (blkA gd 38 (ptrs N D)) (each (fun i => i < N) fun i => dk (D i))) w F
def bnkGX (g gd N : Nat) (D : Nat → Dk) (s : Nat) (p : Option Nat) (i : Nat) : Asn := fun w F => Fit N p ∧ star (blkA g 62 [.slice (some ⟨gd, 0, none⟩) N N, .int .i64 (s : Int), .bool p.isSome, .int .i64 (pl p)]) (star (blkA gd 38 (ptrs N D)) (each (fun j => j < N ∧ j ≠ i) fun i => dk (D i))) w F
section
variable {B : Nat} {w0 w : World} {g gd N : Nat} {D : Nat → Dk} {s : Nat} {p : Option Nat} {R : Asn}
theorem firm_bnkG : Firm (bnkG g gd N D s p) :=
  ⟨fun ⟨hN, h⟩ hk hd => ⟨hN, ((firm_blk _ _ _).star ((firm_blk _ _ _).star (firm_each fun _ => firm_dk _))).kept h hk hd⟩, fun ⟨hN, h⟩ => ((firm_blk _ _ _).star ((firm_blk _ _ _).star (firm_each fun _ => firm_dk _))).bound h⟩
theorem firm_bnkGX (i : Nat) : Firm (bnkGX g gd N D s p i) :=
  ⟨fun ⟨hN, h⟩ hk hd => ⟨hN, ((firm_blk _ _ _).star ((firm_blk _ _ _).star (firm_each fun _ => firm_dk _))).kept h hk hd⟩, fun ⟨hN, h⟩ => ((firm_blk _ _ _).star ((firm_blk _ _ _).star (firm_each fun _ => firm_dk _))).bound h⟩
theorem Hold.toG (h : Hold B w0 w (star (bnk g N D s p) R)) : ∃ gd, Hold B w0 w (star (bnkG g gd N D s p) R) := by
  obtain ⟨h1, h2, F, ⟨G, H, ⟨hN, gd, h3⟩, h4⟩, h7⟩ := h
  exact ⟨gd, h1, h2, F, ⟨G, H, ⟨hN, h3⟩, h4⟩, h7⟩
theorem Hold.ofG (h : Hold B w0 w (star (bnkG g gd N D s p) R)) : Hold B w0 w (star (bnk g N D s p) R) := h.monoL (fun F ⟨hN, h⟩ => ⟨hN, gd, h⟩)
theorem bnkG_open {F : Nat → Prop} (i : Nat) (hi : i < N) (h : bnkG g gd N D s p w F) : star (dk (D i)) (bnkGX g gd N D s p i) w F := by
  obtain ⟨hN, h⟩ := h
  have h1 := star_monoR h (fun F h => star_monoR h (fun F h => each_take (S := fun j => j < N) (P := fun i => dk (D i)) i hi h))
  obtain ⟨G, H, g1, g2, g3⟩ := star_swap (star_monoR h1 (fun F h => star_swap h))
  exact ⟨G, H, g1, ⟨hN, g2⟩, g3⟩
theorem bnkG_shut {F : Nat → Prop} (i : Nat) (hi : i < N) (d : Dk) (hg : d.g = (D i).g) (h : star (dk d) (bnkGX g gd N D s p i) w F) : bnkG g gd N (updD D i d) s p w F := by
  obtain ⟨G, H, g1, ⟨hN, g2⟩, g3⟩ := h
  have h0 : star (dk d) (star (blkA g 62 [.slice (some ⟨gd, 0, none⟩) N N, .int .i64 (s : Int), .bool p.isSome, .int .i64 (pl p)]) (star (blkA gd 38 (ptrs N D)) (each (fun j => j < N ∧ j ≠ i) fun i => dk (D i)))) w F := ⟨G, H, g1, g2, g3⟩
  have h1 := star_monoR (star_swap h0) (fun F h => star_swap h)
  refine ⟨hN, star_monoR h1 (fun F h => ?_)⟩
  have hp : ptrs N D = ptrs N (updD D i d) := ptrs_congr _ _ _ (fun j hj => by
    by_cases e : j = i
    · subst e; rw [updD_same, hg]
    · rw [updD_ne _ _ _ _ e])
  rw [← hp]
  refine star_monoR h (fun F h => each_put (P := fun i => dk (D i)) i hi (fun j hj e => by rw [updD_ne _ _ _ _ e]) (star_monoL h (fun F h => by rw [updD_same]; exact h)))
theorem Hold.openG (h : Hold B w0 w (star (bnkG g gd N D s p) R)) (i : Nat) (hi : i < N) : Hold B w0 w (star (dk (D i)) (star (bnkGX g gd N D s p i) R)) := (h.monoL (fun F => bnkG_open i hi)).assoc
theorem Hold.shutG (i : Nat) (hi : i < N) (d : Dk) (hg : d.g = (D i).g) (h : Hold B w0 w (star (dk d) (star (bnkGX g gd N D s p i) R))) : Hold B w0 w (star (bnkG g gd N (updD D i d) s p) R) := h.unassoc.monoL (fun F => bnkG_shut i hi d hg)
theorem Hold.gTop (h : Hold B w0 w (star (bnkG g gd N D s p) R)) : Hold B w0 w (star (blkA g 62 [.slice (some ⟨gd, 0, none⟩) N N, .int .i64 (s : Int), .bool p.isSome, .int .i64 (pl p)]) (star (star (blkA gd 38 (ptrs N D)) (each (fun i => i < N) fun i => dk (D i))) R)) ∧ Fit N p := by
  refine ⟨(h.monoL (fun F ⟨_, h⟩ => h)).assoc, ?_⟩
  obtain ⟨h1, h2, F, ⟨G, H, ⟨hN, h3⟩, h4⟩, h7⟩ := h
  exact hN
theorem Hold.gCells (h : Hold B w0 w (star (bnkG g gd N D s p) R)) : w.cell? ⟨g, 0, none⟩ = some (.slice (some ⟨gd, 0, none⟩) N N) ∧ Blk w gd 38 (ptrs N D) := by
  refine ⟨h.gTop.1.blk.cell (i := 0) rfl, ?_⟩
  exact (h.gTop.1.swap.assoc).blk
/-- One disk of it crashes. -/
theorem Hold.crashG (hR : Firm R) (j : Nat) (hj : j < N) (v : Value) (m : Nat) (k : Nat → Bool) (hv : BoolsAt w v m k) (hm : m ≤ 1000000000) (hq : (D j).q.length ≤ 1000000) (ho : Old B v) (h : Hold B w0 w (star (bnkG g gd N D s p) R)) :
    Calls Try.prog 44 #[.pointer (some ⟨(D j).g, 0, none⟩), v] w fun e w' => e = .returned (.tuple #[]) ∧ Hold B w0 w' (star (bnkG g gd N (updD D j (crashD (D j) k)) s p) R) :=
  (h_crash ((firm_bnkGX j).star hR) (h.openG j hj) v m k hv hm hq ho).mono fun e w2 ⟨he, h2⟩ => ⟨he, Hold.shutG j hj (crashD (D j) k) rfl h2⟩
end
theorem old_none (B n c : Nat) : Old B (.slice none n c) := fun a n c e => by cases e
theorem bcrash_nil (v : Value) (w : World) : Calls Try.prog 23 #[.pointer none, v] w fun e w' => e = .returned (.tuple #[]) ∧ w' = w := by
  go_enter Try.func23, Try.ntmps23
  go_wp2
  refine bodyPost_ret (results_none rfl _ _ _) rfl ⟨rfl, rfl⟩
theorem row_form {w : World} {T : TypeId} {v : Value} {m : Nat} {xs : List Value} (h : w.ownsRow 0 T 1 v m xs) : ∃ a cap, v = .slice a m cap := by
  rcases h.2 with ⟨rfl, hn⟩ | ⟨g, cap, cur, rfl, _⟩
  · exact ⟨none, 0, by rw [hn]⟩
  · exact ⟨_, _, rfl⟩
theorem row_at {w : World} {T : TypeId} {a : Option Addr} {m c : Nat} {L : Nat → Bl} (h : w.ownsRow 0 T 1 (.slice a m c) m (blV m L)) (i : Nat) (hi : i < m) : ∃ gk, a = some ⟨gk, 0, none⟩ ∧ w.cell? ⟨gk, i, none⟩ = some (.slice (L i).a (L i).m (L i).c) := by
  rcases h.2 with ⟨e, h0⟩ | ⟨gk, cap, cur, e, _⟩
  · omega
  · cases e
    exact ⟨gk, rfl, by rw [World.ownsRow.cellAt h i (by omega), blV_at m L i hi]⟩
set_option maxRecDepth 20000 in
set_option maxHeartbeats 1000000 in
theorem bcrash_any {B : Nat} {w0 w : World} {g N : Nat} {D : Nat → Dk} {s : Nat} {p : Option Nat} {R : Asn} (hR : Firm R) {v : Value} {m : Nat} {L : Nat → Bl} (h : Hold B w0 w (star (bnk g N D s p) (star (rowA 80 v m (blV m L)) R))) (hL : ∀ i, i < m → BlOk B w0 (L i)) (hm : m ≤ 1000) (hq : ∀ j, j < N → (D j).q.length ≤ 1000000) :
    Calls Try.prog 23 #[.pointer (some ⟨g, 0, none⟩), v] w fun e w' => e = .returned (.tuple #[]) ∧ Hold B w0 w' (star (bnk g N (fun i => crashD (D i) (keptK m L i)) s none) (star (rowA 80 v m (blV m L)) R)) := by
  obtain ⟨gd, hg⟩ := h.toG
  clear h
  obtain ⟨a, c, rfl⟩ := row_form hg.swap.row
  have hF : Hid _ := (firm_row 80 (.slice a m c) m (blV m L)).star hR
  have hfit := hg.gTop.2
  obtain ⟨c0, -⟩ := hg.gCells
  have HG : Hid _ := hg
  have HL : Hid _ := hL
  have HQ : Hid _ := hq
  clear hg hL hq hR
  have hN12 := hfit.1
  have HFit : Hid _ := hfit
  clear hfit
  go_enter Try.func23, Try.ntmps23
  go_wp2_with fail
  go_loopw [14] (fun i wr => ∃ j : Nat, j ≤ N ∧ i = .int .i64 (j : Int) ∧ Hid (Hold B w0 wr (star (bnkG g gd N (crD j D (keptK m L)) s p) (star (rowA 80 (.slice a m c) m (blV m L)) R)))) (fun i _ => N - (intOf i).toNat)
  case atStart => exact ⟨0, Nat.zero_le _, rfl, by rw [crD_zero]; exact HG.out⟩
  case round =>
    clear HG
    obtain ⟨j, hj, rfl, hrr⟩ := hrel
    by_cases hlt : j < N
    · have hj' : (j : Int) < (N : Int) := by omega
      have hq := HQ.out j hlt
      obtain ⟨-, hd⟩ := hrr.out.gCells
      have ci := hd.cell (ptrs_at N _ j hlt)
      rw [crD_here] at ci
      by_cases hjm : j < m
      · have hjm' : (j : Int) < (m : Int) := by omega
        obtain ⟨gk, rfl, ck⟩ := row_at hrr.out.swap.row j hjm
        have hb := HL.out j hjm
        have hcr := hrr.out.crashG hF.out j hlt (L j).v (L j).m (L j).k (hb.1.old hb.2.1 hrr.out.low hrr.out.size) hb.2.2 (by rw [crD_here]; exact hq) hb.2.1
        rw [crD_here, show (L j).k = keptK m L j from (if_pos hjm).symm, crD_step] at hcr
        clear hrr hd hb
        go_wp2_with (go_at_call 44; refine hcr.mono ?_; rintro e w2 ⟨rfl, h2⟩; have h2 : Hid _ := h2; clear hcr)
        go_roundw
        case rel => exact ⟨j + 1, by omega, by go_num, h2.out⟩
        case measure => simp [intOf]; omega
      · have hjm' : ¬ (j : Int) < (m : Int) := by omega
        have hcr := hrr.out.crashG hF.out j hlt (.slice none 0 0) 0 (fun _ => false) (bools_none _) (by omega) (by rw [crD_here]; exact hq) (old_none _ _ _)
        rw [crD_here, show (fun _ => false) = keptK m L j from (if_neg hjm).symm, crD_step] at hcr
        clear hrr hd
        go_wp2_with (go_at_call 44; refine hcr.mono ?_; rintro e w2 ⟨rfl, h2⟩; have h2 : Hid _ := h2; clear hcr)
        go_roundw
        case rel => exact ⟨j + 1, by omega, by go_num, h2.out⟩
        case measure => simp [intOf]; omega
    · obtain rfl : j = N := by omega
      obtain ⟨ht, -⟩ := hrr.out.gTop
      have hb := ht.blk
      have c2 := hb.cell (i := 2) rfl
      have f2 := hb.frozen 2
      have h2 := ht.setBlk (firm_top gd hF.out) 2 (.bool false)
      have b2 := h2.blk
      have c3 := b2.cell (i := 3) rfl
      have f3 := b2.frozen 3
      have HT : Hid (Hold B w0 ((wr.setCell ⟨g, 2, none⟩ (.bool false)).setCell ⟨g, 3, none⟩ (.int .i64 0)) (star (bnk g j (fun i => crashD (D i) (keptK m L i)) s none) (star (rowA 80 (.slice a m c) m (blV m L)) R))) :=
        ((h2.setBlk (firm_top gd hF.out) 3 (.int .i64 0)).ofTop (p := none) ⟨HFit.out.1, fun k e => by cases e⟩ gd (by simp [pl])).monoL (fun F h => bnk_congr (fun i hi => if_pos hi) h)
      clear hrr ht hb h2 b2
      go_wp2_with fail
      go_end0
      exact ⟨rfl, HT.out⟩
end Go.Proofs.Ytfepmafjkgjmmaa
