/- What the Go function TreePaths answers: true, for every two integers. -/
import Derived.Test.YtbbgagpompgagaaDoorTrHelp2
namespace Go.Proofs.YtbbgagpompgagaaDoor
open Go.RowKit Go.PlainAid Go.Shelf
set_option linter.unusedVariables false

/-- n integers f, one behind the other, from a on. -/
def Ia (w : World) (a : Option Addr) (n : Nat) (f : Nat → Nat) : Prop :=
  n = 0 ∨ ∃ b o, a = some ⟨b, o, none⟩ ∧ ∀ i, i < n → w.cell? ⟨b, o + i, none⟩ = some (.int .i64 (f i : Int))
theorem Ia.later {w w' : World} {a : Option Addr} {n : Nat} {f : Nat → Nat} (h : Ia w a n f) (hb : Below w.heap.size w w') : Ia w' a n f := by
  rcases h with h | ⟨b, o, rfl, h⟩
  · exact .inl h
  · exact .inr ⟨b, o, rfl, fun i hi => (hb.cell (p := ⟨b, o + i, none⟩) (cell_blk_lt (h i hi))).trans (h i hi)⟩
theorem Ia.owns {w : World} {base n : Nat} {v : Value} {f : Nat → Nat} (h : w.ownsRow base 3 1 v n (nr .i64 n f)) : ∃ a cap, v = .slice a n cap ∧ Ia w a n f := by
  have hc := h
  rcases h.2 with ⟨rfl, h0⟩ | ⟨g, cap, cur, rfl, hb, hg, _⟩
  · subst h0; exact ⟨none, 0, rfl, .inl rfl⟩
  · refine ⟨_, cap, rfl, .inr ⟨g, 0, rfl, fun i hi => ?_⟩⟩
    rw [Nat.zero_add, hc.cellAt i (by omega)]
    exact nr_at .i64 n f i hi
theorem Ia.cells {w : World} {a : Option Addr} {n : Nat} {f : Nat → Nat} (h : Ia w a n f) (hn : 1 ≤ n) : ∃ b o, a = some ⟨b, o, none⟩ ∧ ∀ i, i < n → w.cell? ⟨b, o + i, none⟩ = some (.int .i64 (f i : Int)) := by
  rcases h with h | h
  · omega
  · exact h
/-- A row of n integers V. -/
def il (n : Nat) (V : Nat → Int) : List Value := (List.range n).map fun i => .int .i64 (V i)
theorem il_at (n : Nat) (V : Nat → Int) (i : Nat) (h : i < n) : (il n V)[i]? = some (.int .i64 (V i)) := by simp [il, h]

set_option maxRecDepth 20000 in
set_option maxHeartbeats 4000000 in
theorem treePaths_walk (n s : Int) (w : World) (ht : Tabs w) : Calls Tryd.prog 3 #[.int .i64 n, .int .i64 s] w fun e w' => e = .returned (.bool true) ∧ Below w.heap.size w w' := by
  go_enter Tryd.func3, Tryd.ntmps3
  go_wp2_with fail
  have b0 : Blk (w.alloc (.cells #[.int .i64 n, .int .i64 s, .int .i64 (bits .and .i64 n 31), .int .i64 (bits .and .i64 s 31), .int .i64 16, .int .i64 (bits .and .i64 s 15)] 22)) w.heap.size 22 (il 6 fun i => [n, s, bits .and .i64 n 31, bits .and .i64 s 31, 16, bits .and .i64 s 15].getD i 0) := Blk.new w 22 _
  have hB0 : Below w.heap.size w (w.alloc (.cells #[.int .i64 n, .int .i64 s, .int .i64 (bits .and .i64 n 31), .int .i64 (bits .and .i64 s 31), .int .i64 16, .int .i64 (bits .and .i64 s 15)] 22)) := (Below.refl _ w).alloc (Nat.le_refl _) _
  generalize w.alloc (.cells #[.int .i64 n, .int .i64 s, .int .i64 (bits .and .i64 n 31), .int .i64 (bits .and .i64 s 31), .int .i64 16, .int .i64 (bits .and .i64 s 15)] 22) = W0 at b0 hB0 ⊢
  generalize (fun i => [n, s, bits .and .i64 n 31, bits .and .i64 s 31, 16, bits .and .i64 s 15].getD i 0) = V at b0
  go_loopw [25] (fun i wr => ∃ k : Nat, k ≤ 3 ∧ i = .int .i64 (k : Int) ∧ Blk wr w.heap.size 22 (il 6 V) ∧ Below w.heap.size w wr) (fun i _ => 3 - (intOf i).toNat)
  case atStart => exact ⟨0, Nat.zero_le _, rfl, b0, hB0⟩
  case round =>
    clear b0 hB0
    obtain ⟨k, hk, rfl, hb, hB⟩ := hrel
    by_cases hlt : k < 3
    · have hki : (k : Int) < 3 := by omega
      have c0 := hb.cell (il_at 6 V (k * 2) (by omega))
      have c1 := hb.cell (il_at 6 V (k * 2 + 1) (by omega))
      generalize V (k * 2) = X at c0
      generalize V (k * 2 + 1) = Y at c1
      have hbx := Blk.new wr 22 #[.int .i64 X, .int .i64 Y]
      have hb1 := hb.alloc (.cells #[.int .i64 X, .int .i64 Y] 22)
      have hB1 := hB.alloc hB.size (.cells #[.int .i64 X, .int .i64 Y] 22)
      go_wp2_with fail
      generalize wr.alloc (.cells #[.int .i64 X, .int .i64 Y] 22) = W1 at hbx hb1 hB1 ⊢
      generalize wr.heap.size = Gx at hbx ⊢
      clear hb hB c0 c1
      refine (path_any X Y W1).mono ?_
      rintro e w2 ⟨v2, rfl, hv2, hb2⟩
      have hb2' := hb1.below hb2 hb1.lt
      have hbx2 := hbx.below hb2 hbx.lt
      have hB2 := hB1.trans (hb2.mono hB1.size)
      obtain ⟨a2, k2, rfl, hi2⟩ := Ia.owns hv2
      have x0 := hbx2.cell (i := 0) rfl
      have x1 := hbx2.cell (i := 1) rfl
      have hrp := rPath_any X Y w2
      have hN4 := hN_le X Y
      generalize hE X Y = E at hrp ⊢
      generalize hN X Y = L at hrp hi2 hN4 hv2 ⊢
      generalize nd L Y.toNat = F at hrp hi2 hv2
      have HRP : Hid _ := hrp
      have HI2 : Hid (Ia w2 a2 L F) := hi2
      clear hrp hv2 hi2 hb1 hbx hB1 hb2
      go_wp2_with fail
      refine Calls.mono HRP.out ?_
      rintro e w3 ⟨v3, rfl, hv3, hb3⟩
      have hb3' := hb2'.below hb3 hb2'.lt
      have hB3 := hB2.trans (hb3.mono hB2.size)
      obtain ⟨a3, k3, rfl, hi3⟩ := Ia.owns hv3
      have HI2' : Hid (Ia w3 a2 L F) := HI2.out.later hb3
      have HI3 : Hid (Ia w3 a3 L F) := hi3
      clear HRP HI2 hi3 hv3 hb2' hbx2 hB2 hb3 x0 x1
      go_wp2_with fail
      go_loopw [57] (fun i wr => ∃ j : Nat, j ≤ L ∧ i = .int .i64 (j : Int) ∧ Below w3.heap.size w3 wr) (fun i _ => L - (intOf i).toNat)
      case atStart => exact ⟨0, Nat.zero_le _, rfl, Below.refl _ _⟩
      case round =>
        obtain ⟨j, hj, rfl, hBj⟩ := hrel
        by_cases hjl : j < L
        · obtain ⟨ab, ao, rfl, ha⟩ := (HI2'.out.later hBj).cells (by omega)
          obtain ⟨bb, bo, rfl, hb⟩ := (HI3.out.later hBj).cells (by omega)
          have ca := ha j hjl
          have cb := hb j hjl
          have hji : (j : Int) < (L : Int) := by omega
          generalize F j = Z at ca cb
          clear ha hb
          go_wp2_with fail
          go_region
          go_wp2_with fail
          go_roundw
          case rel => exact ⟨j + 1, hjl, by go_num, hBj.drew⟩
          case measure => simp [intOf]; omega
        · have hjL : j = L := by omega
          subst hjL
          have hb4 := hb3'.below hBj hb3'.lt
          have hB4 := hB3.trans (hBj.mono hB3.size)
          go_wp2_with fail
          go_roundw
          case rel => exact ⟨k + 1, hlt, by go_num, hb4, hB4⟩
          case measure => simp [intOf]; omega
    · have hk3 : k = 3 := by omega
      subst hk3
      go_wp2_with fail
      refine (lwakes_any wr (ht.below hB ht.lt)).mono ?_
      rintro e w2 ⟨rfl, hb2⟩
      go_wp2_with fail
      go_ret
      exact ⟨rfl, hB.trans (hb2.mono hB.size)⟩
end Go.Proofs.YtbbgagpompgagaaDoor
