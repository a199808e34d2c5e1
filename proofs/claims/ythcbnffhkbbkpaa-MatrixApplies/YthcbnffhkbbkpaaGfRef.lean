/- What the document's own product answers, for every two elements: the product by doubling. -/
import Derived.Test.YthcbnffhkbbkpaaGfConv
import Derived.Test.YthcbnffhkbbkpaaGfMul
import Derived.Below
import Derived.OneCell
import Derived.OwnWalk
import Derived.Laws.OwnMore
namespace Go.Proofs.Ythcbnffhkbbkpaa
open Go.RowKit
set_option linter.unusedVariables false

/-- The coefficients lie in the block g. -/
def OwnsC (w : World) (base g N : Nat) : Prop := w.ownsRow base 65 1 (.slice (some ⟨g, 0, none⟩) 16 16) 16 (rowOf N)
theorem OwnsC.cell {w : World} {base g N : Nat} (h : OwnsC w base g N) (j : Nat) (hj : j < 16) : w.cell? ⟨g, j, none⟩ = some (.int .i64 (co N j : Int)) := by
  rw [World.ownsRow.cellAt h j (by omega), rowOf_get N j hj]
theorem OwnsC.frozen {w : World} {base g N : Nat} (h : OwnsC w base g N) (j : Nat) : w.frozen? ⟨g, j, none⟩ = false := World.ownsRow.frozenAt h j
theorem OwnsC.stored {w : World} {base g N : Nat} (h : OwnsC w base g N) (j b : Nat) (hb : b < 2) :
    OwnsC (w.setCell ⟨g, j, none⟩ (.int .i64 (((co N j : Int) + (b : Int)) % 2))) base g (N ^^^ b * 2 ^ j) := by
  have := (World.ownsRow.stored h j (.int .i64 (((co N j + b) % 2 : Nat) : Int))).1
  rw [rowOf_set N j b hb] at this
  have e : (((co N j + b) % 2 : Nat) : Int) = ((co N j : Int) + (b : Int)) % 2 := by omega
  rw [e] at this
  exact this
/-- The modulus lies in the block g. -/
def rowM : List Value := (List.range 9).map fun j => .int .i64 (co 285 j : Int)
theorem rowM_is : rowM = [.int .i64 1, .int .i64 0, .int .i64 1, .int .i64 1, .int .i64 1, .int .i64 0, .int .i64 0, .int .i64 0, .int .i64 1] := by rfl
def OwnsM (w : World) (base g : Nat) : Prop := w.ownsRow base 66 1 (.slice (some ⟨g, 0, none⟩) 9 9) 9 rowM
theorem OwnsM.cell {w : World} {base g : Nat} (h : OwnsM w base g) (j : Nat) (hj : j < 9) : w.cell? ⟨g, j, none⟩ = some (.int .i64 (co 285 j : Int)) := by
  rw [World.ownsRow.cellAt h j (by omega)]; simp [rowM, hj]
theorem OwnsM.other {w : World} {base g : Nat} (h : OwnsM w base g) {a : Addr} (ha : a.block ≠ g) (u : Value) : OwnsM (w.setCell a u) base g :=
  ownsRow_setCell_other h (by simp [Value.ownBlock]; exact fun e => ha e.symm) u
theorem half_nat (a k : Nat) : a / 2 ^ k / 2 = a / 2 ^ (k + 1) := by rw [Nat.div_div_eq_div_mul, ← Nat.pow_succ]

theorem low_bits (M v : Nat) (h : v < 8) : 2 * (M % 256 / 2 ^ (v + 1)) + co M v = M % 256 / 2 ^ v := by
  unfold co
  have : v = 0 ∨ v = 1 ∨ v = 2 ∨ v = 3 ∨ v = 4 ∨ v = 5 ∨ v = 6 ∨ v = 7 := by omega
  rcases this with rfl | rfl | rfl | rfl | rfl | rfl | rfl | rfl <;> simp only [Nat.reducePow, Nat.reduceAdd] <;> omega
theorem rout_one (N t s : Nat) (hs : s + t = 7) (h : co (rout N t) (s + 8) = 1) : rout N (t + 1) = rin s (rout N t) 9 := by
  rw [rin_9, rout, show 15 - t = s + 8 by omega, h, show 7 - t = s by omega, Nat.one_mul]
theorem rout_none (N t s : Nat) (hs : s + t = 7) (h : co (rout N t) (s + 8) = 0) : rout N (t + 1) = rout N t := by
  rw [rout, show 15 - t = s + 8 by omega, h, Nat.zero_mul, Nat.xor_zero]

set_option maxHeartbeats 1000000 in
theorem refMul_any (a b : Nat) (ha : a < 256) (hb : b < 256) (w : World) :
    Calls Try.prog 26 #[.int .u8 (a : Int), .int .u8 (b : Int)] w fun e w' => e = .returned (.int .u8 (gm a b : Int)) ∧ Below w.heap.size w w' := by
  go_enter Try.func26, Try.ntmps26
  go_wp2_with fail
  have hown0 : OwnsC (w.alloc (.cells #[.int .i64 0, .int .i64 0, .int .i64 0, .int .i64 0, .int .i64 0, .int .i64 0, .int .i64 0, .int .i64 0, .int .i64 0, .int .i64 0, .int .i64 0, .int .i64 0, .int .i64 0, .int .i64 0, .int .i64 0, .int .i64 0] 65)) w.heap.size w.heap.size 0 :=
    ⟨by rw [rowOf_length], .inr ⟨w.heap.size, 16, _, rfl, Nat.le_refl _, heap_alloc_new w _, Nat.le_refl _, by unfold maxLen; omega, rfl, by rw [rowOf_zero]; rfl⟩⟩
  have hbel0 : Below w.heap.size w (w.alloc (.cells #[.int .i64 0, .int .i64 0, .int .i64 0, .int .i64 0, .int .i64 0, .int .i64 0, .int .i64 0, .int .i64 0, .int .i64 0, .int .i64 0, .int .i64 0, .int .i64 0, .int .i64 0, .int .i64 0, .int .i64 0, .int .i64 0] 65)) := (Below.refl _ _).alloc (Nat.le_refl _) _
  generalize w.alloc (.cells #[.int .i64 0, .int .i64 0, .int .i64 0, .int .i64 0, .int .i64 0, .int .i64 0, .int .i64 0, .int .i64 0, .int .i64 0, .int .i64 0, .int .i64 0, .int .i64 0, .int .i64 0, .int .i64 0, .int .i64 0, .int .i64 0] 65) = ws at hown0 hbel0 ⊢
  go_loopw [6, 7] (fun x i wr => ∃ k : Nat, k ≤ 8 ∧ x = .int .i64 ((a / 2 ^ k : Nat) : Int) ∧ i = .int .i64 (k : Int) ∧ OwnsC wr w.heap.size w.heap.size (cout a b k) ∧ Below w.heap.size w wr) (fun _ i _ => 8 - (intOf i).toNat)
  case atStart => exact ⟨0, by omega, by simp, rfl, hown0, hbel0⟩
  case round =>
    obtain ⟨k, hk, rfl, rfl, hown, hbel⟩ := hrel
    have HX : Hid (a / 2 ^ k / 2 = a / 2 ^ (k + 1)) := half_nat a k
    have hXle : a / 2 ^ k ≤ a := Nat.div_le_self _ _
    obtain ⟨P, hP⟩ : ∃ P, co a k = P := ⟨_, rfl⟩
    have hP2 : P < 2 := by rw [← hP]; exact co_lt a k
    have HP : Hid (co a k = P) := hP
    have hx2 : ((a / 2 ^ k : Nat) : Int) % 2 = (P : Int) := by rw [← hP]; unfold co; omega
    clear hP
    generalize a / 2 ^ k = X at HX hXle hx2 ⊢
    by_cases hlt : k < 8
    · rename World => wo
      go_wp2_with fail
      go_loopw [8, 9] (fun y j wi => ∃ q : Nat, q ≤ 8 ∧ y = .int .i64 ((b / 2 ^ q : Nat) : Int) ∧ j = .int .i64 (q : Int) ∧ OwnsC wi w.heap.size w.heap.size (cin a b k (cout a b k) q) ∧ Below w.heap.size w wi) (fun _ j _ => 8 - (intOf j).toNat)
      case atStart => exact ⟨0, by omega, by simp, rfl, hown, hbel⟩
      case round =>
        obtain ⟨q, hq, rfl, rfl, hownq, hbelq⟩ := hrel
        have HY : Hid (b / 2 ^ q / 2 = b / 2 ^ (q + 1)) := half_nat b q
        have hYle : b / 2 ^ q ≤ b := Nat.div_le_self _ _
        obtain ⟨Q, hQ⟩ : ∃ Q, co b q = Q := ⟨_, rfl⟩
        have hQ2 : Q < 2 := by rw [← hQ]; exact co_lt b q
        have HQ : Hid (co b q = Q) := hQ
        have hy2 : ((b / 2 ^ q : Nat) : Int) % 2 = (Q : Int) := by rw [← hQ]; unfold co; omega
        clear hQ
        generalize b / 2 ^ q = Y at HY hYle hy2 ⊢
        by_cases hqlt : q < 8
        · obtain ⟨R, hR⟩ : ∃ R, P * Q = R := ⟨_, rfl⟩
          have hR2 : R < 2 := by rw [← hR]; exact bit_mul P Q hP2 hQ2
          have hm : (P : Int) * (Q : Int) = (R : Int) := by rw [← hR]; simp
          obtain ⟨M, hM⟩ : ∃ M, cin a b k (cout a b k) q = M := ⟨_, rfl⟩
          rw [hM] at hownq
          have hcell := hownq.cell (k + q) (by omega)
          have hfr := hownq.frozen (k + q)
          have hst := hownq.stored (k + q) R hR2
          have hC := co_lt M (k + q)
          have hS : cin a b k (cout a b k) (q + 1) = M ^^^ R * 2 ^ (k + q) := by rw [cin, hM, HP.out, HQ.out, hR]
          rw [← hS] at hst
          clear hR hS hM
          generalize co M (k + q) = C at hcell hst hC
          go_wp2_with fail
          go_roundw
          case rel => exact ⟨q + 1, by omega, by rw [← HY.out]; go_num, by go_num, hst, hbelq.setCell (Nat.le_refl _) _⟩
          case measure => simp [intOf]; omega
        · have hq8 : q = 8 := by omega
          subst hq8
          go_wp2_with fail
          go_roundw
          case rel => exact ⟨k + 1, by omega, by rw [← HX.out]; go_num, by go_num, hownq, hbelq⟩
          case measure => simp [intOf]; omega
    · have hk8 : k = 8 := by omega
      subst hk8
      go_wp2_with fail
      have hlt0 : w.heap.size < wr.heap.size := (World.ownsRow.lt hown w.heap.size rfl).2
      have hownm : OwnsM (wr.alloc (.cells #[.int .i64 1, .int .i64 0, .int .i64 1, .int .i64 1, .int .i64 1, .int .i64 0, .int .i64 0, .int .i64 0, .int .i64 1] 66)) w.heap.size wr.heap.size :=
        ⟨rfl, .inr ⟨wr.heap.size, 9, _, rfl, hbel.size, heap_alloc_new wr _, Nat.le_refl _, by unfold maxLen; omega, rfl, by rw [rowM_is]; rfl⟩⟩
      have hownc : OwnsC (wr.alloc (.cells #[.int .i64 1, .int .i64 0, .int .i64 1, .int .i64 1, .int .i64 1, .int .i64 0, .int .i64 0, .int .i64 0, .int .i64 1] 66)) w.heap.size w.heap.size (cout a b 8) := World.ownsRow.alloc hown _
      have hbelm := hbel.alloc hbel.size (.cells #[.int .i64 1, .int .i64 0, .int .i64 1, .int .i64 1, .int .i64 1, .int .i64 0, .int .i64 0, .int .i64 0, .int .i64 1] 66)
      generalize wr.alloc (.cells #[.int .i64 1, .int .i64 0, .int .i64 1, .int .i64 1, .int .i64 1, .int .i64 0, .int .i64 0, .int .i64 0, .int .i64 1] 66) = wm at hownm hownc hbelm ⊢
      generalize wr.heap.size = G at hownm hlt0 ⊢
      clear hown hbel
      go_loopw [11] (fun i wx => ∃ t : Nat, t ≤ 8 ∧ i = .int .i64 (15 - (t : Int)) ∧ OwnsC wx w.heap.size w.heap.size (rout (cout a b 8) t) ∧ OwnsM wx w.heap.size G ∧ Below w.heap.size w wx) (fun i _ => (intOf i - 7).toNat)
      case atStart => exact ⟨0, by omega, rfl, hownc, hownm, hbelm⟩
      case round =>
        obtain ⟨t, ht, rfl, hown, hom, hbel⟩ := hrel
        by_cases hlt : t < 8
        · obtain ⟨s, hs⟩ : ∃ s, s + t = 7 := ⟨7 - t, by omega⟩
          have hi : (15 - (t : Int)) = ((s + 8 : Nat) : Int) := by omega
          rw [hi]
          have hcell := hown.cell (s + 8) (by omega)
          have hC := co_lt (rout (cout a b 8) t) (s + 8)
          by_cases hc0 : co (rout (cout a b 8) t) (s + 8) = 0
          · have hS := rout_none (cout a b 8) t s hs hc0
            rw [hc0] at hcell
            rw [← hS] at hown
            clear hC hc0 hS
            go_wp2_with fail
            go_roundw
            case rel => exact ⟨t + 1, by omega, by go_num, hown, hom, hbel⟩
            case measure => simp [intOf]; omega
          · have hc1 : co (rout (cout a b 8) t) (s + 8) = 1 := by omega
            have hS := rout_one (cout a b 8) t s hs hc1
            rw [hc1] at hcell
            obtain ⟨M, hM⟩ : ∃ M, rout (cout a b 8) t = M := ⟨_, rfl⟩
            rw [hM] at hS hown
            have HS : Hid (rout (cout a b 8) (t + 1) = rin s M 9) := hS
            clear hC hc0 hS hc1 hM
            rename World => wo
            go_wp2_with fail
            go_loopw [12] (fun j wi => ∃ q : Nat, q ≤ 9 ∧ j = .int .i64 (q : Int) ∧ OwnsC wi w.heap.size w.heap.size (rin s M q) ∧ OwnsM wi w.heap.size G ∧ Below w.heap.size w wi) (fun j _ => 9 - (intOf j).toNat)
            case atStart => exact ⟨0, by omega, rfl, hown, hom, hbel⟩
            case round =>
              obtain ⟨q, hq, rfl, hownq, homq, hbelq⟩ := hrel
              by_cases hqlt : q < 9
              · have hcq := hownq.cell (s + q) (by omega)
                have hfr := hownq.frozen (s + q)
                have hmq := homq.cell q hqlt
                have hst := hownq.stored (s + q) (co 285 q) (co_lt _ _)
                have hC := co_lt (rin s M q) (s + q)
                have hD := co_lt 285 q
                have hS : rin s M (q + 1) = rin s M q ^^^ co 285 q * 2 ^ (s + q) := rfl
                rw [← hS] at hst
                clear hS hcell
                generalize co (rin s M q) (s + q) = C at hcq hst hC
                generalize co 285 q = D at hmq hst hD
                go_wp2_with fail
                go_region
                all_goals
                  go_wp2_with fail
                  go_roundw
                  case rel => exact ⟨q + 1, by omega, by go_num, hst, homq.other (by simp; omega) _, (hbelq.setCell (Nat.le_refl _) _).drew⟩
                  case measure => simp [intOf]; omega
              · have hq9 : q = 9 := by omega
                subst hq9
                rw [← HS.out] at hownq
                go_wp2_with fail
                go_roundw
                case rel => exact ⟨t + 1, by omega, by go_num, hownq, homq, hbelq⟩
                case measure => simp [intOf]; omega
        · have ht8 : t = 8 := by omega
          subst ht8
          go_wp2_with fail
          obtain ⟨M, hM⟩ : ∃ M, rout (cout a b 8) 8 = M := ⟨_, rfl⟩
          have HR : Hid (M % 256 = gm a b) := by rw [← hM]; exact dm_gm a b ha hb
          rw [hM] at hown
          clear hM
          go_loop [13, 14] (fun n i => ∃ u : Nat, u ≤ 8 ∧ n = .int .i64 ((M % 256 / 2 ^ (8 - u) : Nat) : Int) ∧ i = .int .i64 (7 - (u : Int))) (fun _ i => (intOf i + 1).toNat)
          case atStart => exact ⟨0, by omega, by rw [Nat.div_eq_of_lt (Nat.mod_lt _ (by omega))]; rfl, rfl⟩
          case round =>
            obtain ⟨u, hu, rfl, rfl⟩ := hrel
            by_cases hlt : u < 8
            · obtain ⟨v, hv⟩ : ∃ v, v + u = 7 := ⟨7 - u, by omega⟩
              have hi : (7 - (u : Int)) = (v : Int) := by omega
              have hcell := hown.cell v (by omega)
              have HL : Hid (2 * (M % 256 / 2 ^ (v + 1)) + co M v = M % 256 / 2 ^ (8 - (u + 1))) := by
                rw [show 8 - (u + 1) = v by omega]; exact low_bits M v (by omega)
              have hC := co_lt M v
              rw [hi, show 8 - u = v + 1 by omega]
              have hle : M % 256 / 2 ^ (v + 1) ≤ M % 256 := Nat.div_le_self _ _
              have hle2 : M % 256 < 256 := Nat.mod_lt _ (by omega)
              generalize M % 256 / 2 ^ (v + 1) = n at hle HL ⊢
              generalize co M v = C at hcell hC HL
              go_wp2_with fail
              go_round
              case rel => exact ⟨u + 1, by omega, by rw [← HL.out]; go_num, by go_num⟩
              case measure => simp [intOf]
            · have hu8 : u = 8 := by omega
              subst hu8
              rw [Nat.sub_self, Nat.pow_zero, Nat.div_one, HR.out]
              have hg := gm_lt a b ha
              go_wp2_with fail
              go_ret
              exact ⟨rfl, hbel⟩
end Go.Proofs.Ythcbnffhkbbkpaa
