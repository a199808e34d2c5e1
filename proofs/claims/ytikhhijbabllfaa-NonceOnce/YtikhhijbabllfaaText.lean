/- The text that the document makes of words, for every list of words. -/
import Derived.Test.YtikhhijbabllfaaJoin
namespace Go.Proofs.Ytikhhijbabllfaa
open Go.RowKit Go.PlainAid
set_option linter.unusedVariables false

theorem four_is (x : Int) (h0 : 0 ≤ x) (h1 : x < 4294967296) : [x % 256, x / 256 % 256, x / 256 / 256 % 256, x / 256 / 256 / 256 % 256] = four x := by
  have e1 : x / 256 / 256 % 256 = x / 65536 % 256 := by omega
  have e2 : x / 256 / 256 / 256 % 256 = x / 16777216 := by omega
  rw [e1, e2]; rfl
theorem At_below {w w' : World} {a : Option Addr} {n : Nat} {f : Nat → Int} (h : At w a n f) (hb : Below w.heap.size w w') : At w' a n f := by
  rcases h with h | ⟨b, o, rfl, h⟩
  · exact .inl h
  · exact .inr ⟨b, o, rfl, fun i hi => (hb.cell (p := ⟨b, o + i, none⟩) (cell_lt (h i hi))).trans (h i hi)⟩
theorem At_congr {w : World} {a : Option Addr} {n : Nat} {f g : Nat → Int} (h : At w a n f) (e : ∀ i, i < n → g i = f i) : At w a n g := by
  rcases h with h | ⟨b, o, rfl, h⟩
  · exact .inl h
  · exact .inr ⟨b, o, rfl, fun i hi => by rw [e i hi]; exact h i hi⟩

/-- An owned row of bytes is no block of arrays. -/
theorem own_ne {w : World} {base : Nat} {v : Value} {n : Nat} {xs : List Value} {G : Nat} {c : Array Value} (h : w.ownsRow base 5 1 v n xs) (hG : w.heap[G]? = some (.cells c 63)) : some G ≠ v.ownBlock := by
  intro e
  rcases h.2 with ⟨rfl, _⟩ | ⟨g, cap, cur, rfl, _, hg, _⟩
  · cases e
  · simp only [Value.ownBlock, Option.some.injEq] at e
    subst e
    rw [hg] at hG
    cases hG
theorem cell_blk {w : World} {G : Nat} {ys : List Int} (hG : w.heap[G]? = some (.cells (ys.map (Value.int .u8)).toArray 63)) (r : Nat) (hr : r < ys.length) : w.cell? ⟨G, r, none⟩ = some (.int .u8 (ys.getD r 0)) := by
  simp [World.cell?, hG, hr]

set_option maxRecDepth 20000 in
set_option maxHeartbeats 1600000 in
theorem refText_little (a : Option Addr) (ca n : Nat) (f : Nat → Int) (w : World) (hn : n ≤ 1000000) (ha : At w a n f) (hf : ∀ i, i < n → 0 ≤ f i ∧ f i < 4294967296) :
    Calls Try.prog 25 #[.slice a n ca, .bool false] w fun e w' => e = .returned (.string (strOfNums (joinF four f n))) ∧ Below w.heap.size w w' := by
  obtain ⟨i0, hi, hz0, hz1, hz2⟩ := info_parts Try.info5
  go_enter Try.func25, Try.ntmps25
  go_wp2
  go_loopw [5, 6] (fun v i wr => ∃ k : Nat, k ≤ n ∧ i = .int .i64 k ∧ wr.ownsRow w.heap.size 5 1 v (4 * k) ((joinF four f k).map (Value.int .u8)) ∧ Below w.heap.size w wr) (fun _ i _ => n - (intOf i).toNat)
  case atStart => exact ⟨0, Nat.zero_le _, rfl, World.ownsRow_nil _ _ _ _, Below.refl _ _⟩
  case round =>
    obtain ⟨k, hk, rfl, hown, hbel⟩ := hrel
    by_cases hlt : k < n
    · rcases ha with h0 | ⟨ba, oa, rfl, ha⟩
      · omega
      have hcw := ha k hlt
      have hc1 : wr.cell? ⟨ba, oa + k, none⟩ = some (.int .u32 (f k)) := (hbel.cell (p := ⟨ba, oa + k, none⟩) (cell_lt hcw)).trans hcw
      have hc2 : (wr.alloc (.cells #[.int .u8 0, .int .u8 0, .int .u8 0, .int .u8 0] 63)).cell? ⟨ba, oa + k, none⟩ = some (.int .u32 (f k)) := by
        rw [World.cell?_alloc_some _ _ _ (by rw [hc1]; rfl)]; exact hc1
      obtain ⟨f0, f1⟩ := hf k hlt
      have hlt' : (k : Int) < (n : Int) := by omega
      obtain ⟨x, hx⟩ : ∃ x, f k = x := ⟨_, rfl⟩
      rw [hx] at hc2 f0 f1
      have HX : Hid (f k = x) := hx
      clear hcw hc1 hx
      rename World => wo
      go_wp2
      go_loopw [8, 9, 10] (fun y j _ wi =>
          (j = .int .i64 0 ∧ y = .int .u32 x ∧ wi = wo.alloc (.cells #[.int .u8 0, .int .u8 0, .int .u8 0, .int .u8 0] 63)) ∨
          (j = .int .i64 1 ∧ y = .int .u32 (x / 256) ∧ wi = wo.alloc (.cells #[.int .u8 (x % 256), .int .u8 0, .int .u8 0, .int .u8 0] 63)) ∨
          (j = .int .i64 2 ∧ y = .int .u32 (x / 256 / 256) ∧ wi = wo.alloc (.cells #[.int .u8 (x % 256), .int .u8 (x / 256 % 256), .int .u8 0, .int .u8 0] 63)) ∨
          (j = .int .i64 3 ∧ y = .int .u32 (x / 256 / 256 / 256) ∧ wi = wo.alloc (.cells #[.int .u8 (x % 256), .int .u8 (x / 256 % 256), .int .u8 (x / 256 / 256 % 256), .int .u8 0] 63)) ∨
          (j = .int .i64 4 ∧ wi = wo.alloc (.cells #[.int .u8 (x % 256), .int .u8 (x / 256 % 256), .int .u8 (x / 256 / 256 % 256), .int .u8 (x / 256 / 256 / 256 % 256)] 63))) (fun _ j _ _ => 4 - (intOf j).toNat)
      case atStart => exact .inl ⟨rfl, rfl, rfl⟩
      case round =>
        rcases hrel with ⟨rfl, rfl, rfl⟩ | ⟨rfl, rfl, rfl⟩ | ⟨rfl, rfl, rfl⟩ | ⟨rfl, rfl, rfl⟩ | ⟨rfl, rfl⟩
        · go_wp2
          go_roundw
          case rel => exact .inr (.inl ⟨rfl, rfl, trivial⟩)
          case measure => simp [intOf]
        · go_wp2
          go_roundw
          case rel => exact .inr (.inr (.inl ⟨rfl, rfl, trivial⟩))
          case measure => simp [intOf]
        · go_wp2
          go_roundw
          case rel => exact .inr (.inr (.inr (.inl ⟨rfl, rfl, trivial⟩)))
          case measure => simp [intOf]
        · go_wp2
          go_roundw
          case rel => exact .inr (.inr (.inr (.inr ⟨rfl, trivial⟩)))
          case measure => simp [intOf]
        · go_wp2
          have hblk : (wo.alloc (.cells #[.int .u8 (x % 256), .int .u8 (x / 256 % 256), .int .u8 (x / 256 / 256 % 256), .int .u8 (x / 256 / 256 / 256 % 256)] 63)).heap[wo.heap.size]? = some (.cells ((four x).map (Value.int .u8)).toArray 63) := by
            rw [← four_is x f0 f1]; exact Array.getElem?_push_size
          have hownz := hown.alloc (.cells #[.int .u8 (x % 256), .int .u8 (x / 256 % 256), .int .u8 (x / 256 / 256 % 256), .int .u8 (x / 256 / 256 / 256 % 256)] 63)
          have hbelz := hbel.alloc hbel.size (.cells #[.int .u8 (x % 256), .int .u8 (x / 256 % 256), .int .u8 (x / 256 / 256 % 256), .int .u8 (x / 256 / 256 / 256 % 256)] 63)
          generalize wo.alloc (.cells #[.int .u8 (x % 256), .int .u8 (x / 256 % 256), .int .u8 (x / 256 / 256 % 256), .int .u8 (x / 256 / 256 / 256 % 256)] 63) = wz at hblk hownz hbelz ⊢
          clear hc2 hown
          generalize wo.heap.size = G at hblk ⊢
          go_loopw [5, 11] (fun v j wi => ∃ q : Nat, q ≤ 4 ∧ j = .int .i64 q ∧ wi.ownsRow w.heap.size 5 1 v (4 * k + q) ((joinF four f k ++ (four x).take q).map (Value.int .u8)) ∧ wi.heap[G]? = some (.cells ((four x).map (Value.int .u8)).toArray 63) ∧ Below w.heap.size w wi) (fun _ j _ => 4 - (intOf j).toNat)
          case atStart => exact ⟨0, by omega, rfl, by simpa using hownz, hblk, hbelz⟩
          case round =>
            obtain ⟨q, hq, rfl, hownq, hblkq, hbelq⟩ := hrel
            by_cases hq4 : q < 4
            · have hcq := cell_blk hblkq q (by simpa [four] using hq4)
              have hq4' : (q : Int) < 4 := by omega
              obtain ⟨y, hy⟩ : ∃ y, (four x).getD q 0 = y := ⟨_, rfl⟩
              rw [hy] at hcq
              have HT : Hid ((four x).take (q + 1) = (four x).take q ++ [y]) := by
                have hl : q < (four x).length := hq4
                rw [List.take_succ_eq_append_getElem hl, ← hy, List.getD_eq_getElem?_getD, List.getElem?_eq_getElem hl]; rfl
              clear hy
              go_wp2_with (at_builtin; refine wpList_append_own _ rfl _ _ 39 rfl w.heap.size 5 i0 (.int .u8 0) 1 1 Try.underlying39 hi hz0 hz1 hz2 rfl (by decide) _ _ _ rfl (hownq.alloc _) ⟨wr.heap.size, 0, none⟩ 1 1 [.int .u8 y] rfl rfl ?c1 ?c2 ?c3 ?c4 ?c5 ?_)
              case c1 =>
                intro j u hj
                match j, hj with
                | 0, hj => simp at hj; subst hj; simp [Addr.add]
              case c2 => intro u hu; simp at hu; subst hu; rfl
              case c3 => unfold maxLen; omega
              case c4 => omega
              case c5 => have := hbelq.size; simp; omega
              · intro v' w1 hown' hgrow _
                have hne := own_ne hownq hblkq
                have hGlt : G < wr.heap.size := by
                  rcases Nat.lt_or_ge G wr.heap.size with h' | h'
                  · exact h'
                  · rw [Array.getElem?_eq_none h'] at hblkq; cases hblkq
                have hblk' : w1.heap[G]? = some (.cells ((four x).map (Value.int .u8)).toArray 63) := by
                  rw [hgrow.block G (by simp; omega) hne, Below.heap_alloc _ _ _ hGlt]; exact hblkq
                have hbel' : Below w.heap.size w w1 := by
                  refine Below.grown (hbelq.alloc hbelq.size _) hgrow ?_ ?_
                  · have := hbelq.size; simp; omega
                  · intro g hg; exact (hownq.lt g hg).1
                have R : w1.ownsRow w.heap.size 5 1 v' (4 * k + (q + 1)) ((joinF four f k ++ (four x).take (q + 1)).map (Value.int .u8)) := by
                  rw [HT.out, ← List.append_assoc, List.map_append, ← Nat.add_assoc]
                  simpa using hown'
                clear hown' hgrow hownq hblkq hbelq hcq hne hGlt
                go_wp2
                go_roundw
                case rel => exact ⟨q + 1, by omega, by go_num, R, hblk', hbel'⟩
                case measure => simp [intOf]; omega
            · have hqe : q = 4 := by omega
              subst hqe
              have R : wr.ownsRow w.heap.size 5 1 u5 (4 * (k + 1)) ((joinF four f (k + 1)).map (Value.int .u8)) := by
                rw [joinF_succ, HX.out, Nat.mul_succ]; simpa [four] using hownq
              clear hownq hblkq
              go_wp2
              go_roundw
              case rel => exact ⟨k + 1, by omega, by go_num, R, hbelq⟩
              case measure => simp [intOf]; omega
    · have hkn : k = n := by omega
      subst hkn
      have hconv := convert_owned hown (joinF_length four (fun _ => rfl) f k)
      go_wp2
      go_ret
      exact ⟨rfl, hbel⟩

theorem fourB_is (x : Int) (h0 : 0 ≤ x) (h1 : x < 4294967296) : [x / 256 / 256 / 256 % 256, x / 256 / 256 % 256, x / 256 % 256, x % 256] = fourB x := by
  have e1 : x / 256 / 256 % 256 = x / 65536 % 256 := by omega
  have e2 : x / 256 / 256 / 256 % 256 = x / 16777216 := by omega
  rw [e1, e2]; rfl

set_option maxRecDepth 20000 in
set_option maxHeartbeats 1600000 in
theorem refText_big (a : Option Addr) (ca n : Nat) (f : Nat → Int) (w : World) (hn : n ≤ 1000000) (ha : At w a n f) (hf : ∀ i, i < n → 0 ≤ f i ∧ f i < 4294967296) :
    Calls Try.prog 25 #[.slice a n ca, .bool true] w fun e w' => e = .returned (.string (strOfNums (joinF fourB f n))) ∧ Below w.heap.size w w' := by
  obtain ⟨i0, hi, hz0, hz1, hz2⟩ := info_parts Try.info5
  go_enter Try.func25, Try.ntmps25
  go_wp2
  go_loopw [5, 6] (fun v i wr => ∃ k : Nat, k ≤ n ∧ i = .int .i64 k ∧ wr.ownsRow w.heap.size 5 1 v (4 * k) ((joinF fourB f k).map (Value.int .u8)) ∧ Below w.heap.size w wr) (fun _ i _ => n - (intOf i).toNat)
  case atStart => exact ⟨0, Nat.zero_le _, rfl, World.ownsRow_nil _ _ _ _, Below.refl _ _⟩
  case round =>
    obtain ⟨k, hk, rfl, hown, hbel⟩ := hrel
    by_cases hlt : k < n
    · rcases ha with h0 | ⟨ba, oa, rfl, ha⟩
      · omega
      have hcw := ha k hlt
      have hc1 : wr.cell? ⟨ba, oa + k, none⟩ = some (.int .u32 (f k)) := (hbel.cell (p := ⟨ba, oa + k, none⟩) (cell_lt hcw)).trans hcw
      have hc2 : (wr.alloc (.cells #[.int .u8 0, .int .u8 0, .int .u8 0, .int .u8 0] 63)).cell? ⟨ba, oa + k, none⟩ = some (.int .u32 (f k)) := by
        rw [World.cell?_alloc_some _ _ _ (by rw [hc1]; rfl)]; exact hc1
      obtain ⟨f0, f1⟩ := hf k hlt
      have hlt' : (k : Int) < (n : Int) := by omega
      obtain ⟨x, hx⟩ : ∃ x, f k = x := ⟨_, rfl⟩
      rw [hx] at hc2 f0 f1
      have HX : Hid (f k = x) := hx
      clear hcw hc1 hx
      rename World => wo
      go_wp2
      go_loopw [8, 9, 10] (fun y j _ wi =>
          (j = .int .i64 0 ∧ y = .int .u32 x ∧ wi = wo.alloc (.cells #[.int .u8 0, .int .u8 0, .int .u8 0, .int .u8 0] 63)) ∨
          (j = .int .i64 1 ∧ y = .int .u32 (x / 256) ∧ wi = wo.alloc (.cells #[.int .u8 0, .int .u8 0, .int .u8 0, .int .u8 (x % 256)] 63)) ∨
          (j = .int .i64 2 ∧ y = .int .u32 (x / 256 / 256) ∧ wi = wo.alloc (.cells #[.int .u8 0, .int .u8 0, .int .u8 (x / 256 % 256), .int .u8 (x % 256)] 63)) ∨
          (j = .int .i64 3 ∧ y = .int .u32 (x / 256 / 256 / 256) ∧ wi = wo.alloc (.cells #[.int .u8 0, .int .u8 (x / 256 / 256 % 256), .int .u8 (x / 256 % 256), .int .u8 (x % 256)] 63)) ∨
          (j = .int .i64 4 ∧ wi = wo.alloc (.cells #[.int .u8 (x / 256 / 256 / 256 % 256), .int .u8 (x / 256 / 256 % 256), .int .u8 (x / 256 % 256), .int .u8 (x % 256)] 63))) (fun _ j _ _ => 4 - (intOf j).toNat)
      case atStart => exact .inl ⟨rfl, rfl, rfl⟩
      case round =>
        rcases hrel with ⟨rfl, rfl, rfl⟩ | ⟨rfl, rfl, rfl⟩ | ⟨rfl, rfl, rfl⟩ | ⟨rfl, rfl, rfl⟩ | ⟨rfl, rfl⟩
        · go_wp2
          go_roundw
          case rel => exact .inr (.inl ⟨rfl, rfl, trivial⟩)
          case measure => simp [intOf]
        · go_wp2
          go_roundw
          case rel => exact .inr (.inr (.inl ⟨rfl, rfl, trivial⟩))
          case measure => simp [intOf]
        · go_wp2
          go_roundw
          case rel => exact .inr (.inr (.inr (.inl ⟨rfl, rfl, trivial⟩)))
          case measure => simp [intOf]
        · go_wp2
          go_roundw
          case rel => exact .inr (.inr (.inr (.inr ⟨rfl, trivial⟩)))
          case measure => simp [intOf]
        · go_wp2
          have hblk : (wo.alloc (.cells #[.int .u8 (x / 256 / 256 / 256 % 256), .int .u8 (x / 256 / 256 % 256), .int .u8 (x / 256 % 256), .int .u8 (x % 256)] 63)).heap[wo.heap.size]? = some (.cells ((fourB x).map (Value.int .u8)).toArray 63) := by
            rw [← fourB_is x f0 f1]; exact Array.getElem?_push_size
          have hownz := hown.alloc (.cells #[.int .u8 (x / 256 / 256 / 256 % 256), .int .u8 (x / 256 / 256 % 256), .int .u8 (x / 256 % 256), .int .u8 (x % 256)] 63)
          have hbelz := hbel.alloc hbel.size (.cells #[.int .u8 (x / 256 / 256 / 256 % 256), .int .u8 (x / 256 / 256 % 256), .int .u8 (x / 256 % 256), .int .u8 (x % 256)] 63)
          generalize wo.alloc (.cells #[.int .u8 (x / 256 / 256 / 256 % 256), .int .u8 (x / 256 / 256 % 256), .int .u8 (x / 256 % 256), .int .u8 (x % 256)] 63) = wz at hblk hownz hbelz ⊢
          clear hc2 hown
          generalize wo.heap.size = G at hblk ⊢
          go_loopw [5, 11] (fun v j wi => ∃ q : Nat, q ≤ 4 ∧ j = .int .i64 q ∧ wi.ownsRow w.heap.size 5 1 v (4 * k + q) ((joinF fourB f k ++ (fourB x).take q).map (Value.int .u8)) ∧ wi.heap[G]? = some (.cells ((fourB x).map (Value.int .u8)).toArray 63) ∧ Below w.heap.size w wi) (fun _ j _ => 4 - (intOf j).toNat)
          case atStart => exact ⟨0, by omega, rfl, by simpa using hownz, hblk, hbelz⟩
          case round =>
            obtain ⟨q, hq, rfl, hownq, hblkq, hbelq⟩ := hrel
            by_cases hq4 : q < 4
            · have hcq := cell_blk hblkq q (by simpa [fourB] using hq4)
              have hq4' : (q : Int) < 4 := by omega
              obtain ⟨y, hy⟩ : ∃ y, (fourB x).getD q 0 = y := ⟨_, rfl⟩
              rw [hy] at hcq
              have HT : Hid ((fourB x).take (q + 1) = (fourB x).take q ++ [y]) := by
                have hl : q < (fourB x).length := hq4
                rw [List.take_succ_eq_append_getElem hl, ← hy, List.getD_eq_getElem?_getD, List.getElem?_eq_getElem hl]; rfl
              clear hy
              go_wp2_with (at_builtin; refine wpList_append_own _ rfl _ _ 39 rfl w.heap.size 5 i0 (.int .u8 0) 1 1 Try.underlying39 hi hz0 hz1 hz2 rfl (by decide) _ _ _ rfl (hownq.alloc _) ⟨wr.heap.size, 0, none⟩ 1 1 [.int .u8 y] rfl rfl ?c1 ?c2 ?c3 ?c4 ?c5 ?_)
              case c1 =>
                intro j u hj
                match j, hj with
                | 0, hj => simp at hj; subst hj; simp [Addr.add]
              case c2 => intro u hu; simp at hu; subst hu; rfl
              case c3 => unfold maxLen; omega
              case c4 => omega
              case c5 => have := hbelq.size; simp; omega
              · intro v' w1 hown' hgrow _
                have hne := own_ne hownq hblkq
                have hGlt : G < wr.heap.size := by
                  rcases Nat.lt_or_ge G wr.heap.size with h' | h'
                  · exact h'
                  · rw [Array.getElem?_eq_none h'] at hblkq; cases hblkq
                have hblk' : w1.heap[G]? = some (.cells ((fourB x).map (Value.int .u8)).toArray 63) := by
                  rw [hgrow.block G (by simp; omega) hne, Below.heap_alloc _ _ _ hGlt]; exact hblkq
                have hbel' : Below w.heap.size w w1 := by
                  refine Below.grown (hbelq.alloc hbelq.size _) hgrow ?_ ?_
                  · have := hbelq.size; simp; omega
                  · intro g hg; exact (hownq.lt g hg).1
                have R : w1.ownsRow w.heap.size 5 1 v' (4 * k + (q + 1)) ((joinF fourB f k ++ (fourB x).take (q + 1)).map (Value.int .u8)) := by
                  rw [HT.out, ← List.append_assoc, List.map_append, ← Nat.add_assoc]
                  simpa using hown'
                clear hown' hgrow hownq hblkq hbelq hcq hne hGlt
                go_wp2
                go_roundw
                case rel => exact ⟨q + 1, by omega, by go_num, R, hblk', hbel'⟩
                case measure => simp [intOf]; omega
            · have hqe : q = 4 := by omega
              subst hqe
              have R : wr.ownsRow w.heap.size 5 1 u5 (4 * (k + 1)) ((joinF fourB f (k + 1)).map (Value.int .u8)) := by
                rw [joinF_succ, HX.out, Nat.mul_succ]; simpa [fourB] using hownq
              clear hownq hblkq
              go_wp2
              go_roundw
              case rel => exact ⟨k + 1, by omega, by go_num, R, hbelq⟩
              case measure => simp [intOf]; omega
    · have hkn : k = n := by omega
      subst hkn
      have hconv := convert_owned hown (joinF_length fourB (fun _ => rfl) f k)
      go_wp2
      go_ret
      exact ⟨rfl, hbel⟩
end Go.Proofs.Ytikhhijbabllfaa
