/- What the Go functions that write words as a text answer, for every list of words. -/
import Derived.Test.YtikhhijbabllfaaRead
import Derived.Test.YtikhhijbabllfaaRefXor
namespace Go.Proofs.Ytikhhijbabllfaa
open Go.RowKit Go.PlainAid
set_option linter.unusedVariables false

/-- The four bytes of a word, the lowest first; the highest first. -/
def four (x : Int) : List Int := [x % 256, x / 256 % 256, x / 65536 % 256, x / 16777216]
def fourB (x : Int) : List Int := [x / 16777216, x / 65536 % 256, x / 256 % 256, x % 256]

theorem fromBig1_any (x : Int) (h0 : 0 ≤ x) (h1 : x < 4294967296) (w : World) :
    Calls Try.prog 23 #[.int .u32 x] w fun e w' => e = .returned (.agg #[.int .u8 (x / 16777216), .int .u8 (x / 65536 % 256), .int .u8 (x / 256 % 256), .int .u8 (x % 256)]) ∧ Below w.heap.size w w' := by
  go_enter Try.func23, Try.ntmps23
  go_wp2
  exact bodyPost_ret (v := .agg #[.int .u8 (x / 16777216), .int .u8 (x / 65536 % 256), .int .u8 (x / 256 % 256), .int .u8 (x % 256)]) (by simp [results, Try.results23, go_sem]) rfl ⟨rfl, (Below.refl _ _).alloc (Nat.le_refl _) _⟩

def joinF (g : Int → List Int) (f : Nat → Int) (k : Nat) : List Int := (List.range k).flatMap fun i => g (f i)
theorem joinF_succ (g : Int → List Int) (f : Nat → Int) (k : Nat) : joinF g f (k + 1) = joinF g f k ++ g (f k) := by
  unfold joinF; rw [List.range_succ, List.flatMap_append]; simp
theorem joinF_length (g : Int → List Int) (hg : ∀ x, (g x).length = 4) (f : Nat → Int) (k : Nat) : (joinF g f k).length = 4 * k := by
  induction k with
  | zero => rfl
  | succ k ih => rw [joinF_succ, List.length_append, ih, hg]; omega

/-- A cell that is there lies in a block that is there. -/
theorem cell_lt {w : World} {b o : Nat} {v : Value} (h : w.cell? ⟨b, o, none⟩ = some v) : b < w.heap.size := by
  rcases Nat.lt_or_ge b w.heap.size with h' | h'
  · exact h'
  · simp [World.cell?, Array.getElem?_eq_none h'] at h

set_option maxRecDepth 20000 in
set_option maxHeartbeats 800000 in
theorem join_big (a : Option Addr) (ca n : Nat) (f : Nat → Int) (w : World) (hn : n ≤ 1000000) (ha : At w a n f) (hf : ∀ i, i < n → 0 ≤ f i ∧ f i < 4294967296) :
    Calls Try.prog 22 #[.slice a n ca, .func (.func 23) #[] #[]] w fun e w' => e = .returned (.string (strOfNums (joinF fourB f n))) ∧ Below w.heap.size w w' := by
  obtain ⟨i0, hi, hz0, hz1, hz2⟩ := info_parts Try.info5
  go_enter Try.func22, Try.ntmps22
  go_wp2_with (at_make; refine wpList_make_own _ rfl _ _ 39 rfl w.heap.size 5 i0 (.int .u8 0) 1 Try.underlying39 hi hz0 hz1 _ _ _ (4 * n) rfl rfl ?c0 ?c2 ?c3 ?c4 ?_)
  case c0 => omega
  case c2 => rw [hz2]; omega
  case c3 => unfold maxLen; omega
  case c4 => exact Nat.le_refl _
  intro w1 hown hgrow
  have hbel : Below w.heap.size w w1 := (Below.refl _ _).grown hgrow (Nat.le_refl _) (fun k h => by cases h)
  go_wp2
  go_loopw [5, 15] (fun v i wr => ∃ k : Nat, k ≤ n ∧ i = .int .i64 k ∧ v = .slice (some ⟨w.heap.size, 0, none⟩) (4 * k) (4 * n) ∧ wr.ownsRow w.heap.size 5 1 (.slice (some ⟨w.heap.size, 0, none⟩) (4 * k) (4 * n)) (4 * k) ((joinF fourB f k).map (Value.int .u8)) ∧ Below w.heap.size w wr) (fun _ i _ => n - (intOf i).toNat)
  case atStart => exact ⟨0, Nat.zero_le _, rfl, rfl, hown, hbel⟩
  case round =>
    obtain ⟨k, hk, rfl, rfl, hown', hbel'⟩ := hrel
    by_cases hlt : k < n
    · rcases ha with h0 | ⟨ba, oa, rfl, ha⟩
      · omega
      have hcw := ha k hlt
      have hc1 : wr.cell? ⟨ba, oa + k, none⟩ = some (.int .u32 (f k)) := (hbel'.cell (p := ⟨ba, oa + k, none⟩) (cell_lt hcw)).trans hcw
      obtain ⟨f0, f1⟩ := hf k hlt
      have hlt' : (k : Int) < (n : Int) := by omega
      clear hcw
      go_wp2_with (first | (go_at_call 23; refine (fromBig1_any _ f0 f1 _).mono ?_; rintro e wx ⟨rfl, hx⟩) | (at_builtin; refine wpList_append_fits _ rfl _ _ 39 rfl w.heap.size 5 i0 1 Try.underlying39 hi hz1 w.heap.size (4 * k) (4 * n) _ rfl (((owns_below hown' hx).alloc _).alloc _) ⟨wx.heap.size + 1, 0, none⟩ 4 4 ((fourB (f k)).map (Value.int .u8)) rfl rfl ?c1 ?c2 ?c3 ?_))
      case c1 =>
        intro j u hj
        match j, hj with
        | 0, hj => simp [fourB] at hj; subst hj; simp [Addr.add]
        | 1, hj => simp [fourB] at hj; subst hj; simp [Addr.add]
        | 2, hj => simp [fourB] at hj; subst hj; simp [Addr.add]
        | 3, hj => simp [fourB] at hj; subst hj; simp [Addr.add]
        | j + 4, hj => simp [fourB] at hj
      case c2 => exact ints_oneCell _ _
      case c3 => omega
      · intro w2 hown2 hgrow2
        have hwx : Below w.heap.size w wx := hbel'.trans (hx.mono hbel'.size)
        have hbel2 : Below w.heap.size w w2 := by
          refine Below.grown ((hwx.alloc hwx.size _).alloc (by have := hwx.size; simp; omega) _) hgrow2 (by have := hwx.size; simp; omega) ?_
          intro g hg; cases hg; exact Nat.le_refl _
        have R : w2.ownsRow w.heap.size 5 1 (.slice (some ⟨w.heap.size, 0, none⟩) (4 * (k + 1)) (4 * n)) (4 * (k + 1)) ((joinF fourB f (k + 1)).map (Value.int .u8)) := by
          rw [joinF_succ, List.map_append]; exact hown2
        clear hown2 hgrow2 hown' hbel' hwx hx
        go_wp2
        go_roundw
        case rel => exact ⟨k + 1, by omega, by go_num, rfl, R, hbel2⟩
        case measure => simp [intOf]; omega
    · have hkn : k = n := by omega
      subst hkn
      have hconv := convert_owned hown' (joinF_length fourB (fun _ => rfl) f k)
      go_wp2
      go_ret
      exact ⟨rfl, hbel'⟩

theorem fromBig_any (a : Option Addr) (ca n : Nat) (f : Nat → Int) (w : World) (hn : n ≤ 1000000) (ha : At w a n f) (hf : ∀ i, i < n → 0 ≤ f i ∧ f i < 4294967296) :
    Calls Try.prog 17 #[.slice a n ca] w fun e w' => e = .returned (.string (strOfNums (joinF fourB f n))) ∧ Below w.heap.size w w' := by
  go_enter Try.func17, Try.ntmps17
  go_wp2_with (go_at_call 22; refine (join_big _ _ _ f _ hn ha hf).mono ?_; rintro e w' ⟨rfl, hb⟩)
  go_ret
  exact ⟨rfl, hb⟩
end Go.Proofs.Ytikhhijbabllfaa
