/- What the Go function WordsBack answers: true, for every word, every number of places, every list of words. -/
import Derived.Test.YtngfmkkkgkedoaaJoin
import Derived.Test.YtngfmkkkgkedoaaReadLaw
import Derived.OpenShut
namespace Go.Proofs.Ytngfmkkkgkedoaa
open Go.RowKit Go.PlainAid
set_option linter.unusedVariables false

/-- What the walk is told of a slice of integers that came in: it is nil; or it leads to a row of 'cap' cells, the numbers 'zs', each fitting its kind. -/
def IsRow (k : IntKind) (w : World) (a : Option Addr) (len cap : Nat) (zs : List Int) : Prop :=
  (a = none ∧ len = 0 ∧ cap = 0 ∧ zs = []) ∨
  ∃ x, a = some x ∧ len ≤ cap ∧ cap ≤ maxLen ∧ zs.length = cap ∧ (∀ i, i < zs.length → w.cell? (x.add i) = some (.int k (zs.getD i 0))) ∧ ∀ n ∈ zs, (Lit.int k n).wf = true

theorem At_row {w : World} {a : Option Addr} {len cap : Nat} {zs : List Int} (h : IsRow .u32 w a len cap zs) (n : Nat) (hn : n ≤ len) :
    At w a n (fun i => zs.getD i 0) ∧ (∀ i, i < n → 0 ≤ zs.getD i 0 ∧ zs.getD i 0 < 4294967296) := by
  rcases h with ⟨rfl, rfl, rfl, rfl⟩ | ⟨x, rfl, hlc, hcm, hz, hcell, hwf⟩
  · exact ⟨.inl (by omega), fun i hi => by omega⟩
  · constructor
    · by_cases h0 : n = 0
      · exact .inl h0
      · obtain ⟨b, off, rfl, hc⟩ := ints_at hcell (by omega)
        exact .inr ⟨b, off, rfl, fun i hi => hc i (by omega)⟩
    · intro i hi
      have hm : zs.getD i 0 ∈ zs := by
        rw [List.getD_eq_getElem?_getD, List.getElem?_eq_getElem (show i < zs.length by omega)]
        exact List.getElem_mem _
      have := bounds_u32 (hwf _ hm)
      omega

theorem row_bounds {w : World} {a : Option Addr} {len cap : Nat} {zs : List Int} (h : IsRow .u32 w a len cap zs) : len ≤ cap ∧ cap ≤ 9223372036854775807 := by
  rcases h with ⟨_, rfl, rfl, _⟩ | ⟨_, _, h1, h2, _⟩
  · exact ⟨Nat.le_refl _, by decide⟩
  · exact ⟨h1, by unfold maxLen at h2; exact h2⟩

theorem right_back (x n : Int) (h0 : 0 ≤ x) (h1 : x < 4294967296) (w : World) :
    Calls Try.prog 12 #[.int .u32 (turn (n % 32).toNat x), .int .i64 n] w fun e w' => e = .returned (.int .u32 x) ∧ w' = w := by
  have b := turn_lo (n % 32).toNat x h0 h1
  refine (right_any _ n b.1 b.2 w).mono fun e w' ⟨he, hw⟩ => ⟨?_, hw⟩
  rw [he, turn_add, show 32 - (n % 32).toNat + (n % 32).toNat = 32 by omega, turn_32 x h0 h1]
theorem left_back (x n : Int) (h0 : 0 ≤ x) (h1 : x < 4294967296) (w : World) :
    Calls Try.prog 10 #[.int .u32 (turn (n % 32).toNat x), .int .i64 (32 - n % 32)] w fun e w' => e = .returned (.int .u32 x) ∧ w' = w := by
  have b := turn_lo (n % 32).toNat x h0 h1
  refine (left_any _ (32 - n % 32) b.1 b.2 w).mono fun e w' ⟨he, hw⟩ => ⟨?_, hw⟩
  have e1 : ((32 - n % 32) % 32).toNat = (32 - (n % 32).toNat) % 32 := by omega
  rw [he, e1, turn_mod _ _ b.1 b.2, turn_add, show 32 - (n % 32).toNat + (n % 32).toNat = 32 by omega, turn_32 x h0 h1]

theorem At_below {w w' : World} {a : Option Addr} {n : Nat} {f : Nat → Int} (h : At w a n f) (hb : Below w.heap.size w w') : At w' a n f := by
  rcases h with h | ⟨b, o, rfl, h⟩
  · exact .inl h
  · exact .inr ⟨b, o, rfl, fun i hi => (hb.cell (p := ⟨b, o + i, none⟩) (cell_lt (h i hi))).trans (h i hi)⟩
theorem At_congr {w : World} {a : Option Addr} {n : Nat} {f g : Nat → Int} (h : At w a n f) (e : ∀ i, i < n → g i = f i) : At w a n g := by
  rcases h with h | ⟨b, o, rfl, h⟩
  · exact .inl h
  · exact .inr ⟨b, o, rfl, fun i hi => by rw [e i hi]; exact h i hi⟩

theorem joinF_getD (g : Int → List Int) (hg : ∀ x, (g x).length = 4) (f : Nat → Int) (n i r : Nat) (hi : i < n) (hr : r < 4) :
    (joinF g f n).getD (i * 4 + r) 0 = (g (f i)).getD r 0 := by
  induction n with
  | zero => omega
  | succ n ih =>
    rw [joinF_succ]
    simp only [List.getD_eq_getElem?_getD]
    by_cases h : i < n
    · rw [List.getElem?_append_left (by rw [joinF_length g hg]; omega)]
      simpa only [List.getD_eq_getElem?_getD] using ih h
    · have : i = n := by omega
      subst this
      rw [List.getElem?_append_right (by rw [joinF_length g hg]; omega), joinF_length g hg, show i * 4 + r - 4 * i = r by omega]
theorem four_range (x : Int) (h0 : 0 ≤ x) (h1 : x < 4294967296) : ∀ y ∈ four x, 0 ≤ y ∧ y ≤ 255 := by
  intro y hy
  simp only [four, List.mem_cons, List.not_mem_nil, or_false] at hy
  rcases hy with rfl | rfl | rfl | rfl <;> omega
theorem fourB_range (x : Int) (h0 : 0 ≤ x) (h1 : x < 4294967296) : ∀ y ∈ fourB x, 0 ≤ y ∧ y ≤ 255 := by
  intro y hy
  simp only [fourB, List.mem_cons, List.not_mem_nil, or_false] at hy
  rcases hy with rfl | rfl | rfl | rfl <;> omega
theorem joinF_range (g : Int → List Int) (f : Nat → Int) (n : Nat) (h : ∀ i, i < n → ∀ y ∈ g (f i), 0 ≤ y ∧ y ≤ 255) : ∀ y ∈ joinF g f n, 0 ≤ y ∧ y ≤ 255 := by
  intro y hy
  obtain ⟨i, hi, hy⟩ := List.mem_flatMap.1 hy
  exact h i (by simpa using hi) y hy
theorem bt_join (g : Int → List Int) (hg : ∀ x, (g x).length = 4) (f : Nat → Int) (n i r : Nat) (h : ∀ i, i < n → ∀ y ∈ g (f i), 0 ≤ y ∧ y ≤ 255) (hi : i < n) (hr : r < 4) :
    bt (strOfNums (joinF g f n)) (i * 4 + r) = (g (f i)).getD r 0 := by
  have hl : i * 4 + r < (joinF g f n).length := by rw [joinF_length g hg]; omega
  rw [bt_str _ (joinF_range g f n h) _ hl, ← joinF_getD g hg f n i r hi hr, List.getD_eq_getElem?_getD, List.getElem?_eq_getElem hl]
  rfl
theorem words_join_le (f : Nat → Int) (n : Nat) (hf : ∀ i, i < n → 0 ≤ f i ∧ f i < 4294967296) (i : Nat) (hi : i < n) : wordsL le4 (strOfNums (joinF four f n)) i = f i := by
  have h : ∀ i, i < n → ∀ y ∈ four (f i), 0 ≤ y ∧ y ≤ 255 := fun i hi => four_range _ (hf i hi).1 (hf i hi).2
  have e0 := bt_join four (fun _ => rfl) f n i 0 h hi (by omega)
  unfold wordsL
  rw [Nat.add_zero] at e0
  rw [e0, bt_join four (fun _ => rfl) f n i 1 h hi (by omega), bt_join four (fun _ => rfl) f n i 2 h hi (by omega), bt_join four (fun _ => rfl) f n i 3 h hi (by omega)]
  have := hf i hi
  simp only [four, le4, List.getD_cons_zero, List.getD_cons_succ]
  omega
theorem words_join_be (f : Nat → Int) (n : Nat) (hf : ∀ i, i < n → 0 ≤ f i ∧ f i < 4294967296) (i : Nat) (hi : i < n) : wordsL be4 (strOfNums (joinF fourB f n)) i = f i := by
  have h : ∀ i, i < n → ∀ y ∈ fourB (f i), 0 ≤ y ∧ y ≤ 255 := fun i hi => fourB_range _ (hf i hi).1 (hf i hi).2
  have e0 := bt_join fourB (fun _ => rfl) f n i 0 h hi (by omega)
  unfold wordsL
  rw [Nat.add_zero] at e0
  rw [e0, bt_join fourB (fun _ => rfl) f n i 1 h hi (by omega), bt_join fourB (fun _ => rfl) f n i 2 h hi (by omega), bt_join fourB (fun _ => rfl) f n i 3 h hi (by omega)]
  have := hf i hi
  simp only [fourB, be4, le4, List.getD_cons_zero, List.getD_cons_succ]
  omega

/-- The words of a text that was made of words. -/
theorem little_back (f : Nat → Int) (n : Nat) (hn : n ≤ 1000000) (hf : ∀ i, i < n → 0 ≤ f i ∧ f i < 4294967296) (w : World) :
    Calls Try.prog 14 #[.string (strOfNums (joinF four f n))] w fun e w' => e = .returned (.tuple #[.slice (some ⟨w.heap.size, 0, none⟩) n n, .int .i64 0]) ∧
      (∀ w2, Below w'.heap.size w' w2 → At w2 (some ⟨w.heap.size, 0, none⟩) n f) ∧ Below w.heap.size w w' := by
  have hs : (strOfNums (joinF four f n)).size = 4 * n := by rw [strOfNums_size, joinF_length four (fun _ => rfl)]
  have hq : (strOfNums (joinF four f n)).size / 4 = n := by omega
  refine (little_even _ w (by omega) (by omega)).mono fun e w' ⟨he, ho, hb⟩ => ?_
  rw [hq] at he ho
  exact ⟨he, fun w2 h2 => At_congr (At_slice (owns_below ho h2)) (fun i hi => (words_join_le f n hf i hi).symm), hb⟩
theorem big_back (f : Nat → Int) (n : Nat) (hn : n ≤ 1000000) (hf : ∀ i, i < n → 0 ≤ f i ∧ f i < 4294967296) (w : World) :
    Calls Try.prog 16 #[.string (strOfNums (joinF fourB f n))] w fun e w' => e = .returned (.tuple #[.slice (some ⟨w.heap.size, 0, none⟩) n n, .int .i64 0]) ∧
      (∀ w2, Below w'.heap.size w' w2 → At w2 (some ⟨w.heap.size, 0, none⟩) n f) ∧ Below w.heap.size w w' := by
  have hs : (strOfNums (joinF fourB f n)).size = 4 * n := by rw [strOfNums_size, joinF_length fourB (fun _ => rfl)]
  have hq : (strOfNums (joinF fourB f n)).size / 4 = n := by omega
  refine (big_even _ w (by omega) (by omega)).mono fun e w' ⟨he, ho, hb⟩ => ?_
  rw [hq] at he ho
  exact ⟨he, fun w2 h2 => At_congr (At_slice (owns_below ho h2)) (fun i hi => (words_join_be f n hf i hi).symm), hb⟩

set_option maxHeartbeats 400000 in
theorem backLaw_walk (a0 : Int) (a1 : Int) (a2 : Option Addr) (len2 cap2 : Nat) (z2 : List Int) (w : World) (w0 : (Lit.int .u32 a0).wf = true) (w1 : (Lit.int .i64 a1).wf = true) (w2 : IsRow .u32 w a2 len2 cap2 z2) :
    Calls Try.prog 7 #[.int .u32 a0, .int .i64 a1, .slice a2 len2 cap2] w fun e w' => e = .returned (.bool true) ∧ Below w.heap.size w w' := by
  have b0 := bounds_u32 w0
  have b1 := bounds_i64 w1
  have h0 : 0 ≤ a0 := by omega
  have h1 : a0 < 4294967296 := by omega
  have n0 : -9223372036854775808 ≤ a1 := by omega
  have n1 : a1 ≤ 9223372036854775807 := by omega
  clear b0 b1
  obtain ⟨n, hn, m0, m0'⟩ := read_cut len2 1000 (by decide)
  obtain ⟨hat, hf⟩ := At_row w2 n m0
  obtain ⟨hlc, hcm⟩ := row_bounds w2
  go_enter Try.func7, Try.ntmps7
  go_wp2_with fail
  have hf0 : Hid (∀ i, i < n → 0 ≤ z2.getD i 0 ∧ z2.getD i 0 < 4294967296) := hf
  have hn6 : n ≤ 1000000 := by omega
  clear hf w2 w0 w1 hn
  go_at_call 18
  refine (fromLittle_any _ _ _ _ _ hn6 hat hf0.out).mono ?_
  rintro e x1 ⟨rfl, b1⟩
  go_wp2_with fail
  go_at_call 14
  refine (little_back _ _ hn6 hf0.out _).mono ?_
  rintro e x2 ⟨rfl, t2, b2⟩
  have B2 := b1.trans (b2.mono b1.size)
  have hat2 := At_below hat B2
  go_wp2_with fail
  go_at_call 20
  refine (fromBig_any _ _ _ _ _ hn6 hat2 hf0.out).mono ?_
  rintro e x3 ⟨rfl, b3⟩
  have B3 := B2.trans (b3.mono B2.size)
  go_wp2_with fail
  go_at_call 16
  refine (big_back _ _ hn6 hf0.out _).mono ?_
  rintro e x4 ⟨rfl, t4, b4⟩
  have B4 := B3.trans (b4.mono B3.size)
  go_wp2_with fail
  go_at_call 9
  refine (wakes_any _).mono ?_
  rintro e x5 ⟨rfl, b5⟩
  have B5 := B4.trans (b5.mono B4.size)
  have k1 := t2 x5 (b3.trans ((b4.mono b3.size).trans (b5.mono (Nat.le_trans b3.size b4.size))))
  have k2 := t4 x5 b5
  have k3 := At_below hat B5
  have hand := and31_i64 a1
  clear t2 t4 hat hat2 b1 b2 b3 b4 b5 B2 B3 B4
  go_wp2_with fail
  go_at_call 10
  refine (left_any _ _ h0 h1 _).mono ?_
  rintro e x6 ⟨rfl, rfl⟩
  go_wp2_with fail
  go_at_call 12
  refine (right_back _ _ h0 h1 _).mono ?_
  rintro e x7 ⟨rfl, rfl⟩
  go_wp2_with fail
  go_at_call 10
  refine (left_any _ _ h0 h1 _).mono ?_
  rintro e x8 ⟨rfl, rfl⟩
  go_wp2_with fail
  go_at_call 10
  refine (left_back _ _ h0 h1 _).mono ?_
  rintro e x9 ⟨rfl, rfl⟩
  go_wp2_with fail
  go_at_call 17
  refine (equal_same _ _ _ _ _ _ _ (by omega) k1 k3).mono ?_
  rintro e x10 ⟨rfl, m10, rfl⟩
  go_wp2_with fail
  go_at_call 17
  refine (equal_same _ _ _ _ _ _ _ (by omega) (At_drew k2 m10) (At_drew k3 m10)).mono ?_
  rintro e x11 ⟨rfl, m11, rfl⟩
  go_wp2_with fail
  go_ret
  exact ⟨rfl, below_drewN B5 _⟩
end Go.Proofs.Ytngfmkkkgkedoaa
