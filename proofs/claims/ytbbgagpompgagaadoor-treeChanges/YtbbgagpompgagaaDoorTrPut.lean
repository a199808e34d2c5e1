/- The pairs over a leaf that has another digest: the program's own answer. -/
import Derived.Test.YtbbgagpompgagaaDoorTrBack
namespace Go.Proofs.YtbbgagpompgagaaDoor
open Go.RowKit Go.PlainAid Go.Shelf
set_option linter.unusedVariables false
attribute [local go_sem] Oper.semAt_some

/-- What Put tells: its error, how many pairs, the pairs, the top. -/
def uE (n : Nat) (s : Int) (p : Nat → ByteArray) (x : ByteArray) : Int := if okS n s then (if x.size = 32 ∧ ∀ i, i < n → (p i).size = 64 then 0 else 7) else 2
def uN (n : Nat) (s : Int) (p : Nat → ByteArray) (x : ByteArray) : Nat := if uE n s p x = 0 then n else 0
def uT (n : Nat) (s : Int) (p : Nat → ByteArray) (x : ByteArray) : ByteArray := if uE n s p x = 0 then cur n s.toNat p x n else noB
theorem uE_two {n : Nat} {s : Int} {p : Nat → ByteArray} {x : ByteArray} (h : ¬ okS n s) : uE n s p x = 2 := by unfold uE; rw [if_neg h]
theorem uE_seven {n : Nat} {s : Int} {p : Nat → ByteArray} {x : ByteArray} (h : okS n s) (h2 : ¬ (x.size = 32 ∧ ∀ i, i < n → (p i).size = 64)) : uE n s p x = 7 := by unfold uE; rw [if_pos h, if_neg h2]
theorem uE_zero {n : Nat} {s : Int} {p : Nat → ByteArray} {x : ByteArray} (h : okS n s) (h2 : x.size = 32 ∧ ∀ i, i < n → (p i).size = 64) : uE n s p x = 0 := by unfold uE; rw [if_pos h, if_pos h2]
theorem uN_not {n : Nat} {s : Int} {p : Nat → ByteArray} {x : ByteArray} {z : Int} (h : uE n s p x = z) (hz : z ≠ 0) : uN n s p x = 0 ∧ uT n s p x = noB := by unfold uN uT; rw [h, if_neg hz, if_neg hz]; exact ⟨rfl, rfl⟩
theorem uN_yes {n : Nat} {s : Int} {p : Nat → ByteArray} {x : ByteArray} (h : uE n s p x = 0) : uN n s p x = n ∧ uT n s p x = cur n s.toNat p x n := by unfold uN uT; rw [if_pos h, if_pos h]; exact ⟨rfl, rfl⟩

/-- The pairs changed by then. -/
def cN (n s : Nat) (p : Nat → ByteArray) (x : ByteArray) (j i : Nat) : ByteArray := if n ≤ i + j then neu n s p x i else noB
theorem cN_zero (n s : Nat) (p : Nat → ByteArray) (x : ByteArray) (i : Nat) (h : i < n) : cN n s p x 0 i = noB := by unfold cN; rw [if_neg (by omega)]
theorem cN_succ (n s : Nat) (p : Nat → ByteArray) (x : ByteArray) (j i : Nat) (h : j < n) : upd (cN n s p x j) (n - 1 - j, neu n s p x (n - 1 - j)) i = cN n s p x (j + 1) i := by
  unfold upd cN
  dsimp only
  by_cases e : i = n - 1 - j
  · rw [if_pos e, if_pos (by omega), e]
  · rw [if_neg e]
    by_cases h2 : n ≤ i + j
    · rw [if_pos h2, if_pos (by omega)]
    · rw [if_neg h2, if_neg (by omega)]
theorem cN_all (n s : Nat) (p : Nat → ByteArray) (x : ByteArray) (i : Nat) : cN n s p x n i = neu n s p x i := by unfold cN; rw [if_pos (by omega)]

set_option maxRecDepth 20000 in
set_option maxHeartbeats 1000000 in
theorem put_arg (a : Option Addr) (n cap : Nat) (s : Int) (x : ByteArray) (hn : n ≤ 62) (h : ¬ okS n s) (w : World) : Calls Tryd.prog 20 #[.int .i64 s, .slice a n cap, .string x] w fun e w' => e = .returned (.tuple #[.slice none 0 0, .string noB, .int .i64 2]) ∧ Below w.heap.size w w' := by
  have hu := fun z => under_any a n cap hn z
  have hc := fun z => has_any ((2 ^ n : Nat) : Int) s z
  rw [hasB_no n s h] at hc
  generalize ((2 ^ n : Nat) : Int) = N at hu hc
  have HU : Hid _ := hu
  have HC : Hid _ := hc
  have b0 := Blk.new w 32 #[.slice a n cap]
  have c0 := b0.cell (i := 0) rfl
  have hB0 : Below w.heap.size w (w.alloc (.cells #[.slice a n cap] 32)) := (Below.refl _ w).alloc (Nat.le_refl _) _
  clear hu hc
  go_enter Tryd.func20, Tryd.ntmps20
  go_wp2_with fail
  refine Calls.mono (HU.out _) ?_
  rintro e w' ⟨rfl, hw'⟩
  rw [hw']
  clear hw' w' c0
  generalize w.alloc (.cells #[.slice a n cap] 32) = W0 at b0 hB0 ⊢
  go_wp2_with fail
  refine Calls.mono (HC.out _) ?_
  rintro e w' ⟨rfl, hw'⟩
  rw [hw']
  clear hw' w'
  go_wp2_with fail
  go_ret3
  exact ⟨rfl, hB0⟩
set_option maxRecDepth 20000 in
set_option maxHeartbeats 1000000 in
theorem put_shape (a : Option Addr) (n cap : Nat) (s : Int) (x : ByteArray) (p : Nat → ByteArray) (h : okS n s) (hx : ¬ (x.size = 32 ∧ ∀ i, i < n → (p i).size = 64)) (w : World) (hp : Sa w a n p) : Calls Tryd.prog 20 #[.int .i64 s, .slice a n cap, .string x] w fun e w' => e = .returned (.tuple #[.slice none 0 0, .string noB, .int .i64 7]) ∧ Below w.heap.size w w' := by
  have hu := fun z => under_any a n cap (by have := h.2.1; omega) z
  have hc := fun z => has_any ((2 ^ n : Nat) : Int) s z
  rw [hasB_yes n s h] at hc
  have hn4 : n ≤ 4 := h.2.1
  clear h
  generalize ((2 ^ n : Nat) : Int) = N at hu hc
  have HU : Hid _ := hu
  have HC : Hid _ := hc
  have b0 := Blk.new w 32 #[.slice a n cap]
  have c0 := b0.cell (i := 0) rfl
  have hB0 : Below w.heap.size w (w.alloc (.cells #[.slice a n cap] 32)) := (Below.refl _ w).alloc (Nat.le_refl _) _
  have hp0 := hp.later hB0
  clear hu hc hp
  go_enter Tryd.func20, Tryd.ntmps20
  go_wp2_with fail
  refine Calls.mono (HU.out _) ?_
  rintro e w' ⟨rfl, hw'⟩
  rw [hw']
  clear hw' w' c0
  generalize w.alloc (.cells #[.slice a n cap] 32) = W0 at b0 hB0 hp0 ⊢
  go_wp2_with fail
  refine Calls.mono (HC.out _) ?_
  rintro e w' ⟨rfl, hw'⟩
  rw [hw']
  clear hw' w'
  have c0 := b0.cell (i := 0) rfl
  have hct := sContains_any a n cap p W0 (by omega) hp0
  by_cases h32 : x.size = 32
  · rw [decide_eq_true (show ∃ i, i < n ∧ (p i).size ≠ 64 from Classical.byContradiction fun hno => hx ⟨h32, fun i hi => Classical.byContradiction fun h => hno ⟨i, hi, h⟩⟩)] at hct
    have HCT : Hid _ := hct
    clear hct hx hp0
    go_wp2_with fail
    refine Calls.mono HCT.out ?_
    rintro e w' ⟨rfl, hw'⟩
    rw [hw']
    clear hw' w'
    go_wp2_with fail
    go_ret3
    exact ⟨rfl, hB0⟩
  · have hne : (x.size : Int) ≠ 32 := by omega
    clear hct hx hp0
    go_wp2_with fail
    go_ret3
    exact ⟨rfl, hB0⟩
set_option maxRecDepth 100000 in
set_option maxHeartbeats 4000000 in
theorem put_ok (a : Option Addr) (n cap s : Nat) (x : ByteArray) (p : Nat → ByteArray) (h : okS n (s : Int)) (hx : x.size = 32 ∧ ∀ i, i < n → (p i).size = 64) (w : World) (hp : Sa w a n p) (ht : Tabs w) : Calls Tryd.prog 20 #[.int .i64 (s : Int), .slice a n cap, .string x] w fun e w' =>
    ∃ v, e = .returned (.tuple #[v, .string (cur n s p x n), .int .i64 0]) ∧ w'.ownsRow w.heap.size 9 1 v n (strs n (neu n s p x)) ∧ Below w.heap.size w w' := by
  have hu := fun z => under_any a n cap (by have := h.2.1; omega) z
  have hc := fun z => has_any ((2 ^ n : Nat) : Int) s z
  rw [hasB_yes n s h] at hc
  obtain ⟨h1, h2, _, h4⟩ := h
  have h4' : s < 2 ^ n := by omega
  obtain ⟨pb, po, rfl, hcell⟩ := hp.cells h1
  have hpb := cell_blk_lt (hcell 0 h1)
  obtain ⟨N, hN⟩ : ∃ N, 2 ^ n = N := ⟨_, rfl⟩
  rw [hN] at hu hc
  have HU : Hid _ := hu
  have HC : Hid _ := hc
  have HN : Hid (2 ^ n = N) := hN
  have HX : Hid (∀ i, i < n → (p i).size = 64) := hx.2
  have h32 := hx.1
  have b0 := Blk.new w 32 #[.slice (some ⟨pb, po, none⟩) n cap]
  have c0 := b0.cell (i := 0) rfl
  have hB0 : Below w.heap.size w (w.alloc (.cells #[.slice (some ⟨pb, po, none⟩) n cap] 32)) := (Below.refl _ w).alloc (Nat.le_refl _) _
  have hsz : (w.alloc (.cells #[.slice (some ⟨pb, po, none⟩) n cap] 32)).heap.size = w.heap.size + 1 := by simp
  have hp0 := hp.later hB0
  have hm := mk_strs n (by omega)
  clear hu hc hN h4 hp hx
  refine (callsIn_wide (n := 9)).1 ?_
  refine callsIn_of_wp_marks Tryd.func20 rfl trivial ?_ rfl
  simp only [Tryd.ntmps20, List.size_toArray, List.length_cons, List.length_nil, Nat.reduceAdd, Nat.reduceSub, Array.replicate_succ, Array.replicate_zero, List.push_toArray, List.append_toArray, List.nil_append, List.cons_append]
  gi_wp2_with fail
  refine ⟨trivial, (callsIn_wide.2 (HU.out _)).mono ?_⟩
  rintro e w' ⟨rfl, hw'⟩
  rw [hw']
  clear hw' w' c0
  generalize w.alloc (.cells #[.slice (some ⟨pb, po, none⟩) n cap] 32) = W0 at b0 hB0 hsz hp0 ⊢
  gi_wp2_with fail
  refine ⟨trivial, (callsIn_wide.2 (HC.out _)).mono ?_⟩
  rintro e w' ⟨rfl, hw'⟩
  rw [hw']
  clear hw' w'
  have c0 := b0.cell (i := 0) rfl
  have hct := sContains_any _ n cap p W0 (by omega) hp0
  rw [decide_eq_false (show ¬ ∃ i, i < n ∧ (p i).size ≠ 64 from fun ⟨i, hi, h⟩ => h (HX.out i hi))] at hct
  have HCT : Hid _ := hct
  clear hct hp0
  gi_wp2_with fail
  refine ⟨trivial, (callsIn_wide.2 HCT.out).mono ?_⟩
  rintro e w' ⟨rfl, hw'⟩
  rw [hw']
  clear hw' w'
  gi_wp2_with fail
  refine ⟨trivial, (callsIn_wide.2 (over_any _ _ _)).mono ?_⟩
  rintro e w' ⟨rfl, hw'⟩
  rw [hw']
  clear hw' w' HU HC HCT
  have hb0 := ((((b0.alloc (.cells (strs n fun _ => noB).toArray 9)).alloc (.cells #[.slice (some ⟨w.heap.size + 1, 0, none⟩) n n] 32)).alloc (.cells #[.string x] 9)).alloc (.cells #[.int .i64 (N : Int)] 3)).alloc (.cells #[.int .i64 (s : Int)] 3)
  have hb1 := ((((Blk.new W0 9 (strs n fun _ => noB).toArray).alloc (.cells #[.slice (some ⟨w.heap.size + 1, 0, none⟩) n n] 32)).alloc (.cells #[.string x] 9)).alloc (.cells #[.int .i64 (N : Int)] 3)).alloc (.cells #[.int .i64 (s : Int)] 3)
  have hb2 := (((Blk.new (W0.alloc (.cells (strs n fun _ => noB).toArray 9)) 32 #[.slice (some ⟨w.heap.size + 1, 0, none⟩) n n]).alloc (.cells #[.string x] 9)).alloc (.cells #[.int .i64 (N : Int)] 3)).alloc (.cells #[.int .i64 (s : Int)] 3)
  have hb3 := ((Blk.new ((W0.alloc (.cells (strs n fun _ => noB).toArray 9)).alloc (.cells #[.slice (some ⟨w.heap.size + 1, 0, none⟩) n n] 32)) 9 #[.string x]).alloc (.cells #[.int .i64 (N : Int)] 3)).alloc (.cells #[.int .i64 (s : Int)] 3)
  have hb4 := (Blk.new (((W0.alloc (.cells (strs n fun _ => noB).toArray 9)).alloc (.cells #[.slice (some ⟨w.heap.size + 1, 0, none⟩) n n] 32)).alloc (.cells #[.string x] 9)) 3 #[.int .i64 (N : Int)]).alloc (.cells #[.int .i64 (s : Int)] 3)
  have hb5 := Blk.new ((((W0.alloc (.cells (strs n fun _ => noB).toArray 9)).alloc (.cells #[.slice (some ⟨w.heap.size + 1, 0, none⟩) n n] 32)).alloc (.cells #[.string x] 9)).alloc (.cells #[.int .i64 (N : Int)] 3)) 3 #[.int .i64 (s : Int)]
  simp only [World.size_alloc, hsz] at hb1 hb2 hb3 hb4 hb5
  have hB6 : Below w.heap.size w (((((W0.alloc (.cells (strs n fun _ => noB).toArray 9)).alloc (.cells #[.slice (some ⟨w.heap.size + 1, 0, none⟩) n n] 32)).alloc (.cells #[.string x] 9)).alloc (.cells #[.int .i64 (N : Int)] 3)).alloc (.cells #[.int .i64 (s : Int)] 3)) := ((((hB0.alloc (by omega) _).alloc (by simp; omega) _).alloc (by simp; omega) _).alloc (by simp; omega) _).alloc (by simp; omega) _
  have hsz6 : (((((W0.alloc (.cells (strs n fun _ => noB).toArray 9)).alloc (.cells #[.slice (some ⟨w.heap.size + 1, 0, none⟩) n n] 32)).alloc (.cells #[.string x] 9)).alloc (.cells #[.int .i64 (N : Int)] 3)).alloc (.cells #[.int .i64 (s : Int)] 3)).heap.size = w.heap.size + 6 := by simp [hsz]
  simp only [World.size_alloc, hsz]
  generalize ((((W0.alloc (.cells (strs n fun _ => noB).toArray 9)).alloc (.cells #[.slice (some ⟨w.heap.size + 1, 0, none⟩) n n] 32)).alloc (.cells #[.string x] 9)).alloc (.cells #[.int .i64 (N : Int)] 3)).alloc (.cells #[.int .i64 (s : Int)] 3) = W6 at hb0 hb1 hb2 hb3 hb4 hb5 hB6 hsz6 ⊢
  clear b0 hB0 c0 hm
  have hcol := collect_any n N s HN.out h2 h4' (w.heap.size + 1 + 1 + 1 + 1) (w.heap.size + 1 + 1 + 1 + 1 + 1) W6 (hb4.cell rfl) (hb5.cell rfl)
  have HCO : Hid _ := hcol
  clear hcol
  gi_wp2_with fail
  refine ⟨trivial, (callsIn_wide.2 HCO.out).mono ?_⟩
  rintro e wc ⟨v, rfl, hv, hbc⟩
  clear HCO
  have hrow : ∀ i j u, i < n → j < 3 → (stepV n s i).toList[j]? = some u → (stepsL n s n)[i * 3 + j]? = some u := fun i j u hi hj hu => stepsL_at n s n i j hi u hj hu
  have hv' := hv
  rcases hv.2 with ⟨_, h0⟩ | ⟨gr, cr, cu, rfl, hgr0, hgg, _⟩
  · omega
  have hgr1 : gr < wc.heap.size := (Array.getElem?_eq_some_iff.1 hgg).1
  have hcr : ∀ i j u, i < n → j < 3 → (stepV n s i).toList[j]? = some u → wc.cell? ⟨gr, i * 3 + j, none⟩ = some u := fun i j u hi hj hu => (hv'.cellAt (i * 3 + j) (by omega)).trans (hrow i j u hi hj hu)
  have HCR : Hid _ := hcr
  have k0 := hb0.below hbc hb0.lt
  have k1 := hb1.below hbc hb1.lt
  have k2 := hb2.below hbc hb2.lt
  have k3 := hb3.below hbc hb3.lt
  have hBc := hB6.trans (hbc.mono (by omega))
  have hszc := hbc.size
  rw [hsz6] at hszc hgr0
  clear hb0 hb1 hb2 hb3 hb4 hb5 hB6 hrow hv hv' hgg hcr hbc hsz6 hsz
  gi_wp2_with fail
  refine ⟨trivial, (callsIn_wide.2 (back_any _ wc _ n cr rfl)).mono ?_⟩
  rintro e w' ⟨rfl, hw'⟩
  rw [hw']
  clear hw' w'
  gi_wp2_with fail
  have m0 := k0.alloc (.cells #[.slice (some ⟨gr, 0, none⟩) n cr] 69)
  have m1 := k1.alloc (.cells #[.slice (some ⟨gr, 0, none⟩) n cr] 69)
  have m2 := k2.alloc (.cells #[.slice (some ⟨gr, 0, none⟩) n cr] 69)
  have m3 := k3.alloc (.cells #[.slice (some ⟨gr, 0, none⟩) n cr] 69)
  have m4 := Blk.new wc 69 #[.slice (some ⟨gr, 0, none⟩) n cr]
  have hBL : Below w.heap.size w (wc.alloc (.cells #[.slice (some ⟨gr, 0, none⟩) n cr] 69)) := hBc.alloc (by omega) _
  have hszL : (wc.alloc (.cells #[.slice (some ⟨gr, 0, none⟩) n cr] 69)).heap.size = wc.heap.size + 1 := by simp
  have HCL : Hid (∀ i j u, i < n → j < 3 → (stepV n s i).toList[j]? = some u → (wc.alloc (.cells #[.slice (some ⟨gr, 0, none⟩) n cr] 69)).cell? ⟨gr, i * 3 + j, none⟩ = some u) := fun i j u hi hj hu => by
    have h := HCR.out i j u hi hj hu
    rw [World.cell?_alloc_some _ _ _ (by rw [h]; rfl)]; exact h
  generalize wc.alloc (.cells #[.slice (some ⟨gr, 0, none⟩) n cr] 69) = WL at m0 m1 m2 m3 m4 hBL hszL HCL ⊢
  clear k0 k1 k2 k3 HCR hBc
  generalize wc.heap.size = L at m4 hszL hszc hgr1 ⊢
  clear wc
  refine range_law (enc := fun k => #[.int .i64 ((n - 1 - k : Nat) : Int), .agg (stepV n s (n - 1 - k))]) (c := 0) (N := n) (MM := fun k => k = w.heap.size + 1 ∨ k = w.heap.size + 1 + 1 + 1 ∨ L + 3 ≤ k) rfl (enters_of Tryd.func43 (by kernel_rfl) rfl)
    (back_iter 8 n s h1 h2 WL _ L gr cr (by omega) (by omega) (m4.cell rfl) HCL.out (fun k hk => by omega)) (fun k hk => by omega) (fun _ => rfl)
    (fun k W => Blk W w.heap.size 32 [.slice (some ⟨pb, po, none⟩) n cap] ∧ Blk W (w.heap.size + 1) 9 (strs n (cN n s p x k)) ∧ Blk W (w.heap.size + 1 + 1) 32 [.slice (some ⟨w.heap.size + 1, 0, none⟩) n n] ∧ Blk W (w.heap.size + 1 + 1 + 1) 9 [.string (cur n s p x k)] ∧ Below w.heap.size w W)
    (fun _ _ _ => False)
    ?hI (fun _ _ _ _ h _ => h) ⟨m0, by rw [strs_congr n (cN n s p x 0) (fun _ => noB) (fun i hi => cN_zero n s p x i hi)]; exact m1, m2, m3, hBL⟩
    (fun k a' W => ∃ Bx, Blk W Bx 57 (stepV n s (n - 1 - k)).toList ∧ L + 3 ≤ Bx ∧ a' = { tmps := #[.int .i64 (s : Int), .slice (some ⟨pb, po, none⟩) n cap, .string x, undef, .pointer (some ⟨w.heap.size, 0, none⟩), undef, .slice none 0 0, .string noB, .int .i64 0, .int .i64 (N : Int), .pointer (some ⟨w.heap.size + 1 + 1, 0, none⟩), .pointer (some ⟨w.heap.size + 1 + 1 + 1, 0, none⟩), undef, .pointer (some ⟨Bx, 0, none⟩), .slice (some ⟨pb, po, none⟩) n cap, .int .i64 (N : Int), .int .i64 (N : Int), .int .i64 (s : Int), .bool true, .bool false, .string x, .int .i64 32, .bool false, .bool false, .slice (some ⟨pb, po, none⟩) n cap, .bool false, .bool false, .slice (some ⟨pb, po, none⟩) n cap, .int .i64 (n : Int), .slice (some ⟨w.heap.size + 1, 0, none⟩) n n, .string x, .int .i64 (N : Int), .int .i64 (s : Int), .func (.func 37) #[] #[.pointer (some ⟨w.heap.size + 1 + 1 + 1 + 1, 0, none⟩), .pointer (some ⟨w.heap.size + 1 + 1 + 1 + 1 + 1, 0, none⟩)], .slice (some ⟨gr, 0, none⟩) n cr, .func (.func 43) #[] #[.pointer (some ⟨L, 0, none⟩)], .int .i64 ((n - 1 - k : Nat) : Int), .agg (stepV n s (n - 1 - k)), undef, undef, undef, undef, undef, undef, undef, undef, undef, undef, undef, undef, undef, undef, undef, undef, undef, undef, undef, undef, undef], defers := [] }) ?hA ?assign ?body ?done ?stop
  case hI =>
    rintro k A B ⟨q0, q1, q2, q3, q4⟩ hk
    exact ⟨q0.kept hk (by omega), q1.kept hk (by omega), q2.kept hk (by omega), q3.kept hk (by omega), hk.below q4 q4.size (fun j hj => by omega)⟩
  case hA =>
    rintro k a' A B ⟨Bx, hb, hx, rfl⟩ hk
    exact ⟨Bx, hb.kept hk (by omega), hx, rfl⟩
  case assign =>
    rintro k W K hk _ hs hK
    unfold stepV
    have hb := Blk.new W 57 (stepV n s (n - 1 - k))
    unfold stepV at hb
    gi_wp2
    exact hK _ _ ((Kept.refl _ W).alloc _) ⟨W.heap.size, hb, by omega, rfl⟩
  case body =>
    rintro k a' W hk ⟨q0, q1, q2, q3, q4⟩ ⟨Bx, hx, hBx, rfl⟩ hs
    have x0 : W.cell? ⟨Bx, 0, none⟩ = some (.int .i64 ((n - 1 - k : Nat) : Int)) := hx.cell (i := 0) rfl
    have x2 : W.cell? ⟨Bx, 2, none⟩ = some (.int .i64 (sd n s (n - 1 - k) : Int)) := hx.cell (i := 2) rfl
    have hmk : n - 1 - k < n := by omega
    have hcn := fun i => cN_succ n s p x k i hk
    have hcu := cur_succ n s p x k hk
    have hcs := cur_size n s p x h32 k
    have hps := HX.out _ hmk
    have hsd := sd_lt n s (n - 1 - k)
    have hnb : neu n s p x (n - 1 - k) = withB (p (n - 1 - k)) (sd n s (n - 1 - k)) (cur n s p x k) := by unfold neu; rw [show n - 1 - (n - 1 - k) = k by omega]
    obtain ⟨m, hm⟩ : ∃ m, n - 1 - k = m := ⟨_, rfl⟩
    have hns := neu_size n s p x h32 m (HX.out m (by omega))
    rw [hm] at x0 x2 hmk hps hsd hnb hcu hcn hx ⊢
    have hwh := fun z => withHalf_any (p m) (cur n s p x k) (sd n s m) hsd hps hcs z
    rw [← hnb] at hwh
    have HWH : Hid _ := hwh
    have c0 := q0.cell (i := 0) rfl
    have c2 := q2.cell (i := 0) rfl
    have c3 := q3.cell (i := 0) rfl
    have cp : W.cell? ⟨pb, po + m, none⟩ = some (.string (p m)) := (q4.cell (p := ⟨pb, po + m, none⟩) hpb).trans (hcell m hmk)
    have c1 := q1.cell (strs_at n (cN n s p x k) m hmk)
    have f1 := q1.frozen m
    have hmi : (m : Int) < (n : Int) := by omega
    have HCN : Hid _ := hcn
    have HCU : Hid _ := hcu
    clear hm hwh hnb hps hcn hcu
    generalize stepV n s m = sv at hx ⊢
    generalize p m = X at cp HWH
    generalize sd n s m = S at x2 hsd HWH
    generalize cur n s p x k = Y at c3 q3 hcs HWH
    generalize hZ : neu n s p x m = Z at HWH hns
    gi_wp2_with fail
    have r0 : Blk W.drew w.heap.size 32 [.slice (some ⟨pb, po, none⟩) n cap] := q0
    have r1 : Blk W.drew (w.heap.size + 1) 9 (strs n (cN n s p x k)) := q1
    have r2 : Blk W.drew (w.heap.size + 1 + 1) 32 [.slice (some ⟨w.heap.size + 1, 0, none⟩) n n] := q2
    have r3 : Blk W.drew (w.heap.size + 1 + 1 + 1) 9 [.string Y] := q3
    have rx : Blk W.drew Bx 57 sv.toList := hx
    have hkd : Kept (fun _ => False) W W.drew := (Kept.refl _ W).drew
    have rc : Hid (W.drew.cell? ⟨w.heap.size + 1 + 1, 0, none⟩ = some (.slice (some ⟨w.heap.size + 1, 0, none⟩) n n) ∧ W.drew.cell? ⟨Bx, 0, none⟩ = some (.int .i64 (m : Int)) ∧ W.drew.cell? ⟨Bx, 2, none⟩ = some (.int .i64 (S : Int)) ∧ W.drew.cell? ⟨w.heap.size, 0, none⟩ = some (.slice (some ⟨pb, po, none⟩) n cap) ∧ W.drew.cell? ⟨pb, po + m, none⟩ = some (.string X) ∧ W.drew.cell? ⟨w.heap.size + 1 + 1 + 1, 0, none⟩ = some (.string Y)) := ⟨c2, x0, x2, c0, cp, c3⟩
    have hsW : w.heap.size < W.drew.heap.size := q0.lt
    refine region_inRound (S := fun z : World => z.cell? ⟨w.heap.size + 1 + 1, 0, none⟩ = some (.slice (some ⟨w.heap.size + 1, 0, none⟩) n n) ∧ z.cell? ⟨Bx, 0, none⟩ = some (.int .i64 (m : Int)) ∧ z.cell? ⟨Bx, 2, none⟩ = some (.int .i64 (S : Int)) ∧ z.cell? ⟨w.heap.size, 0, none⟩ = some (.slice (some ⟨pb, po, none⟩) n cap) ∧ z.cell? ⟨pb, po + m, none⟩ = some (.string X) ∧ z.cell? ⟨w.heap.size + 1 + 1 + 1, 0, none⟩ = some (.string Y)) (by kernel_rfl) (by kernel_rfl) rc.out (fun hHeld => ?_)
    generalize W.drew = Wd at hHeld r0 r1 r2 r3 rx hkd rc hsW ⊢
    clear c0 c1 c2 c3 cp x0 x2 f1
    refine wpAnyH_take (i := 0) (v := ?_) rfl (by kernel_rfl) (by kernel_rfl) (by kernel_rfl) (fun _ _ _ h => h) (Or.inl ⟨by rfl, ?_⟩) (by assumption) ?_
    rotate_left
    · intro w hSw; go_simp; try with_reducible rfl
    go_simp
    refine wpAnyH_take (i := 1) (v := ?_) rfl (by kernel_rfl) (by kernel_rfl) (by kernel_rfl) (fun _ _ _ h => h) (Or.inl ⟨by rfl, ?_⟩) (by assumption) ?_
    rotate_left
    · intro w hSw; go_simp; try with_reducible rfl
    go_simp
    refine wpAnyH_take (i := 2) (v := ?_) rfl (by kernel_rfl) (by kernel_rfl) (by kernel_rfl) (fun _ _ _ h => h) (Or.inl ⟨by rfl, ?_⟩) (by assumption) ?_
    rotate_left
    · intro w hSw; go_simp; try with_reducible rfl
    go_simp
    refine wpAnyH_take (i := 3) (v := ?_) rfl (by kernel_rfl) (by kernel_rfl) (by kernel_rfl) (fun _ _ _ h => h) (Or.inl ⟨by rfl, ?_⟩) (by assumption) ?_
    rotate_left
    · intro w hSw; go_simp; try with_reducible rfl
    go_simp
    refine wpAnyH_take (i := 4) (v := ?_) rfl (by kernel_rfl) (by kernel_rfl) (by kernel_rfl) (fun _ _ _ h => h) (Or.inl ⟨by rfl, ?_⟩) (by assumption) ?_
    rotate_left
    · intro w hSw; go_simp; try with_reducible rfl
    go_simp
    refine wpAnyH_take (i := 5) (v := ?_) rfl (by kernel_rfl) (by kernel_rfl) (by kernel_rfl) (fun _ _ _ h => h) (Or.inl ⟨by rfl, ?_⟩) (by assumption) ?_
    rotate_left
    · intro w hSw; go_simp; try with_reducible rfl
    go_simp
    refine wpAnyH_take (i := 6) (v := ?_) rfl (by kernel_rfl) (by kernel_rfl) (by kernel_rfl) (fun _ _ _ h => h) (Or.inl ⟨by rfl, ?_⟩) (by assumption) ?_
    rotate_left
    · intro w hSw; go_simp; try with_reducible rfl
    go_simp
    refine wpAnyH_take (i := 7) (v := ?_) rfl (by kernel_rfl) (by kernel_rfl) (by kernel_rfl) (fun _ _ _ h => h) (Or.inl ⟨by rfl, ?_⟩) (by assumption) ?_
    rotate_left
    · intro w hSw; go_simp; try with_reducible rfl
    go_simp
    refine wpAnyH_take (i := 8) (v := ?_) rfl (by kernel_rfl) (by kernel_rfl) (by kernel_rfl) (fun _ _ _ h => h) (Or.inl ⟨by rfl, ?_⟩) (by assumption) ?_
    rotate_left
    · intro w hSw; go_simp; try with_reducible rfl
    go_simp
    refine wpAnyH_take (i := 9) (v := ?_) rfl (by kernel_rfl) (by kernel_rfl) (by kernel_rfl) (fun _ _ _ h => h) (Or.inl ⟨by rfl, ?_⟩) (by assumption) ?_
    rotate_left
    · intro w hSw; go_simp; try with_reducible rfl
    go_simp
    refine wpAnyH_take (i := 10) (v := ?_) rfl (by kernel_rfl) (by kernel_rfl) (by kernel_rfl) (fun _ _ _ h => h) (Or.inl ⟨by rfl, ?_⟩) (by assumption) ?_
    rotate_left
    · intro w hSw; go_simp; try with_reducible rfl
    go_simp
    refine wpAnyH_ready (rs := [11]) (by kernel_rfl) (by simp) (AllReadyH.cons rfl (fun K hK => ?_) AllReadyH.nil)
    go_simp
    go_at_call 36
    refine Calls.mono (HWH.out _) ?_
    rintro e wa ⟨rfl, hwa⟩
    rw [hwa]
    clear hwa wa
    refine hK.out _ _ rc.out (fun hHeld => ?_)
    clear hK K
    refine wpAnyH_take (i := 12) (v := ?_) rfl (by kernel_rfl) (by kernel_rfl) (by kernel_rfl) (fun _ _ _ h => h) (Or.inl ⟨by rfl, ?_⟩) (by assumption) ?_
    rotate_left
    · intro w hSw; go_simp; try with_reducible rfl
    go_simp
    have c1 := r1.cell (strs_at n (cN n s p x k) m hmk)
    have f1 := r1.frozen m
    refine wpAnyH_ready (rs := [13]) (by kernel_rfl) (by simp) (AllReadyH.cons rfl (fun K hK => ?_) AllReadyH.nil)
    go_simp
    refine hK.out _ _ ⟨(World.cell?_setCell_far _ _ _ _ (show w.heap.size + 1 ≠ w.heap.size + 1 + 1 by omega)).trans rc.out.1, (World.cell?_setCell_far _ _ _ _ (show w.heap.size + 1 ≠ Bx by omega)).trans rc.out.2.1, (World.cell?_setCell_far _ _ _ _ (show w.heap.size + 1 ≠ Bx by omega)).trans rc.out.2.2.1, (World.cell?_setCell_far _ _ _ _ (show w.heap.size + 1 ≠ w.heap.size by omega)).trans rc.out.2.2.2.1, (World.cell?_setCell_far _ _ _ _ (show w.heap.size + 1 ≠ pb by omega)).trans rc.out.2.2.2.2.1, (World.cell?_setCell_far _ _ _ _ (show w.heap.size + 1 ≠ w.heap.size + 1 + 1 + 1 by omega)).trans rc.out.2.2.2.2.2⟩ (fun hHeld => ?_)
    clear hK K
    refine wpAnyH_done (by kernel_rfl) ?_ _
    refine Onward.mk ?_
    have t0 := r0.setOther (show w.heap.size ≠ w.heap.size + 1 by omega) m (.string Z)
    have t1 : Blk (Wd.setCell ⟨w.heap.size + 1, m, none⟩ (.string Z)) (w.heap.size + 1) 9 (strs n (cN n s p x (k + 1))) := by
      have := r1.setCell m (.string Z)
      rw [strs_set, ← hZ] at this
      rw [strs_congr n (cN n s p x (k + 1)) _ (fun i _ => (HCN.out i).symm), ← hZ]; exact this
    have t2 := r2.setOther (show w.heap.size + 1 + 1 ≠ w.heap.size + 1 by omega) m (.string Z)
    have t3 := r3.setOther (show w.heap.size + 1 + 1 + 1 ≠ w.heap.size + 1 by omega) m (.string Z)
    have tx := rx.setOther (show Bx ≠ w.heap.size + 1 by omega) m (.string Z)
    have hk2 : Kept (fun j => j = w.heap.size + 1 ∨ j = w.heap.size + 1 + 1 + 1 ∨ L + 3 ≤ j) W (Wd.setCell ⟨w.heap.size + 1, m, none⟩ (.string Z)) := (hkd.mono (fun _ _ h => h.elim)).setCell (.inl (.inl rfl)) _ _
    have y0 := hHeld.2.1
    have y2 := hHeld.1
    clear hHeld c1 f1 r0 r1 r2 r3 rx hkd rc hsW HWH
    generalize Wd.setCell ⟨w.heap.size + 1, m, none⟩ (.string Z) = W2 at t0 t1 t2 t3 tx hk2 y0 y2 ⊢
    have hB2 := hk2.below q4 q4.size (fun j hj => by omega)
    have c1 := t1.cell (strs_at n (cN n s p x (k + 1)) m hmk)
    rw [show cN n s p x (k + 1) m = Z by rw [← hZ, ← HCN.out m]; unfold upd; rw [if_pos rfl]] at c1
    have hnode := node_any Z (by omega) W2 (ht.below hB2 ht.lt)
    rw [show digest (⟨#[1]⟩ ++ Z) = nH Z from rfl] at hnode
    have HNode : Hid _ := hnode
    clear hnode
    gi_wp2_with fail
    refine ⟨trivial, CallsIn.inRound _ ((callsIn_wide.2 HNode.out).mono ?_)⟩
    rintro e w4 ⟨rfl, hb4⟩
    have u0 := t0.below hb4 t0.lt
    have u1 := t1.below hb4 t1.lt
    have u2 := t2.below hb4 t2.lt
    have u3 := t3.below hb4 t3.lt
    have hk4 := hk2.thenBelow hb4
    have c3 := u3.cell (i := 0) rfl
    have f3 := u3.frozen 0
    have hcn : cur n s p x (k + 1) = nH Z := by rw [HCU.out, hZ]
    have hk5 : Kept (fun j => j = w.heap.size + 1 ∨ j = w.heap.size + 1 + 1 + 1 ∨ L + 3 ≤ j) W (w4.setCell ⟨w.heap.size + 1 + 1 + 1, 0, none⟩ (.string (nH Z))) := hk4.setCell (.inl (.inr (.inl rfl))) _ _
    clear HNode t0 t1 t2 t3 tx hk2 c1 y0 y2 hB2
    gi_wp2_with fail
    refine ⟨hk5, u0.setOther (by omega) _ _, u1.setOther (by omega) _ _, u2.setOther (by omega) _ _, ?_, hk5.below q4 q4.size (fun j hj => by omega)⟩
    rw [hcn]
    exact u3.setCell 0 _
  case done =>
    rintro W ⟨q0, q1, q2, q3, q4⟩ hD
    have c2 := q2.cell (i := 0) rfl
    have c3 := q3.cell (i := 0) rfl
    gi_wp2_with fail
    refine wpIn_wide.2 ?_
    go_region
    gi_wp2_with fail
    rw [hszL] at hD
    have hD' : W.drew.heap[L + 1]? = some (.deferred (some [])) := hD
    have hp := Kept.put W.drew (L + 1) (.deferred none)
    refine ⟨by simp, .inl ⟨_, _, rfl, run_takeDeferred hD', ?_⟩⟩
    refine ⟨_, results_tmp3 rfl _ _ _, _, rfl, blk_owns (L := strs n (neu n s p x)) ?_ (strs_length _ _) (by omega) (by omega), ?_⟩
    · rw [strs_congr n (neu n s p x) (cN n s p x n) (fun i _ => (cN_all n s p x i).symm)]
      exact (show Blk W.drew (w.heap.size + 1) 9 (strs n (cN n s p x n)) from q1).kept hp (by omega)
    · exact hp.below (show Below w.heap.size w W.drew from q4.drew) q4.size (fun j hj => by omega)
  case stop =>
    rintro c k W _ h _
    exact h.elim
set_option maxRecDepth 20000 in
theorem put_any (a : Option Addr) (n cap : Nat) (s : Int) (x : ByteArray) (p : Nat → ByteArray) (hn : n ≤ 62) (w : World) (hp : Sa w a n p) (ht : Tabs w) : Calls Tryd.prog 20 #[.int .i64 s, .slice a n cap, .string x] w fun e w' =>
    ∃ v, e = .returned (.tuple #[v, .string (uT n s p x), .int .i64 (uE n s p x)]) ∧ w'.ownsRow w.heap.size 9 1 v (uN n s p x) (strs (uN n s p x) (neu n s.toNat p x)) ∧ Below w.heap.size w w' := by
  by_cases h : okS n s
  · by_cases hx : x.size = 32 ∧ ∀ i, i < n → (p i).size = 64
    · obtain ⟨k, rfl⟩ := Int.eq_ofNat_of_zero_le h.2.2.1
      have h0 := uE_zero h hx
      obtain ⟨h3, h4⟩ := uN_yes h0
      rw [h0, h3, h4, Int.toNat_natCast]
      exact put_ok a n cap k x p h hx w hp ht
    · have h0 := uE_seven h hx
      obtain ⟨h3, h4⟩ := uN_not h0 (by decide)
      rw [h0, h3, h4]
      refine (put_shape a n cap s x p h hx w hp).mono ?_
      rintro e w' ⟨rfl, hb⟩
      exact ⟨_, rfl, World.ownsRow_nil _ _ _ _, hb⟩
  · have h0 := uE_two (p := p) (x := x) h
    obtain ⟨h3, h4⟩ := uN_not h0 (by decide)
    rw [h0, h3, h4]
    refine (put_arg a n cap s x hn h w).mono ?_
    rintro e w' ⟨rfl, hb⟩
    exact ⟨_, rfl, World.ownsRow_nil _ _ _ _, hb⟩
end Go.Proofs.YtbbgagpompgagaaDoor
