/- What the Go function AeadTag answers: true, for every key and nonce, every text and every two numbers. -/
import Derived.Test.YtnpebabffnjmmaaAeWakes
import Derived.Test.YtnpebabffnjmmaaAeKeys
import Derived.Test.YtnpebabffnjmmaaPoConv
namespace Go.Proofs.Ytnpebabffnjmmaa
open Go.RowKit Go.PlainAid
set_option linter.unusedVariables false

/-- A text with the byte at the place i combined with z. -/
def flB (s : ByteArray) (i z : Nat) : ByteArray := strOfNums ((List.range s.size).map fun j => (((if j = i then bn s i ^^^ z else bn s j) : Nat) : Int))
set_option maxRecDepth 20000 in
theorem flB_size (s : ByteArray) (i z : Nat) : (flB s i z).size = s.size := by unfold flB; rw [strOfNums_size]; simp
set_option maxRecDepth 20000 in
theorem bn_flB (s : ByteArray) (i z : Nat) (hz : z < 256) (j : Nat) (hj : j < s.size) : bn (flB s i z) j = if j = i then bn s i ^^^ z else bn s j := by
  have hx : bn s i ^^^ z < 256 := Nat.xor_lt_two_pow (n := 8) (bn_lt s i) hz
  unfold flB bn
  rw [bt_str _ _ j (by simpa using hj)]
  · simp
  · intro x hx'
    obtain ⟨q, _, rfl⟩ := List.mem_map.1 hx'
    have h1 := bn_lt s q
    rw [show (2 : Nat) ^ 8 = 256 from rfl] at h1
    show 0 ≤ (((if q = i then bn s i ^^^ z else bn s q) : Nat) : Int) ∧ (((if q = i then bn s i ^^^ z else bn s q) : Nat) : Int) ≤ 255
    split <;> omega
set_option maxRecDepth 20000 in
theorem flB_zero (s : ByteArray) (i : Nat) : flB s i 0 = s := by
  apply bt_ext (flB_size _ _ _)
  intro j hj
  rw [flB_size] at hj
  rw [← bn_int, ← bn_int, bn_flB s i 0 (by decide) j hj, Nat.xor_zero]
  split
  · rename_i h; rw [h]
  · rfl
set_option maxRecDepth 20000 in
theorem flB_low (s : ByteArray) (i z n : Nat) (hz : z < 256) (hn : n ≤ i) (hi : i < s.size) : (flB s i z).extract 0 n = s.extract 0 n := by
  apply bt_ext
  · rw [ByteArray.size_extract, ByteArray.size_extract, flB_size]
  · intro j hj
    rw [ByteArray.size_extract, flB_size] at hj
    rw [bt_cut _ 0 n j (by rw [flB_size]; omega) (by omega), bt_cut s 0 n j (by omega) (by omega), Nat.zero_add, ← bn_int, ← bn_int, bn_flB s i z hz j (by omega), if_neg (by omega)]
set_option maxRecDepth 20000 in
theorem flB_high (s : ByteArray) (i z n : Nat) (hz : z < 256) (h0 : z ≠ 0) (hn : n ≤ i) (hi : i < s.size) : ¬ (flB s i z).extract n s.size = s.extract n s.size := by
  intro e
  have h1 : bt ((flB s i z).extract n s.size) (i - n) = bt (s.extract n s.size) (i - n) := by rw [e]
  rw [bt_cut _ n s.size (i - n) (by rw [flB_size]; omega) (by omega), bt_cut s n s.size (i - n) (by omega) (by omega), show n + (i - n) = i by omega, ← bn_int, ← bn_int, bn_flB s i z hz i hi, if_pos rfl] at h1
  have h2 : bn s i ^^^ z = bn s i := by omega
  have h3 : (bn s i ^^^ (bn s i ^^^ z)) = bn s i ^^^ bn s i := by rw [h2]
  rw [← Nat.xor_assoc, Nat.xor_self, Nat.zero_xor] at h3
  exact h0 h3
set_option maxRecDepth 20000 in
/-- A sealed text with a byte of its tag another one is not opened. -/
theorem open_flip (key nonce a p : ByteArray) (i z : Nat) (hk : key.size = 32) (hn : nonce.size = 12) (ha : a.size ≤ 16384) (hp : p.size ≤ 16384) (hz : z < 256) (h0 : z ≠ 0) (hi1 : p.size ≤ i) (hi2 : i < p.size + 16) (w : World) :
    Calls Try.prog 13 #[.string key, .string nonce, .string a, .string (flB (slB key nonce a p) i z)] w fun e w' => e = .returned (.tuple #[.string ⟨#[]⟩, .int .i64 23]) ∧ Below w.heap.size w w' := by
  have hs := slB_size key nonce a p
  have h := open_any key nonce a (flB (slB key nonce a p) i z) p.size hk hn (by rw [flB_size, hs]) ha hp w
  rw [flB_low _ i z _ hz hi1 (by omega), slB_bare] at h
  have hne : ¬ (flB (slB key nonce a p) i z).extract p.size (flB (slB key nonce a p) i z).size = atg key nonce a (crB key nonce p) := by
    rw [flB_size, ← slB_last key nonce a p]
    have := flB_high (slB key nonce a p) i z p.size hz h0 hi1 (by omega)
    rw [hs] at this ⊢
    exact this
  rw [if_neg hne] at h
  exact h
set_option maxRecDepth 20000 in
theorem open_flip0 (key nonce a p : ByteArray) (i : Nat) (hk : key.size = 32) (hn : nonce.size = 12) (ha : a.size ≤ 16384) (hp : p.size ≤ 16384) (w : World) :
    Calls Try.prog 13 #[.string key, .string nonce, .string a, .string (flB (slB key nonce a p) i 0)] w fun e w' => e = .returned (.tuple #[.string p, .int .i64 0]) ∧ Below w.heap.size w w' := by
  rw [flB_zero]
  exact open_back key nonce a p hk hn ha hp w

set_option maxRecDepth 20000 in
set_option maxHeartbeats 2000000 in
theorem tagLaw_walk (f : Nat → Nat) (p : ByteArray) (q : Nat → Nat) (hf : ∀ i, f i < 256) (hp : p.size ≤ maxLen) (hq : ∀ i, q i < 256) (w : World) :
    Calls Try.prog 6 #[.agg (nr .u8 46 f).toArray, .string p, .agg (nr .u8 2 q).toArray] w fun e w' => e = .returned (.bool true) ∧ Below w.heap.size w w' := by
  unfold maxLen at hp
  have hB : Blk (w.alloc (.cells (nr .u8 46 f).toArray 26)) w.heap.size 26 (nr .u8 46 f) := Blk.box w 26 _
  have hl : Below w.heap.size w ((w.alloc (.cells (nr .u8 46 f).toArray 26)).alloc (.cells (nr .u8 2 q).toArray 24)) := ((Below.refl _ _).alloc (Nat.le_refl _) _).alloc (by simp) _
  have hB1 : Blk ((w.alloc (.cells (nr .u8 46 f).toArray 26)).alloc (.cells (nr .u8 2 q).toArray 24)) w.heap.size 26 (nr .u8 46 f) := hB.alloc _
  have hQ1 : Blk ((w.alloc (.cells (nr .u8 46 f).toArray 26)).alloc (.cells (nr .u8 2 q).toArray 24)) (w.heap.size + 1) 24 (nr .u8 2 q) := by
    have := Blk.box (w.alloc (.cells (nr .u8 46 f).toArray 26)) 24 (nr .u8 2 q)
    rw [show (w.alloc (.cells (nr .u8 46 f).toArray 26)).heap.size = w.heap.size + 1 by simp] at this
    exact this
  obtain ⟨P, hP0⟩ : ∃ P, min p.size 300 = P := ⟨_, rfl⟩
  have hP : min ((p.size : Nat) : Int) 300 = (P : Int) := by omega
  have hP1 : P ≤ p.size := by omega
  have hP2 : (P : Int) ≤ ((p.size : Nat) : Int) := by omega
  obtain ⟨y, hy⟩ : ∃ y, p.extract 0 P = y := ⟨_, rfl⟩
  have Hy : Hid (y.size ≤ 300) := by
    have h : y.size ≤ 300 := by rw [← hy, ByteArray.size_extract]; omega
    exact h
  have hLl : (nr .u8 46 f).length = 46 := nr_length _ _ _
  have HT := fun w => whole_any f w
  generalize nr .u8 46 f = L at *
  have hq0 := hq 0
  have hq1 := hq 1
  have HQ : Hid (∀ z : World, Blk z (w.heap.size + 1) 24 (nr .u8 2 q) → z.cell? ⟨w.heap.size + 1, 0, none⟩ = some (.int .u8 ((q 0 : Nat) : Int)) ∧ z.cell? ⟨w.heap.size + 1, 1, none⟩ = some (.int .u8 ((q 1 : Nat) : Int))) := fun z hz =>
    ⟨hz.cell (nr_at .u8 2 q 0 (by decide)), hz.cell (nr_at .u8 2 q 1 (by decide))⟩
  generalize nr .u8 2 q = M at *
  generalize q 0 = r at *
  generalize q 1 = x at *
  clear hP0 hf hB hq
  go_enter Try.func6, Try.ntmps6
  go_wp2_with (refine wpList_load_blk rfl 26 _ rfl w.heap.size rfl 26 L _ hB1 Try.underlying26 rfl (by rw [Try.size26, hLl]) ?_)
  generalize (w.alloc (.cells L.toArray 26)).alloc (.cells M.toArray 24) = w1 at hB1 hQ1 hl ⊢
  refine (HT w1).mono ?_
  rintro e w2 ⟨k, n, rfl, hk, hn, hb2⟩
  have hl2 : Below w.heap.size w w2 := hl.trans (hb2.mono hl.size)
  have hQ2 : Blk w2 (w.heap.size + 1) 24 M := hQ1.below hb2 hQ1.lt
  clear hl hb2 hB1 hQ1 hLl HT hP hP1 hP2 hy
  have hys : y.size ≤ 300 := Hy.out
  have p1 := fun w => seal_ok k n ⟨#[]⟩ y hk hn (by decide) (by omega) w
  have hSs := slB_size k n ⟨#[]⟩ y
  obtain ⟨d, hd⟩ : ∃ d, y.size + 15 - r % 16 = d := ⟨_, rfl⟩
  have hdI : ((y.size : Nat) : Int) + 16 - 1 - (r : Int) % 16 = (d : Int) := by omega
  have hd1 : y.size ≤ d := by omega
  have hd2 : d < y.size + 16 := by omega
  have HO : Hid ((x = 0 → ∀ w, Calls Try.prog 13 #[.string k, .string n, .string ⟨#[]⟩, .string (flB (slB k n ⟨#[]⟩ y) d x)] w fun e w' => e = .returned (.tuple #[.string y, .int .i64 0]) ∧ Below w.heap.size w w') ∧
      (x ≠ 0 → ∀ w, Calls Try.prog 13 #[.string k, .string n, .string ⟨#[]⟩, .string (flB (slB k n ⟨#[]⟩ y) d x)] w fun e w' => e = .returned (.tuple #[.string ⟨#[]⟩, .int .i64 23]) ∧ Below w.heap.size w w')) :=
    ⟨fun h w => by rw [h]; exact open_flip0 k n ⟨#[]⟩ y d hk hn (by decide) (by omega) w, fun h w => open_flip k n ⟨#[]⟩ y d x hk hn (by decide) (by omega) hq1 h hd1 hd2 w⟩
  generalize slB k n ⟨#[]⟩ y = S at p1 hSs HO
  clear hk hn
  go_wp2_with fail
  refine (p1 w2).mono ?_
  rintro e w3 ⟨rfl, hb3⟩
  have hl3 := hl2.trans (hb3.mono hl2.size)
  have hQ3 : Blk w3 (w.heap.size + 1) 24 M := hQ2.below hb3 hQ2.lt
  clear hl2 hb3 p1 hQ2
  obtain ⟨N, hN⟩ : ∃ N, S.size = N := ⟨_, rfl⟩
  have hNI : ((S.size : Nat) : Int) = (N : Int) := by omega
  have hN16 : ¬ ((N : Int) < 16) := by omega
  have HN : Hid (S.size = N ∧ N = y.size + 16) := ⟨hN, by omega⟩
  clear hSs hN
  have hdI' : (N : Int) - 1 - (r : Int) % 16 = (d : Int) := by have := HN.out.2; omega
  have hdw1 : IntKind.i64.wrap ((N : Int) - 1) = (N : Int) - 1 := IntWalk.i64_in _ ⟨by omega, by have := HN.out.2; omega⟩
  have hdw2 : IntKind.i64.wrap ((N : Int) - 1 - (r : Int) % 16) = (d : Int) := by rw [hdI']; exact IntWalk.i64_in _ ⟨by omega, by omega⟩
  have hdw3 : IntKind.i64.wrap ((r : Int) % 16) = (r : Int) % 16 := IntWalk.i64_in _ ⟨by omega, by omega⟩
  have hdw4 : IntKind.i64.wrap (d : Int) = (d : Int) := IntWalk.i64_in _ ⟨by omega, by omega⟩
  have hdN : d < N := by have := HN.out.2; omega
  have hdNI : (d : Int) < (N : Int) := by omega
  have hd0 : (0 : Int) ≤ (d : Int) := by omega
  have hxb := bn_lt S d
  rw [show (2 : Nat) ^ 8 = 256 from rfl] at hxb
  have hxor := u8_xor_nat (bn S d) x hxb hq1
  have hrm : (r : Int).tmod 16 = (r : Int) % 16 := Int.tmod_eq_emod_of_nonneg (by omega)
  clear hdI hd hd1 hd2 hq0
  go_wp2_with (go_at_call 12; refine (wakes_any _).mono ?_; rintro e w4 ⟨rfl, hb4⟩; obtain ⟨c, w5, hr, hR, hb5⟩ := rb_of w4 S; rw [HN.out.1] at hr hR)
  have hl4 : Below w.heap.size w w4 := hl3.trans (hb4.mono hl3.size)
  have hl5 : Below w.heap.size w w5 := hl4.trans (hb5.mono hl4.size)
  have hQ4 : Blk w4 (w.heap.size + 1) 24 M := hQ3.below hb4 hQ3.lt
  have hQ5 : Blk w5 (w.heap.size + 1) 24 M := hQ4.below hb5 hQ4.lt
  have hG1 : w.heap.size + 1 < w4.heap.size := hQ4.lt
  obtain ⟨G, hG⟩ : ∃ G, w4.heap.size = G := ⟨_, rfl⟩
  rw [hG] at hR hr hG1
  rw [hG]
  clear hl3 hb4 hb5 hl4 hQ3 hQ4 hr hG
  have hS0 : (fun z : World => Blk z (w.heap.size + 1) 24 M ∧ RB z G N (bn S) ∧ Below w.heap.size w z) w5.drew := ⟨hQ5.drew, hR.drew, hl5.drew⟩
  clear hQ5 hR hl5
  refine wp_region_noPanic ?_
  refine wp_region_C (c := 15) (S := fun z : World => Blk z (w.heap.size + 1) 24 M ∧ RB z G N (bn S) ∧ Below w.heap.size w z) (by kernel_rfl) ?_
  generalize w5.drew = wd at hS0 ⊢
  refine wpAnyC_take (i := 0) (v := ?_) rfl (by kernel_rfl) (by kernel_rfl) (by kernel_rfl) (by kernel_rfl) (fun _ _ _ h => h) (Or.inl ⟨by rfl, ?_⟩) hS0 ?_
  rotate_left
  · intro z hSw; go_simp; try with_reducible rfl
  go_simp
  refine wpAnyC_take (i := 1) (v := ?_) rfl (by kernel_rfl) (by kernel_rfl) (by kernel_rfl) (by kernel_rfl) (fun _ _ _ h => h) (Or.inl ⟨by rfl, ?_⟩) hS0 ?_
  rotate_left
  · intro z hSw; go_simp; try with_reducible rfl
  go_simp
  refine wpAnyC_take (i := 2) (v := ?_) rfl (by kernel_rfl) (by kernel_rfl) (by kernel_rfl) (by kernel_rfl) (fun _ _ _ h => h) (Or.inl ⟨by rfl, ?_⟩) hS0 ?_
  rotate_left
  · intro z hSw; go_simp; try with_reducible rfl
  go_simp
  refine wpAnyC_take (i := 3) (v := ?_) rfl (by kernel_rfl) (by kernel_rfl) (by kernel_rfl) (by kernel_rfl) (fun _ _ _ h => h) (Or.inl ⟨by rfl, ?_⟩) hS0 ?_
  rotate_left
  · intro z hSw; go_simp; try with_reducible rfl
  go_simp
  refine wpAnyC_take (i := 4) (v := ?_) rfl (by kernel_rfl) (by kernel_rfl) (by kernel_rfl) (by kernel_rfl) (fun _ _ _ h => h) (Or.inl ⟨by rfl, ?_⟩) hS0 ?_
  rotate_left
  · intro z hSw; go_simp; try with_reducible rfl
  go_simp
  refine wpAnyC_take (i := 5) (v := ?_) rfl (by kernel_rfl) (by kernel_rfl) (by kernel_rfl) (by kernel_rfl) (fun _ _ _ h => h) (Or.inl ⟨by rfl, ?_⟩) hS0 ?_
  rotate_left
  · intro z hSw; obtain ⟨e0, e1⟩ := HQ.out z hSw.1; go_simp; try with_reducible rfl
  go_simp
  refine wpAnyC_take (i := 6) (v := ?_) rfl (by kernel_rfl) (by kernel_rfl) (by kernel_rfl) (by kernel_rfl) (fun _ _ _ h => h) (Or.inl ⟨by rfl, ?_⟩) hS0 ?_
  rotate_left
  · intro z hSw; go_simp; try with_reducible rfl
  go_simp
  refine wpAnyC_take (i := 7) (v := ?_) rfl (by kernel_rfl) (by kernel_rfl) (by kernel_rfl) (by kernel_rfl) (fun _ _ _ h => h) (Or.inl ⟨by rfl, ?_⟩) hS0 ?_
  rotate_left
  · intro z hSw; go_simp; try with_reducible rfl
  go_simp
  refine wpAnyC_take (i := 8) (v := ?_) rfl (by kernel_rfl) (by kernel_rfl) (by kernel_rfl) (by kernel_rfl) (fun _ _ _ h => h) (Or.inl ⟨by rfl, ?_⟩) hS0 ?_
  rotate_left
  · intro z hSw; go_simp; try with_reducible rfl
  go_simp
  refine wpAnyC_take (i := 9) (v := ?_) rfl (by kernel_rfl) (by kernel_rfl) (by kernel_rfl) (by kernel_rfl) (fun _ _ _ h => h) (Or.inl ⟨by rfl, ?_⟩) hS0 ?_
  rotate_left
  · intro z hSw; go_simp; try with_reducible rfl
  go_simp
  refine wpAnyC_take (i := 10) (v := ?_) rfl (by kernel_rfl) (by kernel_rfl) (by kernel_rfl) (by kernel_rfl) (fun _ _ _ h => h) (Or.inl ⟨by rfl, ?_⟩) hS0 ?_
  rotate_left
  · intro z hSw; obtain ⟨e0, e1⟩ := hSw.2.1.2 d hdN; go_simp; try with_reducible rfl
  go_simp
  refine wpAnyC_take (i := 11) (v := ?_) rfl (by kernel_rfl) (by kernel_rfl) (by kernel_rfl) (by kernel_rfl) (fun _ _ _ h => h) (Or.inl ⟨by rfl, ?_⟩) hS0 ?_
  rotate_left
  · intro z hSw; go_simp; try with_reducible rfl
  go_simp
  refine wpAnyC_take (i := 12) (v := ?_) rfl (by kernel_rfl) (by kernel_rfl) (by kernel_rfl) (by kernel_rfl) (fun _ _ _ h => h) (Or.inl ⟨by rfl, ?_⟩) hS0 ?_
  rotate_left
  · intro z hSw; obtain ⟨e0, e1⟩ := HQ.out z hSw.1; go_simp; try with_reducible rfl
  go_simp
  refine wpAnyC_take (i := 13) (v := ?_) rfl (by kernel_rfl) (by kernel_rfl) (by kernel_rfl) (by kernel_rfl) (fun _ _ _ h => h) (Or.inl ⟨by rfl, ?_⟩) hS0 ?_
  rotate_left
  · intro z hSw; go_simp; try with_reducible rfl
  go_simp
  refine wpAnyC_take (i := 14) (v := ?_) rfl (by kernel_rfl) (by kernel_rfl) (by kernel_rfl) (by kernel_rfl) (fun _ _ _ h => h) (Or.inl ⟨by rfl, ?_⟩) hS0 ?_
  rotate_left
  · intro z hSw; go_simp; try with_reducible rfl
  go_simp
  obtain ⟨e0, e1⟩ := hS0.2.1.2 d hdN
  have hRs := hS0.2.1.set d (bn S d ^^^ x) hdN
  have hQs : Blk (wd.setCell ⟨G, d, none⟩ (.int .u8 ((bn S d ^^^ x : Nat) : Int))) (w.heap.size + 1) 24 M := hS0.1.setOther (by omega) _ _
  have hls : Below w.heap.size w (wd.setCell ⟨G, d, none⟩ (.int .u8 ((bn S d ^^^ x : Nat) : Int))) := hS0.2.2.setCell (by show w.heap.size ≤ G; omega) _
  refine wpAnyC_one (i := 15) (by kernel_rfl) rfl (fun K hK => ?_)
  go_simp
  refine hK.out _ _ (fun h => by cases h) ?_
  clear hK K
  refine wpAnyC_done (by kernel_rfl) ?_ _
  refine NoPanic.normal ?_
  clear hS0 e0 e1
  generalize wd.setCell ⟨G, d, none⟩ (.int .u8 ((bn S d ^^^ x : Nat) : Int)) = w6 at hRs hQs hls ⊢
  have hcv := rb_conv hRs c
  have hfl : strOfNums ((List.range N).map fun i => (((if i = d then bn S d ^^^ x else bn S i) : Nat) : Int)) = flB S d x := by rw [← HN.out.1]; rfl
  rw [hfl] at hcv
  obtain ⟨e0, e1⟩ := HQ.out w6 hQs
  have HQ2 := HQ
  clear hRs hfl hxor hdw1 hdw2 hdw3 hdw4 hdI' hrm hxb
  go_wp2_with fail
  by_cases hx0 : x = 0
  · have p2 := HO.out.1 hx0
    generalize flB S d x = F at p2 hcv ⊢
    have hxI : ((x : Int) == 0) = true := by simp; omega
    have hq := toList_eq y y
    rw [decide_eq_true rfl] at hq
    clear HO hx0
    refine (p2 _).mono ?_
    rintro e w7 ⟨rfl, hb7⟩
    have hl7 := hls.trans (hb7.mono hls.size)
    obtain ⟨g0, g1⟩ := HQ2.out w7 (hQs.below hb7 hQs.lt)
    clear p2 hb7 hls hcv e0 e1
    go_wp2_with fail
    go_ret
    exact ⟨rfl, hl7⟩
  · have p2 := HO.out.2 hx0
    generalize flB S d x = F at p2 hcv ⊢
    have hxI : ((x : Int) == 0) = false := by simp; omega
    clear HO hx0
    refine (p2 _).mono ?_
    rintro e w7 ⟨rfl, hb7⟩
    have hl7 := hls.trans (hb7.mono hls.size)
    obtain ⟨g0, g1⟩ := HQ2.out w7 (hQs.below hb7 hQs.lt)
    clear p2 hb7 hls hcv e0 e1
    go_wp2_with fail
    go_ret
    exact ⟨rfl, hl7⟩
end Go.Proofs.Ytnpebabffnjmmaa
