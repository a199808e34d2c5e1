import Derived.Test.YtokknmkleceooaaGreatDoorBaseM
import Derived.Deep.MidRow
import Derived.Test.YtokknmkleceooaaGreatDoorBufM
import Derived.Deep.AppendLies
import Derived.Maps.AppendAt
namespace Go.Proofs.YtokknmkleceooaaGreatDoor
set_option maxRecDepth 20000
open Go.RowKit Go.PlainAid
set_option linter.unusedVariables false
def W32 (x : Int) : Prop := 0 ≤ x ∧ x < 4294967296
def ad (x y : Int) : Int := (x + y) % 4294967296
theorem ad_lo (x y : Int) : W32 (ad x y) := by unfold ad W32; omega
def xtr (n : Nat) (z x : Int) : Int := turn n (bits .xor .u32 z x)
def q1a (a b c d : Int) : Int := ad a b
def q1d (a b c d : Int) : Int := xtr 16 d (q1a a b c d)
def q1c (a b c d : Int) : Int := ad c (q1d a b c d)
def q1b (a b c d : Int) : Int := xtr 12 b (q1c a b c d)
def qa (a b c d : Int) : Int := ad (q1a a b c d) (q1b a b c d)
def qd (a b c d : Int) : Int := xtr 8 (q1d a b c d) (qa a b c d)
def qc (a b c d : Int) : Int := ad (q1c a b c d) (qd a b c d)
def qb (a b c d : Int) : Int := xtr 7 (q1b a b c d) (qc a b c d)
def qS (S : Nat → Int) (a b c d : Nat) (i : Nat) : Int :=
  if i = d then qd (S a) (S b) (S c) (S d) else if i = c then qc (S a) (S b) (S c) (S d) else if i = b then qb (S a) (S b) (S c) (S d) else if i = a then qa (S a) (S b) (S c) (S d) else S i
def rq (S : Nat → Int) (n : Nat) : Nat → Nat → Int
  | 0 => S
  | k + 1 => qS (rq S n k) k (4 + (k + n) % 4) (8 + (k + 2 * n) % 4) (12 + (k + 3 * n) % 4)
def rn (S : Nat → Int) : Nat → Nat → Int
  | 0 => S
  | k + 1 => rq (rn S k) (k % 2) 4
def out (S : Nat → Int) (i : Nat) : Int := ad (rn S 20 i) (S i)
theorem out_lo (S : Nat → Int) (i : Nat) : 0 ≤ out S i ∧ out S i < 4294967296 := ad_lo _ _
def blkB (S : Nat → Int) : ByteArray := strOfNums (joinF four (out S) 16)
theorem four_length (x : Int) : (four x).length = 4 := rfl
theorem blkB_size (S : Nat → Int) : (blkB S).size = 64 := by unfold blkB; rw [strOfNums_size, joinF_length four four_length]
def cst (i : Nat) : Int := if i = 0 then 1634760805 else if i = 1 then 857760878 else if i = 2 then 2036477234 else 1797285236
def stI (key nonce : ByteArray) (c : Int) (i : Nat) : Int :=
  if i < 4 then cst i else if i < 12 then wordsL le4 key (i - 4) else if i < 13 then c else wordsL le4 nonce (i - 13)
def ks (key nonce : ByteArray) (c : Int) (i : Nat) : Int := bt (blkB (stI key nonce ((c + (i / 64 : Nat)) % 4294967296))) (i % 64)
theorem ks_range (key nonce : ByteArray) (c : Int) (i : Nat) : 0 ≤ ks key nonce c i ∧ ks key nonce c i ≤ 255 := ⟨bt_nonneg _ _, bt_le _ _⟩
def cryL (f : Nat → Int) (s : ByteArray) (n : Nat) : List Int := (List.range n).map fun i => bits .xor .u8 (bt s i) (f i)
def cryB (f : Nat → Int) (s : ByteArray) : ByteArray := strOfNums (cryL f s s.size)
theorem cryB_size (f : Nat → Int) (s : ByteArray) : (cryB f s).size = s.size := by
  unfold cryB; rw [strOfNums_size]; simp [cryL]
theorem cryL_range (f : Nat → Int) (hf : ∀ i, 0 ≤ f i ∧ f i ≤ 255) (s : ByteArray) (n : Nat) : ∀ x ∈ cryL f s n, 0 ≤ x ∧ x ≤ 255 := by
  intro x hx
  obtain ⟨i, _, rfl⟩ := List.mem_map.1 hx
  exact xor8_range _ _ (bt_nonneg s i) (bt_le s i) (hf i).1 (hf i).2
theorem bt_cryB (f : Nat → Int) (hf : ∀ i, 0 ≤ f i ∧ f i ≤ 255) (s : ByteArray) (i : Nat) (h : i < s.size) : bt (cryB f s) i = (((bt s i).toNat ^^^ (f i).toNat : Nat) : Int) := by
  unfold cryB
  rw [bt_str _ (cryL_range f hf s s.size) i (by simpa [cryL] using h)]
  unfold cryL
  rw [List.getElem_map, List.getElem_range]
  have h1 := bt_nonneg s i
  have h2 := bt_le s i
  have h3 := hf i
  rw [u8_xor _ _ h1 (by omega) h3.1 (by omega)]
theorem cryB_twice (f : Nat → Int) (hf : ∀ i, 0 ≤ f i ∧ f i ≤ 255) (s : ByteArray) : cryB f (cryB f s) = s := by
  apply bt_ext
  · rw [cryB_size, cryB_size]
  · intro i hi
    rw [cryB_size, cryB_size] at hi
    rw [bt_cryB f hf _ i (by rw [cryB_size]; exact hi), bt_cryB f hf s i hi]
    have h1 := bt_nonneg s i
    simp only [Int.toNat_natCast, Nat.xor_assoc, Nat.xor_self, Nat.xor_zero]
    omega
theorem left_to (x : Int) (n : Nat) (hn : n < 32) (h : W32 x) (w : World) :
    Calls Tryz.prog 263 #[.int .u32 x, .int .i64 (n : Int)] w fun e w' => e = .returned (.int .u32 (turn n x)) ∧ w' = w := by
  refine (left_any x n h.1 h.2 w).mono ?_
  rintro e w' ⟨rfl, rfl⟩
  refine ⟨?_, rfl⟩
  rw [show ((n : Int) % 32).toNat = n by omega]
theorem meet_any (x y z : Int) (n : Nat) (hn : n < 32) (w : World) :
    Calls Tryz.prog 246 #[.int .u32 x, .int .u32 y, .int .u32 z, .int .i64 (n : Int)] w fun e w' => e = .returned (.tuple #[.int .u32 (ad x y), .int .u32 (xtr n z (ad x y))]) ∧ w' = w := by
  have hl := fun w => left_to (bits .xor .u32 z (ad x y)) n hn (xor_lo _ _) w
  rw [show turn n (bits .xor .u32 z (ad x y)) = xtr n z (ad x y) from rfl] at hl
  obtain ⟨s, hs⟩ : ∃ s, ad x y = s := ⟨_, rfl⟩
  have hs' : (x + y) % 4294967296 = s := hs
  rw [hs] at hl ⊢
  clear hs
  go_enter Tryz.func246, Tryz.ntmps246
  go_wp2_with (go_at_call 263; refine (hl _).mono ?_; rintro e w' ⟨rfl, rfl⟩)
  go_ret2
  exact ⟨rfl, rfl⟩
theorem quarter_any (a b c d : Int) (w : World) :
    Calls Tryz.prog 236 #[.int .u32 a, .int .u32 b, .int .u32 c, .int .u32 d] w fun e w' => e = .returned (.tuple #[.int .u32 (qa a b c d), .int .u32 (qb a b c d), .int .u32 (qc a b c d), .int .u32 (qd a b c d)]) ∧ w' = w := by
  have h1 := fun w => meet_any a b d 16 (by decide) w
  have h2 := fun w => meet_any c (q1d a b c d) b 12 (by decide) w
  have h3 := fun w => meet_any (q1a a b c d) (q1b a b c d) (q1d a b c d) 8 (by decide) w
  have h4 := fun w => meet_any (q1c a b c d) (qd a b c d) (q1b a b c d) 7 (by decide) w
  rw [show xtr 16 d (ad a b) = q1d a b c d from rfl, show ad a b = q1a a b c d from rfl] at h1
  rw [show xtr 12 b (ad c (q1d a b c d)) = q1b a b c d from rfl, show ad c (q1d a b c d) = q1c a b c d from rfl] at h2
  rw [show xtr 8 (q1d a b c d) (ad (q1a a b c d) (q1b a b c d)) = qd a b c d from rfl, show ad (q1a a b c d) (q1b a b c d) = qa a b c d from rfl] at h3
  rw [show xtr 7 (q1b a b c d) (ad (q1c a b c d) (qd a b c d)) = qb a b c d from rfl, show ad (q1c a b c d) (qd a b c d) = qc a b c d from rfl] at h4
  generalize q1a a b c d = a1 at h1 h3
  generalize q1b a b c d = b1 at h2 h3 h4
  generalize q1c a b c d = c1 at h2 h4
  generalize q1d a b c d = d1 at h1 h2 h3
  generalize qa a b c d = A at h3 ⊢
  generalize qb a b c d = B at h4 ⊢
  generalize qc a b c d = C at h4 ⊢
  generalize qd a b c d = D at h3 h4 ⊢
  go_enter Tryz.func236, Tryz.ntmps236
  go_wp2_with fail
  refine (h1 _).mono ?_
  rintro e w' ⟨rfl, rfl⟩
  go_wp2_with fail
  refine (h2 _).mono ?_
  rintro e w' ⟨rfl, rfl⟩
  go_wp2_with fail
  refine (h3 _).mono ?_
  rintro e w' ⟨rfl, rfl⟩
  go_wp2_with fail
  refine (h4 _).mono ?_
  rintro e w' ⟨rfl, rfl⟩
  go_wp2_with fail
  exact bodyPost_ret (v := .tuple #[.int .u32 A, .int .u32 B, .int .u32 C, .int .u32 D]) (by simp [results, Tryz.results236, go_sem]) rfl ⟨rfl, rfl⟩
theorem Tryz.zero246 : (Tryz.prog.info? 246).map (fun i => i.zero) = some (some (.agg (ws 16 (fun _ => 0)).toArray)) := by kernel_rfl
theorem zero246_run (w : World) : (zeroValue 246).run Tryz.prog w = .ok (.agg (ws 16 (fun _ => 0)).toArray) w := by
  obtain ⟨i, hi, hz⟩ := Option.map_eq_some_iff.1 Tryz.zero246
  simp [zeroValue, typeInfo, hi, hz]
theorem Tryz.size246 : (Tryz.prog.info? 246).map (·.size) = some 16 := by kernel_rfl
theorem load246 {w : World} {g : Nat} {T : TypeId} {S : Nat → Int} (h : Blk w g T (ws 16 S)) : (loadVar 246 ⟨g, 0, none⟩).run Tryz.prog w = .ok (.agg (ws 16 S).toArray) w :=
  run_loadVar_row w g T 246 _ (0, 0) _ h Tryz.underlying246 rfl (by rw [Tryz.size246]; simp [ws_length])
theorem ws_four (S : Nat → Int) (a b c d : Nat) (x y z u : Int) : ((((ws 16 S).set a (.int .u32 x)).set b (.int .u32 y)).set c (.int .u32 z)).set d (.int .u32 u) = ws 16 (fun i => if i = d then u else if i = c then z else if i = b then y else if i = a then x else S i) := by
  rw [ws_set, ws_set, ws_set, ws_set]
theorem ws_quarter (S : Nat → Int) (a b c d : Nat) : ((((ws 16 S).set a (.int .u32 (qa (S a) (S b) (S c) (S d)))).set b (.int .u32 (qb (S a) (S b) (S c) (S d)))).set c (.int .u32 (qc (S a) (S b) (S c) (S d)))).set d (.int .u32 (qd (S a) (S b) (S c) (S d))) = ws 16 (qS S a b c d) := by
  rw [ws_four]; rfl
theorem Blk.four {w : World} {g : Nat} {T : TypeId} {S : Nat → Int} (h : Blk w g T (ws 16 S)) (a b c d : Nat) :
    Blk ((((w.setCell ⟨g, a, none⟩ (.int .u32 (qa (S a) (S b) (S c) (S d)))).setCell ⟨g, b, none⟩ (.int .u32 (qb (S a) (S b) (S c) (S d)))).setCell ⟨g, c, none⟩ (.int .u32 (qc (S a) (S b) (S c) (S d)))).setCell ⟨g, d, none⟩ (.int .u32 (qd (S a) (S b) (S c) (S d)))) g T (ws 16 (qS S a b c d)) := by
  rw [← ws_quarter]
  exact (((h.setCell a _).setCell b _).setCell c _).setCell d _
set_option maxHeartbeats 1000000 in
theorem turn16_any (S : Nat → Int) (n : Nat) (hn : n ≤ 1) (w : World) :
    Calls Tryz.prog 204 #[.agg (ws 16 S).toArray, .int .i64 (n : Int)] w fun e w' => e = .returned (.agg (ws 16 (rq S n 4)).toArray) ∧ Below w.heap.size w w' := by
  have hzr := zero246_run
  obtain ⟨Z, hZ⟩ : ∃ Z, ws 16 (fun _ => 0) = Z := ⟨_, rfl⟩
  obtain ⟨Y, hY⟩ : ∃ Y, ws 16 S = Y := ⟨_, rfl⟩
  rw [hZ] at hzr
  rw [hY]
  have HY : Hid (ws 16 S = Y) := hY
  have HZ : Hid (ws 16 (fun _ => 0) = Z) := hZ
  clear hY hZ
  go_enter Tryz.func204, Tryz.ntmps204
  go_wp2_with fail
  have hA0 : Blk ((w.alloc (.cells Y.toArray 246)).alloc (.cells Z.toArray 246)) w.heap.size 246 (ws 16 (rq S n 0)) := by
    show Blk _ _ _ (ws 16 S)
    rw [HY.out]
    have := (Blk.new w 246 Y.toArray).alloc (.cells Z.toArray 246)
    simpa using this
  have hB0 : Blk ((w.alloc (.cells Y.toArray 246)).alloc (.cells Z.toArray 246)) (w.heap.size + 1) 246 (ws 16 (fun _ => 0)) := by
    rw [HZ.out]
    have := Blk.new (w.alloc (.cells Y.toArray 246)) 246 Z.toArray
    simpa using this
  have hl0 : Below w.heap.size w ((w.alloc (.cells Y.toArray 246)).alloc (.cells Z.toArray 246)) := ((Below.refl _ w).alloc (Nat.le_refl _) _).alloc (by simp) _
  clear hzr HZ HY
  generalize (w.alloc (.cells Y.toArray 246)).alloc (.cells Z.toArray 246) = w0 at hA0 hB0 hl0 ⊢
  obtain ⟨g, hgd⟩ : ∃ g, w.heap.size = g := ⟨_, rfl⟩
  rw [hgd] at hA0 hB0 hl0 ⊢
  have HG : Hid (w.heap.size = g) := hgd
  clear hgd
  go_loopw [9] (fun i wr => ∃ k : Nat, k ≤ 4 ∧ i = .int .i64 k ∧ Blk wr g 246 (ws 16 (rq S n k)) ∧ Blk wr (g + 1) 246 (ws 16 (fun _ => 0)) ∧ Below g w wr) (fun i _ => (4 - intOf i).toNat)
  case atStart => exact ⟨0, by omega, rfl, hA0, hB0, hl0⟩
  case round =>
    clear hA0 hB0 hl0
    obtain ⟨k, hk, rfl, hA, hB, hl⟩ := hrel
    by_cases hlt : k < 4
    · have hlt' : (k : Int) < 4 := by omega
      have hkI : (0 : Int) ≤ (k : Int) := by omega
      have hnI : (0 : Int) ≤ (n : Int) := by omega
      obtain ⟨b, hb⟩ : ∃ b : Nat, 4 + (k + n) % 4 = b := ⟨_, rfl⟩
      obtain ⟨c, hc⟩ : ∃ c : Nat, 8 + (k + 2 * n) % 4 = c := ⟨_, rfl⟩
      obtain ⟨d, hd⟩ : ∃ d : Nat, 12 + (k + 3 * n) % 4 = d := ⟨_, rfl⟩
      have eb : 4 + ((k : Int) + (n : Int)) % 4 = (b : Int) := by omega
      have ec : 8 + ((k : Int) + 2 * (n : Int)) % 4 = (c : Int) := by omega
      have ed : 12 + ((k : Int) + 3 * (n : Int)) % 4 = (d : Int) := by omega
      have k16 : k < 16 := by omega
      have b16 : b < 16 := by omega
      have c16 : c < 16 := by omega
      have d16 : d < 16 := by omega
      have hq : rq S n (k + 1) = qS (rq S n k) k b c d := by rw [rq, hb, hc, hd]
      have HQ : Hid (rq S n (k + 1) = qS (rq S n k) k b c d) := hq
      clear hb hc hd hq
      generalize rq S n k = R at hA HQ
      have ck := hA.cell (ws_at 16 R k k16)
      have cb := hA.cell (ws_at 16 R b b16)
      have cc := hA.cell (ws_at 16 R c c16)
      have cd := hA.cell (ws_at 16 R d d16)
      have k16' : (k : Int) < 16 := by omega
      have b16' : (b : Int) < 16 := by omega
      have c16' : (c : Int) < 16 := by omega
      have d16' : (d : Int) < 16 := by omega
      go_wp2_with fail
      have HS : (fun z : World => z.cell? ⟨g, k, none⟩ = some (.int .u32 (R k)) ∧ z.cell? ⟨g, b, none⟩ = some (.int .u32 (R b)) ∧ z.cell? ⟨g, c, none⟩ = some (.int .u32 (R c)) ∧ z.cell? ⟨g, d, none⟩ = some (.int .u32 (R d))) wr.drew := ⟨ck, cb, cc, cd⟩
      have hA1 := Blk.four hA.drew k b c d
      have hB1 : Blk ((((wr.drew.setCell ⟨g, k, none⟩ (.int .u32 (qa (R k) (R b) (R c) (R d)))).setCell ⟨g, b, none⟩ (.int .u32 (qb (R k) (R b) (R c) (R d)))).setCell ⟨g, c, none⟩ (.int .u32 (qc (R k) (R b) (R c) (R d)))).setCell ⟨g, d, none⟩ (.int .u32 (qd (R k) (R b) (R c) (R d)))) (g + 1) 246 (ws 16 (fun _ => 0)) := (((hB.drew.setOther (by omega) k _).setOther (by omega) b _).setOther (by omega) c _).setOther (by omega) d _
      have hl1 : Below g w ((((wr.drew.setCell ⟨g, k, none⟩ (.int .u32 (qa (R k) (R b) (R c) (R d)))).setCell ⟨g, b, none⟩ (.int .u32 (qb (R k) (R b) (R c) (R d)))).setCell ⟨g, c, none⟩ (.int .u32 (qc (R k) (R b) (R c) (R d)))).setCell ⟨g, d, none⟩ (.int .u32 (qd (R k) (R b) (R c) (R d)))) := (((hl.drew.setCell (Nat.le_refl _) _).setCell (Nat.le_refl _) _).setCell (Nat.le_refl _) _).setCell (Nat.le_refl _) _
      have s1 := hA.setCell k (.int .u32 (qa (R k) (R b) (R c) (R d)))
      have s2 := s1.setCell b (.int .u32 (qb (R k) (R b) (R c) (R d)))
      have s3 := s2.setCell c (.int .u32 (qc (R k) (R b) (R c) (R d)))
      have fz0 := hA.frozen k
      have fz1 := s1.frozen b
      have fz2 := s2.frozen c
      have fz3 := s3.frozen d
      obtain ⟨u1, hu1⟩ := s1.hasCell b (by simp [ws_length]; exact b16)
      obtain ⟨u2, hu2⟩ := s2.hasCell c (by simp [ws_length]; exact c16)
      obtain ⟨u3, hu3⟩ := s3.hasCell d (by simp [ws_length]; exact d16)
      clear s1 s2 s3
      have hqu := fun w => quarter_any (R k) (R b) (R c) (R d) w
      clear hA hB hl cb cc cd
      refine wp_region_noPanic ?_
      refine wp_region_C (c := 16) (S := fun z : World => z.cell? ⟨g, k, none⟩ = some (.int .u32 (R k)) ∧ z.cell? ⟨g, b, none⟩ = some (.int .u32 (R b)) ∧ z.cell? ⟨g, c, none⟩ = some (.int .u32 (R c)) ∧ z.cell? ⟨g, d, none⟩ = some (.int .u32 (R d))) (by kernel_rfl) ?_
      refine wpAnyC_takeT (i := 0) (v := ?_) rfl (by kernel_rfl) (by kernel_rfl) (by kernel_rfl) (by kernel_rfl) (fun _ _ _ h => h) (Or.inl ⟨by rfl, ?_⟩) (fun _ => HS) ?_
      rotate_left
      · intro w hSw; go_simp; try with_reducible rfl
      go_simp
      refine wpAnyC_takeT (i := 1) (v := ?_) rfl (by kernel_rfl) (by kernel_rfl) (by kernel_rfl) (by kernel_rfl) (fun _ _ _ h => h) (Or.inl ⟨by rfl, ?_⟩) (fun _ => HS) ?_
      rotate_left
      · intro w hSw; go_simp; try with_reducible rfl
      go_simp
      refine wpAnyC_takeT (i := 2) (v := ?_) rfl (by kernel_rfl) (by kernel_rfl) (by kernel_rfl) (by kernel_rfl) (fun _ _ _ h => h) (Or.inl ⟨by rfl, ?_⟩) (fun _ => HS) ?_
      rotate_left
      · intro w hSw; go_simp; try with_reducible rfl
      go_simp
      refine wpAnyC_takeT (i := 3) (v := ?_) rfl (by kernel_rfl) (by kernel_rfl) (by kernel_rfl) (by kernel_rfl) (fun _ _ _ h => h) (Or.inl ⟨by rfl, ?_⟩) (fun _ => HS) ?_
      rotate_left
      · intro w hSw; go_simp; try with_reducible rfl
      go_simp
      refine wpAnyC_takeT (i := 4) (v := ?_) rfl (by kernel_rfl) (by kernel_rfl) (by kernel_rfl) (by kernel_rfl) (fun _ _ _ h => h) (Or.inl ⟨by rfl, ?_⟩) (fun _ => HS) ?_
      rotate_left
      · intro w hSw; go_simp; try with_reducible rfl
      go_simp
      refine wpAnyC_takeT (i := 5) (v := ?_) rfl (by kernel_rfl) (by kernel_rfl) (by kernel_rfl) (by kernel_rfl) (fun _ _ _ h => h) (Or.inl ⟨by rfl, ?_⟩) (fun _ => HS) ?_
      rotate_left
      · intro w hSw; go_simp; try with_reducible rfl
      go_simp
      refine wpAnyC_takeT (i := 7) (v := ?_) rfl (by kernel_rfl) (by kernel_rfl) (by kernel_rfl) (by kernel_rfl) (fun _ _ _ h => h) (Or.inl ⟨by rfl, ?_⟩) (fun _ => HS) ?_
      rotate_left
      · intro w hSw; go_simp; try with_reducible rfl
      go_simp
      refine wpAnyC_takeT (i := 8) (v := ?_) rfl (by kernel_rfl) (by kernel_rfl) (by kernel_rfl) (by kernel_rfl) (fun _ _ _ h => h) (Or.inl ⟨by rfl, ?_⟩) (fun _ => HS) ?_
      rotate_left
      · intro w hSw; go_simp; try with_reducible rfl
      go_simp
      refine wpAnyC_takeT (i := 10) (v := ?_) rfl (by kernel_rfl) (by kernel_rfl) (by kernel_rfl) (by kernel_rfl) (fun _ _ _ h => h) (Or.inl ⟨by rfl, ?_⟩) (fun _ => HS) ?_
      rotate_left
      · intro w hSw; go_simp; try with_reducible rfl
      go_simp
      refine wpAnyC_takeT (i := 11) (v := ?_) rfl (by kernel_rfl) (by kernel_rfl) (by kernel_rfl) (by kernel_rfl) (fun _ _ _ h => h) (Or.inl ⟨by rfl, ?_⟩) (fun _ => HS) ?_
      rotate_left
      · intro w hSw; go_simp; try with_reducible rfl
      go_simp
      refine wpAnyC_takeT (i := 13) (v := ?_) rfl (by kernel_rfl) (by kernel_rfl) (by kernel_rfl) (by kernel_rfl) (fun _ _ _ h => h) (Or.inl ⟨by rfl, ?_⟩) (fun _ => HS) ?_
      rotate_left
      · intro w hSw; go_simp; try with_reducible rfl
      go_simp
      refine wpAnyC_takeT (i := 14) (v := ?_) rfl (by kernel_rfl) (by kernel_rfl) (by kernel_rfl) (by kernel_rfl) (fun _ _ _ h => h) (Or.inl ⟨by rfl, ?_⟩) (fun _ => HS) ?_
      rotate_left
      · intro w hSw; go_simp; try with_reducible rfl
      go_simp
      refine wpAnyC_take (i := 6) (v := ?_) rfl (by kernel_rfl) (by kernel_rfl) (by kernel_rfl) (by kernel_rfl) (fun _ _ _ h => h) (Or.inl ⟨by rfl, ?_⟩) HS ?_
      rotate_left
      · rintro w ⟨s0, s1, s2, s3⟩; go_simp; try with_reducible rfl
      go_simp
      refine wpAnyC_take (i := 9) (v := ?_) rfl (by kernel_rfl) (by kernel_rfl) (by kernel_rfl) (by kernel_rfl) (fun _ _ _ h => h) (Or.inl ⟨by rfl, ?_⟩) HS ?_
      rotate_left
      · rintro w ⟨s0, s1, s2, s3⟩; go_simp; try with_reducible rfl
      go_simp
      refine wpAnyC_take (i := 12) (v := ?_) rfl (by kernel_rfl) (by kernel_rfl) (by kernel_rfl) (by kernel_rfl) (fun _ _ _ h => h) (Or.inl ⟨by rfl, ?_⟩) HS ?_
      rotate_left
      · rintro w ⟨s0, s1, s2, s3⟩; go_simp; try with_reducible rfl
      go_simp
      refine wpAnyC_take (i := 15) (v := ?_) rfl (by kernel_rfl) (by kernel_rfl) (by kernel_rfl) (by kernel_rfl) (fun _ _ _ h => h) (Or.inl ⟨by rfl, ?_⟩) HS ?_
      rotate_left
      · rintro w ⟨s0, s1, s2, s3⟩; go_simp; try with_reducible rfl
      go_simp
      refine wpAnyC_one (i := 16) (by kernel_rfl) rfl (fun K hK => ?_)
      go_simp
      go_at_call 236
      refine (hqu _).mono ?_
      rintro e wx ⟨rfl, rfl⟩
      go_simp
      refine hK.out _ _ (fun h => by cases h) ?_
      clear hK K
      refine wpAnyC_takeT (i := 17) (v := ?_) rfl (by kernel_rfl) (by kernel_rfl) (by kernel_rfl) (by kernel_rfl) (fun _ _ _ h => h) (Or.inl ⟨by rfl, ?_⟩) (fun h => by cases h) ?_
      rotate_left
      · intro w hSw; go_simp; try with_reducible rfl
      go_simp
      refine wpAnyC_takeT (i := 18) (v := ?_) rfl (by kernel_rfl) (by kernel_rfl) (by kernel_rfl) (by kernel_rfl) (fun _ _ _ h => h) (Or.inl ⟨by rfl, ?_⟩) (fun h => by cases h) ?_
      rotate_left
      · intro w hSw; go_simp; try with_reducible rfl
      go_simp
      refine wpAnyC_takeT (i := 19) (v := ?_) rfl (by kernel_rfl) (by kernel_rfl) (by kernel_rfl) (by kernel_rfl) (fun _ _ _ h => h) (Or.inl ⟨by rfl, ?_⟩) (fun h => by cases h) ?_
      rotate_left
      · intro w hSw; go_simp; try with_reducible rfl
      go_simp
      refine wpAnyC_takeT (i := 20) (v := ?_) rfl (by kernel_rfl) (by kernel_rfl) (by kernel_rfl) (by kernel_rfl) (fun _ _ _ h => h) (Or.inl ⟨by rfl, ?_⟩) (fun h => by cases h) ?_
      rotate_left
      · intro w hSw; go_simp; try with_reducible rfl
      go_simp
      refine wpAnyC_takeT (i := 21) (v := ?_) rfl (by kernel_rfl) (by kernel_rfl) (by kernel_rfl) (by kernel_rfl) (fun _ _ _ h => h) (Or.inl ⟨by rfl, ?_⟩) (fun h => by cases h) ?_
      rotate_left
      · intro w hSw; go_simp; try with_reducible rfl
      go_simp
      refine wpAnyC_takeT (i := 22) (v := ?_) rfl (by kernel_rfl) (by kernel_rfl) (by kernel_rfl) (by kernel_rfl) (fun _ _ _ h => h) (Or.inl ⟨by rfl, ?_⟩) (fun h => by cases h) ?_
      rotate_left
      · intro w hSw; go_simp; try with_reducible rfl
      go_simp
      refine wpAnyC_one (i := 23) (by kernel_rfl) rfl (fun K hK => ?_)
      go_simp
      refine hK.out _ _ (fun h => by cases h) ?_
      clear hK K
      refine wpAnyC_takeT (i := 24) (v := ?_) rfl (by kernel_rfl) (by kernel_rfl) (by kernel_rfl) (by kernel_rfl) (fun _ _ _ h => h) (Or.inl ⟨by rfl, ?_⟩) (fun h => by cases h) ?_
      rotate_left
      · intro w hSw; go_simp; try with_reducible rfl
      go_simp
      refine wpAnyC_one (i := 25) (by kernel_rfl) rfl (fun K hK => ?_)
      go_simp
      refine hK.out _ _ (fun h => by cases h) ?_
      clear hK K
      refine wpAnyC_takeT (i := 26) (v := ?_) rfl (by kernel_rfl) (by kernel_rfl) (by kernel_rfl) (by kernel_rfl) (fun _ _ _ h => h) (Or.inl ⟨by rfl, ?_⟩) (fun h => by cases h) ?_
      rotate_left
      · intro w hSw; go_simp; try with_reducible rfl
      go_simp
      refine wpAnyC_one (i := 27) (by kernel_rfl) rfl (fun K hK => ?_)
      go_simp
      refine hK.out _ _ (fun h => by cases h) ?_
      clear hK K
      refine wpAnyC_takeT (i := 28) (v := ?_) rfl (by kernel_rfl) (by kernel_rfl) (by kernel_rfl) (by kernel_rfl) (fun _ _ _ h => h) (Or.inl ⟨by rfl, ?_⟩) (fun h => by cases h) ?_
      rotate_left
      · intro w hSw; go_simp; try with_reducible rfl
      go_simp
      refine wpAnyC_one (i := 29) (by kernel_rfl) rfl (fun K hK => ?_)
      go_simp
      refine hK.out _ _ (fun h => by cases h) ?_
      clear hK K
      refine wpAnyC_done (by kernel_rfl) ?_ _
      refine NoPanic.normal ?_
      rw [← HQ.out] at hA1
      clear hqu fz0 fz1 fz2 fz3 HS HQ hu1 hu2 hu3 ck
      generalize qa (R k) (R b) (R c) (R d) = va at hA1 hB1 hl1 ⊢
      generalize qb (R k) (R b) (R c) (R d) = vb at hA1 hB1 hl1 ⊢
      generalize qc (R k) (R b) (R c) (R d) = vc at hA1 hB1 hl1 ⊢
      generalize qd (R k) (R b) (R c) (R d) = vd at hA1 hB1 hl1 ⊢
      have hA2 : Blk ((((wr.setCell ⟨g, k, none⟩ (.int .u32 va)).setCell ⟨g, b, none⟩ (.int .u32 vb)).setCell ⟨g, c, none⟩ (.int .u32 vc)).setCell ⟨g, d, none⟩ (.int .u32 vd)).drew g 246 _ := hA1
      have hB2 : Blk ((((wr.setCell ⟨g, k, none⟩ (.int .u32 va)).setCell ⟨g, b, none⟩ (.int .u32 vb)).setCell ⟨g, c, none⟩ (.int .u32 vc)).setCell ⟨g, d, none⟩ (.int .u32 vd)).drew (g + 1) 246 _ := hB1
      have hl2 : Below g w ((((wr.setCell ⟨g, k, none⟩ (.int .u32 va)).setCell ⟨g, b, none⟩ (.int .u32 vb)).setCell ⟨g, c, none⟩ (.int .u32 vc)).setCell ⟨g, d, none⟩ (.int .u32 vd)).drew := hl1
      clear hA1 hB1 hl1
      generalize ((((wr.setCell ⟨g, k, none⟩ (.int .u32 va)).setCell ⟨g, b, none⟩ (.int .u32 vb)).setCell ⟨g, c, none⟩ (.int .u32 vc)).setCell ⟨g, d, none⟩ (.int .u32 vd)).drew = w4 at hA2 hB2 hl2 ⊢
      go_wp2_with fail
      go_roundw
      case rel => exact ⟨k + 1, by omega, by go_num, hA2, hB2, hl2⟩
      case measure => simp [intOf]; omega
    · have hk4 : k = 4 := by omega
      subst hk4
      have hA' : Blk (wr.setRow (g + 1) (ws 16 (rq S n 4)).toArray) (g + 1) 246 (ws 16 (rq S n 4)) := hB.setRow
      have hR := load246 hA'
      have hl' : Below g w (wr.setRow (g + 1) (ws 16 (rq S n 4)).toArray) := below_setRow hl (by omega) _
      obtain ⟨U, hU⟩ : ∃ U, ws 16 (rq S n 4) = U := ⟨_, rfl⟩
      have hUl : U.length = 16 := by rw [← hU, ws_length]
      have hUo : ∀ v ∈ U, v.oneCell' = true := by rw [← hU]; exact ws_one _ _
      rw [hU] at hA hR hl'
      have HU : Hid (ws 16 (rq S n 4) = U) := hU
      clear hA' hl hU
      go_wp2_with (first | (refine wpList_load_blk rfl 246 _ rfl g rfl 246 U _ hA Tryz.underlying246 rfl (by rw [Tryz.size246, hUl]) ?_) | (refine wpList_store_blk rfl 246 _ _ rfl (g + 1) _ U rfl rfl 246 hB (by rw [Tryz.size246, hUl]) (by rw [ws_length, hUl]) hUo ?_))
      refine bodyPost_ret_by (v := .agg U.toArray) (results_cell 4 246 ⟨g + 1, 0, none⟩ Tryz.results204 rfl hR) rfl ⟨by rw [HU.out], ?_⟩
      rw [HG.out]; exact hl'
set_option maxHeartbeats 1000000 in
theorem bloc_any (S : Nat → Int) (w : World) :
    Calls Tryz.prog 168 #[.agg (ws 16 S).toArray] w fun e w' => e = .returned (.string (blkB S)) ∧ Below w.heap.size w w' := by
  have hzr := zero246_run
  obtain ⟨Z, hZ⟩ : ∃ Z, ws 16 (fun _ => 0) = Z := ⟨_, rfl⟩
  obtain ⟨Y, hY⟩ : ∃ Y, ws 16 S = Y := ⟨_, rfl⟩
  rw [hZ] at hzr
  rw [hY]
  have hYs : Y.length = 16 := by rw [← hY, ws_length]
  have hZs : Z.length = 16 := by rw [← hZ, ws_length]
  have hYo : ∀ v ∈ Y, v.oneCell' = true := by rw [← hY]; exact ws_one _ _
  have HY : Hid (ws 16 S = Y) := hY
  clear hY hZ
  have hL0 : Blk (w.alloc (.cells Y.toArray 246)) w.heap.size 246 Y := by
    have := Blk.new w 246 Y.toArray
    simpa using this
  have hS0 : Blk ((w.alloc (.cells Y.toArray 246)).alloc (.cells Z.toArray 246)) (w.heap.size + 1) 246 Z := by
    have := Blk.new (w.alloc (.cells Y.toArray 246)) 246 Z.toArray
    simpa using this
  have hb0 : Below w.heap.size w ((w.alloc (.cells Y.toArray 246)).alloc (.cells Z.toArray 246)) := ((Below.refl _ w).alloc (Nat.le_refl _) _).alloc (by simp) _
  go_enter Tryz.func168, Tryz.ntmps168
  go_wp2_with (first | (refine wpList_load_blk rfl 246 _ rfl w.heap.size rfl 246 Y _ hL0 Tryz.underlying246 rfl (by rw [Tryz.size246, hYs]) ?_) | (refine wpList_store_blk rfl 246 _ _ rfl (w.heap.size + 1) Z Y rfl rfl 246 hS0 (by rw [Tryz.size246, hYs]) (by rw [hZs, hYs]) hYo ?_))
  have hn : Blk (((w.alloc (.cells Y.toArray 246)).alloc (.cells Z.toArray 246)).setRow (w.heap.size + 1) Y.toArray) (w.heap.size + 1) 246 (ws 16 S) := by
    rw [HY.out]; exact hS0.setRow
  have hs : Blk (((w.alloc (.cells Y.toArray 246)).alloc (.cells Z.toArray 246)).setRow (w.heap.size + 1) Y.toArray) w.heap.size 246 (ws 16 S) := by
    rw [HY.out]; exact (hL0.alloc _).setRowOther (by omega) _
  have hb1 : Below w.heap.size w (((w.alloc (.cells Y.toArray 246)).alloc (.cells Z.toArray 246)).setRow (w.heap.size + 1) Y.toArray) := below_setRow hb0 (by omega) _
  clear hL0 hS0 hb0 hzr hYs hZs hYo HY
  generalize (((w.alloc (.cells Y.toArray 246)).alloc (.cells Z.toArray 246)).setRow (w.heap.size + 1) Y.toArray) = w0 at hn hs hb1 ⊢
  obtain ⟨g, hgd⟩ : ∃ g, w.heap.size = g := ⟨_, rfl⟩
  rw [hgd] at hn hs hb1 ⊢
  have HG : Hid (w.heap.size = g) := hgd
  clear hgd
  go_loopw [7] (fun i wr => ∃ k : Nat, k ≤ 20 ∧ i = .int .i64 k ∧ Blk wr (g + 1) 246 (ws 16 (rn S k)) ∧ Blk wr g 246 (ws 16 S) ∧ Below g w wr) (fun i _ => (20 - intOf i).toNat)
  case atStart => exact ⟨0, by omega, rfl, hn, hs, hb1⟩
  case round =>
    clear hn hs hb1
    obtain ⟨k, hk, rfl, hn, hs, hl⟩ := hrel
    by_cases hlt : k < 20
    · have hlt' : (k : Int) < 20 := by omega
      obtain ⟨m, hm⟩ : ∃ m : Nat, k % 2 = m := ⟨_, rfl⟩
      have em : (k : Int) % 2 = (m : Int) := by omega
      have hcall := turn16_any (rn S k) m (by omega) wr
      have HQ : Hid (ws 16 (rn S (k + 1)) = ws 16 (rq (rn S k) m 4)) := by rw [← hm]; exact rfl
      obtain ⟨U, hU⟩ : ∃ U, ws 16 (rn S k) = U := ⟨_, rfl⟩
      obtain ⟨V, hV⟩ : ∃ V, ws 16 (rq (rn S k) m 4) = V := ⟨_, rfl⟩
      have hUl : U.length = 16 := by rw [← hU, ws_length]
      have hVl : V.length = 16 := by rw [← hV, ws_length]
      have hVo : ∀ v ∈ V, v.oneCell' = true := by rw [← hV]; exact ws_one _ _
      rw [hU] at hcall hn
      rw [hV] at hcall HQ
      clear hU hV hm
      have hfin : ∀ w2, Below wr.heap.size wr w2 → Blk w2 (g + 1) 246 U ∧ Blk (w2.setRow (g + 1) V.toArray) (g + 1) 246 V ∧ Blk (w2.setRow (g + 1) V.toArray) g 246 (ws 16 S) ∧ Below g w (w2.setRow (g + 1) V.toArray) := by
        intro w2 hb
        have h1 := hn.below hb hn.lt
        refine ⟨h1, h1.setRow, (hs.below hb hs.lt).setRowOther (by omega) _, below_setRow (hl.trans (hb.mono (Nat.le_of_lt hs.lt))) (by omega) _⟩
      go_wp2_with (first | (refine wpList_load_blk rfl 246 _ rfl (g + 1) rfl 246 U _ hn Tryz.underlying246 rfl (by rw [Tryz.size246, hUl]) ?_) | (go_at_call 204; refine hcall.mono ?_; rintro e w2 ⟨rfl, hb2⟩; obtain ⟨hU2, hV2, hs2, hl2⟩ := hfin w2 hb2) | (refine wpList_store_blk rfl 246 _ _ rfl (g + 1) U V rfl rfl 246 hU2 (by rw [Tryz.size246, hVl]) (by rw [hUl, hVl]) hVo ?_))
      clear hcall hfin hU2 hb2 hn hs hl
      generalize w2.setRow (g + 1) V.toArray = w3 at hV2 hs2 hl2 ⊢
      go_roundw
      case rel => exact ⟨k + 1, by omega, by go_num, by rw [HQ.out]; exact hV2, hs2, hl2⟩
      case measure => simp [intOf]; omega
    · have hk20 : k = 20 := by omega
      subst hk20
      rw [show ((20 : Nat) : Int) = (20 : Int) from rfl]
      have HO : Hid (∀ i, out S i = (rn S 20 i + S i) % 4294967296) := fun i => rfl
      generalize rn S 20 = R at hn HO
      go_wp2_with fail
      go_loopw [15] (fun i wr => ∃ q : Nat, q ≤ 16 ∧ i = .int .i64 q ∧ Blk wr (g + 1) 246 (ws 16 (fun i => if i < q then (R i + S i) % 4294967296 else R i)) ∧ Blk wr g 246 (ws 16 S) ∧ Below g w wr) (fun i _ => (16 - intOf i).toNat)
      case atStart => exact ⟨0, by omega, rfl, hn, hs, hl⟩
      case round =>
        clear hn hs hl
        obtain ⟨q, hq, rfl, hn, hs, hl⟩ := hrel
        by_cases hlt2 : q < 16
        · have hq' : (q : Int) < 16 := by omega
          have cn : wr.cell? ⟨g + 1, q, none⟩ = some (.int .u32 (R q)) := by
            have := hn.cell (ws_at 16 _ q hlt2)
            rw [if_neg (by omega)] at this; exact this
          have cs := hs.cell (ws_at 16 S q hlt2)
          have fn := hn.frozen q
          obtain ⟨V, hV⟩ : ∃ V, IntKind.u32.wrap (R q + S q) = V := ⟨_, rfl⟩
          have HV : Hid ((R q + S q) % 4294967296 = V) := by rw [← hV, IntKind.wrap_u32']; exact rfl
          have hn2 : Blk (wr.drew.setCell ⟨g + 1, q, none⟩ (.int .u32 V)) (g + 1) 246 (ws 16 (fun i => if i < q + 1 then (R i + S i) % 4294967296 else R i)) := by
            have hh := hn.drew.setCell q (.int .u32 V)
            rw [ws_set] at hh
            rw [ws_congr 16 (fun i => if i < q + 1 then (R i + S i) % 4294967296 else R i) (fun i => if i = q then V else if i < q then (R i + S i) % 4294967296 else R i) ?_]
            · exact hh
            · intro i _
              show (if i < q + 1 then (R i + S i) % 4294967296 else R i) = if i = q then V else if i < q then (R i + S i) % 4294967296 else R i
              by_cases h1 : i = q
              · subst h1; rw [if_pos (by omega), if_pos rfl, HV.out]
              · rw [if_neg h1]
                by_cases h2 : i < q
                · rw [if_pos h2, if_pos (by omega)]
                · rw [if_neg h2, if_neg (by omega)]
          have hs2 : Blk (wr.drew.setCell ⟨g + 1, q, none⟩ (.int .u32 V)) g 246 (ws 16 S) := hs.drew.setOther (by omega) q _
          have hl2 : Below g w (wr.drew.setCell ⟨g + 1, q, none⟩ (.int .u32 V)) := hl.drew.setCell (by show g ≤ g + 1; omega) _
          have es := hs2.cell (ws_at 16 S q hlt2)
          clear hn hs hl HV
          go_wp2_with fail
          refine wp_region_noPanic ?_
          refine wp_region_held_drew (S := fun z => z.cell? ⟨g, q, none⟩ = some (.int .u32 (S q))) (by kernel_rfl) cs (fun hHeld => ?_)
          refine tkH 0 ?_; go_simp
          refine tkH 1 ?_; go_simp
          refine tkH 3 ?_; go_simp
          refine tkH 4 ?_; go_simp
          refine tkH 5 ?_; go_simp
          refine rdH 2 fun K hK => ?_
          go_simp
          refine hK.out _ _ cs (fun hHeld => ?_)
          clear hK K
          refine tkH 6 ?_; go_simp
          refine tkH 7 ?_; go_simp
          refine rdH 8 fun K hK => ?_
          go_simp
          refine hK.out _ _ es (fun hHeld => ?_)
          clear hK K
          refine wpAnyH_done (by kernel_rfl) ?_ _
          refine NoPanic.normal ?_
          have hn3 : Blk (wr.setCell ⟨g + 1, q, none⟩ (.int .u32 V)).drew (g + 1) 246 _ := hn2
          have hs3 : Blk (wr.setCell ⟨g + 1, q, none⟩ (.int .u32 V)).drew g 246 _ := hs2
          have hl3 : Below g w (wr.setCell ⟨g + 1, q, none⟩ (.int .u32 V)).drew := hl2
          clear hn2 hs2 hl2 es cs cn fn hV
          generalize (wr.setCell ⟨g + 1, q, none⟩ (.int .u32 V)).drew = w4 at hn3 hs3 hl3 ⊢
          go_wp2_with fail
          go_roundw
          case rel => exact ⟨q + 1, by omega, by go_num, hn3, hs3, hl3⟩
          case measure => simp [intOf]; omega
        · have hq16 : q = 16 := by omega
          subst hq16
          have hat : At wr (some ⟨g + 1, 0, none⟩) 16 (out S) := .inr ⟨g + 1, 0, rfl, fun i hi => by
            rw [Nat.zero_add, HO.out i]
            have := hn.cell (ws_at 16 _ i hi)
            rw [if_pos hi] at this; exact this⟩
          have hcall := fromLittle_any (some ⟨g + 1, 0, none⟩) 16 16 (out S) wr (by omega) hat (fun i _ => out_lo S i)
          rw [show strOfNums (joinF four (out S) 16) = blkB S from rfl] at hcall
          have hgl : g ≤ wr.heap.size := Nat.le_of_lt hs.lt
          clear hat hn hs HO
          go_wp2_with (go_at_call 203; refine hcall.mono ?_; rintro e w5 ⟨rfl, hb5⟩)
          go_ret
          refine ⟨rfl, ?_⟩
          rw [HG.out]
          exact hl.trans (hb5.mono hgl)
def cB : ByteArray := ⟨#[101, 120, 112, 97, 110, 100, 32, 51, 50, 45, 98, 121, 116, 101, 32, 107]⟩
theorem cB_words (i : Nat) (h : i < 4) : wordsL le4 cB i = cst i := by
  have e : i = 0 ∨ i = 1 ∨ i = 2 ∨ i = 3 := by omega
  rcases e with rfl | rfl | rfl | rfl <;> decide +kernel
def wB (c : Int) : ByteArray := strOfNums (joinF four (fun _ => c) 1)
theorem wB_size (c : Int) : (wB c).size = 4 := by unfold wB; rw [strOfNums_size, joinF_length four four_length]
theorem wB_word (c : Int) (h : W32 c) : le4 (bt (wB c) 0) (bt (wB c) 1) (bt (wB c) 2) (bt (wB c) 3) = c := by
  obtain ⟨h0, h1⟩ := h
  have e : wB c = strOfNums (four c) := rfl
  have hl : ∀ x ∈ four c, 0 ≤ x ∧ x ≤ 255 := by
    intro x hx
    simp only [four, List.mem_cons, List.not_mem_nil, or_false] at hx
    rcases hx with rfl | rfl | rfl | rfl <;> omega
  rw [e, bt_str _ hl 0 (by rw [four_length]; decide), bt_str _ hl 1 (by rw [four_length]; decide), bt_str _ hl 2 (by rw [four_length]; decide), bt_str _ hl 3 (by rw [four_length]; decide)]
  simp only [four, le4, List.getElem_cons_zero, List.getElem_cons_succ]
  omega
def tB (key nonce : ByteArray) (c : Int) : ByteArray := cB ++ key ++ wB c ++ nonce
theorem tB_size (key nonce : ByteArray) (c : Int) (hk : key.size = 32) (hn : nonce.size = 12) : (tB key nonce c).size = 64 := by
  unfold tB
  simp only [ByteArray.size_append, wB_size, hk, hn, show cB.size = 16 from rfl]
theorem bt_tB_c (key nonce : ByteArray) (c : Int) (hk : key.size = 32) (j : Nat) (h : j < 16) : bt (tB key nonce c) j = bt cB j := by
  unfold tB
  rw [bt_left _ _ _ (by simp only [ByteArray.size_append, hk, show cB.size = 16 from rfl, wB_size]; omega), bt_left _ _ _ (by simp only [ByteArray.size_append, hk, show cB.size = 16 from rfl]; omega), bt_left _ _ _ (by rw [show cB.size = 16 from rfl]; exact h)]
theorem bt_tB_k (key nonce : ByteArray) (c : Int) (hk : key.size = 32) (j : Nat) (h : j < 32) : bt (tB key nonce c) (16 + j) = bt key j := by
  unfold tB
  rw [bt_left _ _ _ (by simp only [ByteArray.size_append, hk, show cB.size = 16 from rfl, wB_size]; omega), bt_left _ _ _ (by simp only [ByteArray.size_append, hk, show cB.size = 16 from rfl]; omega), bt_right _ _ _ (by rw [show cB.size = 16 from rfl]; omega), show cB.size = 16 from rfl, Nat.add_sub_cancel_left]
theorem bt_tB_w (key nonce : ByteArray) (c : Int) (hk : key.size = 32) (j : Nat) (h : j < 4) : bt (tB key nonce c) (48 + j) = bt (wB c) j := by
  unfold tB
  rw [bt_left _ _ _ (by simp only [ByteArray.size_append, hk, show cB.size = 16 from rfl, wB_size]; omega), bt_right _ _ _ (by simp only [ByteArray.size_append, hk, show cB.size = 16 from rfl]; omega)]
  simp only [ByteArray.size_append, hk, show cB.size = 16 from rfl]
  rw [show 48 + j - (16 + 32) = j by omega]
theorem bt_tB_n (key nonce : ByteArray) (c : Int) (hk : key.size = 32) (j : Nat) : bt (tB key nonce c) (52 + j) = bt nonce j := by
  unfold tB
  rw [bt_right _ _ _ (by simp only [ByteArray.size_append, hk, show cB.size = 16 from rfl, wB_size]; omega)]
  simp only [ByteArray.size_append, hk, show cB.size = 16 from rfl, wB_size]
  rw [show 52 + j - (16 + 32 + 4) = j by omega]
theorem tB_words (key nonce : ByteArray) (c : Int) (hk : key.size = 32) (hc : W32 c) (i : Nat) (h : i < 16) : wordsL le4 (tB key nonce c) i = stI key nonce c i := by
  unfold stI
  by_cases h1 : i < 4
  · rw [if_pos h1, ← cB_words i h1]
    unfold wordsL
    rw [bt_tB_c key nonce c hk _ (by omega), bt_tB_c key nonce c hk _ (by omega), bt_tB_c key nonce c hk _ (by omega), bt_tB_c key nonce c hk _ (by omega)]
  · rw [if_neg h1]
    by_cases h2 : i < 12
    · rw [if_pos h2]
      unfold wordsL
      have e : i * 4 = 16 + (i - 4) * 4 := by omega
      rw [e]
      simp only [Nat.add_assoc]
      rw [bt_tB_k key nonce c hk _ (by omega), bt_tB_k key nonce c hk _ (by omega), bt_tB_k key nonce c hk _ (by omega), bt_tB_k key nonce c hk _ (by omega)]
    · rw [if_neg h2]
      by_cases h3 : i < 13
      · rw [if_pos h3]
        obtain rfl : i = 12 := by omega
        unfold wordsL
        rw [show 12 * 4 = 48 + 0 from rfl, show 48 + 0 + 1 = 48 + 1 from rfl, show 48 + 0 + 2 = 48 + 2 from rfl, show 48 + 0 + 3 = 48 + 3 from rfl, bt_tB_w key nonce c hk 0 (by omega), bt_tB_w key nonce c hk 1 (by omega), bt_tB_w key nonce c hk 2 (by omega), bt_tB_w key nonce c hk 3 (by omega)]
        exact wB_word c hc
      · rw [if_neg h3]
        unfold wordsL
        have e : i * 4 = 52 + (i - 13) * 4 := by omega
        rw [e]
        simp only [Nat.add_assoc]
        rw [bt_tB_n key nonce c hk, bt_tB_n key nonce c hk, bt_tB_n key nonce c hk, bt_tB_n key nonce c hk]
set_option maxHeartbeats 1000000 in
theorem begin_ok (key nonce : ByteArray) (c : Int) (hk : key.size = 32) (hn : nonce.size = 12) (hc : W32 c) (w : World) :
    Calls Tryz.prog 167 #[.string key, .string nonce, .int .u32 c] w fun e w' => e = .returned (.tuple #[.agg (ws 16 (stI key nonce c)).toArray, .int .i64 0]) ∧ Below w.heap.size w w' := by
  have hzr := zero246_run
  obtain ⟨Z, hZ⟩ : ∃ Z, ws 16 (fun _ => 0) = Z := ⟨_, rfl⟩
  rw [hZ] at hzr
  have hZs : Z.length = 16 := by rw [← hZ, ws_length]
  clear hZ
  have hA0 : Blk ((w.alloc (.cells Z.toArray 246)).alloc (.cells Z.toArray 246)) w.heap.size 246 Z := by
    have := (Blk.new w 246 Z.toArray).alloc (.cells Z.toArray 246)
    simpa using this
  have hB0 : Blk ((w.alloc (.cells Z.toArray 246)).alloc (.cells Z.toArray 246)) (w.heap.size + 1) 246 Z := by
    have := Blk.new (w.alloc (.cells Z.toArray 246)) 246 Z.toArray
    simpa using this
  have hl0 : Below w.heap.size w ((w.alloc (.cells Z.toArray 246)).alloc (.cells Z.toArray 246)) := ((Below.refl _ w).alloc (Nat.le_refl _) _).alloc (by simp) _
  have hkI : (((key.size : Nat) : Int) != 32) = false := by simp; omega
  have hnI : (((nonce.size : Nat) : Int) != 12) = false := by simp; omega
  have HT : Hid ((tB key nonce c).size = 64) := tB_size key nonce c hk hn
  have HW : Hid (∀ i, i < 16 → wordsL le4 (tB key nonce c) i = stI key nonce c i) := tB_words key nonce c hk hc
  have hks : key.size ≤ 32 := by omega
  have hns : nonce.size ≤ 12 := by omega
  have HK : Hid (key.size = 32) := hk
  clear hk hn
  go_enter Tryz.func167, Tryz.ntmps167
  go_wp2_with fail
  have hat : At (((w.alloc (.cells Z.toArray 246)).alloc (.cells Z.toArray 246)).alloc (.cells #[.int .u32 c] 195)) (some ⟨w.heap.size + 1 + 1, 0, none⟩) 1 (fun _ => c) := by
    refine .inr ⟨w.heap.size + 1 + 1, 0, rfl, fun i hi => ?_⟩
    obtain rfl : i = 0 := by omega
    have hb : Blk (((w.alloc (.cells Z.toArray 246)).alloc (.cells Z.toArray 246)).alloc (.cells #[.int .u32 c] 195)) (w.heap.size + 1 + 1) 195 [.int .u32 c] := by
      have := Blk.new ((w.alloc (.cells Z.toArray 246)).alloc (.cells Z.toArray 246)) 195 #[.int .u32 c]
      simpa using this
    exact hb.cell rfl
  have hA1 := hA0.alloc (.cells #[.int .u32 c] 195)
  have hB1 := hB0.alloc (.cells #[.int .u32 c] 195)
  have hl1 := hl0.alloc (o := .cells #[.int .u32 c] 195) (by simp; omega)
  refine (fromLittle_any _ 1 1 (fun _ => c) _ (by omega) hat (fun i _ => hc)).mono ?_
  rintro e w1 ⟨rfl, hb1⟩
  have hA2 := hA1.below hb1 hA1.lt
  have hB2 := hB1.below hb1 hB1.lt
  have hl2 : Below w.heap.size w w1 := hl1.trans (hb1.mono (by simp; omega))
  clear hat hA0 hB0 hl0 hA1 hB1 hl1 hb1 hzr
  rw [show strOfNums (joinF four (fun _ => c) 1) = wB c from rfl]
  obtain ⟨F, hF⟩ : ∃ F, wB c = F := ⟨_, rfl⟩
  have hFs : F.size ≤ 4 := by rw [← hF, wB_size]; omega
  obtain ⟨T, hTe⟩ : ∃ T, (⟨#[101, 120, 112, 97, 110, 100, 32, 51, 50, 45, 98, 121, 116, 101, 32, 107]⟩ : ByteArray) ++ key ++ F ++ nonce = T := ⟨_, rfl⟩
  have hTT : tB key nonce c = T := by rw [← hTe, ← hF]; rfl
  rw [hF]
  have hT64 : T.size = 64 := by rw [← hTT]; exact HT.out
  have HW' : Hid (∀ i, i < 16 → wordsL le4 T i = stI key nonce c i) := by rw [← hTT]; exact HW.out
  clear HT HW hF hTT
  go_wp2_with fail
  obtain ⟨g, hgd⟩ : ∃ g, w.heap.size = g := ⟨_, rfl⟩
  rw [hgd] at hA2 hB2 hl2 ⊢
  have HG : Hid (w.heap.size = g) := hgd
  clear hgd hTe
  have hLit := little_even T w1 (by omega) (by omega)
  rw [hT64] at hLit
  refine hLit.mono ?_
  rintro e w2 ⟨rfl, hrow, hbel⟩
  clear hLit
  have hA3 := hA2.below hbel hA2.lt
  have hB3 := hB2.below hbel hB2.lt
  have hl3 : Below g w w2 := hl2.trans (hbel.mono (Nat.le_of_lt hA2.lt))
  obtain ⟨L, hL⟩ : ∃ L, ws 16 (stI key nonce c) = L := ⟨_, rfl⟩
  have hLl : L.length = 16 := by rw [← hL, ws_length]
  have hLo : ∀ v ∈ L, v.oneCell' = true := by rw [← hL]; exact ws_one _ _
  have hsrc : ∀ (j : Nat) v, L[j]? = some v → w2.cell? ((⟨w1.heap.size, 0, none⟩ : Addr).add j) = some v := by
    intro j v hj
    rw [Addr.add_mid, Nat.zero_add]
    have hj16 : j < 16 := by
      rcases Nat.lt_or_ge j 16 with h | h
      · exact h
      · rw [List.getElem?_eq_none (by rw [hLl]; exact h)] at hj; cases hj
    rw [World.ownsRow.cellAt hrow j (by omega), ← hj, ← hL, ws_at 16 _ j hj16, ← HW'.out j hj16]
    simp [hj16]
  have HL : Hid (ws 16 (stI key nonce c) = L) := hL
  clear hL hrow hbel hA2 hB2 hl2 HW'
  have hrun := run_copy_row Tryz.prog w2 254 254 3 195 (g + 1) 0 16 16 ⟨w1.heap.size, 0, none⟩ 16 16 Z.toArray 246 L Tryz.underlying254 Tryz.size195 hB3 (by rw [hLl]; rfl) hsrc (by rw [hLl]; simp [hZs]) hLo
  have e16 : List.take 0 Z.toArray.toList ++ L ++ List.drop (0 + 16) Z.toArray.toList = L := by
    rw [List.toList_toArray, List.take_zero, List.nil_append, Nat.zero_add, List.drop_eq_nil_of_le (by rw [hZs]; exact Nat.le_refl _), List.append_nil]
  rw [hLl, e16] at hrun
  clear hsrc e16
  have hB4 : Blk (w2.setRow (g + 1) L.toArray) (g + 1) 246 L := hB3.setRow
  have hA4 : Blk (w2.setRow (g + 1) L.toArray) g 246 Z := hA3.setRowOther (by omega) _
  have hl4 : Below g w (w2.setRow (g + 1) L.toArray) := below_setRow hl3 (by omega) _
  have hR : (loadVar 246 ⟨g, 0, none⟩).run Tryz.prog ((w2.setRow (g + 1) L.toArray).setRow g L.toArray) = .ok (.agg L.toArray) ((w2.setRow (g + 1) L.toArray).setRow g L.toArray) := by
    have h1 : Blk ((w2.setRow (g + 1) L.toArray).setRow g L.toArray) g 246 (ws 16 (stI key nonce c)) := by rw [HL.out]; exact hA4.setRow
    have h2 := load246 h1
    rw [HL.out] at h2
    exact h2
  have hl5 := below_setRow hl4 (Nat.le_refl g) L.toArray
  go_wp2_with (first | (refine wpList_load_blk rfl 246 _ rfl (g + 1) rfl 246 L _ hB4 Tryz.underlying246 rfl (by rw [Tryz.size246, hLl]) ?_) | (refine wpList_store_blk rfl 246 _ _ rfl g Z L rfl rfl 246 hA4 (by rw [Tryz.size246, hLl]) (by rw [hZs, hLl]) hLo ?_))
  refine bodyPost_ret_by (v := .tuple #[.agg L.toArray, .int .i64 0]) (results_cell_tmp 6 7 246 ⟨g, 0, none⟩ Tryz.results167 rfl hR rfl) rfl ⟨by rw [HL.out], ?_⟩
  rw [HG.out]; exact hl5
set_option maxHeartbeats 1000000 in
theorem block_ok (key nonce : ByteArray) (c : Int) (hk : key.size = 32) (hn : nonce.size = 12) (hc : W32 c) (w : World) :
    Calls Tryz.prog 169 #[.string key, .string nonce, .int .u32 c] w fun e w' => e = .returned (.tuple #[.string (blkB (stI key nonce c)), .int .i64 0]) ∧ Below w.heap.size w w' := by
  have hcall := begin_ok key nonce c hk hn hc w
  have hblk := fun w => bloc_any (stI key nonce c) w
  have hzr := zero246_run
  obtain ⟨Z, hZ⟩ : ∃ Z, ws 16 (fun _ => 0) = Z := ⟨_, rfl⟩
  obtain ⟨L, hL⟩ : ∃ L, ws 16 (stI key nonce c) = L := ⟨_, rfl⟩
  rw [hZ] at hzr
  rw [hL] at hcall hblk
  have hZs : Z.length = 16 := by rw [← hZ, ws_length]
  have hLs : L.length = 16 := by rw [← hL, ws_length]
  have hLo : ∀ v ∈ L, v.oneCell' = true := by rw [← hL]; exact ws_one _ _
  clear hZ hL hk hn
  generalize blkB (stI key nonce c) = X at hblk ⊢
  go_enter Tryz.func169, Tryz.ntmps169
  go_wp2_with fail
  refine hcall.mono ?_
  rintro e w1 ⟨rfl, hb1⟩
  have hB : Blk (w1.alloc (.cells Z.toArray 246)) w1.heap.size 246 Z := by
    have := Blk.new w1 246 Z.toArray
    simpa using this
  have hB2 : Blk ((w1.alloc (.cells Z.toArray 246)).setRow w1.heap.size L.toArray) w1.heap.size 246 L := hB.setRow
  have hl : Below w.heap.size w ((w1.alloc (.cells Z.toArray 246)).setRow w1.heap.size L.toArray) := below_setRow (hb1.alloc hb1.size _) hb1.size _
  clear hcall
  go_wp2_with (first | (refine wpList_store_blk rfl 246 _ _ rfl w1.heap.size Z L rfl rfl 246 hB (by rw [Tryz.size246, hLs]) (by rw [hZs, hLs]) hLo ?_) | (refine wpList_load_blk rfl 246 _ rfl w1.heap.size rfl 246 L _ hB2 Tryz.underlying246 rfl (by rw [Tryz.size246, hLs]) ?_) | (go_at_call 168; refine (hblk _).mono ?_; rintro e w2 ⟨rfl, hb2⟩))
  go_ret2
  exact ⟨rfl, hl.trans (hb2.mono hl.size)⟩
theorem cry_step (key nonce s : ByteArray) (c : Int) (k : Nat) (h : 64 * k < s.size) :
    (cryB (ks key nonce c) s).extract 0 (64 * k) ++ xorB (s.extract (64 * k) s.size) (blkB (stI key nonce ((c + (k : Int)) % 4294967296))) = (cryB (ks key nonce c) s).extract 0 (64 * (k + 1)) := by
  apply bt_ext
  · rw [ByteArray.size_append, xorB_size, blkB_size]
    simp only [ByteArray.size_extract, cryB_size]
    omega
  · intro i hi
    rw [ByteArray.size_append, xorB_size, blkB_size] at hi
    simp only [ByteArray.size_extract, cryB_size] at hi
    rw [bt_take _ (64 * (k + 1)) i (by omega) (by rw [cryB_size]; omega), bt_cryB _ (ks_range key nonce c) s i (by omega)]
    by_cases hlt : i < 64 * k
    · rw [bt_left _ _ _ (by simp only [ByteArray.size_extract, cryB_size]; omega), bt_take _ (64 * k) i hlt (by rw [cryB_size]; omega), bt_cryB _ (ks_range key nonce c) s i (by omega)]
    · have es : ((cryB (ks key nonce c) s).extract 0 (64 * k)).size = 64 * k := by simp only [ByteArray.size_extract, cryB_size]; omega
      rw [bt_right _ _ _ (by rw [es]; omega), es, bt_xorB _ _ _ (by rw [blkB_size]; simp only [ByteArray.size_extract]; omega), bt_cut s (64 * k) s.size _ (Nat.le_refl _) (by omega), show 64 * k + (i - 64 * k) = i by omega]
      unfold ks
      rw [show i / 64 = k by omega, show i % 64 = i - 64 * k by omega]
theorem stI_next (key nonce : ByteArray) (x y : Int) : (ws 16 (stI key nonce x)).set 12 (.int .u32 y) = ws 16 (stI key nonce y) := by
  rw [ws_set]
  apply ws_congr
  intro i hi
  unfold stI
  by_cases h : i = 12
  · subst h; rfl
  · rw [if_neg h]
    by_cases h1 : i < 4
    · rw [if_pos h1, if_pos h1]
    · rw [if_neg h1, if_neg h1]
      by_cases h2 : i < 12
      · rw [if_pos h2, if_pos h2]
      · rw [if_neg h2, if_neg h2, if_neg (by omega), if_neg (by omega)]
set_option maxHeartbeats 1000000 in
theorem crypt_ok (key nonce s : ByteArray) (c : Int) (hk : key.size = 32) (hn : nonce.size = 12) (hc : W32 c) (hs : s.size ≤ 65536) (w : World) :
    Calls Tryz.prog 118 #[.string key, .string nonce, .int .u32 c, .string s] w fun e w' => e = .returned (.tuple #[.string (cryB (ks key nonce c) s), .int .i64 0]) ∧ Below w.heap.size w w' := by
  have hcall := begin_ok key nonce c hk hn hc w
  have hzr := zero246_run
  obtain ⟨Z, hZ⟩ : ∃ Z, ws 16 (fun _ => 0) = Z := ⟨_, rfl⟩
  obtain ⟨L, hL⟩ : ∃ L, ws 16 (stI key nonce c) = L := ⟨_, rfl⟩
  rw [hZ] at hzr
  rw [hL] at hcall
  have hZs : Z.length = 16 := by rw [← hZ, ws_length]
  have hLs : L.length = 16 := by rw [← hL, ws_length]
  have hLo : ∀ v ∈ L, v.oneCell' = true := by rw [← hL]; exact ws_one _ _
  have hsI : ¬ ((65536 : Int) < (s.size : Int)) := by omega
  have HL : Hid (ws 16 (stI key nonce c) = L) := hL
  clear hZ hL hk hn
  go_enter Tryz.func118, Tryz.ntmps118
  go_wp2_with fail
  refine hcall.mono ?_
  rintro e w1 ⟨rfl, hb1⟩
  have hB : Blk (w1.alloc (.cells Z.toArray 246)) w1.heap.size 246 Z := by
    have := Blk.new w1 246 Z.toArray
    simpa using this
  have hB1 : Blk ((w1.alloc (.cells Z.toArray 246)).setRow w1.heap.size L.toArray) w1.heap.size 246 L := hB.setRow
  have hsz : ((w1.alloc (.cells Z.toArray 246)).setRow w1.heap.size L.toArray).heap.size = w1.heap.size + 1 := by simp [World.setRow]
  have hl : Below w.heap.size w ((w1.alloc (.cells Z.toArray 246)).setRow w1.heap.size L.toArray) := below_setRow (hb1.alloc hb1.size _) hb1.size _
  clear hcall
  go_wp2_with (refine wpList_store_blk rfl 246 _ _ rfl w1.heap.size Z L rfl rfl 246 hB (by rw [Tryz.size246, hLs]) (by rw [hZs, hLs]) hLo ?_)
  have hgw := hb1.size
  clear hB hzr hZs hLs hLo hb1
  generalize (w1.alloc (.cells Z.toArray 246)).setRow w1.heap.size L.toArray = w2 at hB1 hsz hl ⊢
  obtain ⟨g, hgd⟩ : ∃ g, w1.heap.size = g := ⟨_, rfl⟩
  rw [hgd] at hB1 hsz hgw ⊢
  clear hgd
  have hF0 : BufAt (w2.alloc (.cells #[.pointer none, .slice none 0 0] 230)) (g + 1) ⟨#[]⟩ := by
    have := BufAt.new w2
    rw [hsz] at this
    exact this
  have hB2 : Blk (w2.alloc (.cells #[.pointer none, .slice none 0 0] 230)) g 246 (ws 16 (stI key nonce ((c + ((0 : Nat) : Int)) % 4294967296))) := by
    rw [show (c + ((0 : Nat) : Int)) % 4294967296 = c by have h1 := hc.1; have h2 := hc.2; omega, HL.out]
    exact hB1.alloc _
  have hl2 : Below w.heap.size w (w2.alloc (.cells #[.pointer none, .slice none 0 0] 230)) := hl.alloc (by rw [hsz]; omega) _
  clear hB1 hsz hl HL
  generalize w2.alloc (.cells #[.pointer none, .slice none 0 0] 230) = w3 at hF0 hB2 hl2 ⊢
  obtain ⟨M, hM1, hM2⟩ : ∃ M, s.size ≤ 64 * M ∧ 64 * M < s.size + 64 := ⟨(s.size + 63) / 64, by omega, by omega⟩
  have hMs : (64 * M : Nat) ≤ 65600 := by omega
  go_loopw [13] (fun i wr => ∃ k : Nat, k ≤ M ∧ i = .int .i64 (64 * (k : Int)) ∧ Blk wr g 246 (ws 16 (stI key nonce ((c + (k : Int)) % 4294967296))) ∧ BufAt wr (g + 1) ((cryB (ks key nonce c) s).extract 0 (64 * k)) ∧ Below w.heap.size w wr) (fun i _ => (64 * (M : Int) - intOf i).toNat)
  case atStart =>
    refine ⟨0, by omega, rfl, hB2, ?_, hl2⟩
    rw [show (cryB (ks key nonce c) s).extract 0 (64 * 0) = ⟨#[]⟩ by
      apply bt_ext
      · rw [ByteArray.size_extract]; simp; rfl
      · intro i hi
        rw [ByteArray.size_extract] at hi
        omega]
    exact hF0
  case round =>
    clear hB2 hF0 hl2
    obtain ⟨k, hk, rfl, hB, hF, hl⟩ := hrel
    by_cases hlt : k < M
    · have hsk : 64 * k < s.size := by omega
      have hltI : 64 * (k : Int) < (s.size : Int) := by omega
      have hleI : 64 * (k : Int) ≤ (s.size : Int) := by omega
      have h0I : (0 : Int) ≤ 64 * (k : Int) := by omega
      have t0 : (64 * (k : Int)).toNat = 64 * k := by omega
      have hstep := cry_step key nonce s c k hsk
      have hPs : ((cryB (ks key nonce c) s).extract 0 (64 * k)).size ≤ 65536 := by rw [ByteArray.size_extract, cryB_size]; omega
      have hXs : (xorB (s.extract (64 * k) s.size) (blkB (stI key nonce ((c + (k : Int)) % 4294967296)))).size ≤ 64 := by rw [xorB_size, blkB_size]; omega
      obtain ⟨x, hx⟩ : ∃ x, (c + (k : Int)) % 4294967296 = x := ⟨_, rfl⟩
      have HX : Hid ((x + 1) % 4294967296 = (c + ((k + 1 : Nat) : Int)) % 4294967296) := by rw [← hx]; unfold Hid; omega
      rw [hx] at hB hstep hXs
      clear hx
      have hbl := fun w => bloc_any (stI key nonce x) w
      have hxr := fun w => xor_any (s.extract (64 * k) s.size) (blkB (stI key nonce x)) w (by unfold maxLen; rw [ByteArray.size_extract]; omega) (by unfold maxLen; rw [blkB_size]; omega) (by rw [ByteArray.size_extract]; omega)
      have hc12 : (ws 16 (stI key nonce x))[12]? = some (.int .u32 x) := ws_at 16 _ 12 (by decide)
      have hnx := stI_next key nonce x ((x + 1) % 4294967296)
      obtain ⟨U, hU⟩ : ∃ U, ws 16 (stI key nonce x) = U := ⟨_, rfl⟩
      have hUl : U.length = 16 := by rw [← hU, ws_length]
      rw [hU] at hB hbl hnx hc12
      generalize blkB (stI key nonce x) = X at hbl hxr hstep hXs
      generalize (cryB (ks key nonce c) s).extract 0 (64 * k) = P at hF hPs hstep
      obtain ⟨q, hq⟩ : ∃ q, s.extract (64 * k) s.size = q := ⟨_, rfl⟩
      rw [hq] at hxr hstep hXs
      generalize xorB q X = Y at hxr hstep hXs
      clear hU
      go_wp2_with fail
      refine wp_region_noPanic ?_
      refine wp_region_held_drew (S := fun _ => True) (by kernel_rfl) trivial (fun hHeld => ?_)
      refine tkH 0 ?_; go_simp
      refine tkH 1 ?_; go_simp
      refine tkH 2 ?_; go_simp
      refine rdH 3 fun K hK => ?_
      refine step_load_blk rfl 246 _ rfl g rfl 246 U _ hB.drew Tryz.underlying246 rfl (by rw [Tryz.size246, hUl]) ?_
      refine hK.out _ _ trivial (fun hHeld => ?_)
      clear hK K
      go_simp
      refine rdH 4 fun K hK => ?_
      go_simp
      go_at_call 168
      refine (hbl _).mono ?_
      rintro e wa ⟨rfl, ba⟩
      refine hK.out _ _ trivial (fun hHeld => ?_)
      clear hK K
      refine rdH 5 fun K hK => ?_
      go_simp
      go_at_call 160
      refine (hxr _).mono ?_
      rintro e wb ⟨rfl, bb⟩
      refine hK.out _ _ trivial (fun hHeld => ?_)
      clear hK K
      refine rdH 6 fun K hK => ?_
      go_simp
      go_at_call 151
      have hFb : BufAt wb (g + 1) P := (hF.drew.below ba).below bb
      have hBb : Blk wb g 246 U := (hB.drew.below ba hB.drew.lt).below bb (Nat.lt_of_lt_of_le hB.drew.lt ba.size)
      have hlb : Below w.heap.size w wb := (hl.drew.trans (ba.mono hl.drew.size)).trans (bb.mono (Nat.le_trans hl.drew.size ba.size))
      refine (buf_write (g + 1) P Y wb hFb (by omega)).mono ?_
      rintro e wc ⟨rfl, hFc, bc⟩
      refine hK.out _ _ trivial (fun hHeld => ?_)
      clear hK K
      refine wpAnyH_done (by kernel_rfl) ?_ _
      refine NoPanic.normal ?_
      have hBc : Blk wc g 246 U := hBb.below bc (by omega)
      have hlc : Below w.heap.size w wc := hlb.trans (bc.mono (by omega))
      rw [hstep] at hFc
      clear ba bb bc hFb hBb hlb hbl hxr hB hF hl
      have c12 := hBc.cell hc12
      have f12 := hBc.frozen 12
      obtain ⟨y, hy⟩ : ∃ y, (x + 1) % 4294967296 = y := ⟨_, rfl⟩
      have hBd := hBc.setCell 12 (.int .u32 y)
      have hFd := hFc.set (k := g) (by omega) 12 (.int .u32 y)
      have hld : Below w.heap.size w (wc.setCell ⟨g, 12, none⟩ (.int .u32 y)) := hlc.setCell hgw _
      rw [hy] at hnx
      rw [hnx] at hBd
      have HY : Hid (y = (c + ((k + 1 : Nat) : Int)) % 4294967296) := by rw [← hy]; exact HX.out
      clear hnx hstep hBc hFc hlc HX
      go_wp2_with fail
      clear c12 f12 hc12
      generalize wc.setCell ⟨g, 12, none⟩ (.int .u32 y) = wd at hBd hFd hld ⊢
      refine ⟨⟨k + 1, by omega, by go_num, by rw [← HY.out]; exact hBd, hFd, hld⟩, ?_⟩
      simp [intOf]; omega
    · have hkM : k = M := by omega
      subst hkM
      have hgeI : ¬ (64 * (k : Int) < (s.size : Int)) := by omega
      rw [take_all _ _ (by rw [cryB_size]; exact hM1)] at hF
      have hst := buf_string (g + 1) (cryB (ks key nonce c) s) wr hF
      obtain ⟨R, hR⟩ : ∃ R, cryB (ks key nonce c) s = R := ⟨_, rfl⟩
      rw [hR] at hst
      have HR : Hid (cryB (ks key nonce c) s = R) := hR
      clear hB hF hM1 hM2 hR
      go_wp2_with (go_at_call 153; refine hst.mono ?_; rintro e w9 ⟨rfl, hb9⟩)
      go_ret2
      refine ⟨?_, hl.trans (hb9.mono (by omega))⟩
      rw [HR.out]
      rfl
end Go.Proofs.YtokknmkleceooaaGreatDoor
