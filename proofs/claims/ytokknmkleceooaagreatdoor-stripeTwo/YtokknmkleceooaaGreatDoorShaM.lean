import Derived.Test.YtokknmkleceooaaGreatDoorBaseM
import Derived.Deep.MidRow
import Derived.Maps.AppendAt
import Derived.Shelf.Strings.Repeat
import Derived.Lib.Strings
import Derived.Deep.WholeRow
import Derived.Deep.AppendLies
import Derived.Lib.ConvBytes
import Derived.ArgAppend
namespace Go.Proofs.YtokknmkleceooaaGreatDoor
set_option maxRecDepth 20000
open Go.RowKit Go.PlainAid
set_option linter.unusedVariables false
def rr (n : Nat) (x : Int) : Int := turn (32 - n) x
def bS1 (e : Int) : Int := bits .xor .u32 (bits .xor .u32 (rr 6 e) (rr 11 e)) (rr 25 e)
def bS0 (a : Int) : Int := bits .xor .u32 (bits .xor .u32 (rr 2 a) (rr 13 a)) (rr 22 a)
def sg1 (x : Int) : Int := bits .xor .u32 (bits .xor .u32 (rr 17 x) (rr 19 x)) (x / 1024)
def sg0 (x : Int) : Int := bits .xor .u32 (bits .xor .u32 (rr 7 x) (rr 18 x)) (x / 8)
def chF (e f g : Int) : Int := bits .xor .u32 (bits .and .u32 e f) (bits .and .u32 (4294967295 - e) g)
def mjF (a b c : Int) : Int := bits .xor .u32 (bits .xor .u32 (bits .and .u32 a b) (bits .and .u32 a c)) (bits .and .u32 b c)
def Wt (b : Nat → Int) (t : Nat) : Int :=
  if h : t < 16 then b t else (((sg1 (Wt b (t - 2)) + Wt b (t - 7)) % 4294967296 + sg0 (Wt b (t - 15))) % 4294967296 + Wt b (t - 16)) % 4294967296
  termination_by t
  decreasing_by all_goals omega
theorem Wt_first (b : Nat → Int) (t : Nat) (h : t < 16) : Wt b t = b t := by rw [Wt, dif_pos h]
theorem Wt_step (b : Nat → Int) (t : Nat) (h : 16 ≤ t) : Wt b t = (((sg1 (Wt b (t - 2)) + Wt b (t - 7)) % 4294967296 + sg0 (Wt b (t - 15))) % 4294967296 + Wt b (t - 16)) % 4294967296 := by
  conv => lhs; rw [Wt]
  rw [dif_neg (by omega)]
theorem Wt_lo (b : Nat → Int) (hb : ∀ i, i < 16 → 0 ≤ b i ∧ b i < 4294967296) (t : Nat) : 0 ≤ Wt b t ∧ Wt b t < 4294967296 := by
  by_cases h : t < 16
  · rw [Wt_first b t h]; exact hb t h
  · rw [Wt_step b t (by omega)]; omega
theorem Wt_congr (b c : Nat → Int) (h : ∀ i, i < 16 → b i = c i) (t : Nat) : Wt b t = Wt c t := by
  induction t using Nat.strongRecOn with
  | _ t ih =>
    by_cases h1 : t < 16
    · rw [Wt_first b t h1, Wt_first c t h1, h t h1]
    · rw [Wt_step b t (by omega), Wt_step c t (by omega), ih (t - 2) (by omega), ih (t - 7) (by omega), ih (t - 15) (by omega), ih (t - 16) (by omega)]
def tin (S : Nat → Int) (x : Int) : Int := (x + ((S 7 + bS1 (S 4)) % 4294967296 + chF (S 4) (S 5) (S 6)) % 4294967296) % 4294967296
def nx (S : Nat → Int) (x : Int) (i : Nat) : Int :=
  if i = 0 then ((tin S x + bS0 (S 0)) % 4294967296 + mjF (S 0) (S 1) (S 2)) % 4294967296
  else if i = 4 then (S 3 + tin S x) % 4294967296 else S (i - 1)
def rds (S : Nat → Int) (x : Nat → Int) (t : Nat) : Nat → Int := ((List.range t).map x).foldl nx S
theorem rds_succ (S x : Nat → Int) (t : Nat) : rds S x (t + 1) = nx (rds S x t) (x t) := by
  unfold rds; rw [List.range_succ, List.map_append, List.foldl_append]; rfl
def Ok (S : Nat → Int) : Prop := ∀ i, i < 8 → 0 ≤ S i ∧ S i < 4294967296
theorem nx_ok (S : Nat → Int) (x : Int) (h : Ok S) : Ok (nx S x) := by
  intro i hi
  unfold nx
  split
  · omega
  · split
    · omega
    · exact h (i - 1) (by omega)
theorem rds_ok (S x : Nat → Int) (t : Nat) (h : Ok S) : Ok (rds S x t) := by
  induction t with
  | zero => exact h
  | succ t ih => rw [rds_succ]; exact nx_ok _ _ ih
def kL : List Int := [1116352408, 1899447441, 3049323471, 3921009573, 961987163, 1508970993, 2453635748, 2870763221, 3624381080, 310598401, 607225278, 1426881987, 1925078388, 2162078206, 2614888103, 3248222580, 3835390401, 4022224774, 264347078, 604807628, 770255983, 1249150122, 1555081692, 1996064986, 2554220882, 2821834349, 2952996808, 3210313671, 3336571891, 3584528711, 113926993, 338241895, 666307205, 773529912, 1294757372, 1396182291, 1695183700, 1986661051, 2177026350, 2456956037, 2730485921, 2820302411, 3259730800, 3345764771, 3516065817, 3600352804, 4094571909, 275423344, 430227734, 506948616, 659060556, 883997877, 958139571, 1322822218, 1537002063, 1747873779, 1955562222, 2024104815, 2227730452, 2361852424, 2428436474, 2756734187, 3204031479, 3329325298]
def kc (i : Nat) : Int := kL.getD i 0
def iL : List Int := [1779033703, 3144134277, 1013904242, 2773480762, 1359893119, 2600822924, 528734635, 1541459225]
def ini (i : Nat) : Int := iL.getD i 0
theorem ini_ok : Ok ini := by
  have h : (List.range 8).all (fun i => decide (0 ≤ ini i ∧ ini i < 4294967296)) = true := by decide +kernel
  intro i hi
  have := List.all_eq_true.1 h i (List.mem_range.2 hi)
  simpa using this
def cpr (S b : Nat → Int) (i : Nat) : Int := (rds S (fun t => (Wt b t + kc t) % 4294967296) 64 i + S i) % 4294967296
theorem cpr_ok (S b : Nat → Int) : Ok (cpr S b) := fun i _ => by unfold cpr; omega
theorem cpr_congr (S b c : Nat → Int) (h : ∀ i, i < 16 → b i = c i) : cpr S b = cpr S c := by
  funext i
  unfold cpr
  simp only [Wt_congr b c h]
def blk (s : ByteArray) (k i : Nat) : Int := wordsL be4 s (16 * k + i)
def hst (s : ByteArray) : Nat → Nat → Int
  | 0 => ini
  | k + 1 => cpr (hst s k) (blk s k)
theorem hst_ok (s : ByteArray) (k : Nat) : Ok (hst s k) := by
  cases k with
  | zero => exact ini_ok
  | succ k => exact cpr_ok _ _
theorem hst_congr (s t : ByteArray) (k : Nat) (h : ∀ i, i < 64 * k → bt s i = bt t i) : hst s k = hst t k := by
  induction k with
  | zero => rfl
  | succ k ih =>
    rw [hst, hst, ih (fun i hi => h i (by omega))]
    apply cpr_congr
    intro i hi
    unfold blk wordsL
    rw [h _ (by omega), h _ (by omega), h _ (by omega), h _ (by omega)]
theorem be4_lo (a b c d : Int) (ha : 0 ≤ a ∧ a ≤ 255) (hb : 0 ≤ b ∧ b ≤ 255) (hc : 0 ≤ c ∧ c ≤ 255) (hd : 0 ≤ d ∧ d ≤ 255) : 0 ≤ be4 a b c d ∧ be4 a b c d < 4294967296 := by
  unfold be4 le4; omega
theorem words_lo (s : ByteArray) (i : Nat) : 0 ≤ wordsL be4 s i ∧ wordsL be4 s i < 4294967296 := be4_lo _ _ _ _ (bt_range s _) (bt_range s _) (bt_range s _) (bt_range s _)
def zs (n : Nat) : Nat := (64 - (n + 9) % 64) % 64
def lw (n : Nat) (i : Nat) : Int := if i = 0 then (8 * (n : Int)) / 4294967296 else (8 * (n : Int)) % 4294967296
def endL (n : Nat) : List Int := 128 :: (List.replicate (zs n) 0 ++ joinF fourB (lw n) 2)
def endB (n : Nat) : ByteArray := strOfNums (endL n)
theorem endB_size (n : Nat) : (endB n).size = zs n + 9 := by
  unfold endB endL
  rw [strOfNums_size, List.length_cons, List.length_append, List.length_replicate, joinF_length fourB (fun _ => rfl)]
def padB (s : ByteArray) : ByteArray := s ++ endB s.size
def textB (S : Nat → Int) : ByteArray := strOfNums (joinF fourB S 8)
def digest (s : ByteArray) : ByteArray := textB (hst (padB s) ((padB s).size / 64))
theorem digest_size (s : ByteArray) : (digest s).size = 32 := by
  unfold digest textB
  rw [strOfNums_size, joinF_length fourB (fun _ => rfl)]
theorem not_u32 (x : Int) (h : 0 ≤ x ∧ x < 4294967296) : bits .xor .u32 IntKind.u32.max x = 4294967295 - x := by
  obtain ⟨X, rfl⟩ := Int.eq_ofNat_of_zero_le h.1
  have hX : X < 4294967296 := by omega
  rw [show IntKind.u32.max = ((4294967295 : Nat) : Int) from rfl, u32_xor_nat _ _ (by omega) hX]
  have e : 4294967295 ^^^ X = 4294967295 - X := by
    have h1 : (BitVec.allOnes 32 ^^^ BitVec.ofNat 32 X) = ~~~ BitVec.ofNat 32 X := BitVec.allOnes_xor
    have h2 := congrArg BitVec.toNat h1
    rw [BitVec.toNat_xor, BitVec.toNat_not, BitVec.toNat_ofNat, Nat.mod_eq_of_lt hX] at h2
    exact h2
  rw [e]; omega
theorem tin_walk (S : Nat → Int) (x : Int) (h : 0 ≤ S 4 ∧ S 4 < 4294967296) :
    (x + (S 7 + bits .xor .u32 (bits .xor .u32 (turn 26 (S 4)) (turn 21 (S 4))) (turn 7 (S 4)) + bits .xor .u32 (bits .and .u32 (S 4) (S 5)) (bits .and .u32 (bits .xor .u32 IntKind.u32.max (S 4)) (S 6)))) % 4294967296 = tin S x := by
  rw [not_u32 (S 4) h]
  unfold tin bS1 chF rr
  simp only [show 32 - 6 = 26 from rfl, show 32 - 11 = 21 from rfl, show 32 - 25 = 7 from rfl]
  omega
set_option maxHeartbeats 1000000 in
theorem round_any (g : Nat) (S : Nat → Int) (x : Int) (hS : Ok S) (hx : 0 ≤ x ∧ x < 4294967296) (w : World) (hg : Blk w g 264 (ws 8 S)) :
    Calls Tryz.prog 228 #[.pointer (some ⟨g, 0, none⟩), .int .u32 x] w fun e w' => e = .returned (.tuple #[]) ∧ Blk w' g 264 (ws 8 (nx S x)) ∧ Only g w w' := by
  have c0 := hg.cell (ws_at 8 S 0 (by decide))
  have c1 := hg.cell (ws_at 8 S 1 (by decide))
  have c2 := hg.cell (ws_at 8 S 2 (by decide))
  have c4 := hg.cell (ws_at 8 S 4 (by decide))
  have c5 := hg.cell (ws_at 8 S 5 (by decide))
  have c6 := hg.cell (ws_at 8 S 6 (by decide))
  have c7 := hg.cell (ws_at 8 S 7 (by decide))
  obtain ⟨h40, h41⟩ := hS 4 (by decide)
  obtain ⟨h00, h01⟩ := hS 0 (by decide)
  go_enter Tryz.func228, Tryz.ntmps228
  go_wp2
  go_quiet (fail)
  have hg1 : Blk (w.drewN nq) g 264 (ws 8 S) := hg
  have ho1 : Only g w (w.drewN nq) := (Only.refl g w).drewN _
  clear c0 c1 c2 c4 c5 c6 c7 hg
  generalize w.drewN nq = w1 at hg1 ho1 ⊢
  have c4 := hg1.cell (ws_at 8 S 4 (by decide))
  have c5 := hg1.cell (ws_at 8 S 5 (by decide))
  have c6 := hg1.cell (ws_at 8 S 6 (by decide))
  go_wp2
  go_quiet (fail)
  have hg2 : Blk (w1.drewN nq) g 264 (ws 8 S) := hg1
  have ho2 : Only g w (w1.drewN nq) := ho1.drewN _
  clear c4 c5 c6 hg1 ho1
  generalize w1.drewN nq = w2 at hg2 ho2 ⊢
  have c7 := hg2.cell (ws_at 8 S 7 (by decide))
  go_wp2
  go_quiet ((go_at_call 245; exact Calls.quiet_of_same (right_any _ _ h40 h41 _)))
  have hg3 : Blk (w2.drewN nq) g 264 (ws 8 S) := hg2
  have ho3 : Only g w (w2.drewN nq) := ho2.drewN _
  clear c7 hg2 ho2
  generalize w2.drewN nq = w3 at hg3 ho3 ⊢
  go_wp2
  rw [tin_walk S x ⟨h40, h41⟩]
  obtain ⟨y, hy⟩ : ∃ y, tin S x = y := ⟨_, rfl⟩
  rw [hy]
  have HY : Hid (tin S x = y) := hy
  clear hy
  obtain ⟨Z, hZ⟩ : ∃ Z, ws 7 S = Z := ⟨_, rfl⟩
  have hsrc : ∀ (j : Nat) v, Z[j]? = some v → w3.cell? ((⟨g, 0, none⟩ : Addr).add j) = some v := by
    intro j v hj
    rw [← hZ] at hj
    have hj7 : j < 7 := by
      rcases Nat.lt_or_ge j 7 with h | h
      · exact h
      · rw [List.getElem?_eq_none (by rw [ws_length]; exact h)] at hj; cases hj
    rw [ws_at 7 S j hj7] at hj
    cases hj
    have := hg3.cell (ws_at 8 S j (by omega))
    unfold Addr.add
    split
    · simp_all
    · simpa using this
  have hZl : Z.length = 7 := by rw [← hZ, ws_length]
  have hZo : ∀ v ∈ Z, v.oneCell' = true := by rw [← hZ]; exact ws_one 7 S
  have hrun := run_copy_row Tryz.prog w3.drew 254 254 3 195 g 1 7 7 ⟨g, 0, none⟩ 7 8 (ws 8 S).toArray 264 Z Tryz.underlying254 Tryz.size195 hg3 (by rw [hZl]; rfl) hsrc (by rw [hZl]; simp [ws_length]) hZo
  have hrow : (List.take 1 (ws 8 S).toArray.toList ++ Z ++ List.drop (1 + Z.length) (ws 8 S).toArray.toList) = ws 8 (fun i => if i = 0 then S 0 else S (i - 1)) := by
    rw [← hZ]; rfl
  rw [hrow] at hrun
  have hg4 : Blk (w3.drew.setRow g (ws 8 (fun i => if i = 0 then S 0 else S (i - 1))).toArray) g 264 (ws 8 (fun i => if i = 0 then S 0 else S (i - 1))) := setRow_heap _ g _ _ 264 _ hg3
  have ho4 : Only g w (w3.drew.setRow g (ws 8 (fun i => if i = 0 then S 0 else S (i - 1))).toArray) := ho3.drew.setRow _
  clear hrow hZ
  refine wp_region_noPanic ?_
  refine wp_region_held_drew (S := fun _ => True) (by kernel_rfl) trivial (fun hHeld => ?_)
  refine tkH 0 ?_; go_simp
  refine tkH 1 ?_; go_simp
  refine tkH 2 ?_; go_simp
  refine tkH 3 ?_; go_simp
  refine tkH 4 ?_; go_simp
  refine tkH 5 ?_; go_simp
  refine rdH 6 fun K hK => ?_
  refine step_copy_run rfl _ _ 254 254 rfl _ _ rfl rfl _ _ hrun ?_
  refine hK.out _ _ trivial (fun hHeld => ?_)
  clear hK K
  go_simp
  refine wpAnyH_done (by kernel_rfl) ?_ _
  refine NoPanic.normal ?_
  clear hrun hsrc hZl hZo hg3 ho3
  generalize w3.drew.setRow g (ws 8 (fun i => if i = 0 then S 0 else S (i - 1))).toArray = w4 at hg4 ho4 ⊢
  have c4 : w4.cell? ⟨g, 4, none⟩ = some (.int .u32 (S 3)) := hg4.cell (ws_at 8 _ 4 (by decide))
  have f4 := hg4.frozen 4
  obtain ⟨Y4, hY4⟩ : ∃ Y4, IntKind.u32.wrap (S 3 + y) = Y4 := ⟨_, rfl⟩
  have HY4 : Hid ((S 3 + y) % 4294967296 = Y4) := by rw [← hY4, IntKind.wrap_u32']; exact rfl
  have hg5 := hg4.drew.setCell 4 (.int .u32 Y4)
  have ho5 := ho4.drew.setCell 4 (.int .u32 Y4)
  rw [ws_set] at hg5
  go_wp2
  refine wp_region_noPanic ?_
  refine wp_region_held_drew (S := fun _ => True) (by kernel_rfl) trivial (fun hHeld => ?_)
  refine tkH 0 ?_; go_simp
  refine tkH 1 ?_; go_simp
  refine tkH 2 ?_; go_simp
  refine tkH 4 ?_; go_simp
  refine tkH 6 ?_; go_simp
  refine rdH 3 fun K hK => ?_
  go_simp
  refine hK.out _ _ trivial (fun hHeld => ?_)
  clear hK K
  refine tkH 5 ?_; go_simp
  refine tkH 7 ?_; go_simp
  refine rdH 8 fun K hK => ?_
  go_simp
  refine hK.out _ _ trivial (fun hHeld => ?_)
  clear hK K
  refine wpAnyH_done (by kernel_rfl) ?_ _
  refine NoPanic.normal ?_
  have hg5' : Blk ((w4.setCell ⟨g, 4, none⟩ (.int .u32 Y4)).drew) g 264 _ := hg5
  have ho5' : Only g w ((w4.setCell ⟨g, 4, none⟩ (.int .u32 Y4)).drew) := ho5
  clear hg4 ho4 hg5 ho5 c4 f4 hY4
  generalize (w4.setCell ⟨g, 4, none⟩ (.int .u32 Y4)).drew = w5 at hg5' ho5' ⊢
  have f0 := hg5'.frozen 0
  have c0 : w5.cell? ⟨g, 0, none⟩ = some (.int .u32 (S 0)) := hg5'.cell (ws_at 8 _ 0 (by decide))
  go_wp2
  refine wp_region_noPanic ?_
  refine wp_region_held_drew (S := fun _ => True) (by kernel_rfl) trivial (fun hHeld => ?_)
  refine tkH 0 ?_; go_simp
  refine tkH 1 ?_; go_simp
  refine tkH 2 ?_; go_simp
  refine tkH 4 ?_; go_simp
  refine tkH 7 ?_; go_simp
  refine tkH 11 ?_; go_simp
  refine tkH 12 ?_; go_simp
  refine tkH 13 ?_; go_simp
  refine tkH 14 ?_; go_simp
  refine tkH 15 ?_; go_simp
  refine tkH 16 ?_; go_simp
  refine tkH 17 ?_; go_simp
  refine tkH 18 ?_; go_simp
  refine tkH 19 ?_; go_simp
  refine tkH 20 ?_; go_simp
  refine tkH 21 ?_; go_simp
  refine tkH 23 ?_; go_simp
  refine rdH 3 fun K hK => ?_
  go_simp
  go_at_call 245
  refine (right_any _ _ h00 h01 _).mono ?_
  rintro e wx ⟨rfl, rfl⟩
  go_simp
  refine hK.out _ _ trivial (fun hHeld => ?_)
  clear hK K
  refine rdH 5 fun K hK => ?_
  go_simp
  go_at_call 245
  refine (right_any _ _ h00 h01 _).mono ?_
  rintro e wx ⟨rfl, rfl⟩
  go_simp
  refine hK.out _ _ trivial (fun hHeld => ?_)
  clear hK K
  refine tkH 6 ?_; go_simp
  refine rdH 8 fun K hK => ?_
  go_simp
  go_at_call 245
  refine (right_any _ _ h00 h01 _).mono ?_
  rintro e wx ⟨rfl, rfl⟩
  go_simp
  refine hK.out _ _ trivial (fun hHeld => ?_)
  clear hK K
  refine tkH 9 ?_; go_simp
  refine tkH 10 ?_; go_simp
  refine tkH 22 ?_; go_simp
  refine tkH 24 ?_; go_simp
  refine rdH 25 fun K hK => ?_
  go_simp
  refine hK.out _ _ trivial (fun hHeld => ?_)
  clear hK K
  refine wpAnyH_done (by kernel_rfl) ?_ _
  refine NoPanic.normal ?_
  go_wp2
  go_end0
  have key : ∀ V, V = nx S x 0 → Blk ((w5.setCell ⟨g, 0, none⟩ (.int .u32 V)).drew) g 264 (ws 8 (nx S x)) := by
    intro V hV
    have hb := hg5'.setCell 0 (.int .u32 V)
    rw [ws_set] at hb
    rw [ws_congr 8 (nx S x) (fun i => if i = 0 then V else if i = 4 then Y4 else if i = 0 then S 0 else S (i - 1)) ?_]
    · exact hb
    · intro i hi
      show nx S x i = if i = 0 then V else if i = 4 then Y4 else if i = 0 then S 0 else S (i - 1)
      by_cases h0 : i = 0
      · subst h0; rw [if_pos rfl, hV]
      · rw [if_neg h0]
        unfold nx
        rw [if_neg h0, if_neg h0, HY.out, HY4.out]
  refine ⟨rfl, key _ ?_, (ho5'.setCell 0 _).drew⟩
  unfold nx
  rw [if_pos rfl, HY.out, IntKind.wrap_u32', IntKind.wrap_u32']
  rfl
theorem Tryz.zero298 : (Tryz.prog.info? 298).map (fun i => i.zero) = some (some (.agg (ws 64 (fun _ => 0)).toArray)) := by kernel_rfl
theorem zero298_run (w : World) : (zeroValue 298).run Tryz.prog w = .ok (.agg (ws 64 (fun _ => 0)).toArray) w := by
  obtain ⟨i, hi, hz⟩ := Option.map_eq_some_iff.1 Tryz.zero298
  simp [zeroValue, typeInfo, hi, hz]
theorem Tryz.size298 : (Tryz.prog.info? 298).map (·.size) = some 64 := by kernel_rfl
theorem Tryz.size264 : (Tryz.prog.info? 264).map (·.size) = some 8 := by kernel_rfl
theorem load298 {w : World} {g : Nat} {T : TypeId} {S : Nat → Int} (h : Blk w g T (ws 64 S)) : (loadVar 298 ⟨g, 0, none⟩).run Tryz.prog w = .ok (.agg (ws 64 S).toArray) w :=
  run_loadVar_row w g T 298 _ (0, 0) _ h Tryz.underlying298 rfl (by rw [Tryz.size298]; simp [ws_length])
theorem load264 {w : World} {g : Nat} {T : TypeId} {S : Nat → Int} (h : Blk w g T (ws 8 S)) : (loadVar 264 ⟨g, 0, none⟩).run Tryz.prog w = .ok (.agg (ws 8 S).toArray) w :=
  run_loadVar_row w g T 264 _ (0, 0) _ h Tryz.underlying264 rfl (by rw [Tryz.size264]; simp [ws_length])
def A64 (f : Nat → Int) (k : Nat) : List Value := ws 64 (fun i => if i < k then Wt f i else 0)
theorem A64_at (f : Nat → Int) (k i : Nat) (h : i < k) (h64 : i < 64) : (A64 f k)[i]? = some (.int .u32 (Wt f i)) := by
  unfold A64; rw [ws_at 64 _ i h64, if_pos h]
theorem A64_set (f : Nat → Int) (k : Nat) : (A64 f k).set k (.int .u32 (Wt f k)) = A64 f (k + 1) := by
  unfold A64
  rw [ws_set]
  apply ws_congr
  intro i _
  by_cases h : i = k
  · subst h; rw [if_pos rfl, if_pos (by omega)]
  · rw [if_neg h]
    by_cases h2 : i < k
    · rw [if_pos h2, if_pos (by omega)]
    · rw [if_neg h2, if_neg (by omega)]
theorem A64_full (f : Nat → Int) : A64 f 64 = ws 64 (Wt f) := by
  unfold A64
  apply ws_congr
  intro i hi
  rw [if_pos hi]
theorem A64_first (f : Nat → Int) : List.take 0 (ws 64 (fun _ => 0)) ++ (ws 16 f ++ List.drop (0 + 16) (ws 64 (fun _ => 0))) = A64 f 16 := by
  apply List.ext_getElem
  · simp [A64, ws_length]
  · intro j h1 h2
    simp only [A64, ws_length] at h2
    simp only [List.take_zero, List.nil_append]
    rw [List.getElem_append]
    simp only [ws_length, A64]
    split
    · rename_i h
      simp only [ws, List.getElem_map, List.getElem_range]
      rw [if_pos h, Wt_first f j h]
    · rename_i h
      simp only [ws, List.getElem_drop, List.getElem_map, List.getElem_range]
      rw [if_neg h]
set_option maxHeartbeats 1000000 in
theorem sched_any (b : ByteArray) (hb : b.size = 64) (w : World) :
    Calls Tryz.prog 227 #[.string b] w fun e w' => e = .returned (.agg (ws 64 (Wt (wordsL be4 b))).toArray) ∧ Below w.heap.size w w' := by
  have hzr := zero298_run
  obtain ⟨Z, hZ⟩ : ∃ Z, (ws 64 (fun _ => 0)).toArray = Z := ⟨_, rfl⟩
  rw [hZ] at hzr
  have HZ : Hid ((ws 64 (fun _ => 0)).toArray = Z) := hZ
  clear hZ
  go_enter Tryz.func227, Tryz.ntmps227
  go_wp2_with fail
  have hA0 : Blk ((w.alloc (.cells Z 298)).alloc (.cells Z 298)) w.heap.size 298 (ws 64 (fun _ => 0)) := by
    rw [← HZ.out]; exact (Blk.new w 298 _).alloc _
  have hB0 : Blk ((w.alloc (.cells Z 298)).alloc (.cells Z 298)) (w.heap.size + 1) 298 (ws 64 (fun _ => 0)) := by
    rw [← HZ.out]
    have := Blk.new (w.alloc (.cells (ws 64 (fun _ => 0)).toArray 298)) 298 (ws 64 (fun _ => 0)).toArray
    simpa using this
  have hl0 : Below w.heap.size w ((w.alloc (.cells Z 298)).alloc (.cells Z 298)) := ((Below.refl _ w).alloc (Nat.le_refl _) _).alloc (by simp) _
  clear hzr HZ
  generalize (w.alloc (.cells Z 298)).alloc (.cells Z 298) = w0 at hA0 hB0 hl0 ⊢
  have hBig := big_even b w0 (by omega) (by omega)
  rw [hb] at hBig
  obtain ⟨g, hgd⟩ : ∃ g, w.heap.size = g := ⟨_, rfl⟩
  rw [hgd] at hA0 hB0 hl0 ⊢
  have HG : Hid (w.heap.size = g) := hgd
  clear hgd
  refine hBig.mono ?_
  rintro e w1 ⟨rfl, hrow, hbel⟩
  clear hBig
  have hA1 := hA0.below hbel hA0.lt
  have hB1 := hB0.below hbel hB0.lt
  have hl1 : Below g w w1 := hl0.trans (hbel.mono (Nat.le_of_lt hA0.lt))
  obtain ⟨F, hF⟩ : ∃ F, ws 16 (wordsL be4 b) = F := ⟨_, rfl⟩
  have hFl : F.length = 16 := by rw [← hF, ws_length]
  have hFo : ∀ v ∈ F, v.oneCell' = true := by rw [← hF]; exact ws_one _ _
  have hsrc : ∀ (j : Nat) v, F[j]? = some v → w1.cell? ((⟨w0.heap.size, 0, none⟩ : Addr).add j) = some v := by
    intro j v hj
    rw [Addr.add_mid, Nat.zero_add]
    have hj16 : j < 16 := by
      rcases Nat.lt_or_ge j 16 with h | h
      · exact h
      · rw [List.getElem?_eq_none (by rw [hFl]; exact h)] at hj; cases hj
    rw [World.ownsRow.cellAt hrow j (by omega), ← hj, ← hF]
    rfl
  have HF : Hid (ws 16 (wordsL be4 b) = F) := hF
  clear hF hrow hbel hA0 hB0 hl0
  have hrun := run_copy_row Tryz.prog w1 254 254 3 195 (g + 1) 0 64 64 ⟨w0.heap.size, 0, none⟩ 16 16 (ws 64 (fun _ => 0)).toArray 298 F Tryz.underlying254 Tryz.size195 hB1 (by rw [hFl]; rfl) hsrc (by rw [hFl]; simp [ws_length]) hFo
  have e16 := A64_first (wordsL be4 b)
  rw [HF.out] at e16
  rw [hFl, List.toList_toArray, List.append_assoc, e16] at hrun
  go_wp2_with fail
  clear hrun
  have hB2 : Blk (w1.setRow (g + 1) (A64 (wordsL be4 b) 16).toArray) (g + 1) 298 (A64 (wordsL be4 b) 16) := hB1.setRow
  have hA2 : Blk (w1.setRow (g + 1) (A64 (wordsL be4 b) 16).toArray) g 298 (ws 64 (fun _ => 0)) := hA1.setRowOther (by omega) _
  have hl2 : Below g w (w1.setRow (g + 1) (A64 (wordsL be4 b) 16).toArray) := below_setRow hl1 (by omega) _
  generalize w1.setRow (g + 1) (A64 (wordsL be4 b) 16).toArray = w2 at hB2 hA2 hl2 ⊢
  clear hsrc hFl hFo HF hA1 hB1 hl1 e16
  have hw := words_lo b
  obtain ⟨f, hf⟩ : ∃ f, wordsL be4 b = f := ⟨_, rfl⟩
  rw [hf] at hB2
  have HF : Hid (wordsL be4 b = f) := hf
  have hfl : ∀ i, i < 16 → 0 ≤ f i ∧ f i < 4294967296 := by rw [← hf]; exact fun i _ => words_lo b i
  clear hf hw
  go_loopw [6] (fun i wr => ∃ k : Nat, 16 ≤ k ∧ k ≤ 64 ∧ i = .int .i64 k ∧ Blk wr (g + 1) 298 (A64 f k) ∧ Blk wr g 298 (ws 64 (fun _ => 0)) ∧ Below g w wr) (fun i _ => (64 - intOf i).toNat)
  case atStart => exact ⟨16, by omega, by omega, rfl, hB2, hA2, hl2⟩
  case round =>
    clear hB2 hA2 hl2
    obtain ⟨k, hk16, hk, rfl, hB, hA, hl⟩ := hrel
    by_cases hlt : k < 64
    · have hlt' : (k : Int) < 64 := by omega
      have c2 := hB.cell (A64_at f k (k - 2) (by omega) (by omega))
      have c15 := hB.cell (A64_at f k (k - 15) (by omega) (by omega))
      have p2 : (0 : Int) ≤ (k : Int) - 2 := by omega
      have p15 : (0 : Int) ≤ (k : Int) - 15 := by omega
      have q2 : (k : Int) - 2 < 64 := by omega
      have q15 : (k : Int) - 15 < 64 := by omega
      have t2 : ((k : Int) - 2).toNat = k - 2 := by omega
      have t15 : ((k : Int) - 15).toNat = k - 15 := by omega
      go_wp2_with fail
      go_quiet (fail)
      have hB3 : Blk (wr.drewN nq) (g + 1) 298 (A64 f k) := hB
      have hA3 : Blk (wr.drewN nq) g 298 (ws 64 (fun _ => 0)) := hA
      have hl3 : Below g w (wr.drewN nq) := ⟨hl.os, hl.tape, hl.output, hl.size, hl.block⟩
      clear hB hA hl c2 c15 p2 p15 q2 q15 t2 t15
      generalize wr.drewN nq = w3 at hB3 hA3 hl3 ⊢
      obtain ⟨n0, n1⟩ := Wt_lo f hfl (k - 2)
      obtain ⟨m0, m1⟩ := Wt_lo f hfl (k - 15)
      obtain ⟨x2, hx2⟩ : ∃ x2, Wt f (k - 2) = x2 := ⟨_, rfl⟩
      obtain ⟨x15, hx15⟩ : ∃ x15, Wt f (k - 15) = x15 := ⟨_, rfl⟩
      rw [hx2] at n0 n1 ⊢
      rw [hx15] at m0 m1 ⊢
      have HX2 : Hid (Wt f (k - 2) = x2) := hx2
      have HX15 : Hid (Wt f (k - 15) = x15) := hx15
      clear hx2 hx15
      go_wp2_with (first | (go_at_call_of 245 (Value.int .u32 x2); refine (right_any _ _ n0 n1 _).mono ?_; rintro e w' ⟨rfl, hw'⟩; rw [hw']; clear hw') | (go_at_call_of 245 (Value.int .u32 x15); refine (right_any _ _ m0 m1 _).mono ?_; rintro e w' ⟨rfl, hw'⟩; rw [hw']; clear hw'))
      rw [show bits .xor .u32 (bits .xor .u32 (turn 15 x2) (turn 13 x2)) (x2 / 1024) = sg1 x2 from rfl, show bits .xor .u32 (bits .xor .u32 (turn 25 x15) (turn 14 x15)) (x15 / 8) = sg0 x15 from rfl]
      have c7 := hB3.cell (A64_at f k (k - 7) (by omega) (by omega))
      have c16 := hB3.cell (A64_at f k (k - 16) (by omega) (by omega))
      have f0 := hB3.frozen k
      have ck : w3.cell? ⟨g + 1, k, none⟩ = some (.int .u32 0) := by
        refine hB3.cell ?_
        unfold A64; rw [ws_at 64 _ k hlt, if_neg (by omega)]
      have hV : Wt f k = IntKind.u32.wrap (IntKind.u32.wrap (IntKind.u32.wrap (sg1 x2 + Wt f (k - 7)) + sg0 x15) + Wt f (k - 16)) := by
        rw [Wt_step f k hk16, HX2.out, HX15.out, IntKind.wrap_u32', IntKind.wrap_u32', IntKind.wrap_u32']
      obtain ⟨x7, hx7⟩ : ∃ x7, Wt f (k - 7) = x7 := ⟨_, rfl⟩
      obtain ⟨x16, hx16⟩ : ∃ x16, Wt f (k - 16) = x16 := ⟨_, rfl⟩
      have hB4 : Blk (w3.drew.setCell ⟨g + 1, k, none⟩ (.int .u32 (Wt f k))) (g + 1) 298 (A64 f (k + 1)) := by
        rw [← A64_set]; exact hB3.drew.setCell k _
      have hA4 : Blk (w3.drew.setCell ⟨g + 1, k, none⟩ (.int .u32 (Wt f k))) g 298 (ws 64 (fun _ => 0)) := hA3.drew.setOther (by omega) k _
      have hl4 : Below g w (w3.drew.setCell ⟨g + 1, k, none⟩ (.int .u32 (Wt f k))) := hl3.drew.setCell (by show g ≤ g + 1; omega) _
      have e7 := hB4.cell (A64_at f (k + 1) (k - 7) (by omega) (by omega))
      have e16 := hB4.cell (A64_at f (k + 1) (k - 16) (by omega) (by omega))
      rw [hx7] at c7 e7 hV
      rw [hx16] at c16 e16 hV
      have HV : Hid (Wt f k = IntKind.u32.wrap (IntKind.u32.wrap (IntKind.u32.wrap (sg1 x2 + x7) + sg0 x15) + x16)) := hV
      rw [hV] at e7 e16
      clear hV hx7 hx16 hB3 hA3 hl3
      have s7 : (7 : Int) ≤ (k : Int) := by omega
      have s16 : (16 : Int) ≤ (k : Int) := by omega
      have p7 : (0 : Int) ≤ (k : Int) - 7 := by omega
      have p16 : (0 : Int) ≤ (k : Int) - 16 := by omega
      have q7 : (k : Int) - 7 < 64 := by omega
      have q16 : (k : Int) - 16 < 64 := by omega
      have t7 : ((k : Int) - 7).toNat = k - 7 := by omega
      have t16 : ((k : Int) - 16).toNat = k - 16 := by omega
      have z7 : IntKind.i64.wrap ((k : Int) - 7) = (k : Int) - 7 := IntWalk.i64_in _ ⟨by omega, by omega⟩
      have z16 : IntKind.i64.wrap ((k : Int) - 16) = (k : Int) - 16 := IntWalk.i64_in _ ⟨by omega, by omega⟩
      go_wp2_with fail
      refine wp_region_noPanic ?_
      refine wp_region_held_drew (S := fun z => z.cell? ⟨g + 1, k - 7, none⟩ = some (.int .u32 x7) ∧ z.cell? ⟨g + 1, k - 16, none⟩ = some (.int .u32 x16)) (by kernel_rfl) ⟨c7, c16⟩ (fun hHeld => ?_)
      refine tkH 0 ?_; go_simp
      refine tkH 1 ?_; go_simp
      refine tkH 2 ?_; go_simp
      refine tkH 3 ?_; go_simp
      refine tkH 4 ?_; go_simp
      refine tkH 5 ?_; go_simp
      refine tkH 6 ?_; go_simp
      refine tkH 7 ?_; go_simp
      refine tkH 8 ?_; go_simp
      refine tkH 9 ?_; go_simp
      refine tkH 10 ?_; go_simp
      refine tkH 11 ?_; go_simp
      refine tkH 12 ?_; go_simp
      refine tkH 13 ?_; go_simp
      refine tkH 14 ?_; go_simp
      refine rdH 15 fun K hK => ?_
      go_simp
      refine hK.out _ _ ⟨e7, e16⟩ (fun hHeld => ?_)
      clear hK K
      refine wpAnyH_done (by kernel_rfl) ?_ _
      refine NoPanic.normal ?_
      rw [← HV.out]
      have hB5 : Blk (w3.setCell ⟨g + 1, k, none⟩ (.int .u32 (Wt f k))).drew (g + 1) 298 (A64 f (k + 1)) := hB4
      have hA5 : Blk (w3.setCell ⟨g + 1, k, none⟩ (.int .u32 (Wt f k))).drew g 298 (ws 64 (fun _ => 0)) := hA4
      have hl5 : Below g w (w3.setCell ⟨g + 1, k, none⟩ (.int .u32 (Wt f k))).drew := hl4
      clear hB4 hA4 hl4 e7 e16 c7 c16 ck f0 HV
      generalize (w3.setCell ⟨g + 1, k, none⟩ (.int .u32 (Wt f k))).drew = w4 at hB5 hA5 hl5 ⊢
      go_wp2_with fail
      go_roundw
      case rel => exact ⟨k + 1, by omega, by omega, by go_num, hB5, hA5, hl5⟩
      case measure => simp [intOf]; omega
    · have hk64 : k = 64 := by omega
      subst hk64
      rw [A64_full, ← HF.out] at hB
      have hA' : Blk (wr.setRow g (ws 64 (Wt (wordsL be4 b))).toArray) g 298 (ws 64 (Wt (wordsL be4 b))) := hA.setRow
      have hR := load298 hA'
      have hl' : Below g w (wr.setRow g (ws 64 (Wt (wordsL be4 b))).toArray) := below_setRow hl (Nat.le_refl _) _
      obtain ⟨Y, hY⟩ : ∃ Y, ws 64 (Wt (wordsL be4 b)) = Y := ⟨_, rfl⟩
      have hYl : Y.length = 64 := by rw [← hY, ws_length]
      have hYo : ∀ v ∈ Y, v.oneCell' = true := by rw [← hY]; exact ws_one _ _
      rw [hY] at hB hR hl'
      have HY : Hid (ws 64 (Wt (wordsL be4 b)) = Y) := hY
      clear hA' hl HF hY
      go_wp2_with (first | (refine wpList_load_blk rfl 298 _ rfl (g + 1) rfl 298 Y _ hB Tryz.underlying298 rfl (by rw [Tryz.size298, hYl]) ?_) | (refine wpList_store_blk rfl 298 _ _ rfl g _ Y rfl rfl 298 hA (by rw [Tryz.size298, hYl]) (by rw [ws_length, hYl]) hYo ?_))
      refine bodyPost_ret_by (v := .agg Y.toArray) (results_cell 2 298 ⟨g, 0, none⟩ Tryz.results227 rfl hR) rfl ⟨by rw [HY.out], ?_⟩
      rw [HG.out]; exact hl'
def Tabs (w : World) : Prop := ∀ i, i < 64 → w.cell? ⟨2, i, none⟩ = some (.int .u32 (kc i))
theorem Tabs.lt {w : World} (h : Tabs w) : 2 < w.heap.size := cell_lt (h 0 (by decide))
theorem Tabs.below {w w' : World} {B : Nat} (h : Tabs w) (hb : Below B w w') (hB : 2 < B) : Tabs w' := fun i hi => (hb.cell (p := ⟨2, i, none⟩) hB).trans (h i hi)
theorem Tabs.only {w w' : World} {g : Nat} (h : Tabs w) (ho : Only g w w') (hg : g ≠ 2) : Tabs w' := fun i hi =>
  (World.cell?_of_block (ho.block 2 h.lt (fun e => hg (Option.some.inj e).symm))).trans (h i hi)
theorem Tabs.alloc {w : World} (h : Tabs w) (o : Obj) : Tabs (w.alloc o) := h.below ((Below.refl w.heap.size w).alloc (Nat.le_refl _) o) h.lt
theorem index_words (S : Nat → Int) (k : Nat) (hk : k < 64) (w : World) : (Instr.index 298 (.agg (ws 64 S).toArray) (.int .i64 (k : Int))).run Tryz.prog w = .ok (.int .u32 (S k)) w := by
  have h2 : (ws 64 S)[k]? = some (.int .u32 (S k)) := ws_at 64 S k hk
  simp [Instr.index, asIntOf, run_underlying Tryz.underlying298, part, go_sem, hk, h2]
theorem Tryz.zero264 : (Tryz.prog.info? 264).map (fun i => i.zero) = some (some (.agg (ws 8 (fun _ => 0)).toArray)) := by kernel_rfl
theorem zero264_run (w : World) : (zeroValue 264).run Tryz.prog w = .ok (.agg (ws 8 (fun _ => 0)).toArray) w := by
  obtain ⟨i, hi, hz⟩ := Option.map_eq_some_iff.1 Tryz.zero264
  simp [zeroValue, typeInfo, hi, hz]
set_option maxHeartbeats 1000000 in
theorem mix_any (S : Nat → Int) (hS : Ok S) (b : ByteArray) (hb : b.size = 64) (w : World) (ht : Tabs w) :
    Calls Tryz.prog 193 #[.agg (ws 8 S).toArray, .string b] w fun e w' => e = .returned (.agg (ws 8 (cpr S (wordsL be4 b))).toArray) ∧ Below w.heap.size w w' := by
  have hzr := zero264_run
  obtain ⟨Z, hZ⟩ : ∃ Z, ws 8 (fun _ => 0) = Z := ⟨_, rfl⟩
  obtain ⟨Y, hY⟩ : ∃ Y, ws 8 S = Y := ⟨_, rfl⟩
  rw [hZ] at hzr
  rw [hY]
  have hYs : Y.length = 8 := by rw [← hY, ws_length]
  have hZs : Z.length = 8 := by rw [← hZ, ws_length]
  have hYo : ∀ v ∈ Y, v.oneCell' = true := by rw [← hY]; exact ws_one _ _
  have HY : Hid (ws 8 S = Y) := hY
  have HZ : Hid (ws 8 (fun _ => 0) = Z) := hZ
  clear hY hZ
  have hL0 : Blk ((w.alloc (.cells Y.toArray 264)).alloc (.cells Z.toArray 264)) w.heap.size 264 Y := by
    have := (Blk.new w 264 Y.toArray).alloc (.cells Z.toArray 264)
    simpa using this
  have hS0 : Blk (((w.alloc (.cells Y.toArray 264)).alloc (.cells Z.toArray 264)).alloc (.cells Z.toArray 264)) (w.heap.size + 1 + 1) 264 Z := by
    have := Blk.new ((w.alloc (.cells Y.toArray 264)).alloc (.cells Z.toArray 264)) 264 Z.toArray
    simpa using this
  have hR0 : Blk (((w.alloc (.cells Y.toArray 264)).alloc (.cells Z.toArray 264)).alloc (.cells Z.toArray 264)) (w.heap.size + 1) 264 Z := by
    have := (Blk.new (w.alloc (.cells Y.toArray 264)) 264 Z.toArray).alloc (.cells Z.toArray 264)
    simpa using this
  have hb0 : Below w.heap.size w (((w.alloc (.cells Y.toArray 264)).alloc (.cells Z.toArray 264)).alloc (.cells Z.toArray 264)) := (((Below.refl _ w).alloc (Nat.le_refl _) _).alloc (by simp) _).alloc (by simp; omega) _
  go_enter Tryz.func193, Tryz.ntmps193
  go_wp2_with (first | (refine wpList_load_blk rfl 264 _ rfl w.heap.size rfl 264 Y _ hL0 Tryz.underlying264 rfl (by rw [Tryz.size264, hYs]) ?_) | (refine wpList_store_blk rfl 264 _ _ rfl (w.heap.size + 1 + 1) Z Y rfl rfl 264 hS0 (by rw [Tryz.size264, hYs]) (by rw [hZs, hYs]) hYo ?_))
  have hn : Blk ((((w.alloc (.cells Y.toArray 264)).alloc (.cells Z.toArray 264)).alloc (.cells Z.toArray 264)).setRow (w.heap.size + 1 + 1) Y.toArray) (w.heap.size + 1 + 1) 264 (ws 8 S) := by
    rw [HY.out]; exact hS0.setRow
  have hs : Blk ((((w.alloc (.cells Y.toArray 264)).alloc (.cells Z.toArray 264)).alloc (.cells Z.toArray 264)).setRow (w.heap.size + 1 + 1) Y.toArray) w.heap.size 264 (ws 8 S) := by
    rw [HY.out]; exact (hL0.alloc _).setRowOther (by omega) _
  have hr : Blk ((((w.alloc (.cells Y.toArray 264)).alloc (.cells Z.toArray 264)).alloc (.cells Z.toArray 264)).setRow (w.heap.size + 1 + 1) Y.toArray) (w.heap.size + 1) 264 (ws 8 (fun _ => 0)) := by
    rw [HZ.out]; exact hR0.setRowOther (by omega) _
  have hb1 : Below w.heap.size w ((((w.alloc (.cells Y.toArray 264)).alloc (.cells Z.toArray 264)).alloc (.cells Z.toArray 264)).setRow (w.heap.size + 1 + 1) Y.toArray) := below_setRow hb0 (by omega) _
  clear hL0 hS0 hR0 hb0 hzr hYs hZs hYo HY HZ
  generalize ((((w.alloc (.cells Y.toArray 264)).alloc (.cells Z.toArray 264)).alloc (.cells Z.toArray 264)).setRow (w.heap.size + 1 + 1) Y.toArray) = w0 at hn hs hr hb1 ⊢
  have h2g := ht.lt
  have ht0 : Tabs w0 := ht.below hb1 h2g
  obtain ⟨g, hgd⟩ : ∃ g, w.heap.size = g := ⟨_, rfl⟩
  rw [hgd] at hn hs hr hb1 h2g ⊢
  have HG : Hid (w.heap.size = g) := hgd
  clear hgd ht
  have hsz : g + 3 ≤ w0.heap.size := hn.lt
  go_wp2_with (go_at_call 227; refine (sched_any b hb _).mono ?_; rintro e w1 ⟨rfl, hbs⟩)
  have hn1 := hn.below hbs hn.lt
  have hs1 := hs.below hbs hs.lt
  have hr1 := hr.below hbs hr.lt
  have ht1 := ht0.below hbs ht0.lt
  have hb2 : Below g w w1 := hb1.trans (hbs.mono (by omega))
  clear hn hs hr ht0 hb1 hbs hsz
  obtain ⟨f, hf⟩ : ∃ f, wordsL be4 b = f := ⟨_, rfl⟩
  have hfl : ∀ i, i < 16 → 0 ≤ f i ∧ f i < 4294967296 := by rw [← hf]; exact fun i _ => words_lo b i
  have HF : Hid (wordsL be4 b = f) := hf
  rw [hf]
  clear hf
  have hix := fun k (hk : k < 64) w => index_words (Wt f) k hk w
  obtain ⟨X, hX⟩ : ∃ X, (ws 64 (Wt f)).toArray = X := ⟨_, rfl⟩
  rw [hX] at hix ⊢
  clear hX
  go_wp2_with fail
  go_loopw [12] (fun i wr => ∃ k : Nat, k ≤ 64 ∧ i = .int .i64 k ∧ Blk wr (g + 1 + 1) 264 (ws 8 (rds S (fun t => (Wt f t + kc t) % 4294967296) k)) ∧ Blk wr g 264 (ws 8 S) ∧ Blk wr (g + 1) 264 (ws 8 (fun _ => 0)) ∧ Tabs wr ∧ Below g w wr) (fun i _ => (64 - intOf i).toNat)
  case atStart => exact ⟨0, by omega, rfl, hn1, hs1, hr1, ht1, hb2⟩
  case round =>
    clear hn1 hs1 hr1 ht1 hb2
    obtain ⟨k, hk, rfl, hn, hs, hr, ht, hl⟩ := hrel
    by_cases hlt : k < 64
    · have hlt' : (k : Int) < 64 := by omega
      have hi := fun w => hix k hlt w
      have hc := ht k hlt
      have hx : 0 ≤ (Wt f k + kc k) % 4294967296 ∧ (Wt f k + kc k) % 4294967296 < 4294967296 := by omega
      have hcall := round_any (g + 1 + 1) (rds S (fun t => (Wt f t + kc t) % 4294967296) k) ((Wt f k + kc k) % 4294967296) (rds_ok _ _ k hS) hx wr hn
      rw [← rds_succ S (fun t => (Wt f t + kc t) % 4294967296) k] at hcall
      have HC := hcall
      clear hix hcall
      go_wp2_with (go_at_call 228; refine HC.mono ?_; rintro e w2 ⟨rfl, hn2, ho⟩)
      have hs2 := hs.only ho (by omega)
      have hr2 := hr.only ho (by omega)
      have ht2 := ht.only ho (by omega)
      have hl2 : Below g w w2 := Below.only hl ho (Nat.le_of_lt hs.lt) (by omega)
      clear hn hs hr ht hl ho HC hi hc
      go_wp2_with fail
      go_roundw
      case rel => exact ⟨k + 1, by omega, by go_num, hn2, hs2, hr2, ht2, hl2⟩
      case measure => simp [intOf]; omega
    · have hk64 : k = 64 := by omega
      subst hk64
      rw [show ((64 : Nat) : Int) = (64 : Int) from rfl]
      clear hix ht
      obtain ⟨R, hR⟩ : ∃ R, rds S (fun t => (Wt f t + kc t) % 4294967296) 64 = R := ⟨_, rfl⟩
      rw [hR] at hn
      have HR : Hid (cpr S (wordsL be4 b) = fun i => (R i + S i) % 4294967296) := by rw [HF.out, ← hR]; rfl
      clear hR HF
      go_wp2_with fail
      go_loopw [23] (fun i wr => ∃ q : Nat, q ≤ 8 ∧ i = .int .i64 q ∧ Blk wr (g + 1 + 1) 264 (ws 8 (fun i => if i < q then (R i + S i) % 4294967296 else R i)) ∧ Blk wr g 264 (ws 8 S) ∧ Blk wr (g + 1) 264 (ws 8 (fun _ => 0)) ∧ Below g w wr) (fun i _ => (8 - intOf i).toNat)
      case atStart => exact ⟨0, by omega, rfl, hn, hs, hr, hl⟩
      case round =>
        clear hn hs hr hl
        obtain ⟨q, hq, rfl, hn, hs, hr, hl⟩ := hrel
        by_cases hlt2 : q < 8
        · have hq' : (q : Int) < 8 := by omega
          have cn : wr.cell? ⟨g + 1 + 1, q, none⟩ = some (.int .u32 (R q)) := by
            have := hn.cell (ws_at 8 _ q hlt2)
            rw [if_neg (by omega)] at this; exact this
          have cs := hs.cell (ws_at 8 S q hlt2)
          have fn := hn.frozen q
          obtain ⟨V, hV⟩ : ∃ V, IntKind.u32.wrap (R q + S q) = V := ⟨_, rfl⟩
          have HV : Hid ((R q + S q) % 4294967296 = V) := by rw [← hV, IntKind.wrap_u32']; exact rfl
          have hn2 : Blk (wr.drew.setCell ⟨g + 1 + 1, q, none⟩ (.int .u32 V)) (g + 1 + 1) 264 (ws 8 (fun i => if i < q + 1 then (R i + S i) % 4294967296 else R i)) := by
            have hh := hn.drew.setCell q (.int .u32 V)
            rw [ws_set] at hh
            rw [ws_congr 8 (fun i => if i < q + 1 then (R i + S i) % 4294967296 else R i) (fun i => if i = q then V else if i < q then (R i + S i) % 4294967296 else R i) ?_]
            · exact hh
            · intro i _
              show (if i < q + 1 then (R i + S i) % 4294967296 else R i) = if i = q then V else if i < q then (R i + S i) % 4294967296 else R i
              by_cases h1 : i = q
              · subst h1; rw [if_pos (by omega), if_pos rfl, HV.out]
              · rw [if_neg h1]
                by_cases h2 : i < q
                · rw [if_pos h2, if_pos (by omega)]
                · rw [if_neg h2, if_neg (by omega)]
          have hs2 : Blk (wr.drew.setCell ⟨g + 1 + 1, q, none⟩ (.int .u32 V)) g 264 (ws 8 S) := hs.drew.setOther (by omega) q _
          have hr2 : Blk (wr.drew.setCell ⟨g + 1 + 1, q, none⟩ (.int .u32 V)) (g + 1) 264 (ws 8 (fun _ => 0)) := hr.drew.setOther (by omega) q _
          have hl2 : Below g w (wr.drew.setCell ⟨g + 1 + 1, q, none⟩ (.int .u32 V)) := hl.drew.setCell (by show g ≤ g + 1 + 1; omega) _
          have es := hs2.cell (ws_at 8 S q hlt2)
          clear hn hs hr hl HV
          go_wp2_with fail
          refine wp_region_noPanic ?_
          refine wp_region_held_drew (S := fun z => z.cell? ⟨g, q, none⟩ = some (.int .u32 (S q))) (by kernel_rfl) cs (fun hHeld => ?_)
          refine tkH 0 ?_; go_simp
          refine tkH 1 ?_; go_simp
          refine tkH 3 ?_; go_simp
          refine tkH 4 ?_; go_simp
          refine tkH 5 ?_; go_simp
          refine rdH 2 fun K hK => ?_
          go_simp
          refine hK.out _ _ cs (fun hHeld => ?_)
          clear hK K
          refine tkH 6 ?_; go_simp
          refine tkH 7 ?_; go_simp
          refine rdH 8 fun K hK => ?_
          go_simp
          refine hK.out _ _ es (fun hHeld => ?_)
          clear hK K
          refine wpAnyH_done (by kernel_rfl) ?_ _
          refine NoPanic.normal ?_
          have hn3 : Blk (wr.setCell ⟨g + 1 + 1, q, none⟩ (.int .u32 V)).drew (g + 1 + 1) 264 _ := hn2
          have hs3 : Blk (wr.setCell ⟨g + 1 + 1, q, none⟩ (.int .u32 V)).drew g 264 _ := hs2
          have hr3 : Blk (wr.setCell ⟨g + 1 + 1, q, none⟩ (.int .u32 V)).drew (g + 1) 264 _ := hr2
          have hl3 : Below g w (wr.setCell ⟨g + 1 + 1, q, none⟩ (.int .u32 V)).drew := hl2
          clear hn2 hs2 hr2 hl2 es cs cn fn hV
          generalize (wr.setCell ⟨g + 1 + 1, q, none⟩ (.int .u32 V)).drew = w4 at hn3 hs3 hr3 hl3 ⊢
          go_wp2_with fail
          go_roundw
          case rel => exact ⟨q + 1, by omega, by go_num, hn3, hs3, hr3, hl3⟩
          case measure => simp [intOf]; omega
        · have hq8 : q = 8 := by omega
          subst hq8
          have eV : ws 8 (fun i => if i < 8 then (R i + S i) % 4294967296 else R i) = ws 8 (cpr S (wordsL be4 b)) := by
            rw [HR.out]
            apply ws_congr
            intro i hi
            rw [if_pos hi]
          rw [eV] at hn
          have hA' : Blk (wr.setRow (g + 1) (ws 8 (cpr S (wordsL be4 b))).toArray) (g + 1) 264 (ws 8 (cpr S (wordsL be4 b))) := hr.setRow
          have hR := load264 hA'
          have hl' : Below g w (wr.setRow (g + 1) (ws 8 (cpr S (wordsL be4 b))).toArray) := below_setRow hl (by omega) _
          obtain ⟨U, hU⟩ : ∃ U, ws 8 (cpr S (wordsL be4 b)) = U := ⟨_, rfl⟩
          have hUl : U.length = 8 := by rw [← hU, ws_length]
          have hUo : ∀ v ∈ U, v.oneCell' = true := by rw [← hU]; exact ws_one _ _
          rw [hU] at hn hR hl'
          have HU : Hid (ws 8 (cpr S (wordsL be4 b)) = U) := hU
          clear hA' hl hU eV HR hs
          go_wp2_with (first | (refine wpList_load_blk rfl 264 _ rfl (g + 1 + 1) rfl 264 U _ hn Tryz.underlying264 rfl (by rw [Tryz.size264, hUl]) ?_) | (refine wpList_store_blk rfl 264 _ _ rfl (g + 1) _ U rfl rfl 264 hr (by rw [Tryz.size264, hUl]) (by rw [ws_length, hUl]) hUo ?_))
          refine bodyPost_ret_by (v := .agg U.toArray) (results_cell 4 264 ⟨g + 1, 0, none⟩ Tryz.results193 rfl hR) rfl ⟨by rw [HU.out], ?_⟩
          rw [HG.out]; exact hl'
open Go.RowKit Go.PlainAid Go.Shelf
def repRen : Go.Shelf.Ren := ⟨fun | 105 => 104 | 212 => 115 | 99 => 149 | 165 => 150 | 166 => 151 | 170 => 152 | 169 => 153 | 263 => 165 | 264 => 166 | 206 => 195 | 240 => 196 | 241 => 197 | 276 => 229 | 277 => 230 | n => n, fun | 9 => 9 | 3 => 3 | 4 => 4 | 20 => 20 | 0 => 0 | 46 => 190 | 109 => 191 | 5 => 5 | 72 => 230 | 76 => 233 | 51 => 195 | 146 => 242 | 53 => 198 | 148 => 244 | 70 => 228 | 37 => 22 | 75 => 232 | 127 => 275 | 164 => 307 | 80 => 227 | n => n, fun | n => n⟩
theorem repLays : Go.Proofs.Lays.n105 Tryz.prog repRen := {
  mixed := by kernel_rfl
  f99 := Tryz.func149.trans (congrArg some (by kernel_rfl))
  f105 := Tryz.func104.trans (congrArg some (by kernel_rfl))
  f165 := Tryz.func150.trans (congrArg some (by kernel_rfl))
  f166 := Tryz.func151.trans (congrArg some (by kernel_rfl))
  f169 := Tryz.func153.trans (congrArg some (by kernel_rfl))
  f170 := Tryz.func152.trans (congrArg some (by kernel_rfl))
  f206 := Tryz.func195.trans (congrArg some (by kernel_rfl))
  f212 := Tryz.func115.trans (congrArg some (by kernel_rfl))
  f240 := Tryz.func196.trans (congrArg some (by kernel_rfl))
  f241 := Tryz.func197.trans (congrArg some (by kernel_rfl))
  f263 := Tryz.func165.trans (congrArg some (by kernel_rfl))
  f264 := Tryz.func166.trans (congrArg some (by kernel_rfl))
  f276 := Tryz.func229.trans (congrArg some (by kernel_rfl))
  f277 := Tryz.func230.trans (congrArg some (by kernel_rfl))
  t0 := Tryz.underlying0
  a0 := Tryz.isAgg0
  z0 := Tryz.sizeOf0
  v0 := Tryz.zeroValue0
  t3 := Tryz.underlying3
  a3 := Tryz.isAgg3
  z3 := Tryz.sizeOf3
  v3 := Tryz.zeroValue3
  t4 := Tryz.underlying4
  a4 := Tryz.isAgg4
  z4 := Tryz.sizeOf4
  v4 := Tryz.zeroValue4
  t5 := Tryz.underlying5
  a5 := Tryz.isAgg5
  z5 := Tryz.sizeOf5
  v5 := Tryz.zeroValue5
  t9 := Tryz.underlying9
  a9 := Tryz.isAgg9
  z9 := Tryz.sizeOf9
  v9 := Tryz.zeroValue9
  t20 := Tryz.underlying20
  a20 := Tryz.isAgg20
  z20 := Tryz.sizeOf20
  v20 := Tryz.zeroValue20
  t37 := Tryz.underlying22
  a37 := Tryz.isAgg22
  z37 := Tryz.sizeOf22
  v37 := Tryz.zeroValue22
  t46 := Tryz.underlying190
  a46 := Tryz.isAgg190
  z46 := Tryz.sizeOf190
  v46 := Tryz.zeroValue190
  t51 := Tryz.underlying195
  a51 := Tryz.isAgg195
  z51 := Tryz.sizeOf195
  v51 := Tryz.zeroValue195
  t53 := Tryz.underlying198
  a53 := Tryz.isAgg198
  z53 := Tryz.sizeOf198
  v53 := Tryz.zeroValue198
  t70 := Tryz.underlying228
  a70 := Tryz.isAgg228
  z70 := Tryz.sizeOf228
  v70 := Tryz.zeroValue228
  t72 := Tryz.underlying230
  a72 := Tryz.isAgg230
  z72 := Tryz.sizeOf230
  v72 := Tryz.zeroValue230
  t75 := Tryz.underlying232
  a75 := Tryz.isAgg232
  z75 := Tryz.sizeOf232
  v75 := Tryz.zeroValue232
  t76 := Tryz.underlying233
  a76 := Tryz.isAgg233
  z76 := Tryz.sizeOf233
  v76 := Tryz.zeroValue233
  t109 := Tryz.underlying191
  a109 := Tryz.isAgg191
  z109 := Tryz.sizeOf191
  v109 := Tryz.zeroValue191
  t127 := Tryz.underlying275
  a127 := Tryz.isAgg275
  z127 := Tryz.sizeOf275
  v127 := Tryz.zeroValue275
  t146 := Tryz.underlying242
  a146 := Tryz.isAgg242
  z146 := Tryz.sizeOf242
  v146 := Tryz.zeroValue242
  t148 := Tryz.underlying244
  a148 := Tryz.isAgg244
  z148 := Tryz.sizeOf244
  v148 := Tryz.zeroValue244
  t164 := Tryz.underlying307
  a164 := Tryz.isAgg307
  z164 := Tryz.sizeOf307
  v164 := Tryz.zeroValue307 }
theorem repExtra : Builder.Extra Tryz.prog repRen := {
  sizeBuilder := by kernel_rfl
  liesBuilder := by kernel_rfl
  t5 := Tryz.underlying5
  a5 := Tryz.isAgg5
  z5 := Tryz.sizeOf5
  v5 := Tryz.zeroValue5
  infoByte := by kernel_rfl
  cellsByte := by kernel_rfl
  sizeByte := by kernel_rfl
  neB5 := by decide }
theorem repeat_any (s : ByteArray) (c : Nat) (w : World) (hc : c ≤ 9223372036854775807) (hlen : s.size * c ≤ 140737488355328) :
    Calls Tryz.prog 104 #[.string s, .int .i64 c] w fun e w' => e = .returned (.string ⟨(Lib.repeatL s.data.toList c).toArray⟩) ∧ Below w.heap.size w w' := Any.strings_Repeat repLays repExtra s c w hc hlen
theorem repeat_zero (c : Nat) (w : World) (hc : c ≤ 1000) :
    Calls Tryz.prog 104 #[.string ⟨#[0]⟩, .int .i64 c] w fun e w' => e = .returned (.string (strOfNums (List.replicate c 0))) ∧ Below w.heap.size w w' := by
  refine (repeat_any ⟨#[0]⟩ c w (by omega) (by show 1 * c ≤ _; omega)).mono ?_
  rintro e w' ⟨rfl, hb⟩
  refine ⟨?_, hb⟩
  have h := Lib.repeatL_replicate 0 1 c
  rw [show (⟨#[0]⟩ : ByteArray).data.toList = List.replicate 1 0 from rfl, h, Nat.mul_one]
  unfold strOfNums
  rw [List.map_replicate]
  rfl
theorem strOfNums_append (a b : List Int) : strOfNums (a ++ b) = strOfNums a ++ strOfNums b := by
  apply ByteArray.ext
  rw [ByteArray.data_append]
  unfold strOfNums
  simp
set_option maxHeartbeats 400000 in
theorem ending_any (n : Nat) (hn : n ≤ 150000000000000) (w : World) :
    Calls Tryz.prog 194 #[.int .i64 (n : Int)] w fun e w' => e = .returned (.string (endB n)) ∧ Below w.heap.size w w' := by
  go_enter Tryz.func194, Tryz.ntmps194
  go_wp2_with fail
  rw [show (-(((n : Int) + 1 + 8) % 64) % 64 : Int) = ((zs n : Nat) : Int) from by unfold zs; omega]
  refine (repeat_zero (zs n) w (by unfold zs; omega)).mono ?_
  rintro e w1 ⟨rfl, hb1⟩
  obtain ⟨R, hR⟩ : ∃ R, strOfNums (List.replicate (zs n) 0) = R := ⟨_, rfl⟩
  have hRs : R.size ≤ 63 := by rw [← hR, strOfNums_size, List.length_replicate]; unfold zs; omega
  rw [hR]
  have HR : Hid (strOfNums (List.replicate (zs n) 0) = R) := hR
  clear hR
  have ha : At (w1.alloc (.cells #[.int .u32 ((n : Int) * 8 / 4294967296), .int .u32 ((n : Int) * 8 % 4294967296)] 195)) (some ⟨w1.heap.size, 0, none⟩) 2 (lw n) := by
    refine .inr ⟨w1.heap.size, 0, rfl, fun i hi => ?_⟩
    have hblk := Blk.new w1 195 #[.int .u32 ((n : Int) * 8 / 4294967296), .int .u32 ((n : Int) * 8 % 4294967296)]
    have e : i = 0 ∨ i = 1 := by omega
    rcases e with rfl | rfl
    · refine hblk.cell ?_
      rw [lw, if_pos rfl, Int.mul_comm 8]; rfl
    · refine hblk.cell ?_
      rw [lw, if_neg (by decide), Int.mul_comm 8]; rfl
  have hlw : ∀ i, i < 2 → 0 ≤ lw n i ∧ lw n i < 4294967296 := by
    intro i _
    unfold lw
    split <;> omega
  have hb2 : Below w.heap.size w (w1.alloc (.cells #[.int .u32 ((n : Int) * 8 / 4294967296), .int .u32 ((n : Int) * 8 % 4294967296)] 195)) := hb1.alloc hb1.size _
  go_wp2_with fail
  refine (fromBig_any _ 2 2 (lw n) _ (by omega) ha hlw).mono ?_
  rintro e w2 ⟨rfl, hb3⟩
  have hb4 := hb2.trans (hb3.mono hb2.size)
  clear ha hlw hb2 hb3
  obtain ⟨U, hU⟩ : ∃ U, strOfNums (joinF fourB (lw n) 2) = U := ⟨_, rfl⟩
  have hUs : U.size = 8 := by rw [← hU, strOfNums_size, joinF_length fourB (fun _ => rfl)]
  rw [hU]
  have HU : Hid (strOfNums (joinF fourB (lw n) 2) = U) := hU
  clear hU
  go_wp2_with fail
  go_ret
  refine ⟨?_, hb4⟩
  rw [← HR.out, ← HU.out]
  congr 2
  unfold endB endL
  rw [show (128 :: (List.replicate (zs n) 0 ++ joinF fourB (lw n) 2) : List Int) = ([128] ++ List.replicate (zs n) 0) ++ joinF fourB (lw n) 2 from rfl, strOfNums_append, strOfNums_append]
  rfl
def hcells (S R : Nat → Int) (n : Nat) : List Value := (List.range 73).map fun j => if j < 8 then .int .u32 (S j) else if j < 72 then .int .u8 (R (j - 8)) else .int .i64 (n : Int)
theorem hcells_length (S R : Nat → Int) (n : Nat) : (hcells S R n).length = 73 := by simp [hcells]
theorem hcells_at (S R : Nat → Int) (n j : Nat) (h : j < 73) : (hcells S R n)[j]? = some (if j < 8 then .int .u32 (S j) else if j < 72 then .int .u8 (R (j - 8)) else .int .i64 (n : Int)) := by
  simp [hcells, h]
theorem hcells_state (S R : Nat → Int) (n j : Nat) (h : j < 8) : (hcells S R n)[j]? = some (.int .u32 (S j)) := by
  rw [hcells_at S R n j (by omega), if_pos h]
theorem hcells_rest (S R : Nat → Int) (n j : Nat) (h : j < 64) : (hcells S R n)[8 + j]? = some (.int .u8 (R j)) := by
  rw [hcells_at S R n (8 + j) (by omega), if_neg (by omega), if_pos (by omega), Nat.add_sub_cancel_left]
theorem hcells_len (S R : Nat → Int) (n : Nat) : (hcells S R n)[72]? = some (.int .i64 (n : Int)) := by
  rw [hcells_at S R n 72 (by omega), if_neg (by omega), if_neg (by omega)]
theorem hcells_one (S R : Nat → Int) (n : Nat) : ∀ v ∈ hcells S R n, v.oneCell' = true := by
  intro v hv
  obtain ⟨i, _, rfl⟩ := List.mem_map.1 hv
  split
  · rfl
  · split <;> rfl
theorem hcells_congr (S S' R R' : Nat → Int) (n : Nat) (hS : ∀ i, i < 8 → S i = S' i) (hR : ∀ i, i < 64 → R i = R' i) : hcells S R n = hcells S' R' n := by
  unfold hcells
  apply List.map_congr_left
  intro j hj
  have := List.mem_range.1 hj
  by_cases h : j < 8
  · rw [if_pos h, if_pos h, hS j h]
  · rw [if_neg h, if_neg h]
    by_cases h2 : j < 72
    · rw [if_pos h2, if_pos h2, hR (j - 8) (by omega)]
    · rw [if_neg h2, if_neg h2]
theorem hcells_setLen (S R : Nat → Int) (n m : Nat) : (hcells S R n).set 72 (.int .i64 (m : Int)) = hcells S R m := by
  apply List.ext_getElem
  · simp [hcells]
  · intro j h1 h2
    simp only [hcells_length] at h2
    rw [List.getElem_set]
    simp only [hcells, List.getElem_map, List.getElem_range]
    by_cases e : 72 = j
    · subst e; rw [if_pos rfl, if_neg (by omega), if_neg (by omega)]
    · rw [if_neg e]
      by_cases h : j < 8
      · rw [if_pos h, if_pos h]
      · rw [if_neg h, if_neg h, if_pos (by omega), if_pos (by omega)]
def HashAt (w : World) (g : Nat) (s : ByteArray) : Prop := ∃ R : Nat → Int, (∀ i, 0 ≤ R i ∧ R i ≤ 255) ∧ (∀ i, i < s.size % 64 → R i = bt s (64 * (s.size / 64) + i)) ∧ Blk w g 274 (hcells (hst s (s.size / 64)) R s.size)
theorem HashAt.lt {w : World} {g : Nat} {s : ByteArray} (h : HashAt w g s) : g < w.heap.size := by
  obtain ⟨R, _, _, hb⟩ := h
  exact hb.lt
theorem HashAt.below {w w' : World} {g B : Nat} {s : ByteArray} (h : HashAt w g s) (hb : Below B w w') (hB : g < B) : HashAt w' g s := by
  obtain ⟨R, h1, h2, h3⟩ := h
  exact ⟨R, h1, h2, h3.below hb hB⟩
theorem HashAt.only {w w' : World} {g k : Nat} {s : ByteArray} (h : HashAt w g s) (ho : Only k w w') (hk : g ≠ k) : HashAt w' g s := by
  obtain ⟨R, h1, h2, h3⟩ := h
  exact ⟨R, h1, h2, h3.only ho hk⟩
theorem hcells_over (S R : Nat → Int) (n r k : Nat) (f : Nat → Int) (hk : r + k ≤ 64) :
    List.take (8 + r) (hcells S R n) ++ ((List.range k).map fun i => Value.int .u8 (f i)) ++ List.drop (8 + r + k) (hcells S R n) = hcells S (fun i => if r ≤ i ∧ i < r + k then f (i - r) else R i) n := by
  apply List.ext_getElem?
  intro j
  rcases Nat.lt_or_ge j (8 + r) with h | h
  · rw [List.append_assoc, List.getElem?_append_left (by simp [hcells_length]; omega), List.getElem?_take_of_lt h, hcells_at _ _ _ _ (by omega), hcells_at _ _ _ _ (by omega)]
    by_cases h8 : j < 8
    · rw [if_pos h8, if_pos h8]
    · rw [if_neg h8, if_neg h8, if_pos (by omega), if_pos (by omega), if_neg (by omega)]
  · rw [List.append_assoc, List.getElem?_append_right (by simp [hcells_length]; omega)]
    have e : j - (List.take (8 + r) (hcells S R n)).length = j - (8 + r) := by simp [hcells_length]; omega
    rw [e]
    rcases Nat.lt_or_ge j (8 + r + k) with h2 | h2
    · rw [List.getElem?_append_left (by simp; omega), hcells_at _ _ _ _ (by omega), if_neg (by omega), if_pos (by omega), if_pos (by omega), List.getElem?_map, List.getElem?_range (by omega)]
      show some (Value.int .u8 (f (j - (8 + r)))) = _
      congr 3
      omega
    · rw [List.getElem?_append_right (by simp; omega), List.getElem?_drop]
      simp only [List.length_map, List.length_range]
      rw [show 8 + r + k + (j - (8 + r) - k) = j by omega]
      rcases Nat.lt_or_ge j 73 with h3 | h3
      · have h8 : ¬ j < 8 := by omega
        rw [hcells_at _ _ _ _ h3, hcells_at _ _ _ _ h3, if_neg h8, if_neg h8]
        by_cases h4 : j < 72
        · rw [if_pos h4, if_pos h4, if_neg (by omega)]
        · rw [if_neg h4, if_neg h4]
      · rw [List.getElem?_eq_none (by rw [hcells_length]; omega), List.getElem?_eq_none (by rw [hcells_length]; omega)]
theorem Tryz.size5 : (Tryz.prog.info? 5).map (·.size) = some 1 := by kernel_rfl
theorem str_cells (q : ByteArray) (k : Nat) (hk : k ≤ q.size) : List.take k (List.map (fun b => Value.int .u8 (b.toNat : Int)) q.data.toList) = (List.range k).map fun i => Value.int .u8 (bt q i) := by
  have hs : q.size = q.data.size := rfl
  apply List.ext_getElem
  · simp; omega
  · intro i h1 h2
    simp only [List.length_map, List.length_range] at h2
    simp only [List.getElem_take, List.getElem_map, List.getElem_range]
    unfold bt
    rw [dif_pos (show i < q.size by omega)]
    simp
    rfl
theorem run_copy_text (w : World) (S R : Nat → Int) (n r k g : Nat) (q : ByteArray) (hg : Blk w g 274 (hcells S R n)) (hr : r < 64) (hk : k = min q.size (64 - r)) :
    (Builtin.copy_ #[22, 9] 3 #[.slice (some ⟨g, 8 + r, none⟩) (64 - r) (64 - r), .string q]).run Tryz.prog w = .ok (.int .i64 (k : Int)) (w.setRow g (hcells S (fun i => if r ≤ i ∧ i < r + k then bt q (i - r) else R i) n).toArray) := by
  have hst := run_storeCells_at Tryz.prog g (8 + r) 274 ((List.range k).map fun i => Value.int .u8 (bt q i)) 0 (hcells S R n).toArray w hg (by simp [hcells_length]; omega) (fun v hv => by
    obtain ⟨i, _, rfl⟩ := List.mem_map.1 hv
    rfl)
  have ho := hcells_over S R n r k (bt q) (by omega)
  simp only [Nat.add_zero, List.length_map, List.length_range] at hst
  rw [ho] at hst
  have hc := str_cells q k (by omega)
  have hm : Nat.min q.size (64 - r) = k := by rw [hk]
  obtain ⟨i0, hi, _⟩ := Option.map_eq_some_iff.1 Tryz.size5
  simp [Builtin.copy_, run_underlying Tryz.underlying22, Builtin.lenOf, Builtin.firstCells, sizeOf, typeInfo, hi, hm]
  rw [hc, hst]
  rfl
def b64 (R : Nat → Int) : ByteArray := strOfNums ((List.range 64).map R)
theorem b64_size (R : Nat → Int) : (b64 R).size = 64 := by unfold b64; rw [strOfNums_size]; simp
theorem bt_b64 (R : Nat → Int) (hR : ∀ i, 0 ≤ R i ∧ R i ≤ 255) (i : Nat) (h : i < 64) : bt (b64 R) i = R i := by
  unfold b64
  rw [bt_str _ (fun x hx => by obtain ⟨j, _, rfl⟩ := List.mem_map.1 hx; exact hR j) i (by simp; exact h)]
  simp
def Rn (R : Nat → Int) (q : ByteArray) (r k i : Nat) : Int := if r ≤ i ∧ i < r + k then bt q (i - r) else R i
theorem Rn_range (R : Nat → Int) (q : ByteArray) (r k : Nat) (hR : ∀ i, 0 ≤ R i ∧ R i ≤ 255) : ∀ i, 0 ≤ Rn R q r k i ∧ Rn R q r k i ≤ 255 := by
  intro i
  unfold Rn
  split
  · exact bt_range q _
  · exact hR i
theorem Rn_bytes (c t : ByteArray) (p k : Nat) (R : Nat → Int) (hk : k ≤ 64 - c.size % 64) (hp : p + k ≤ t.size) (hR : ∀ i, i < c.size % 64 → R i = bt c (64 * (c.size / 64) + i)) :
    ∀ i, i < c.size % 64 + k → Rn R (t.extract p t.size) (c.size % 64) k i = bt (c ++ t.extract p (p + k)) (64 * (c.size / 64) + i) := by
  intro i hi
  unfold Rn
  by_cases h : c.size % 64 ≤ i
  · rw [if_pos ⟨h, hi⟩, bt_cut t p t.size _ (Nat.le_refl _) (by omega), bt_right _ _ _ (by omega), bt_cut t p (p + k) _ hp (by omega)]
    congr 1
    omega
  · rw [if_neg (fun h2 => h h2.1), bt_left _ _ _ (by omega), hR i (by omega)]
theorem hst_more (c u : ByteArray) (m : Nat) (h : 64 * m ≤ c.size) : hst (c ++ u) m = hst c m := hst_congr _ _ m fun i hi => bt_left c u i (by omega)
theorem whole_step (c t : ByteArray) (p k : Nat) (R : Nat → Int) (hk : k = 64 - c.size % 64) (hp : p + k ≤ t.size) (hR0 : ∀ i, 0 ≤ R i ∧ R i ≤ 255) (hR : ∀ i, i < c.size % 64 → R i = bt c (64 * (c.size / 64) + i)) :
    hst (c ++ t.extract p (p + k)) (c.size / 64 + 1) = cpr (hst c (c.size / 64)) (wordsL be4 (b64 (Rn R (t.extract p t.size) (c.size % 64) k))) := by
  rw [hst, hst_more _ _ _ (by omega)]
  apply cpr_congr
  intro i hi
  have hb : ∀ j, j < 64 → bt (c ++ t.extract p (p + k)) (64 * (c.size / 64) + j) = bt (b64 (Rn R (t.extract p t.size) (c.size % 64) k)) j := fun j hj => by
    rw [bt_b64 _ (Rn_range R _ _ _ hR0) j hj, Rn_bytes c t p k R (by omega) hp hR j (by omega)]
  unfold blk wordsL
  rw [show (16 * (c.size / 64) + i) * 4 = 64 * (c.size / 64) + i * 4 by omega]
  simp only [Nat.add_assoc]
  rw [hb _ (by omega), hb _ (by omega), hb _ (by omega), hb _ (by omega)]
theorem step_load_mid {P : Program} {ops : Array Oper} {o : Oper} {a : Act} {w : World} {K : Act → World → Prop} {Q : Exit → Act → World → Prop} {E : Prop} (hgd : o.guard = none) (ty : TypeId) (x : Operand) (ho : o.op = .load ty x)
    (b off : Nat) (hx : a.eval x = .pointer (some ⟨b, off, none⟩)) (cs : List Value) (d : TypeDesc) (hc : w.rangeAt b off cs)
    (hu : P.underlying ty = some d) (hd : d.isRow = true) (hi : (P.info? ty).map (·.size) = some cs.length) (h : K (a.put o.dst (.agg cs.toArray)) w) :
    if Region.wanted o (yielded ops a.tmps) = true then Oper.wp P o a w K Q else E := by
  rw [if_pos (by simp [Region.wanted, hgd])]
  exact wp_load_mid ty x ho b off hx cs d hc hu hd hi h
theorem step_store_mid {P : Program} {ops : Array Oper} {o : Oper} {a : Act} {w : World} {K : Act → World → Prop} {Q : Exit → Act → World → Prop} {E : Prop} (hgd : o.guard = none) (ty : TypeId) (x y : Operand) (ho : o.op = .store ty x y)
    (b off : Nat) (cells : Array Value) (hx : a.eval x = .pointer (some ⟨b, off, none⟩)) (hy : a.eval y = .agg cells)
    (ht : w.there b off cells.size) (hi : (P.info? ty).map (·.size) = some cells.size) (h1 : cells.all (·.oneCell') = true) (h : K (a.put o.dst undef) (w.setCells b off cells.toList)) :
    if Region.wanted o (yielded ops a.tmps) = true then Oper.wp P o a w K Q else E := by
  rw [if_pos (by simp [Region.wanted, hgd])]
  exact wp_store_mid ty x y ho b off cells hx hy ht hi h1 h
def setL (L : List Value) (o : Nat) : List Value → List Value
  | [] => L
  | v :: r => setL (L.set o v) (o + 1) r
theorem Blk.setCells {g : Nat} {T : TypeId} : ∀ (vs : List Value) (o : Nat) (w : World) (L : List Value), Blk w g T L → Blk (w.setCells g o vs) g T (setL L o vs)
  | [], _, _, _, h => h
  | v :: r, o, w, L, h => Blk.setCells r (o + 1) _ _ (h.setCell o v)
theorem Only.setCells {g : Nat} {a : World} : ∀ (vs : List Value) (o : Nat) (w : World), Only g a w → Only g a (w.setCells g o vs)
  | [], _, _, h => h
  | v :: r, o, w, h => Only.setCells r (o + 1) _ (h.setCell o v)
theorem hcells_setS (S R : Nat → Int) (n j : Nat) (x : Int) (hj : j < 8) : (hcells S R n).set j (.int .u32 x) = hcells (fun i => if i = j then x else S i) R n := by
  apply List.ext_getElem
  · simp [hcells]
  · intro i h1 h2
    simp only [hcells_length] at h2
    rw [List.getElem_set]
    simp only [hcells, List.getElem_map, List.getElem_range]
    by_cases e : j = i
    · subst e; rw [if_pos rfl, if_pos hj, if_pos rfl]
    · rw [if_neg e]
      by_cases h : i < 8
      · rw [if_pos h, if_pos h, if_neg (fun h => e h.symm)]
      · rw [if_neg h, if_neg h]
theorem hcells_setAll (S S' R : Nat → Int) (n : Nat) : setL (hcells S R n) 0 (ws 8 S') = hcells S' R n := by
  rw [show ws 8 S' = [.int .u32 (S' 0), .int .u32 (S' 1), .int .u32 (S' 2), .int .u32 (S' 3), .int .u32 (S' 4), .int .u32 (S' 5), .int .u32 (S' 6), .int .u32 (S' 7)] from rfl]
  simp only [setL]
  rw [hcells_setS _ _ _ _ _ (by omega), hcells_setS _ _ _ _ _ (by omega), hcells_setS _ _ _ _ _ (by omega), hcells_setS _ _ _ _ _ (by omega), hcells_setS _ _ _ _ _ (by omega), hcells_setS _ _ _ _ _ (by omega), hcells_setS _ _ _ _ _ (by omega), hcells_setS _ _ _ _ _ (by omega)]
  apply hcells_congr
  · intro i hi
    have e : i = 0 ∨ i = 1 ∨ i = 2 ∨ i = 3 ∨ i = 4 ∨ i = 5 ∨ i = 6 ∨ i = 7 := by omega
    rcases e with rfl | rfl | rfl | rfl | rfl | rfl | rfl | rfl <;> rfl
  · intro i _; rfl
theorem Blk.range {w : World} {g : Nat} {T : TypeId} {L M : List Value} {o : Nat} (h : Blk w g T L) (hm : ∀ j v, M[j]? = some v → L[o + j]? = some v) : w.rangeAt g o M := fun j v hv => h.cell (hm j v hv)
theorem Blk.there {w : World} {g : Nat} {T : TypeId} {L : List Value} {o n : Nat} (h : Blk w g T L) (hn : o + n ≤ L.length) : w.there g o n := fun j hj =>
  ⟨by rw [h.cell (List.getElem?_eq_getElem (show o + j < L.length by omega))]; rfl, h.frozen _⟩
theorem empty_size (q : ByteArray) : q.toList.isEmpty = decide (q.size = 0) := by
  rw [Lib.toList_data]
  have h : q.data.toList.length = q.size := Array.length_toList
  cases hq : q.data.toList with
  | nil => rw [hq] at h; simp at h; simp [← h]
  | cons a l => rw [hq] at h; simp at h; simp [← h]
theorem cut_none (t : ByteArray) (s : ByteArray) : s ++ t.extract 0 0 = s := by
  apply bt_ext
  · rw [ByteArray.size_append, ByteArray.size_extract]; omega
  · intro i hi
    rw [ByteArray.size_append, ByteArray.size_extract] at hi
    exact bt_left _ _ _ (by omega)
theorem HashAt.drew {w : World} {g : Nat} {s : ByteArray} (h : HashAt w g s) : HashAt w.drew g s := h
theorem run_of_rem (n : Nat) : ((n : Int)).tmod 64 = ((n % 64 : Nat) : Int) := by
  rw [Int.tmod_eq_emod_of_nonneg (by omega)]; omega
set_option maxHeartbeats 1000000 in
theorem write_any (g : Nat) (s t : ByteArray) (hsz : s.size + t.size ≤ 150000000000000) (w : World) (hh : HashAt w g s) (ht : Tabs w) (hg2 : g ≠ 2) :
    Calls Tryz.prog 147 #[.pointer (some ⟨g, 0, none⟩), .string t] w fun e w' => e = .returned (.tuple #[]) ∧ HashAt w' g (s ++ t) ∧ Only g w w' := by
  go_enter Tryz.func147, Tryz.ntmps147
  go_wp2_with fail
  go_loopw [1] (fun q wr => ∃ p : Nat, p ≤ t.size ∧ q = .string (t.extract p t.size) ∧ HashAt wr g (s ++ t.extract 0 p) ∧ Tabs wr ∧ Only g w wr) (fun q _ => strLen q)
  case atStart => exact ⟨0, by omega, by rw [cut_all], by rw [cut_none]; exact hh, ht, Only.refl _ _⟩
  case round =>
    clear hh ht
    obtain ⟨p, hp, rfl, hh, ht, ho⟩ := hrel
    obtain ⟨q, hq⟩ : ∃ q, t.extract p t.size = q := ⟨_, rfl⟩
    have hqs : q.size = t.size - p := by rw [← hq, ByteArray.size_extract]; omega
    have hqe := empty_size q
    rw [hq]
    have HQS : Hid (q.size = t.size - p) := hqs
    by_cases hlt : p < t.size
    · have hqe' : q.toList.isEmpty = false := by rw [hqe]; exact decide_eq_false (by omega)
      clear hqe
      obtain ⟨c, hc⟩ : ∃ c, s ++ t.extract 0 p = c := ⟨_, rfl⟩
      have hcs : c.size = s.size + p := by rw [← hc, ByteArray.size_append, ByteArray.size_extract]; omega
      rw [hc] at hh
      obtain ⟨R, hR0, hR1, hB⟩ := hh
      obtain ⟨S, hS⟩ : ∃ S, hst c (c.size / 64) = S := ⟨_, rfl⟩
      rw [hS] at hB
      obtain ⟨n, hn⟩ : ∃ n, c.size = n := ⟨_, rfl⟩
      obtain ⟨r, hr⟩ : ∃ r, n % 64 = r := ⟨_, rfl⟩
      obtain ⟨k, hk⟩ : ∃ k, min q.size (64 - r) = k := ⟨_, rfl⟩
      have hr64 : r < 64 := by omega
      have hk1 : 1 ≤ k := by omega
      have hkq : k ≤ q.size := by omega
      have hkr : r + k ≤ 64 := by omega
      have hn1 : n ≤ 150000000000000 := by omega
      have hnk : n + k ≤ 150000000000000 := by omega
      rw [hn] at hB
      have c72 := hB.cell (hcells_len S R n)
      have hrun := run_copy_text wr.drew S R n r k g q hB hr64 hk.symm
      have hB2 : Blk (wr.drew.setRow g (hcells S (Rn R q r k) n).toArray) g 274 (hcells S (Rn R q r k) n) := hB.drew.setRow
      have ho2 : Only g w (wr.drew.setRow g (hcells S (Rn R q r k) n).toArray) := ho.drew.setRow _
      have ht2 : Tabs (wr.drew.setRow g (hcells S (Rn R q r k) n).toArray) := (show Tabs wr.drew from ht).only ((Only.refl g wr.drew).setRow _) hg2
      have e72 : (wr.drew.setRow g (hcells S (Rn R q r k) n).toArray).cell? ⟨g, 72, none⟩ = some (.int .i64 (n : Int)) := hB2.cell (hcells_len S _ n)
      have er : ((n : Int)).tmod 64 = (r : Int) := by rw [run_of_rem, hr]
      have er' : ((n : Int)) % 64 = (r : Int) := by omega
      have HC : Hid (s ++ t.extract 0 p = c) := hc
      have HS : Hid (hst c (c.size / 64) = S) := hS
      have HN : Hid (c.size = n) := hn
      have HQ : Hid (t.extract p t.size = q) := hq
      have hrI : (r : Int) < 64 := by omega
      have hrI0 : (0 : Int) ≤ (r : Int) := by omega
      have hrI1 : (r : Int) ≤ 64 := by omega
      have hr64' : (64 = r) = False := eq_false (by omega)
      have hqs1 : q.size ≤ 150000000000000 := by omega
      have hqs2 : p + k ≤ t.size := by omega
      clear hc hS hn hq hB hqs
      go_wp2_with fail
      refine wp_region_noPanic ?_
      refine wp_region_held_drew (S := fun z => z.cell? ⟨g, 72, none⟩ = some (.int .i64 (n : Int))) (by kernel_rfl) c72 (fun hHeld => ?_)
      refine tkH 0 ?_; go_simp
      refine tkH 1 ?_; go_simp
      refine tkH 2 ?_; go_simp
      refine tkH 3 ?_; go_simp
      refine tkH 4 ?_; go_simp
      refine tkH 5 ?_; go_simp
      refine tkH 6 ?_; go_simp
      refine tkH 7 ?_; go_simp
      refine tkH 8 ?_; go_simp
      refine tkH 9 ?_; go_simp
      refine rdH 10 fun K hK => ?_
      refine step_copy_run rfl _ _ 22 9 rfl _ _ rfl rfl _ _ hrun ?_
      refine hK.out _ _ e72 (fun hHeld => ?_)
      clear hK K
      go_simp
      refine tkH 11 ?_; go_simp
      refine wpAnyH_done (by kernel_rfl) ?_ _
      refine NoPanic.normal ?_
      rw [show (fun i => if r ≤ i ∧ i < r + k then bt q (i - r) else R i) = Rn R q r k from rfl]
      clear hrun c72 hqe' e72 er er'
      generalize wr.drew.setRow g (hcells S (Rn R q r k) n).toArray = w2 at hB2 ho2 ht2 ⊢
      have d72 := hB2.cell (hcells_len S (Rn R q r k) n)
      have f72 := hB2.frozen 72
      have hB3 := hB2.setCell 72 (.int .i64 ((n : Int) + (k : Int)))
      rw [show ((n : Int) + (k : Int)) = ((n + k : Nat) : Int) by omega, hcells_setLen] at hB3
      have ho3 := ho2.setCell 72 (.int .i64 ((n : Int) + (k : Int)))
      have ht3 : Tabs (w2.setCell ⟨g, 72, none⟩ (.int .i64 ((n : Int) + (k : Int)))) := ht2.only ((Only.refl g w2).setCell 72 _) hg2
      rw [show (((n + k : Nat) : Int)) = (n : Int) + (k : Int) by omega] at hB3
      have hkI : (k : Int) ≤ (q.size : Int) := by omega
      clear hB2 ho2 ht2
      have e0 : k ≤ q.size := hkq
      have hnx : q.extract k q.size = t.extract (p + k) t.size := by
        have hh := cut_cut t p k (by omega)
        rw [HQ.out] at hh
        exact hh
      have hjoin : s ++ t.extract 0 (p + k) = c ++ t.extract p (p + k) := by
        rw [← HC.out, join_assoc, cut_join t p (p + k) (by omega) hqs2]
      have hcsz : (s ++ t.extract 0 (p + k)).size = n + k := by
        rw [hjoin, ByteArray.size_append, HN.out, ByteArray.size_extract]; omega
      have hRb := Rn_bytes c t p k R (by rw [HN.out, hr]; omega) hqs2 hR1
      rw [HN.out, hr, HQ.out] at hRb
      by_cases hw : r + k = 64
      · have hz : ((n : Int) + (k : Int)) % 64 = 0 := by omega
        have hwh := whole_step c t p k R (by rw [HN.out, hr]; omega) hqs2 hR0 hR1
        rw [HS.out, HQ.out, ← hjoin, HN.out, hr] at hwh
        have hOk : Ok S := by rw [← HS.out]; exact hst_ok _ _
        go_wp2_with fail
        clear d72 f72 hz hRb
        generalize w2.setCell ⟨g, 72, none⟩ (.int .i64 ((n : Int) + (k : Int))) = w3 at hB3 ho3 ht3 ⊢
        obtain ⟨R', hR'⟩ : ∃ R', Rn R q r k = R' := ⟨_, rfl⟩
        have hR0' : ∀ i, 0 ≤ R' i ∧ R' i ≤ 255 := by rw [← hR']; exact Rn_range R q r k hR0
        rw [hR'] at hB3 hwh
        have hconv : (convert 22 9 (.slice (some ⟨g, 8, none⟩) 64 64)).run Tryz.prog w3.drew = .ok (.string (b64 R')) w3.drew :=
          run_convert_bytes_arg (P := Tryz.prog) w3.drew 22 5 Tryz.underlying22 Tryz.underlying5 g 8 64 64 ((List.range 64).map R') (by simp) (fun i hi => by
            rw [hB3.drew.cell (hcells_rest S R' _ i hi)]
            simp [hi]) 9 Tryz.underlying9
        have hrng : w3.drew.rangeAt g 0 (ws 8 S) := hB3.drew.range fun j v hv => by
          have hj : j < 8 := by
            rcases Nat.lt_or_ge j 8 with h | h
            · exact h
            · rw [List.getElem?_eq_none (by rw [ws_length]; exact h)] at hv; cases hv
          rw [ws_at 8 S j hj] at hv
          cases hv
          rw [Nat.zero_add, hcells_state S R' _ j hj]
        have hfin : ∀ w4, Below w3.drew.heap.size w3.drew w4 → w4.there g 0 8 ∧ HashAt (w4.setCells g 0 (ws 8 (cpr S (wordsL be4 (b64 R'))))) g (s ++ t.extract 0 (p + k)) ∧ Tabs (w4.setCells g 0 (ws 8 (cpr S (wordsL be4 (b64 R'))))) ∧ Only g w (w4.setCells g 0 (ws 8 (cpr S (wordsL be4 (b64 R'))))) := by
          intro w4 hb4
          have hB4 := hB3.drew.below hb4 hB3.drew.lt
          have ht4 := (show Tabs w3.drew from ht3).below hb4 (show Tabs w3.drew from ht3).lt
          have ho4 : Only g w w4 := ho3.drew.thenBelow hb4
          refine ⟨hB4.there (by rw [hcells_length]; omega), ?_, ht4.only (Only.setCells _ _ _ (Only.refl g w4)) hg2, Only.setCells _ _ _ ho4⟩
          have hB5 := Blk.setCells (ws 8 (cpr S (wordsL be4 (b64 R')))) 0 w4 _ hB4
          rw [hcells_setAll] at hB5
          refine ⟨R', hR0', ?_, ?_⟩
          · intro i hi; rw [hcsz] at hi; omega
          · rw [hcsz, show (n + k) / 64 = n / 64 + 1 by omega, hwh]; exact hB5
        have hmix := mix_any S hOk (b64 R') (b64_size R') w3.drew ht3
        clear hB3 ho3 ht3 hwh hR0' hR'
        obtain ⟨V, hV⟩ : ∃ V, ws 8 (cpr S (wordsL be4 (b64 R'))) = V := ⟨_, rfl⟩
        have hVl : V.length = 8 := by rw [← hV, ws_length]
        have hVo : ∀ v ∈ V, v.oneCell' = true := by rw [← hV]; exact ws_one _ _
        rw [hV] at hmix hfin
        clear hV
        refine wp_region_noPanic ?_
        refine wp_region_held_drew (S := fun _ => True) (by kernel_rfl) trivial (fun hHeld => ?_)
        refine tkH 0 ?_; go_simp
        refine tkH 1 ?_; go_simp
        refine tkH 2 ?_; go_simp
        refine tkH 3 ?_; go_simp
        refine tkH 5 ?_; go_simp
        refine tkH 6 ?_; go_simp
        refine tkH 7 ?_; go_simp
        refine tkH 8 ?_; go_simp
        refine wpAnyH_ready (rs := [4, 9]) (by kernel_rfl) (by simp) (AllReadyH.cons rfl (fun K hK => ?_) (AllReadyH.cons rfl (fun K hK => ?_) AllReadyH.nil))
        · refine step_load_mid rfl 264 _ rfl g 0 rfl (ws 8 S) _ hrng Tryz.underlying264 rfl (by rw [Tryz.size264, ws_length]) ?_
          refine hK.out _ _ trivial (fun hHeld => ?_)
          clear hK K
          go_simp
          refine rdH 9 fun K hK => ?_
          go_simp
          refine hK.out _ _ trivial (fun hHeld => ?_)
          clear hK K
          refine rdH 10 fun K hK => ?_
          go_simp
          go_at_call 193
          refine hmix.mono ?_
          rintro e w4 ⟨rfl, hb4⟩
          obtain ⟨hth, hH, hT, hO⟩ := hfin w4 hb4
          refine hK.out _ _ trivial (fun hHeld => ?_)
          clear hK K
          refine tkH 11 ?_; go_simp
          refine tkH 12 ?_; go_simp
          refine rdH 13 fun K hK => ?_
          refine step_store_mid rfl 264 _ _ rfl g 0 V.toArray rfl rfl (by simpa [hVl] using hth) (by rw [Tryz.size264]; simp [hVl]) (all_oneCell_toArray hVo) ?_
          refine hK.out _ _ trivial (fun hHeld => ?_)
          clear hK K
          go_simp
          refine wpAnyH_done (by kernel_rfl) ?_ _
          refine NoPanic.normal ?_
          clear hmix hfin hconv hrng hth
          generalize w4.setCells g 0 V = w5 at hH hT hO ⊢
          go_wp2_with fail
          refine ⟨⟨p + k, hqs2, rfl, hH, hT, hO⟩, ?_⟩
          show (t.extract (p + k) t.size).size < q.size
          rw [ByteArray.size_extract, HQS.out]; omega
        · go_simp
          refine hK.out _ _ trivial (fun hHeld => ?_)
          clear hK K
          refine rdH 4 fun K hK => ?_
          refine step_load_mid rfl 264 _ rfl g 0 rfl (ws 8 S) _ hrng Tryz.underlying264 rfl (by rw [Tryz.size264, ws_length]) ?_
          refine hK.out _ _ trivial (fun hHeld => ?_)
          clear hK K
          go_simp
          refine rdH 10 fun K hK => ?_
          go_simp
          go_at_call 193
          refine hmix.mono ?_
          rintro e w4 ⟨rfl, hb4⟩
          obtain ⟨hth, hH, hT, hO⟩ := hfin w4 hb4
          refine hK.out _ _ trivial (fun hHeld => ?_)
          clear hK K
          refine tkH 11 ?_; go_simp
          refine tkH 12 ?_; go_simp
          refine rdH 13 fun K hK => ?_
          refine step_store_mid rfl 264 _ _ rfl g 0 V.toArray rfl rfl (by simpa [hVl] using hth) (by rw [Tryz.size264]; simp [hVl]) (all_oneCell_toArray hVo) ?_
          refine hK.out _ _ trivial (fun hHeld => ?_)
          clear hK K
          go_simp
          refine wpAnyH_done (by kernel_rfl) ?_ _
          refine NoPanic.normal ?_
          clear hmix hfin hconv hrng hth
          generalize w4.setCells g 0 V = w5 at hH hT hO ⊢
          go_wp2_with fail
          refine ⟨⟨p + k, hqs2, rfl, hH, hT, hO⟩, ?_⟩
          show (t.extract (p + k) t.size).size < q.size
          rw [ByteArray.size_extract, HQS.out]; omega
      · have hz : ((((n : Int) + (k : Int)) % 64) == 0) = false := by simp; omega
        have hH : HashAt (w2.setCell ⟨g, 72, none⟩ (.int .i64 ((n : Int) + (k : Int)))) g (s ++ t.extract 0 (p + k)) := by
          refine ⟨Rn R q r k, Rn_range R q r k hR0, ?_, ?_⟩
          · intro i hi
            rw [hcsz] at hi
            rw [hcsz, hjoin, show (n + k) / 64 = n / 64 by omega]
            exact hRb i (by omega)
          · rw [hcsz, show (n + k) / 64 = n / 64 by omega, hjoin, hst_more _ _ _ (by rw [HN.out]; omega)]
            have e := HS.out
            rw [HN.out] at e
            rw [e]; exact hB3
        go_wp2_with fail
        refine ⟨⟨p + k, hqs2, rfl, hH, ht3, ho3⟩, ?_⟩
        show (t.extract (p + k) t.size).size < q.size
        rw [ByteArray.size_extract, HQS.out]; omega
    · have hpe : p = t.size := by omega
      subst hpe
      have hqe' : q.toList.isEmpty = true := by rw [hqe]; exact decide_eq_true (by omega)
      rw [cut_all] at hh
      clear hqe
      go_wp2_with fail
      go_end0
      exact ⟨rfl, hh, ho⟩
theorem Tryz.zero274 : (Tryz.prog.info? 274).map (fun i => i.zero) = some (some (.agg (hcells (fun _ => 0) (fun _ => 0) 0).toArray)) := by kernel_rfl
theorem zero274_run (w : World) : (zeroValue 274).run Tryz.prog w = .ok (.agg (hcells (fun _ => 0) (fun _ => 0) 0).toArray) w := by
  obtain ⟨i, hi, hz⟩ := Option.map_eq_some_iff.1 Tryz.zero274
  simp [zeroValue, typeInfo, hi, hz]
theorem Tryz.size274 : (Tryz.prog.info? 274).map (·.size) = some 73 := by kernel_rfl
theorem build44 (Z : Array Value) (h : Z = (hcells (fun _ => 0) (fun _ => 0) 0).toArray) : ((((((((Z.setIfInBounds 0 (Value.int .u32 1779033703)).setIfInBounds 1 (Value.int .u32 3144134277)).setIfInBounds 2 (Value.int .u32 1013904242)).setIfInBounds 3 (Value.int .u32 2773480762)).setIfInBounds 4 (Value.int .u32 1359893119)).setIfInBounds 5 (Value.int .u32 2600822924)).setIfInBounds 6 (Value.int .u32 528734635)).setIfInBounds 7 (Value.int .u32 1541459225)) = (hcells ini (fun _ => 0) 0).toArray := by
  subst h
  kernel_rfl
theorem hash_new (w : World) : HashAt (w.alloc (.cells (hcells ini (fun _ => 0) 0).toArray 274)) w.heap.size ⟨#[]⟩ := by
  refine ⟨fun _ => 0, fun _ => by show (0 : Int) ≤ 0 ∧ (0 : Int) ≤ 255; omega, fun i hi => ?_, ?_⟩
  · have : (⟨#[]⟩ : ByteArray).size = 0 := rfl
    rw [this] at hi; omega
  · have := Blk.new w 274 (hcells ini (fun _ => 0) 0).toArray
    rw [List.toList_toArray] at this
    exact this
theorem new_any (w : World) : Calls Tryz.prog 146 #[] w fun e w' => e = .returned (.pointer (some ⟨w.heap.size, 0, none⟩)) ∧ HashAt w' w.heap.size ⟨#[]⟩ ∧ Below w.heap.size w w' := by
  have hn := hash_new w
  first
  | (have hz : Tryz.zeroCells274 = (hcells (fun _ => 0) (fun _ => 0) 0).toArray := by kernel_rfl
     have hb := build44 _ hz
     go_enter Tryz.func146, Tryz.ntmps146
     go_wp2_with fail
     go_ret
     rw [hb]
     exact ⟨rfl, hn, (Below.refl _ _).alloc (Nat.le_refl _) _⟩)
  | (have hzr := zero274_run
     have hb := build44 _ rfl
     have hzs : ((hcells (fun _ => 0) (fun _ => 0) 0).toArray.size < 8) = False := by simp [hcells_length]
     generalize (hcells (fun _ => 0) (fun _ => 0) 0).toArray = Z at hzr hb hzs
     go_enter Tryz.func146, Tryz.ntmps146
     go_wp2_with fail
     go_ret
     exact ⟨rfl, hn, (Below.refl _ _).alloc (Nat.le_refl _) _⟩)
theorem store_over (w : World) (c c' : Array Value) (T : TypeId) : (w.alloc (.cells c T)).setRow w.heap.size c' = w.alloc (.cells c' T) := World.setRow_alloc_new w c c' T
set_option maxHeartbeats 1000000 in
theorem sum_any (g : Nat) (s : ByteArray) (hs : s.size ≤ 149000000000000) (w : World) (h : HashAt w g s) (ht : Tabs w) :
    Calls Tryz.prog 148 #[.pointer (some ⟨g, 0, none⟩)] w fun e w' => e = .returned (.string (digest s)) ∧ Below w.heap.size w w' := by
  have hlt := h.lt
  have hH := h
  obtain ⟨R, hR0, hR1, hB⟩ := h
  obtain ⟨L, hL⟩ : ∃ L, hcells (hst s (s.size / 64)) R s.size = L := ⟨_, rfl⟩
  have hLl : L.length = 73 := by rw [← hL, hcells_length]
  have hLo : ∀ v ∈ L, v.oneCell' = true := by rw [← hL]; exact hcells_one _ _ _
  have c72 : w.cell? ⟨g, 72, none⟩ = some (.int .i64 (s.size : Int)) := hB.cell (hcells_len _ R s.size)
  have hE : HashAt (w.alloc (.cells L.toArray 274)) w.heap.size s := by
    refine ⟨R, hR0, hR1, ?_⟩
    rw [hL]
    have := Blk.new w 274 L.toArray
    simpa using this
  rw [hL] at hB
  clear hL hR0 hR1
  have hzr := zero274_run
  obtain ⟨Z, hZ⟩ : ∃ Z, hcells (fun _ => 0) (fun _ => 0) 0 = Z := ⟨_, rfl⟩
  have hZl : Z.length = 73 := by rw [← hZ, hcells_length]
  rw [hZ] at hzr
  clear hZ
  have hB2 : Blk (w.alloc (.cells Z.toArray 274)) w.heap.size 274 Z := by
    have := Blk.new w 274 Z.toArray
    simpa using this
  have c72' : ((w.alloc (.cells Z.toArray 274)).setRow w.heap.size L.toArray).cell? ⟨g, 72, none⟩ = some (.int .i64 (s.size : Int)) := by
    rw [store_over, World.cell?_alloc_some _ _ _ (by rw [c72]; rfl)]; exact c72
  have hE' : HashAt ((w.alloc (.cells Z.toArray 274)).setRow w.heap.size L.toArray) w.heap.size s := by rw [store_over]; exact hE
  have hb0 : Below w.heap.size w ((w.alloc (.cells Z.toArray 274)).setRow w.heap.size L.toArray) := by rw [store_over]; exact (Below.refl _ _).alloc (Nat.le_refl _) _
  clear hE
  go_enter Tryz.func148, Tryz.ntmps148
  go_wp2_with (first | (refine wpList_load_blk rfl 274 _ rfl g rfl 274 L _ hB Tryz.underlying274 rfl (by rw [Tryz.size274, hLl]) ?_) | (refine wpList_store_blk rfl 274 _ _ rfl w.heap.size Z L rfl rfl 274 hB2 (by rw [Tryz.size274, hLl]) (by rw [hZl, hLl]) hLo ?_))
  generalize (w.alloc (.cells Z.toArray 274)).setRow w.heap.size L.toArray = w1 at c72' hE' hb0 ⊢
  have h2 := ht.lt
  have ht1 := ht.below hb0 h2
  clear c72 hB hB2 hzr hLl hLo hZl hH ht
  obtain ⟨G, hG⟩ : ∃ G, w.heap.size = G := ⟨_, rfl⟩
  rw [hG] at hE' hb0 h2 hlt ⊢
  have HG : Hid (w.heap.size = G) := hG
  clear hG
  refine (ending_any s.size (by omega) w1).mono ?_
  rintro e w2 ⟨rfl, hb2⟩
  have hE2 := hE'.below hb2 hE'.lt
  have ht2 := ht1.below hb2 ht1.lt
  have hb3 : Below G w w2 := hb0.trans (hb2.mono (Nat.le_of_lt hE'.lt))
  clear hE' ht1 hb0 hb2 c72'
  have hes : (endB s.size).size ≤ 100 := by rw [endB_size]; unfold zs; omega
  have hW := write_any G s (endB s.size) (by omega) w2 hE2 ht2 (by omega)
  rw [show s ++ endB s.size = padB s from rfl] at hW
  generalize endB s.size = E at hW ⊢
  go_wp2_with (go_at_call 147; refine hW.mono ?_; rintro e w3 ⟨rfl, hH3, ho3⟩)
  have hb4 : Below G w w3 := Below.only hb3 ho3 (Nat.le_of_lt hE2.lt) (Nat.le_refl _)
  have hlt3 := hH3.lt
  clear hW ho3 hE2 ht2 hb3
  obtain ⟨R', _, _, hB3⟩ := hH3
  have hok := hst_ok (padB s) ((padB s).size / 64)
  have HD : Hid (digest s = strOfNums (joinF fourB (hst (padB s) ((padB s).size / 64)) 8)) := rfl
  generalize hst (padB s) ((padB s).size / 64) = S at hB3 hok HD
  have hat : At w3 (some ⟨G, 0, none⟩) 8 S := .inr ⟨G, 0, rfl, fun i hi => by rw [Nat.zero_add]; exact hB3.cell (hcells_state S R' _ i hi)⟩
  go_wp2_with (go_at_call 173; refine (fromBig_any _ 8 8 S _ (by omega) hat hok).mono ?_; rintro e w4 ⟨rfl, hb5⟩)
  go_ret
  refine ⟨by rw [HD.out]; rfl, ?_⟩
  rw [HG.out]
  exact hb4.trans (hb5.mono (by omega))
theorem none_join (s : ByteArray) : (⟨#[]⟩ : ByteArray) ++ s = s := by
  apply ByteArray.ext
  rw [ByteArray.data_append]
  simp
theorem write_first (g : Nat) (t : ByteArray) (hsz : t.size ≤ 150000000000000) (w : World) (hh : HashAt w g ⟨#[]⟩) (ht : Tabs w) (hg2 : g ≠ 2) :
    Calls Tryz.prog 147 #[.pointer (some ⟨g, 0, none⟩), .string t] w fun e w' => e = .returned (.tuple #[]) ∧ HashAt w' g t ∧ Only g w w' := by
  have h := write_any g ⟨#[]⟩ t (by show 0 + t.size ≤ _; omega) w hh ht hg2
  rw [none_join] at h
  exact h
set_option maxHeartbeats 400000 in
theorem ofKind_any (kd s : ByteArray) (hsz : kd.size + s.size ≤ 149000000000000) (w : World) (ht : Tabs w) :
    Calls Tryz.prog 103 #[.string kd, .string s] w fun e w' => e = .returned (.string (digest (kd ++ s))) ∧ Below w.heap.size w w' := by
  have h2 := ht.lt
  go_enter Tryz.func103, Tryz.ntmps103
  go_wp2_with fail
  refine (new_any w).mono ?_
  rintro e w1 ⟨rfl, hH1, hb1⟩
  obtain ⟨G, hG⟩ : ∃ G, w.heap.size = G := ⟨_, rfl⟩
  rw [hG] at hH1 hb1 h2 ⊢
  have HG : Hid (w.heap.size = G) := hG
  have ht1 := ht.below hb1 h2
  clear hG ht
  go_wp2_with fail
  refine (write_first G kd (by omega) w1 hH1 ht1 (by omega)).mono ?_
  rintro e w2 ⟨rfl, hH2, ho2⟩
  have ht2 := ht1.only ho2 (by omega)
  have hb2 : Below G w w2 := Below.only hb1 ho2 (Nat.le_of_lt hH1.lt) (Nat.le_refl _)
  clear hH1 ht1 hb1 ho2
  go_wp2_with fail
  refine (write_any G kd s (by omega) w2 hH2 ht2 (by omega)).mono ?_
  rintro e w3 ⟨rfl, hH3, ho3⟩
  have ht3 := ht2.only ho3 (by omega)
  have hb3 : Below G w w3 := Below.only hb2 ho3 (Nat.le_of_lt hH2.lt) (Nat.le_refl _)
  clear hH2 ht2 hb2 ho3
  go_wp2_with fail
  refine (sum_any G (kd ++ s) (by rw [ByteArray.size_append]; omega) w3 hH3 ht3).mono ?_
  rintro e w4 ⟨rfl, hb4⟩
  have hb5 : Below G w w4 := hb3.trans (hb4.mono (Nat.le_of_lt hH3.lt))
  clear hH3 ht3 hb3 hb4
  go_wp2_with fail
  go_ret
  exact ⟨rfl, by rw [HG.out]; exact hb5⟩
theorem leaf_any (s : ByteArray) (hsz : s.size ≤ 148000000000000) (w : World) (ht : Tabs w) :
    Calls Tryz.prog 57 #[.string s] w fun e w' => e = .returned (.string (digest (⟨#[0]⟩ ++ s))) ∧ Below w.heap.size w w' := by
  have h := ofKind_any ⟨#[0]⟩ s (by show 1 + s.size ≤ _; omega) w ht
  go_enter Tryz.func57, Tryz.ntmps57
  go_wp2_with (go_at_call 103; refine h.mono ?_; rintro e w' ⟨rfl, hb⟩)
  go_ret
  exact ⟨rfl, hb⟩
theorem node_any (s : ByteArray) (hsz : s.size ≤ 148000000000000) (w : World) (ht : Tabs w) :
    Calls Tryz.prog 114 #[.string s] w fun e w' => e = .returned (.string (digest (⟨#[1]⟩ ++ s))) ∧ Below w.heap.size w w' := by
  have h := ofKind_any ⟨#[1]⟩ s (by show 1 + s.size ≤ _; omega) w ht
  go_enter Tryz.func114, Tryz.ntmps114
  go_wp2_with (go_at_call 103; refine h.mono ?_; rintro e w' ⟨rfl, hb⟩)
  go_ret
  exact ⟨rfl, hb⟩
def RTabs (w : World) : Prop := (∀ i, i < 64 → w.cell? ⟨1, i, none⟩ = some (.int .u32 (kc i))) ∧ (∀ i, i < 8 → w.cell? ⟨0, i, none⟩ = some (.int .u32 (ini i)))
theorem RTabs.lt {w : World} (h : RTabs w) : 1 < w.heap.size := cell_lt (h.1 0 (by decide))
theorem RTabs.below {w w' : World} {B : Nat} (h : RTabs w) (hb : Below B w w') (hB : 1 < B) : RTabs w' :=
  ⟨fun i hi => (hb.cell (p := ⟨1, i, none⟩) hB).trans (h.1 i hi), fun i hi => (hb.cell (p := ⟨0, i, none⟩) (by show 0 < B; omega)).trans (h.2 i hi)⟩
def RowF (w : World) (base : Nat) (v : Value) (n : Nat) (f : Nat → Int) : Prop :=
  ∃ g cap, v = .slice (some ⟨g, 0, none⟩) n cap ∧ base ≤ g ∧ g < w.heap.size ∧ n ≤ cap ∧ (∀ i, i < n → w.cell? ⟨g, i, none⟩ = some (.int .u8 (f i))) ∧ (∀ i, i < cap → (w.cell? ⟨g, i, none⟩).isSome = true ∧ w.frozen? ⟨g, i, none⟩ = false)
theorem RowF.below {w w' : World} {base : Nat} {v : Value} {n : Nat} {f : Nat → Int} (h : RowF w base v n f) (hb : Below w.heap.size w w') : RowF w' base v n f := by
  obtain ⟨g, cap, rfl, h1, h2, h3, h4, h5⟩ := h
  exact ⟨g, cap, rfl, h1, Nat.lt_of_lt_of_le h2 hb.size, h3, fun i hi => (hb.cell (p := ⟨g, i, none⟩) h2).trans (h4 i hi), fun i hi => ⟨by rw [hb.cell (p := ⟨g, i, none⟩) h2]; exact (h5 i hi).1, by rw [hb.frozen (p := ⟨g, i, none⟩) h2]; exact (h5 i hi).2⟩⟩
theorem RTabs.range {w : World} (h : RTabs w) : w.rangeAt 0 0 (ws 8 ini) := fun j v hv => by
  have hj : j < 8 := by
    rcases Nat.lt_or_ge j 8 with h | h
    · exact h
    · rw [List.getElem?_eq_none (by rw [ws_length]; exact h)] at hv; cases hv
  rw [ws_at 8 ini j hj] at hv
  cases hv
  rw [Nat.zero_add]
  exact h.2 j hj
end Go.Proofs.YtokknmkleceooaaGreatDoor
