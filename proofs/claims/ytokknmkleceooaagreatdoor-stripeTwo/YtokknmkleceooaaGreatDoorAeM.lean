import Derived.Test.YtokknmkleceooaaGreatDoorChM
import Derived.Test.YtokknmkleceooaaGreatDoorPoM
import Derived.Test.YtokknmkleceooaaGreatDoorBaseM
import Derived.Lib.ConvBytes
import Derived.ArgAppend
import Derived.Deep.AppendLies
import Derived.Test.YtokknmkleceooaaGreatDoorShaM
namespace Go.Proofs.YtokknmkleceooaaGreatDoor
set_option maxRecDepth 20000
open Go.RowKit Go.PlainAid
set_option linter.unusedVariables false
def upN (n : Nat) : Nat := (16 - n % 16) % 16
theorem upN_lt (n : Nat) : upN n < 16 := by unfold upN; omega
def zt (n : Nat) : ByteArray := strOfNums (List.replicate n 0)
theorem zt_size (n : Nat) : (zt n).size = n := by unfold zt; rw [strOfNums_size, List.length_replicate]
def pdB (s : ByteArray) : ByteArray := s ++ zt (upN s.size)
theorem pdB_size (s : ByteArray) : (pdB s).size = s.size + upN s.size := by unfold pdB; rw [ByteArray.size_append, zt_size]
def lnB (a b : Nat) : ByteArray := leB a 8 ++ leB b 8
theorem lnB_size (a b : Nat) : (lnB a b).size = 16 := by unfold lnB; rw [ByteArray.size_append, leB_size, leB_size]
def mcB (a c : ByteArray) : ByteArray := pdB a ++ pdB c ++ lnB a.size c.size
theorem mcB_size (a c : ByteArray) : (mcB a c).size = a.size + upN a.size + (c.size + upN c.size) + 16 := by
  unfold mcB; rw [ByteArray.size_append, ByteArray.size_append, pdB_size, pdB_size, lnB_size]
def kyB (key nonce : ByteArray) : ByteArray := (blkB (stI key nonce 0)).extract 0 32
theorem kyB_size (key nonce : ByteArray) : (kyB key nonce).size = 32 := by unfold kyB; rw [ByteArray.size_extract, blkB_size]; rfl
def crB (key nonce p : ByteArray) : ByteArray := cryB (ks key nonce 1) p
theorem crB_size (key nonce p : ByteArray) : (crB key nonce p).size = p.size := cryB_size _ _
theorem crB_twice (key nonce p : ByteArray) : crB key nonce (crB key nonce p) = p := cryB_twice _ (ks_range key nonce 1) p
theorem cut_left (a b : ByteArray) (n : Nat) (h : a.size = n) : (a ++ b).extract 0 n = a := by
  apply bt_ext
  · rw [ByteArray.size_extract, ByteArray.size_append]; omega
  · intro i hi
    rw [ByteArray.size_extract, ByteArray.size_append] at hi
    rw [bt_cut _ 0 n i (by rw [ByteArray.size_append]; omega) (by omega), Nat.zero_add, bt_left _ _ _ (by omega)]
theorem cut_right (a b : ByteArray) (n m : Nat) (h : a.size = n) (hm : m = n + b.size) : (a ++ b).extract n m = b := by
  apply bt_ext
  · rw [ByteArray.size_extract, ByteArray.size_append]; omega
  · intro i hi
    rw [ByteArray.size_extract, ByteArray.size_append] at hi
    rw [bt_cut _ n m i (by rw [ByteArray.size_append]; omega) (by omega), bt_right _ _ _ (by omega)]
    congr 1; omega
theorem strN_append (a b : List Int) : strOfNums (a ++ b) = strOfNums a ++ strOfNums b := by
  apply ByteArray.ext
  rw [ByteArray.data_append]
  unfold strOfNums
  simp
def lw4 (a b : Nat) (i : Nat) : Int := ((if i < 2 then dg 32 a i else dg 32 b (i - 2) : Nat) : Int)
theorem lw4_lo (a b i : Nat) : 0 ≤ lw4 a b i ∧ lw4 a b i < 4294967296 := by
  unfold lw4
  have h1 := dg_lt 32 a i
  have h2 := dg_lt 32 b (i - 2)
  rw [show (2 : Nat) ^ 32 = 4294967296 from rfl] at h1 h2
  split <;> omega
theorem lw4_text (a b : Nat) : strOfNums (joinF four (lw4 a b) 4) = lnB a b := by
  have ha := join_dg a 2
  have hb := join_dg b 2
  rw [joinF_succ, joinF_succ] at ha hb
  rw [joinF_succ, joinF_succ, joinF_succ, joinF_succ, List.append_assoc, List.append_assoc]
  have e0 : joinF four (lw4 a b) 0 = [] := rfl
  unfold lnB leB
  rw [← strN_append, ← ha, ← hb]
  rfl
def RowG (w : World) (base : Nat) (v : Value) (n : Nat) (f : Nat → Int) : Prop :=
  ∃ g cap, v = .slice (some ⟨g, 0, none⟩) n cap ∧ base ≤ g ∧ g < w.heap.size ∧ n ≤ cap ∧ (∀ i, i < n → w.cell? ⟨g, i, none⟩ = some (.int .u8 (f i))) ∧ (∀ i, i < cap → (w.cell? ⟨g, i, none⟩).isSome = true ∧ w.frozen? ⟨g, i, none⟩ = false)
theorem RowG.below {w w' : World} {base : Nat} {v : Value} {n : Nat} {f : Nat → Int} (h : RowG w base v n f) (hb : Below w.heap.size w w') : RowG w' base v n f := by
  obtain ⟨g, cap, rfl, h1, h2, h3, h4, h5⟩ := h
  exact ⟨g, cap, rfl, h1, Nat.lt_of_lt_of_le h2 hb.size, h3, fun i hi => (hb.cell (p := ⟨g, i, none⟩) h2).trans (h4 i hi), fun i hi => ⟨by rw [hb.cell (p := ⟨g, i, none⟩) h2]; exact (h5 i hi).1, by rw [hb.frozen (p := ⟨g, i, none⟩) h2]; exact (h5 i hi).2⟩⟩
theorem RowG.congr {w : World} {base : Nat} {v : Value} {n : Nat} {f f' : Nat → Int} (h : RowG w base v n f) (e : ∀ i, i < n → f i = f' i) : RowG w base v n f' := by
  obtain ⟨g, cap, rfl, h1, h2, h3, h4, h5⟩ := h
  exact ⟨g, cap, rfl, h1, h2, h3, fun i hi => by rw [← e i hi]; exact h4 i hi, h5⟩
set_option maxHeartbeats 1000000 in
theorem aeLengths_any (a b : ByteArray) (g : Nat) (w : World) (ha : a.size ≤ 1000000) (hb : b.size ≤ 1000000) (h0 : w.cell? ⟨g, 0, none⟩ = some (.string a)) (h1 : w.cell? ⟨g, 1, none⟩ = some (.string b)) (hg : g < w.heap.size) :
    Calls Tryz.prog 172 #[.slice (some ⟨g, 0, none⟩) 2 2] w fun e w' => e = .returned (.string (lnB a.size b.size)) ∧ Below w.heap.size w w' := by
  obtain ⟨i0, hi, hz0, hz1, hz2⟩ := info_parts Tryz.info195
  obtain ⟨S, hS⟩ : ∃ S : Nat → ByteArray, S = fun k => if k = 0 then a else b := ⟨_, rfl⟩
  have hSc : ∀ k, k < 2 → w.cell? ⟨g, k, none⟩ = some (.string (S k)) := fun k hk => by
    have e : k = 0 ∨ k = 1 := by omega
    rcases e with rfl | rfl
    · rw [hS]; exact h0
    · rw [hS]; exact h1
  have hSs : ∀ k, (S k).size ≤ 1000000 := fun k => by rw [hS]; show (if k = 0 then a else b).size ≤ _; split <;> assumption
  have hSl : ∀ k, k < 2 → lw4 a.size b.size (2 * k) = ((S k).size : Int) ∧ lw4 a.size b.size (2 * k + 1) = 0 := fun k hk => by
    have e : k = 0 ∨ k = 1 := by omega
    rcases e with rfl | rfl
    · rw [hS]; unfold lw4 dg; simp; omega
    · rw [hS]; unfold lw4 dg; simp; omega
  have HL : Hid (strOfNums (joinF four (lw4 a.size b.size) 4) = lnB a.size b.size) := lw4_text _ _
  have hlo := fun i => lw4_lo a.size b.size i
  generalize lnB a.size b.size = X at HL ⊢
  generalize lw4 a.size b.size = L at HL hSl hlo
  clear hS h0 h1 ha hb
  go_enter Tryz.func172, Tryz.ntmps172
  go_wp2_with fail
  go_loopw [3, 9] (fun v i wr => ∃ k : Nat, k ≤ 2 ∧ i = .int .i64 k ∧ wr.ownsRow w.heap.size 195 1 v (2 * k) ((List.range (2 * k)).map fun i => .int .u32 (L i)) ∧ Below w.heap.size w wr) (fun _ i _ => 2 - (intOf i).toNat)
  case atStart => exact ⟨0, by omega, rfl, World.ownsRow_nil _ _ _ _, Below.refl _ _⟩
  case round =>
    obtain ⟨k, hk, rfl, hown, hbel⟩ := hrel
    by_cases hlt : k < 2
    · have hc : wr.cell? ⟨g, k, none⟩ = some (.string (S k)) := (hbel.cell (p := ⟨g, k, none⟩) hg).trans (hSc k hlt)
      have hss := hSs k
      obtain ⟨l0, l1⟩ := hSl k hlt
      have hI : (k : Int) < 2 := by omega
      generalize S k = s at hc hss l0
      go_wp2_with (at_builtin; refine wpList_append_own _ rfl _ _ 254 rfl w.heap.size 195 i0 (.int .u32 0) 1 4 Tryz.underlying254 hi hz0 hz1 hz2 rfl (by decide) _ _ _ rfl (hown.alloc _) ⟨wr.heap.size, 0, none⟩ 2 2 [.int .u32 (s.size : Int), .int .u32 0] rfl rfl ?c1 ?c2 ?c3 ?c4 ?c5 ?_)
      case c1 =>
        intro j u hj
        match j, hj with
        | 0, hj => simp at hj; subst hj; simp [Addr.add]
        | 1, hj => simp at hj; subst hj; simp [Addr.add]; omega
        | j + 2, hj => simp at hj
      case c2 => intro u hu; simp at hu; rcases hu with rfl | rfl <;> rfl
      case c3 => unfold maxLen; omega
      case c4 => omega
      case c5 => have := hbel.size; simp; omega
      · intro v' w1 hown' hgrow _
        have hbel' : Below w.heap.size w w1 := by
          refine Below.grown (hbel.alloc hbel.size _) hgrow ?_ ?_
          · have := hbel.size; simp; omega
          · intro g hg; exact (hown.lt g hg).1
        have R : w1.ownsRow w.heap.size 195 1 v' (2 * (k + 1)) ((List.range (2 * (k + 1))).map fun i => .int .u32 (L i)) := by
          rw [show 2 * (k + 1) = 2 * k + 1 + 1 by omega, List.range_succ, List.range_succ, List.map_append, List.map_append, List.append_assoc, List.map_singleton, List.map_singleton, l0, l1]
          exact hown'
        clear hown' hgrow hown hbel
        go_wp2
        go_roundw
        case rel => exact ⟨k + 1, by omega, by go_num, R, hbel'⟩
        case measure => simp [intOf]; omega
    · have hkn : k = 2 := by omega
      subst hkn
      obtain ⟨A, cap, rfl, hAt⟩ := At_owns hown
      go_wp2_with fail
      refine (fromLittle_any A cap 4 L wr (by omega) hAt (fun i _ => hlo i)).mono ?_
      rintro e w2 ⟨rfl, hb2⟩
      rw [HL.out]
      go_wp2_with fail
      go_ret
      exact ⟨rfl, hbel.trans (hb2.mono hbel.size)⟩
def atg (key nonce a c : ByteArray) : ByteArray := tagB (kyB key nonce) (mcB a c)
theorem atg_size (key nonce a c : ByteArray) : (atg key nonce a c).size = 16 := by unfold atg tagB; rw [leB_size]
def slB (key nonce a p : ByteArray) : ByteArray := crB key nonce p ++ atg key nonce a (crB key nonce p)
theorem slB_size (key nonce a p : ByteArray) : (slB key nonce a p).size = p.size + 16 := by unfold slB; rw [ByteArray.size_append, crB_size, atg_size]
theorem slB_bare (key nonce a p : ByteArray) : (slB key nonce a p).extract 0 p.size = crB key nonce p := cut_left _ _ _ (crB_size _ _ _)
theorem slB_last (key nonce a p : ByteArray) : (slB key nonce a p).extract p.size (p.size + 16) = atg key nonce a (crB key nonce p) := cut_right _ _ _ _ (crB_size _ _ _) (by rw [atg_size])
set_option maxHeartbeats 1000000 in
theorem aeFilled_any (s : ByteArray) (hs : s.size ≤ 1000000) (w : World) :
    Calls Tryz.prog 171 #[.string s] w fun e w' => e = .returned (.string (pdB s)) ∧ Below w.heap.size w w' := by
  have c1 := fun w => repeat_zero (upN s.size) w (by have := upN_lt s.size; omega)
  have hn : (16 - ((s.size : Nat) : Int) % 16) % 16 = ((upN s.size : Nat) : Int) := by unfold upN; omega
  have hu : upN s.size < 16 := upN_lt _
  have HP : Hid (s ++ zt (upN s.size) = pdB s) := rfl
  rw [show strOfNums (List.replicate (upN s.size) 0) = zt (upN s.size) from rfl] at c1
  have hzs := zt_size (upN s.size)
  generalize pdB s = X at HP ⊢
  generalize zt (upN s.size) = Z at HP c1 hzs
  generalize upN s.size = u at c1 hn hu hzs
  have hZw : (9223372036854775807 < s.size + Z.size) = False := by simp; omega
  have HZ : Hid (Z.size = u) := hzs
  clear hzs
  go_enter Tryz.func171, Tryz.ntmps171
  go_wp2_with fail
  refine (c1 w).mono ?_
  rintro e w1 ⟨rfl, hb1⟩
  go_wp2_with fail
  go_ret
  exact ⟨by rw [← HP.out]; rfl, hb1⟩
set_option maxHeartbeats 2000000 in
theorem aeTag_any (key nonce a c : ByteArray) (hk : key.size = 32) (hn : nonce.size = 12) (ha : a.size ≤ 16384) (hc : c.size ≤ 16384) (w : World) :
    Calls Tryz.prog 119 #[.string key, .string nonce, .string a, .string c] w fun e w' => e = .returned (.string (atg key nonce a c)) ∧ Below w.heap.size w w' := by
  have c0 := fun w => block_ok key nonce 0 hk hn ⟨by decide, by decide⟩ w
  have c1 := fun w => aeFilled_any a (by omega) w
  have c2 := fun w => aeFilled_any c (by omega) w
  have c3 := fun g w => aeLengths_any a c g w (by omega) (by omega)
  have hms : (mcB a c).size ≤ 65536 := by
    have h1 := upN_lt a.size
    have h2 := upN_lt c.size
    rw [mcB_size]; omega
  have c4 := fun w => sum_ok (kyB key nonce) (mcB a c) (kyB_size _ _) hms w
  rw [show mcB a c = pdB a ++ pdB c ++ lnB a.size c.size from rfl] at c4 hms
  have hXK : (blkB (stI key nonce 0)).extract 0 32 = kyB key nonce := rfl
  have hXs : (blkB (stI key nonce 0)).size = 64 := blkB_size _
  have HT : Hid (tagB (kyB key nonce) (pdB a ++ pdB c ++ lnB a.size c.size) = atg key nonce a c) := rfl
  have hLs := lnB_size a.size c.size
  generalize atg key nonce a c = T at HT ⊢
  generalize blkB (stI key nonce 0) = X at c0 hXK hXs
  generalize kyB key nonce = Y at c4 hXK HT
  generalize pdB a = A at c1 c4 HT hms
  generalize pdB c = C at c2 c4 HT hms
  generalize lnB a.size c.size = L at c3 c4 HT hLs hms
  rw [HT.out] at c4
  have hms' := hms
  rw [ByteArray.size_append, ByteArray.size_append] at hms'
  have hw1 : (9223372036854775807 < A.size + C.size) = False := by simp; omega
  have hw2 : (9223372036854775807 < (A ++ C).size + L.size) = False := by rw [ByteArray.size_append]; simp; omega
  have hw2' : (9223372036854775807 < A.size + C.size + L.size) = False := by simp; omega
  have hX32 : ((32 : Int) ≤ ((X.size : Nat) : Int)) = True := by simp; omega
  have HXs : Hid (X.size = 64) := hXs
  clear HT hms hms' hLs hXs hk hn
  go_enter Tryz.func119, Tryz.ntmps119
  go_wp2_with fail
  refine (c0 w).mono ?_
  rintro e w0 ⟨rfl, hb0⟩
  clear c0
  go_wp2_with fail
  refine wp_region_noPanic ?_
  refine wp_region_held_drew (S := fun _ => True) (by kernel_rfl) trivial (fun hHeld => ?_)
  refine tkH 0 ?_; go_simp
  refine tkH 1 ?_; go_simp
  refine tkH 2 ?_; go_simp
  refine tkH 4 ?_; go_simp
  refine tkH 7 ?_; go_simp
  refine tkH 8 ?_; go_simp
  have hbw0 : Below w.heap.size w w0.drew := hb0.drew
  generalize w0.drew = wd at hbw0 hHeld ⊢
  have hbwd := hbw0
  refine wpAnyH_ready (rs := [3, 9]) (by kernel_rfl) (by simp) (AllReadyH.cons rfl (fun K hK => ?_) (AllReadyH.cons rfl (fun K hK => ?_) AllReadyH.nil))
  · skip
    go_simp
    go_at_call 171
    refine (c1 _).mono ?_
    rintro e wa ⟨rfl, bwa⟩
    have hbwa : Below w.heap.size w wa := hbwd.trans (bwa.mono hbwd.size)
    refine hK.out _ _ trivial (fun hHeld => ?_)
    clear hK K
    refine wpAnyH_ready (rs := [5, 9]) (by kernel_rfl) (by simp) (AllReadyH.cons rfl (fun K hK => ?_) (AllReadyH.cons rfl (fun K hK => ?_) AllReadyH.nil))
    · skip
      go_simp
      go_at_call 171
      refine (c2 _).mono ?_
      rintro e wb ⟨rfl, bwb⟩
      have hbwb : Below w.heap.size w wb := hbwa.trans (bwb.mono hbwa.size)
      refine hK.out _ _ trivial (fun hHeld => ?_)
      clear hK K
      refine tkH 6 ?_; go_simp
      refine rdH 9 fun K hK => ?_
      go_simp
      have hBwc' : Blk (wb.alloc (.cells #[.string a, .string c] 9)) wb.heap.size 9 [.string a, .string c] := Blk.box wb 9 [.string a, .string c]
      have hbwc' : Below w.heap.size w (wb.alloc (.cells #[.string a, .string c] 9)) := hbwb.alloc hbwb.size _
      refine hK.out _ _ trivial (fun hHeld => ?_)
      clear hK K
      generalize wb.alloc (.cells #[.string a, .string c] 9) = wc at hBwc' hbwc' ⊢
      generalize wb.heap.size = g at hBwc' ⊢
      have hBwc := hBwc'
      have hbwc := hbwc'
      refine rdH 10 fun K hK => ?_
      go_simp
      go_at_call 172
      refine (c3 _ _ (hBwc.cell rfl) (hBwc.cell rfl) hBwc.lt).mono ?_
      rintro e wl ⟨rfl, bwl⟩
      have hbwl : Below w.heap.size w wl := hbwc.trans (bwl.mono hbwc.size)
      refine hK.out _ _ trivial (fun hHeld => ?_)
      clear hK K
      refine tkH 11 ?_; go_simp
      refine rdH 12 fun K hK => ?_
      go_simp
      go_at_call 170
      refine (c4 _).mono ?_
      rintro e ws ⟨rfl, bws⟩
      have hbws : Below w.heap.size w ws := hbwl.trans (bws.mono hbwl.size)
      refine hK.out _ _ trivial (fun hHeld => ?_)
      clear hK K
      refine tkH 13 ?_; go_simp
      refine tkH 14 ?_; go_simp
      refine tkH 15 ?_; go_simp
      refine tkH 16 ?_; go_simp
      refine tkH 17 ?_; go_simp
      refine wpAnyH_done (by kernel_rfl) ?_ _
      refine NoPanic.normal ?_
      go_wp2_with fail
      go_ret
      exact ⟨rfl, hbws⟩
    · skip
      go_simp
      have hBwb' : Blk (wa.alloc (.cells #[.string a, .string c] 9)) wa.heap.size 9 [.string a, .string c] := Blk.box wa 9 [.string a, .string c]
      have hbwb' : Below w.heap.size w (wa.alloc (.cells #[.string a, .string c] 9)) := hbwa.alloc hbwa.size _
      refine hK.out _ _ trivial (fun hHeld => ?_)
      clear hK K
      generalize wa.alloc (.cells #[.string a, .string c] 9) = wb at hBwb' hbwb' ⊢
      generalize wa.heap.size = g at hBwb' ⊢
      have hBwb := hBwb'
      have hbwb := hbwb'
      refine rdH 5 fun K hK => ?_
      go_simp
      go_at_call 171
      refine (c2 _).mono ?_
      rintro e wc ⟨rfl, bwc⟩
      have hbwc : Below w.heap.size w wc := hbwb.trans (bwc.mono hbwb.size)
      have hBwc : Blk wc _ 9 [.string a, .string c] := hBwb.below bwc hBwb.lt
      refine hK.out _ _ trivial (fun hHeld => ?_)
      clear hK K
      refine tkH 6 ?_; go_simp
      refine rdH 10 fun K hK => ?_
      go_simp
      go_at_call 172
      refine (c3 _ _ (hBwc.cell rfl) (hBwc.cell rfl) hBwc.lt).mono ?_
      rintro e wl ⟨rfl, bwl⟩
      have hbwl : Below w.heap.size w wl := hbwc.trans (bwl.mono hbwc.size)
      refine hK.out _ _ trivial (fun hHeld => ?_)
      clear hK K
      refine tkH 11 ?_; go_simp
      refine rdH 12 fun K hK => ?_
      go_simp
      go_at_call 170
      refine (c4 _).mono ?_
      rintro e ws ⟨rfl, bws⟩
      have hbws : Below w.heap.size w ws := hbwl.trans (bws.mono hbwl.size)
      refine hK.out _ _ trivial (fun hHeld => ?_)
      clear hK K
      refine tkH 13 ?_; go_simp
      refine tkH 14 ?_; go_simp
      refine tkH 15 ?_; go_simp
      refine tkH 16 ?_; go_simp
      refine tkH 17 ?_; go_simp
      refine wpAnyH_done (by kernel_rfl) ?_ _
      refine NoPanic.normal ?_
      go_wp2_with fail
      go_ret
      exact ⟨rfl, hbws⟩
  · skip
    go_simp
    have hBwa' : Blk (wd.alloc (.cells #[.string a, .string c] 9)) wd.heap.size 9 [.string a, .string c] := Blk.box wd 9 [.string a, .string c]
    have hbwa' : Below w.heap.size w (wd.alloc (.cells #[.string a, .string c] 9)) := hbwd.alloc hbwd.size _
    refine hK.out _ _ trivial (fun hHeld => ?_)
    clear hK K
    generalize wd.alloc (.cells #[.string a, .string c] 9) = wa at hBwa' hbwa' ⊢
    generalize wd.heap.size = g at hBwa' ⊢
    have hBwa := hBwa'
    have hbwa := hbwa'
    refine rdH 3 fun K hK => ?_
    go_simp
    go_at_call 171
    refine (c1 _).mono ?_
    rintro e wb ⟨rfl, bwb⟩
    have hbwb : Below w.heap.size w wb := hbwa.trans (bwb.mono hbwa.size)
    have hBwb : Blk wb _ 9 [.string a, .string c] := hBwa.below bwb hBwa.lt
    refine hK.out _ _ trivial (fun hHeld => ?_)
    clear hK K
    refine rdH 5 fun K hK => ?_
    go_simp
    go_at_call 171
    refine (c2 _).mono ?_
    rintro e wc ⟨rfl, bwc⟩
    have hbwc : Below w.heap.size w wc := hbwb.trans (bwc.mono hbwb.size)
    have hBwc : Blk wc _ 9 [.string a, .string c] := hBwb.below bwc hBwb.lt
    refine hK.out _ _ trivial (fun hHeld => ?_)
    clear hK K
    refine tkH 6 ?_; go_simp
    refine rdH 10 fun K hK => ?_
    go_simp
    go_at_call 172
    refine (c3 _ _ (hBwc.cell rfl) (hBwc.cell rfl) hBwc.lt).mono ?_
    rintro e wl ⟨rfl, bwl⟩
    have hbwl : Below w.heap.size w wl := hbwc.trans (bwl.mono hbwc.size)
    refine hK.out _ _ trivial (fun hHeld => ?_)
    clear hK K
    refine tkH 11 ?_; go_simp
    refine rdH 12 fun K hK => ?_
    go_simp
    go_at_call 170
    refine (c4 _).mono ?_
    rintro e ws ⟨rfl, bws⟩
    have hbws : Below w.heap.size w ws := hbwl.trans (bws.mono hbwl.size)
    refine hK.out _ _ trivial (fun hHeld => ?_)
    clear hK K
    refine tkH 13 ?_; go_simp
    refine tkH 14 ?_; go_simp
    refine tkH 15 ?_; go_simp
    refine tkH 16 ?_; go_simp
    refine tkH 17 ?_; go_simp
    refine wpAnyH_done (by kernel_rfl) ?_ _
    refine NoPanic.normal ?_
    go_wp2_with fail
    go_ret
    exact ⟨rfl, hbws⟩
theorem aeShaped_ok (key nonce : ByteArray) (hk : key.size = 32) (hn : nonce.size = 12) (w : World) :
    Calls Tryz.prog 116 #[.string key, .string nonce] w fun e w' => e = .returned (.bool true) ∧ w' = w := by
  have h1 : (((key.size : Nat) : Int) == 32) = true := by simp; omega
  have h2 : (((nonce.size : Nat) : Int) == 12) = true := by simp; omega
  clear hk hn
  go_enter Tryz.func116, Tryz.ntmps116
  go_wp2_with fail
  go_ret
  exact ⟨rfl, rfl⟩
theorem aeLong_ok (a b : ByteArray) (ha : a.size ≤ 16384) (hb : b.size ≤ 16384) (w : World) :
    Calls Tryz.prog 117 #[.string a, .string b] w fun e w' => e = .returned (.bool false) ∧ w' = w := by
  have h1 : ¬ ((16384 : Int) < ((a.size : Nat) : Int)) := by omega
  have h2 : ¬ ((16384 : Int) < ((b.size : Nat) : Int)) := by omega
  go_enter Tryz.func117, Tryz.ntmps117
  go_wp2_with fail
  go_ret
  exact ⟨rfl, rfl⟩
set_option maxHeartbeats 1000000 in
theorem aeSeal_ok (key nonce a p : ByteArray) (hk : key.size = 32) (hn : nonce.size = 12) (ha : a.size ≤ 16384) (hp : p.size ≤ 16384) (w : World) :
    Calls Tryz.prog 74 #[.string key, .string nonce, .string a, .string p] w fun e w' => e = .returned (.tuple #[.string (slB key nonce a p), .int .i64 0]) ∧ Below w.heap.size w w' := by
  have c1 := aeShaped_ok key nonce hk hn w
  have c2 := aeLong_ok a p ha hp w
  have c3 := fun w => crypt_ok key nonce p 1 hk hn ⟨by decide, by decide⟩ (by omega) w
  rw [show cryB (ks key nonce 1) p = crB key nonce p from rfl] at c3
  have hCs := crB_size key nonce p
  have c4 := fun w => aeTag_any key nonce a (crB key nonce p) hk hn ha (by omega) w
  have hTs := atg_size key nonce a (crB key nonce p)
  have HS : Hid (crB key nonce p ++ atg key nonce a (crB key nonce p) = slB key nonce a p) := rfl
  generalize slB key nonce a p = S at HS ⊢
  generalize crB key nonce p = C at c3 c4 hCs hTs HS
  generalize atg key nonce a C = T at c4 hTs HS
  have hw : (9223372036854775807 < C.size + T.size) = False := by simp; omega
  clear hk hn ha hp hCs hTs
  go_enter Tryz.func74, Tryz.ntmps74
  go_wp2_with fail
  refine c1.mono ?_
  rintro e w1 ⟨rfl, hw1⟩
  rw [hw1]
  go_wp2_with fail
  refine c2.mono ?_
  rintro e w2 ⟨rfl, hw2⟩
  rw [hw2]
  clear c1 c2
  go_wp2_with fail
  refine (c3 w).mono ?_
  rintro e w3 ⟨rfl, hb3⟩
  go_wp2_with fail
  refine (c4 w3).mono ?_
  rintro e w4 ⟨rfl, hb4⟩
  have hb5 := hb3.trans (hb4.mono hb3.size)
  clear c3 c4 hb3 hb4
  go_wp2_with fail
  go_ret2
  exact ⟨by rw [← HS.out]; rfl, hb5⟩
set_option maxHeartbeats 1000000 in
theorem aeOpen_short (key nonce a s : ByteArray) (hk : key.size = 32) (hn : nonce.size = 12) (h : s.size < 16) (w : World) :
    Calls Tryz.prog 105 #[.string key, .string nonce, .string a, .string s] w fun e w' => e = .returned (.tuple #[.string ⟨#[]⟩, .int .i64 3]) ∧ Below w.heap.size w w' := by
  have c1 := aeShaped_ok key nonce hk hn w
  have h1 : ((s.size : Nat) : Int) < 16 := by omega
  clear hk hn
  go_enter Tryz.func105, Tryz.ntmps105
  go_wp2_with fail
  refine c1.mono ?_
  rintro e w1 ⟨rfl, hw1⟩
  rw [hw1]
  go_wp2_with fail
  go_ret2
  exact ⟨rfl, Below.refl _ _⟩
set_option maxHeartbeats 1000000 in
theorem aeOpen_any (key nonce a s : ByteArray) (n : Nat) (hk : key.size = 32) (hn : nonce.size = 12) (hs : s.size = n + 16) (ha : a.size ≤ 16384) (h : n ≤ 16384) (w : World) :
    Calls Tryz.prog 105 #[.string key, .string nonce, .string a, .string s] w fun e w' => e = .returned (if s.extract n s.size = atg key nonce a (s.extract 0 n) then .tuple #[.string (crB key nonce (s.extract 0 n)), .int .i64 0] else .tuple #[.string ⟨#[]⟩, .int .i64 23]) ∧ Below w.heap.size w w' := by
  have c1 := aeShaped_ok key nonce hk hn w
  obtain ⟨B, hB⟩ : ∃ B, s.extract 0 n = B := ⟨_, rfl⟩
  obtain ⟨D, hD⟩ : ∃ D, s.extract n s.size = D := ⟨_, rfl⟩
  have hBs : B.size = n := by rw [← hB, ByteArray.size_extract]; omega
  have hDs : D.size = 16 := by rw [← hD, ByteArray.size_extract]; omega
  have c2 := fun w => aeLong_ok a B ha (by omega) w
  have c3 := fun w => aeTag_any key nonce a B hk hn ha (by omega) w
  have c4 := fun w => equal_any D (atg key nonce a B) (by omega) (by rw [atg_size]; omega) w
  have c5 := fun w => crypt_ok key nonce B 1 hk hn ⟨by decide, by decide⟩ (by omega) w
  rw [show cryB (ks key nonce 1) B = crB key nonce B from rfl] at c5
  rw [hB, hD]
  generalize crB key nonce B = C at c5 ⊢
  generalize atg key nonce a B = T at c3 c4 ⊢
  obtain ⟨R, hR⟩ : ∃ R, (if D = T then (.tuple #[.string C, .int .i64 0] : Value) else .tuple #[.string ⟨#[]⟩, .int .i64 23]) = R := ⟨_, rfl⟩
  rw [hR]
  have HR : Hid ((if D = T then (.tuple #[.string C, .int .i64 0] : Value) else .tuple #[.string ⟨#[]⟩, .int .i64 23]) = R) := hR
  clear hR
  have hsI : ((s.size : Nat) : Int) = (n : Int) + 16 := by omega
  have h1 : ¬ ((n : Int) + 16 < 16) := by omega
  have h2 : ((n : Int) ≤ (n : Int) + 16) := by omega
  have h0 : (0 : Int) ≤ (n : Int) := by omega
  have hn2 : n ≤ s.size := by omega
  have hn3 : (n : Int) ≤ 16384 := by omega
  clear hk hn ha hBs hDs hs
  go_enter Tryz.func105, Tryz.ntmps105
  go_wp2_with fail
  refine c1.mono ?_
  rintro e w1 ⟨rfl, hw1⟩
  rw [hw1]
  clear c1
  go_wp2_with fail
  go_quiet (fail)
  have hl : Below w.heap.size w (w.drewN nq) := ⟨rfl, rfl, rfl, Nat.le_refl _, fun _ _ => rfl⟩
  generalize w.drewN nq = w2 at hl ⊢
  go_wp2_with fail
  refine (c2 w2).mono ?_
  rintro e w3 ⟨rfl, hw3⟩
  rw [hw3]
  go_wp2_with fail
  refine (c3 w2).mono ?_
  rintro e w4 ⟨rfl, hb4⟩
  have hl4 := hl.trans (hb4.mono hl.size)
  clear c3 hb4 hl hB hD c2
  go_wp2_with fail
  refine (c4 w4).mono ?_
  rintro e w5 ⟨rfl, hb5⟩
  have hl5 := hl4.trans (hb5.mono hl4.size)
  clear c4 hb5 hl4
  by_cases hDT : D = T
  · rw [decide_eq_true hDT]
    have HR2 : Hid (R = .tuple #[.string C, .int .i64 0]) := HR.out.symm.trans (if_pos hDT)
    clear hDT HR
    go_wp2_with fail
    refine (c5 w5).mono ?_
    rintro e w6 ⟨rfl, hb6⟩
    have hl6 := hl5.trans (hb6.mono hl5.size)
    go_wp2_with fail
    go_ret2
    exact ⟨by rw [HR2.out]; rfl, hl6⟩
  · rw [decide_eq_false hDT]
    have HR2 : Hid (R = .tuple #[.string ⟨#[]⟩, .int .i64 23]) := HR.out.symm.trans (if_neg hDT)
    clear hDT HR
    go_wp2_with fail
    go_ret2
    exact ⟨by rw [HR2.out]; rfl, hl5⟩
end Go.Proofs.YtokknmkleceooaaGreatDoor
