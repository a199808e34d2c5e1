import Derived.Test.YtokknmkleceooaaGreatDoorStLayA
import Derived.Test.YtokknmkleceooaaGreatDoorStMake
import Derived.Handy
namespace Go.Proofs.YtokknmkleceooaaGreatDoor
open Go.RowKit Go.PlainAid
set_option linter.unusedVariables false
set_option maxRecDepth 20000
abbrev kB19 : ByteArray := ⟨#[48, 49, 50, 51, 52, 53, 54, 55, 56, 57, 97, 98, 99, 100, 101, 102, 48, 49, 50, 51, 52, 53, 54, 55, 56, 57, 97, 98, 99, 100, 101, 102]⟩
def nonc (i : Nat) : ByteArray := (tx 1 fun _ => i) ++ ⟨#[97, 98, 99, 100, 101, 102, 103, 104, 105, 106, 107]⟩
theorem nonc_size (i : Nat) : (nonc i).size = 12 := by unfold nonc; rw [ByteArray.size_append, tx_size]; rfl
def ceC (slot : Nat) (F : Nat → ByteArray) (i : Nat) : ByteArray := clB17 kB19 (nonc i) (plc i slot) (F i)
def shS (g n : Nat) (P : Nat → ByteArray) (i : Nat) : Sh := ⟨g, (i : Int), (n : Int), kB19, P i, true⟩
theorem zeroSlab (w : World) : (zeroValue 45).run Tryz.prog w = .ok (.agg #[.pointer none, .int .i64 0, .int .i64 0, .string noB]) w := by
  obtain ⟨i0, hi, hz⟩ := Option.map_eq_some_iff.1 (show (Tryz.prog.info? 45).map (fun i => i.zero) = some (some (.agg #[.pointer none, .int .i64 0, .int .i64 0, .string noB])) by kernel_rfl)
  simp [zeroValue, typeInfo, hi, hz]
theorem zeroRSlab (w : World) : (zeroValue 52).run Tryz.prog w = .ok (.agg #[.pointer none, .int .i64 0, .int .i64 0, .string noB]) w := by
  obtain ⟨i0, hi, hz⟩ := Option.map_eq_some_iff.1 (show (Tryz.prog.info? 52).map (fun i => i.zero) = some (some (.agg #[.pointer none, .int .i64 0, .int .i64 0, .string noB])) by kernel_rfl)
  simp [zeroValue, typeInfo, hi, hz]
theorem slab_one (g : Nat) (i n : Int) (k : ByteArray) : ∀ v ∈ ([.pointer (some ⟨g, 0, none⟩), .int .i64 i, .int .i64 n, .string k] : List Value), v.oneCell' = true := fun v hv => by
  simp only [List.mem_cons, List.not_mem_nil, or_false] at hv
  rcases hv with rfl | rfl | rfl | rfl <;> rfl
theorem own_some {w : World} {b T N : Nat} {v : Value} {xs : List Value} (h : w.ownsRow b T 1 v N xs) (hN : 1 ≤ N) : ∃ g c, v = .slice (some ⟨g, 0, none⟩) N c := by
  rcases h.2 with ⟨h0, h1⟩ | ⟨g, cap, cur, e, _⟩
  · omega
  · exact ⟨g, cap, e⟩
set_option maxHeartbeats 8000000 in
theorem lay_any {w : World} (ht : Tabs w) (a : Option Addr) (n0 N c : Nat) (F : Nat → ByteArray) (hN : n0 + 2 = N) (hn0 : 2 ≤ n0 ∧ n0 ≤ 8) (hc : n0 ≤ c ∧ c ≤ 9223372036854775807) (ha : Vals w a n0 fun i => .string (F i)) (h32 : ∀ i, i < n0 → (F i).size = 32) {d n slot : Nat} (hn : 2 ^ d = n) (hd : 1 ≤ d ∧ d ≤ 4) (hs : slot < n) :
    Calls Tryz.prog 13 #[.slice a n0 c, .int .i64 (n : Int), .int .i64 (slot : Int)] w fun e w' => ∃ g gr b b' vl vm vc P, e = .returned (.tuple #[vl, vm, vc, .bool true]) ∧ Ly w.heap.size w w' g gr N b b' vl vm vc N (shS g n P) (mkC n0 F) nought ∧ LyS N N d slot b b' (ceC slot (mkC n0 F)) P := by
  have h16 : n ≤ 16 := by rw [← hn]; exact pow_le16 d hd.2
  have hE : mkE n0 F = 0 := by unfold mkE; rw [if_pos hn0, if_pos h32]
  have hmk := make_any a n0 c F w (by omega) hc.1 hc.2 ha (fun i hi => by rw [h32 i hi]; omega)
  rw [hE, hN] at hmk
  have HMK : Hid (Calls _ _ _ _ _) := hmk
  have H32 : Hid (∀ i, (mkC n0 F i).size = 32) := fun i => mkC_size n0 F i
  have HT : Hid (∀ z, Below w.heap.size w z → Tabs z) := fun z hz => ht.below hz ht.lt
  have HN : Hid ((n0 : Int) + 2 = (N : Int) ∧ 4 ≤ N ∧ N ≤ 10) := by
    show _ ∧ _
    omega
  have HD : Hid (2 ^ d = n ∧ (1 ≤ d ∧ d ≤ 4) ∧ slot < n ∧ n ≤ 16) := ⟨hn, hd, hs, h16⟩
  have HZ4 : Hid ((Tryz.prog.info? 45).map (·.size) = some 4) := Tryz.size45
  have HZ4r : Hid ((Tryz.prog.info? 52).map (·.size) = some 4) := Tryz.size52
  have hzs := zeroSlab
  have hzr := zeroRSlab
  clear ht hN hn0 ha h32 hn hd hs h16 hE hmk
  generalize mkC n0 F = C at *
  go_enter Tryz.func13, Tryz.ntmps13
  go_wp2_with (go_at_call 9; refine HMK.out.mono ?_; rintro e w1 ⟨vc, rfl, -, hr1, hb1⟩; have HR1 : Hid (w1.ownsRow w.heap.size 9 1 vc N (strs N C)) := hr1 (by trivial); have HB1 : Hid (Below w.heap.size w w1) := hb1; clear hr1 hb1 HMK; obtain ⟨gc, cc, rfl⟩ := own_some HR1.out (by have := HN.out; omega))
  have h1 : Hold w.heap.size w w1 (rowK 9 1 (.slice (some ⟨gc, 0, none⟩) N cc) N (strs N C)) := (Hold.newRow firm_nought (hold_nought _ _ _ (Nat.le_refl _) (Below.refl _ _)) HB1.out HR1.out).left
  have HK1 : Hid (Hold _ _ _ _) := h1
  clear h1 HR1 HB1
  go_at_call 32
  refine (bnew_any (firm_rowK _ _ _ _ _) HK1.out (N : Int) 140).mono ?_
  rw [newB_in (by have := HN.out; omega)]
  rintro e w2 ⟨g, rfl, D, hD, h2⟩
  have HK2 : Hid (Hold w.heap.size w w2 (star (bnk g N D 0 none) (rowK 9 1 (.slice (some ⟨gc, 0, none⟩) N cc) N (strs N C)))) := h2
  have HFD : Hid (∀ i, i < N → Fresh (D i) 140) := hD
  clear h2 hD HK1
  go_wp2_with fail
  go_at_call 33
  refine (rnew_any ((firm_bnk _ _ _ _ _).star (firm_rowK _ _ _ _ _)) HK2.out (N : Int) 140).mono ?_
  rw [newB_in (by have := HN.out; omega)]
  rintro e w3 ⟨gr, rfl, D', hD', h3⟩
  have h4 := Ly.start (S := shS g n fun _ => noB) h3
  have HLY0 : Hid (Ly w.heap.size w w3 g gr N ⟨D, 0, none⟩ ⟨D', 0, none⟩ (.slice none 0 0) (.slice none 0 0) (.slice (some ⟨gc, 0, none⟩) N cc) 0 (shS g n fun _ => noB) C nought) := h4
  have HS0 : Hid (LyS N 0 d slot ⟨D, 0, none⟩ ⟨D', 0, none⟩ (ceC slot C) (fun _ => noB)) := ⟨rfl, rfl, fun j hj => absurd hj (Nat.not_lt_zero _), fun j hj => absurd hj (Nat.not_lt_zero _), fun j _ hj => ⟨HFD.out j hj, hD' j hj⟩, ⟨Nat.zero_le _, fun j hj => by show (D j).q.length ≤ _; rw [(HFD.out j hj).2.2.1]; exact Nat.zero_le _⟩⟩
  clear h3 h4 hD' HK2 HFD
  go_wp2_with fail
  go_loopw [14, 15, 40] (fun xl xm i wr => ∃ (vl vm : Value) (k : Nat) (b b' : Bs) (P : Nat → ByteArray), vl = xl ∧ vm = xm ∧ k ≤ N ∧ i = .int .i64 k ∧ Hid (Ly w.heap.size w wr g gr N b b' vl vm (.slice (some ⟨gc, 0, none⟩) N cc) k (shS g n P) C nought) ∧ Hid (LyS N k d slot b b' (ceC slot C) P)) (fun _ _ i _ => (N : Nat) - (intOf i).toNat)
  case atStart => exact ⟨_, _, 0, _, _, _, rfl, rfl, Nat.zero_le _, rfl, HLY0.out, HS0.out⟩
  case round =>
    clear HLY0 HS0
    obtain ⟨vl, vm, k, b, b', P, rfl, rfl, hk, rfl, HLY, HS⟩ := hrel
    by_cases hlt : k < N
    · have kn : (k : Int) < (N : Int) := by omega
      have c0 := HLY.out.chunk hlt
      have HCK : Hid ((C k).size = 32) := H32.out k
      obtain ⟨ck, hck⟩ : ∃ x, C k = x := ⟨_, rfl⟩
      rw [hck] at c0
      have HCE : Hid (C k = ck) := hck
      clear hck
      obtain ⟨hn, hd, hs, h16⟩ := HD.out
      have hL0 := fresh_liv (N := N) HS.out.p (HS.out.rest k (Nat.le_refl _) hlt).1
      have hpn := put_new (slot := slot) hlt hd (by rw [hn]; exact hs) hL0 (c := ceC slot C k) (by unfold ceC; rw [clB17_size _ _ _ _ (nonc_size k), HCK.out]; decide)
      rw [hn] at hpn
      obtain ⟨p1, p2, p3, p4, l', p5, p6⟩ := hpn
      have HBL : Hid ((blW n).length ≤ 31) := by show _ ≤ _; rw [blW_length]; omega
      have HQ2 : Hid ((slW (pS (apR N k b (blW n)).2 k d (tdg eL n 1) [((slot : Int), ceC slot C k)])).length ≤ 32) := slW_few _
      have hf1 := few_r hlt (blW n) HS.out.few
      have HF0 : Hid (Few17 N b (k * 100)) := HS.out.few
      have HF1 : Hid (Few17 N (apR N k b (blW n)).2 (k * 100 + 40)) := ⟨Nat.le_trans hf1.1 (by have := HBL.out; omega), fun j hj => Nat.le_trans (hf1.2 j hj) (by have := HBL.out; omega)⟩
      have HP1 : Hid ((apR N k b (blW n)).1 = 0) := p1
      have HP2 : Hid (Liv N k (apR N k b (blW n)).2 (app (fun _ => noB) (blW n))) := p2
      have HP3 : Hid (InT (app (fun _ => noB) (blW n)) d (sl0 (tdg eL n 1)) (fun _ => noB)) := p3
      have HP4 : Hid ((apR N k (apR N k b (blW n)).2 (slW (pS (apR N k b (blW n)).2 k d (tdg eL n 1) [((slot : Int), ceC slot C k)]))).1 = 0) := p4
      have HP5 : Hid (Liv N k (apR N k (apR N k b (blW n)).2 (slW (pS (apR N k b (blW n)).2 k d (tdg eL n 1) [((slot : Int), ceC slot C k)]))).2 l') := p5
      have HNX : Hid (∀ (b2' : Bs), b2'.p = none → (∀ j, j ≠ k → b2'.D j = b'.D j) → ((b2'.D k).n = 140 ∧ (b2'.D k).l = ((apR N k (apR N k b (blW n)).2 (slW (pS (apR N k b (blW n)).2 k d (tdg eL n 1) [((slot : Int), ceC slot C k)]))).2.D k).l ∧ (b2'.D k).q = [] ∧ (b2'.D k).dead = false) → LyS N (k + 1) d slot (apR N k (apR N k b (blW n)).2 (slW (pS (apR N k b (blW n)).2 k d (tdg eL n 1) [((slot : Int), ceC slot C k)]))).2 b2' (ceC slot C) (fun j => if j = k then (pS (apR N k b (blW n)).2 k d (tdg eL n 1) [((slot : Int), ceC slot C k)]).top else P j)) := fun b2' h1 h2 h3 => by
        have h := HS.out.next (b2' := b2') hlt hd (by rw [hn]; exact hs) (by unfold ceC; rw [clB17_size _ _ _ _ (nonc_size k), HCK.out]; decide) rfl rfl h1 h2 (by rw [hn]; exact h3)
        rw [hn] at h
        exact h
      have HCZ : Hid ((ceC slot C k).size ≤ 2032) := by show _ ≤ _; unfold ceC; rw [clB17_size _ _ _ _ (nonc_size k), HCK.out]; decide
      have HCS : Hid (ceC slot C k = clB17 kB19 (nonc k) (plc k slot) ck) := by show _ = _; unfold ceC; rw [HCE.out]
      have HRS : Hid (Fresh (b.D k) 140 ∧ Fresh (b'.D k) 140) := HS.out.rest k (Nat.le_refl _) hlt
      clear p1 p2 p3 p4 p5 p6 hL0 hf1
      generalize ceC slot C k = ce at *
      generalize ht0 : tdg eL n 1 = t0 at *
      have HT0 : Hid (tdg eL n 1 = t0) := ht0
      clear ht0
      generalize hq2 : slW (pS (apR N k b (blW n)).2 k d t0 [((slot : Int), ce)]) = q2 at *
      generalize ht2 : (pS (apR N k b (blW n)).2 k d t0 [((slot : Int), ce)]).top = t2 at *
      have HQT : Hid ((pS (apR N k b (blW n)).2 k d t0 [((slot : Int), ce)]).top = t2 ∧ slW (pS (apR N k b (blW n)).2 k d t0 [((slot : Int), ce)]) = q2) := ⟨ht2, hq2⟩
      clear hq2 ht2
      have HLA : Hid (Ly w.heap.size w (wr.alloc (.cells [.pointer (some ⟨g, 0, none⟩), .int .i64 (k : Int), .int .i64 (n : Int), .string kB19].toArray 45)) g gr N b b' vl vm (.slice (some ⟨gc, 0, none⟩) N cc) k (shS g n P) C (star (blkA wr.heap.size 45 [.pointer (some ⟨g, 0, none⟩), .int .i64 (k : Int), .int .i64 (n : Int), .string kB19]) nought)) := HLY.out.newBlk firm_nought _ _
      have hw2 := set_over wr [.pointer none, .int .i64 0, .int .i64 0, .string noB] [.pointer (some ⟨g, 0, none⟩), .int .i64 (k : Int), .int .i64 (n : Int), .string kB19] 45
      go_upto_region 9 with (refine wpList_store_blk rfl 45 _ _ rfl wr.heap.size [.pointer none, .int .i64 0, .int .i64 0, .string noB] [.pointer (some ⟨g, 0, none⟩), .int .i64 (k : Int), .int .i64 (n : Int), .string kB19] rfl rfl 45 (Blk.box _ _ _) HZ4.out rfl (slab_one _ _ _ _) ?_; rw [hw2]; clear hw2)
      generalize hwA : wr.alloc (.cells [.pointer (some ⟨g, 0, none⟩), .int .i64 (k : Int), .int .i64 (n : Int), .string kB19].toArray 45) = wA at *
      generalize hga : wr.heap.size = ga at *
      clear hwA hga HLY
      have HLB : Hid (Ly w.heap.size w (wA.alloc (.cells [.pointer (some ⟨gr, 0, none⟩), .int .i64 (k : Int), .int .i64 (n : Int), .string kB19].toArray 52)) g gr N b b' vl vm (.slice (some ⟨gc, 0, none⟩) N cc) k (shS g n P) C (star (blkA wA.heap.size 52 [.pointer (some ⟨gr, 0, none⟩), .int .i64 (k : Int), .int .i64 (n : Int), .string kB19]) (star (blkA ga 45 [.pointer (some ⟨g, 0, none⟩), .int .i64 (k : Int), .int .i64 (n : Int), .string kB19]) nought))) := HLA.out.newBlk ((firm_blk _ _ _).star firm_nought) _ _
      have hw2 := set_over wA [.pointer none, .int .i64 0, .int .i64 0, .string noB] [.pointer (some ⟨gr, 0, none⟩), .int .i64 (k : Int), .int .i64 (n : Int), .string kB19] 52
      go_upto_region 10 with (refine wpList_store_blk rfl 52 _ _ rfl wA.heap.size [.pointer none, .int .i64 0, .int .i64 0, .string noB] [.pointer (some ⟨gr, 0, none⟩), .int .i64 (k : Int), .int .i64 (n : Int), .string kB19] rfl rfl 52 (Blk.box _ _ _) HZ4r.out rfl (slab_one _ _ _ _) ?_; rw [hw2]; clear hw2)
      generalize hwB : wA.alloc (.cells [.pointer (some ⟨gr, 0, none⟩), .int .i64 (k : Int), .int .i64 (n : Int), .string kB19].toArray 52) = wB at *
      generalize hgb : wA.heap.size = gb at *
      clear hwB hgb HLA
      have HG : Hid (∀ (z : World) (b2 : Bs), Bk z g N b2.D b2.s b2.p → GoodIs z (slV (.pointer (some ⟨g, 0, none⟩)) (k : Int) (n : Int) kB19) true) := fun z b2 hz => good_yes hz hlt hn hd rfl
      have HBk0 : Hid (Blk wB ga 45 [.pointer (some ⟨g, 0, none⟩), .int .i64 (k : Int), .int .i64 (n : Int), .string kB19]) := HLB.out.blk2
      have hbl := sblank_any (HG.out wB b HLB.out.bk) (HT.out _ HLB.out.low) hn hd
      rw [show tdg eL n 1 = t0 from HT0.out] at hbl
      go_upto_region 11 with (first
        | (refine wpList_load_blk rfl 45 _ rfl ga rfl 45 [.pointer (some ⟨g, 0, none⟩), .int .i64 (k : Int), .int .i64 (n : Int), .string kB19] _ HBk0.out Tryz.underlying45 rfl HZ4.out ?_)
        | (go_at_call 34; refine hbl.mono ?_; rintro e w4 ⟨v1, rfl, hr4, hb4⟩; have HL4 : Hid (Ly w.heap.size w w4 g gr N b b' vl vm (.slice (some ⟨gc, 0, none⟩) N cc) k (shS g n P) C (star (rowK 144 2 v1 (blW n).length (pairs (blW n))) (star (blkA gb 52 [.pointer (some ⟨gr, 0, none⟩), .int .i64 (k : Int), .int .i64 (n : Int), .string kB19]) (star (blkA ga 45 [.pointer (some ⟨g, 0, none⟩), .int .i64 (k : Int), .int .i64 (n : Int), .string kB19]) nought)))) := HLB.out.newRow ((firm_blk _ _ _).star ((firm_blk _ _ _).star firm_nought)) hb4 hr4; clear hr4 hb4 hbl HLB HBk0))
      have HBk4 : Hid (Blk w4 ga 45 [.pointer (some ⟨g, 0, none⟩), .int .i64 (k : Int), .int .i64 (n : Int), .string kB19]) := Ly.blk2 (Ly.drop HL4.out)
      have hwk : IntKind.u8.wrap (k : Int) = (k : Int) := IntWalk.u8_in _ ⟨by omega, by have := HN.out; omega⟩
      have HL5 : Hid (Ly w.heap.size w (w4.alloc (.cells #[.int .u8 (k : Int)] 5)) g gr N b b' vl vm (.slice (some ⟨gc, 0, none⟩) N cc) k (shS g n P) C (star (rowK 144 2 v1 (blW n).length (pairs (blW n))) (star (blkA gb 52 [.pointer (some ⟨gr, 0, none⟩), .int .i64 (k : Int), .int .i64 (n : Int), .string kB19]) (star (blkA ga 45 [.pointer (some ⟨g, 0, none⟩), .int .i64 (k : Int), .int .i64 (n : Int), .string kB19]) nought)))) := HL4.out.below ((firm_rowK _ _ _ _ _).star ((firm_blk _ _ _).star ((firm_blk _ _ _).star firm_nought))) ((Below.refl _ _).alloc (Nat.le_refl _) _)
      have hcv : (convert 22 9 (.slice (some ⟨w4.heap.size, 0, none⟩) 1 1)).run Tryz.prog (w4.alloc (.cells #[.int .u8 (k : Int)] 5)) = .ok (.string (tx 1 fun _ => k)) (w4.alloc (.cells #[.int .u8 (k : Int)] 5)) := conv_blk (f := fun _ => k) (Blk.new w4 5 #[.int .u8 (k : Int)]) 1 1 (Nat.le_refl _)
      have hse := sseal_ok (k := slot) (show k ≤ 1000 by have := HN.out; omega) (by omega) (key := kB19) rfl (fault_in (HG.out _ b HL5.out.bk) (by omega) (by omega)) (nonc_size k) (HCE.out ▸ HCK.out)
      rw [← HCS.out] at hse
      have HSE : Hid (Calls _ _ _ _ _) := hse
      clear hse
      go_upto_region 12 with (first
        | (refine wpList_load_blk rfl 45 _ rfl ga rfl 45 [.pointer (some ⟨g, 0, none⟩), .int .i64 (k : Int), .int .i64 (n : Int), .string kB19] _ HBk4.out Tryz.underlying45 rfl HZ4.out ?_)
        | (go_at_call 35; refine HSE.out.mono ?_; rintro e w6 ⟨rfl, hb6⟩; have HL6 : Hid (Ly w.heap.size w w6 g gr N b b' vl vm (.slice (some ⟨gc, 0, none⟩) N cc) k (shS g n P) C (star (rowK 144 2 v1 (blW n).length (pairs (blW n))) (star (blkA gb 52 [.pointer (some ⟨gr, 0, none⟩), .int .i64 (k : Int), .int .i64 (n : Int), .string kB19]) (star (blkA ga 45 [.pointer (some ⟨g, 0, none⟩), .int .i64 (k : Int), .int .i64 (n : Int), .string kB19]) nought)))) := HL5.out.below ((firm_rowK _ _ _ _ _).star ((firm_blk _ _ _).star ((firm_blk _ _ _).star firm_nought))) hb6; clear hb6 HSE HL5 HBk4 hcv))
      have HBk6 : Hid (Blk w6 ga 45 [.pointer (some ⟨g, 0, none⟩), .int .i64 (k : Int), .int .i64 (n : Int), .string kB19]) := Ly.blk2 (Ly.drop HL6.out)
      have hap := Ly.apply ((firm_blk _ _ _).star ((firm_blk _ _ _).star firm_nought)) (HG.out _ b HL6.out.bk) hlt HL6.out HF0.out (by have := HBL.out; have := HN.out; omega)
      rw [HP1.out] at hap
      have HAP : Hid (Calls _ _ _ _ _) := hap
      clear hap
      go_upto_region 13 with (first
        | (refine wpList_load_blk rfl 45 _ rfl ga rfl 45 [.pointer (some ⟨g, 0, none⟩), .int .i64 (k : Int), .int .i64 (n : Int), .string kB19] _ HBk6.out Tryz.underlying45 rfl HZ4.out ?_)
        | (go_at_call 36; refine HAP.out.mono ?_; rintro e w7 ⟨rfl, h7⟩; have HL7 : Hid (Ly w.heap.size w w7 g gr N (apR N k b (blW n)).2 b' vl vm (.slice (some ⟨gc, 0, none⟩) N cc) k (shS g n P) C (star (rowK 144 2 v1 (blW n).length (pairs (blW n))) (star (blkA gb 52 [.pointer (some ⟨gr, 0, none⟩), .int .i64 (k : Int), .int .i64 (n : Int), .string kB19]) (star (blkA ga 45 [.pointer (some ⟨g, 0, none⟩), .int .i64 (k : Int), .int .i64 (n : Int), .string kB19]) nought)))) := h7; clear h7 HAP HL6 HBk6))
      have HBk7 : Hid (Blk w7 ga 45 [.pointer (some ⟨g, 0, none⟩), .int .i64 (k : Int), .int .i64 (n : Int), .string kB19]) := Ly.blk2 (Ly.drop HL7.out)
      have HL8 : Hid (Ly w.heap.size w (w7.alloc (.cells #[.int .i64 (slot : Int), .string ce] 92)) g gr N (apR N k b (blW n)).2 b' vl vm (.slice (some ⟨gc, 0, none⟩) N cc) k (shS g n P) C (star (rowK 144 2 v1 (blW n).length (pairs (blW n))) (star (blkA gb 52 [.pointer (some ⟨gr, 0, none⟩), .int .i64 (k : Int), .int .i64 (n : Int), .string kB19]) (star (blkA ga 45 [.pointer (some ⟨g, 0, none⟩), .int .i64 (k : Int), .int .i64 (n : Int), .string kB19]) nought)))) := HL7.out.below ((firm_rowK _ _ _ _ _).star ((firm_blk _ _ _).star ((firm_blk _ _ _).star firm_nought))) ((Below.refl _ _).alloc (Nat.le_refl _) _)
      have hpr := prepN (i := k) (c := 1) HL8.out.bk (HT.out _ HL8.out.low) HP2.out hlt hn hd (key := kB19) rfl HP3.out (Cg.one w7 (slot : Int) ce) (by show 1 ≤ 100; decide) (fun p hp => by
        rcases List.mem_cons.1 hp with rfl | h
        · exact ⟨⟨by show (0 : Int) ≤ (slot : Int); omega, by show (slot : Int) < (n : Int); omega⟩, HCZ.out⟩
        · cases h)
      rw [HQT.out.1, HQT.out.2] at hpr
      have HPR : Hid (Calls _ _ _ _ _) := hpr
      clear hpr
      go_upto_region 14 with (first
        | (refine wpList_load_blk rfl 45 _ rfl ga rfl 45 [.pointer (some ⟨g, 0, none⟩), .int .i64 (k : Int), .int .i64 (n : Int), .string kB19] _ HBk7.out Tryz.underlying45 rfl HZ4.out ?_)
        | (go_at_call 37; refine HPR.out.mono ?_; rintro e w9 ⟨v2, rfl, hr9, hb9⟩; have HL9 : Hid (Ly w.heap.size w w9 g gr N (apR N k b (blW n)).2 b' vl vm (.slice (some ⟨gc, 0, none⟩) N cc) k (shS g n P) C (star (rowK 144 2 v2 q2.length (pairs q2)) (star (rowK 144 2 v1 (blW n).length (pairs (blW n))) (star (blkA gb 52 [.pointer (some ⟨gr, 0, none⟩), .int .i64 (k : Int), .int .i64 (n : Int), .string kB19]) (star (blkA ga 45 [.pointer (some ⟨g, 0, none⟩), .int .i64 (k : Int), .int .i64 (n : Int), .string kB19]) nought))))) := HL8.out.newRow ((firm_rowK _ _ _ _ _).star ((firm_blk _ _ _).star ((firm_blk _ _ _).star firm_nought))) hb9 hr9; clear hr9 hb9 HPR HL8 HL7 HBk7))
      have HBk9 : Hid (Blk w9 ga 45 [.pointer (some ⟨g, 0, none⟩), .int .i64 (k : Int), .int .i64 (n : Int), .string kB19]) := Ly.blk2 (Ly.drop (Ly.drop HL9.out))
      have hap := Ly.apply ((firm_rowK _ _ _ _ _).star ((firm_blk _ _ _).star ((firm_blk _ _ _).star firm_nought))) (HG.out _ _ HL9.out.bk) hlt HL9.out HF1.out (by have := HQ2.out; have := HN.out; omega)
      rw [HP4.out] at hap
      have HAP : Hid (Calls _ _ _ _ _) := hap
      clear hap
      go_upto_region 16 with (first
        | (refine wpList_load_blkG rfl 45 _ rfl ga rfl 45 [.pointer (some ⟨g, 0, none⟩), .int .i64 (k : Int), .int .i64 (n : Int), .string kB19] _ HBk9.out Tryz.underlying45 rfl HZ4.out ?_)
        | (go_at_call 36; refine HAP.out.mono ?_; rintro e wc ⟨rfl, hc10⟩; have HL10 : Hid (Ly w.heap.size w wc g gr N (apR N k (apR N k b (blW n)).2 q2).2 b' vl vm (.slice (some ⟨gc, 0, none⟩) N cc) k (shS g n P) C (star (rowK 144 2 v2 q2.length (pairs q2)) (star (rowK 144 2 v1 (blW n).length (pairs (blW n))) (star (blkA gb 52 [.pointer (some ⟨gr, 0, none⟩), .int .i64 (k : Int), .int .i64 (n : Int), .string kB19]) (star (blkA ga 45 [.pointer (some ⟨g, 0, none⟩), .int .i64 (k : Int), .int .i64 (n : Int), .string kB19]) nought))))) := hc10; clear hc10 HAP HL9 HBk9))
      clear HBL HQ2 HF0 HF1 HP1 HP2 HP3 HP4 HCS HCZ HCK HCE HG HQT hwk
      generalize hb2 : (apR N k (apR N k b (blW n)).2 q2).2 = b2 at *
      clear hb2
      have HL11 : Hid (Ly w.heap.size w wc.drew g gr N b2 b' vl vm (.slice (some ⟨gc, 0, none⟩) N cc) k (shS g n P) C (star (rowK 144 2 v2 q2.length (pairs q2)) (star (rowK 144 2 v1 (blW n).length (pairs (blW n))) (star (blkA gb 52 [.pointer (some ⟨gr, 0, none⟩), .int .i64 (k : Int), .int .i64 (n : Int), .string kB19]) (star (blkA ga 45 [.pointer (some ⟨g, 0, none⟩), .int .i64 (k : Int), .int .i64 (n : Int), .string kB19]) nought))))) := HL10.out.below ((firm_rowK _ _ _ _ _).star ((firm_rowK _ _ _ _ _).star ((firm_blk _ _ _).star ((firm_blk _ _ _).star firm_nought)))) (Below.refl _ _).drew
      clear HL10
      obtain ⟨gd, cap, r0, r1⟩ := HL11.out.rAt hlt
      have HRN : Hid ((b'.D k).n = 140 ∧ (b'.D k).dead = false ∧ ∀ a, a < 140 → (l' a).size ≤ 2048) := ⟨by rw [HRS.out.2.1, newN140], HRS.out.2.2.2.2, fun a _ => HP5.out.sz a⟩
      have HR01 : Hid (wc.drew.cell? ⟨gr, 0, none⟩ = some (.slice (some ⟨gd, 0, none⟩) N cap) ∧ wc.drew.cell? ⟨gd, k, none⟩ = some (.pointer (some ⟨(b'.D k).g, 0, none⟩))) := ⟨r0, r1⟩
      clear r0 r1
      refine wp_region_noPanic ?_
      refine wp_region_held_drew (S := fun z : World => z.cell? ⟨gr, 0, none⟩ = some (.slice (some ⟨gd, 0, none⟩) N cap) ∧ z.cell? ⟨gd, k, none⟩ = some (.pointer (some ⟨(b'.D k).g, 0, none⟩))) (by kernel_rfl) HR01.out (fun hHeld => ?_)
      refine tkH 0 ?_; go_simp
      refine tkH 1 ?_; go_simp
      refine tkH 2 ?_; go_simp
      refine tkH 3 ?_; go_simp
      refine tkH 4 ?_; go_simp
      refine tkH 5 ?_; go_simp
      refine tkH 6 ?_; go_simp
      refine tkH 7 ?_; go_simp
      refine tkH 8 ?_; go_simp
      refine rdH 9 fun K hK => ?_
      go_simp
      go_at_call 24
      refine (HL11.out.disk hlt).mono ?_
      rintro x we ⟨rfl, hwe⟩
      rw [hwe]
      clear hwe we
      refine hK.out _ _ HR01.out (fun hHeld => ?_)
      clear hK K
      refine rdH 10 fun K hK => ?_
      go_simp
      go_at_call 39
      refine (HL11.out.image ((firm_rowK _ _ _ _ _).star ((firm_rowK _ _ _ _ _).star ((firm_blk _ _ _).star ((firm_blk _ _ _).star firm_nought)))) hlt HP5.out).mono ?_
      rintro x we ⟨gi, rfl, hc12, hbe⟩
      have HL12 : Hid (Ly w.heap.size w we g gr N b2 b' vl vm (.slice (some ⟨gc, 0, none⟩) N cc) k (shS g n P) C (star (blkA gi 9 (strs 140 l')) (star (rowK 144 2 v2 q2.length (pairs q2)) (star (rowK 144 2 v1 (blW n).length (pairs (blW n))) (star (blkA gb 52 [.pointer (some ⟨gr, 0, none⟩), .int .i64 (k : Int), .int .i64 (n : Int), .string kB19]) (star (blkA ga 45 [.pointer (some ⟨g, 0, none⟩), .int .i64 (k : Int), .int .i64 (n : Int), .string kB19]) nought)))))) := hc12
      have HR02 : Hid (we.cell? ⟨gr, 0, none⟩ = some (.slice (some ⟨gd, 0, none⟩) N cap) ∧ we.cell? ⟨gd, k, none⟩ = some (.pointer (some ⟨(b'.D k).g, 0, none⟩))) := ⟨(hbe.cell (p := ⟨gr, 0, none⟩) (mcell_lt HR01.out.1)).trans HR01.out.1, (hbe.cell (p := ⟨gd, k, none⟩) (mcell_lt HR01.out.2)).trans HR01.out.2⟩
      clear hc12 hbe HL11 HR01
      refine hK.out _ _ HR02.out (fun hHeld => ?_)
      clear hK K
      refine rdH 11 fun K hK => ?_
      go_simp
      go_at_call 38
      refine (HL12.out.restore ((firm_rowK _ _ _ _ _).star ((firm_rowK _ _ _ _ _).star ((firm_blk _ _ _).star ((firm_blk _ _ _).star firm_nought)))) hlt HRN.out.1 HRN.out.2.1 HRN.out.2.2 HR02.out.1 HR02.out.2).mono ?_
      rintro x wf ⟨rfl, hc13, hr13⟩
      have HL13 : Hid (Ly w.heap.size w wf g gr N b2 ⟨updD b'.D k ⟨(b'.D k).g, 140, l', [], false⟩, b'.s, b'.p⟩ vl vm (.slice (some ⟨gc, 0, none⟩) N cc) k (shS g n P) C (star (blkA gb 52 [.pointer (some ⟨gr, 0, none⟩), .int .i64 (k : Int), .int .i64 (n : Int), .string kB19]) (star (blkA ga 45 [.pointer (some ⟨g, 0, none⟩), .int .i64 (k : Int), .int .i64 (n : Int), .string kB19]) nought))) := (Ly.drop (Ly.drop hc13))
      have HR03 : Hid (wf.cell? ⟨gr, 0, none⟩ = some (.slice (some ⟨gd, 0, none⟩) N cap) ∧ wf.cell? ⟨gd, k, none⟩ = some (.pointer (some ⟨(b'.D k).g, 0, none⟩))) := hr13
      clear hc13 hr13 HL12 HR02
      refine hK.out _ _ HR03.out (fun hHeld => ?_)
      clear hK K
      refine wpAnyH_done (by kernel_rfl) ?_ _
      refine NoPanic.normal ?_
      clear HR03 HRN
      have hns := HNX.out ⟨updD b'.D k ⟨(b'.D k).g, 140, l', [], false⟩, b'.s, b'.p⟩ HS.out.p' (fun j hj => updD_ne _ _ _ _ hj) (by
        show (updD b'.D k _ k).n = 140 ∧ (updD b'.D k _ k).l = _ ∧ (updD b'.D k _ k).q = [] ∧ (updD b'.D k _ k).dead = false
        rw [updD_same]
        exact ⟨rfl, HP5.out.ll.symm, rfl, rfl⟩)
      have HNS : Hid (LyS _ _ _ _ _ _ _ _) := hns
      clear hns HNX HS HRS HP5
      generalize (⟨updD b'.D k ⟨(b'.D k).g, 140, l', [], false⟩, b'.s, b'.p⟩ : Bs) = b3' at *
      have HL14 : Hid (Ly w.heap.size w wf g gr N b2 b3' vl vm (.slice (some ⟨gc, 0, none⟩) N cc) k (shS g n fun j => if j = k then t2 else P j) C (star (blkA gb 52 [.pointer (some ⟨gr, 0, none⟩), .int .i64 (k : Int), .int .i64 (n : Int), .string kB19]) (star (blkA ga 45 [.pointer (some ⟨g, 0, none⟩), .int .i64 (k : Int), .int .i64 (n : Int), .string kB19]) nought))) := HL13.out.congr fun i hi => by show (⟨g, (i : Int), (n : Int), kB19, P i, true⟩ : Sh) = ⟨_, _, _, _, (if i = k then t2 else P i), _⟩; rw [if_neg (by omega)]
      have HSK : Hid (shS g n (fun j => if j = k then t2 else P j) k = ⟨g, (k : Int), (n : Int), kB19, t2, true⟩) := by show (⟨_, _, _, _, (if k = k then t2 else P k), _⟩ : Sh) = _; rw [if_pos rfl]
      clear HL13
      generalize (fun j => if j = k then t2 else P j) = P2 at *
      go_wp2_with fail
      have HE1 : Hid (Firm (star (blkA gb 52 [.pointer (some ⟨gr, 0, none⟩), .int .i64 (k : Int), .int .i64 (n : Int), .string kB19]) (star (blkA ga 45 [.pointer (some ⟨g, 0, none⟩), .int .i64 (k : Int), .int .i64 (n : Int), .string kB19]) nought))) := ((firm_blk _ _ _).star ((firm_blk _ _ _).star firm_nought))
      have HL15 : Hid (Ly w.heap.size w wf.drew g gr N b2 b3' vl vm (.slice (some ⟨gc, 0, none⟩) N cc) k (shS g n P2) C (star (blkA gb 52 [.pointer (some ⟨gr, 0, none⟩), .int .i64 (k : Int), .int .i64 (n : Int), .string kB19]) (star (blkA ga 45 [.pointer (some ⟨g, 0, none⟩), .int .i64 (k : Int), .int .i64 (n : Int), .string kB19]) nought))) := HL14.out.below HE1.out (Below.refl _ _).drew
      clear HL14
      have kb : (k : Int) ≤ 10 := by have := HN.out; omega
      have HN1 : Hid (k ≤ 1000) := (by have := HN.out; omega : k ≤ 1000)
      refine wp_region_noPanic ?_
      refine wp_region_held_drew (S := fun z : World => (z.cell? ⟨ga, 0, none⟩ = some (.pointer (some ⟨g, 0, none⟩)) ∧ z.cell? ⟨ga, 1, none⟩ = some (.int .i64 (k : Int)) ∧ z.cell? ⟨ga, 2, none⟩ = some (.int .i64 (n : Int)) ∧ z.cell? ⟨ga, 3, none⟩ = some (.string kB19)) ∧ (z.cell? ⟨gb, 0, none⟩ = some (.pointer (some ⟨gr, 0, none⟩)) ∧ z.cell? ⟨gb, 1, none⟩ = some (.int .i64 (k : Int)) ∧ z.cell? ⟨gb, 2, none⟩ = some (.int .i64 (n : Int)) ∧ z.cell? ⟨gb, 3, none⟩ = some (.string kB19))) (by kernel_rfl) (two_blks (Ly.part HL15.out)) (fun hHeld => ?_)
      generalize wf.drew = wg at *
      refine tkH 0 ?_; go_simp
      refine tkH 1 ?_; go_simp
      refine tkH 2 ?_; go_simp
      refine tkH 3 ?_; go_simp
      refine tkH 6 ?_; go_simp
      refine tkH 7 ?_; go_simp
      refine tkH 8 ?_; go_simp
      refine tkH 9 ?_; go_simp
      refine wpAnyH_ready (rs := [4, 10]) (by kernel_rfl) (by simp) (AllReadyH.cons rfl (fun K hK => ?_) (AllReadyH.cons rfl (fun K hK => ?_) AllReadyH.nil))
      · go_simp
        have HLa : Hid (Ly w.heap.size w (wg.alloc (.cells [.pointer (some ⟨g, 0, none⟩), .int .i64 (k : Int), .int .i64 (n : Int), .string kB19, .string t2, .bool true].toArray 47)) g gr N b2 b3' vl vm (.slice (some ⟨gc, 0, none⟩) N cc) k (shS g n P2) C (star (blkA wg.heap.size 47 [.pointer (some ⟨g, 0, none⟩), .int .i64 (k : Int), .int .i64 (n : Int), .string kB19, .string t2, .bool true]) (star (blkA gb 52 [.pointer (some ⟨gr, 0, none⟩), .int .i64 (k : Int), .int .i64 (n : Int), .string kB19]) (star (blkA ga 45 [.pointer (some ⟨g, 0, none⟩), .int .i64 (k : Int), .int .i64 (n : Int), .string kB19]) nought)))) := HL15.out.newBlk HE1.out _ _
        refine hK.out _ _ (two_blks (Ly.part HLa.out).right) (fun hHeld => ?_)
        clear hK K
        clear HL15
        generalize wg.alloc (.cells [.pointer (some ⟨g, 0, none⟩), .int .i64 (k : Int), .int .i64 (n : Int), .string kB19, .string t2, .bool true].toArray 47) = wh at *
        generalize wg.heap.size = ge at *
        refine wpAnyH_ready (rs := [5, 10]) (by kernel_rfl) (by simp) (AllReadyH.cons rfl (fun K hK => ?_) (AllReadyH.cons rfl (fun K hK => ?_) AllReadyH.nil))
        · skip
          obtain ⟨la, lc, wi, hrun, hnew⟩ := Ly.pushL ((firm_blk _ _ _).star HE1.out) HLa.out HN1.out (s := ⟨g, (k : Int), (n : Int), kB19, t2, true⟩) HLa.out.blk HSK.out
          refine step_append_ty rfl _ _ 36 36 rfl _ _ rfl rfl _ _ hrun ?_
          have Hwi : Hid (LyH w.heap.size w wi g gr N b2 b3' (.slice la (k + 1) lc) vm (.slice (some ⟨gc, 0, none⟩) N cc) k (shS g n P2) C (star (blkA ge 47 [.pointer (some ⟨g, 0, none⟩), .int .i64 (k : Int), .int .i64 (n : Int), .string kB19, .string t2, .bool true]) (star (blkA gb 52 [.pointer (some ⟨gr, 0, none⟩), .int .i64 (k : Int), .int .i64 (n : Int), .string kB19]) (star (blkA ga 45 [.pointer (some ⟨g, 0, none⟩), .int .i64 (k : Int), .int .i64 (n : Int), .string kB19]) nought)))) := hnew
          clear hrun hnew HLa
          refine hK.out _ _ (two_blks (LyH.part Hwi.out).right) (fun hHeld => ?_)
          clear hK K
          refine rdH 10 fun K hK => ?_
          go_simp
          have HLb : Hid (LyH w.heap.size w (wi.alloc (.cells [.pointer (some ⟨gr, 0, none⟩), .int .i64 (k : Int), .int .i64 (n : Int), .string kB19, .string t2, .bool true].toArray 54)) g gr N b2 b3' (.slice la (k + 1) lc) vm (.slice (some ⟨gc, 0, none⟩) N cc) k (shS g n P2) C (star (blkA wi.heap.size 54 [.pointer (some ⟨gr, 0, none⟩), .int .i64 (k : Int), .int .i64 (n : Int), .string kB19, .string t2, .bool true]) (star (blkA ge 47 [.pointer (some ⟨g, 0, none⟩), .int .i64 (k : Int), .int .i64 (n : Int), .string kB19, .string t2, .bool true]) (star (blkA gb 52 [.pointer (some ⟨gr, 0, none⟩), .int .i64 (k : Int), .int .i64 (n : Int), .string kB19]) (star (blkA ga 45 [.pointer (some ⟨g, 0, none⟩), .int .i64 (k : Int), .int .i64 (n : Int), .string kB19]) nought))))) := Hwi.out.newBlk ((firm_blk _ _ _).star HE1.out) _ _
          refine hK.out _ _ (two_blks (LyH.part HLb.out).right.right) (fun hHeld => ?_)
          clear hK K
          clear Hwi
          generalize wi.alloc (.cells [.pointer (some ⟨gr, 0, none⟩), .int .i64 (k : Int), .int .i64 (n : Int), .string kB19, .string t2, .bool true].toArray 54) = wj at *
          generalize wi.heap.size = gf at *
          refine rdH 11 fun K hK => ?_
          obtain ⟨ma, mc, wk, hrun, hnew⟩ := Ly.pushM ((firm_blk _ _ _).star ((firm_blk _ _ _).star HE1.out)) HLb.out HN1.out (s := ⟨g, (k : Int), (n : Int), kB19, t2, true⟩) (Hold.blk (LyH.part HLb.out)) HSK.out
          refine step_append_ty rfl _ _ 37 37 rfl _ _ rfl rfl _ _ hrun ?_
          have Hwk : Hid (Ly w.heap.size w wk g gr N b2 b3' (.slice la (k + 1) lc) (.slice ma (k + 1) mc) (.slice (some ⟨gc, 0, none⟩) N cc) (k + 1) (shS g n P2) C (star (blkA gf 54 [.pointer (some ⟨gr, 0, none⟩), .int .i64 (k : Int), .int .i64 (n : Int), .string kB19, .string t2, .bool true]) (star (blkA ge 47 [.pointer (some ⟨g, 0, none⟩), .int .i64 (k : Int), .int .i64 (n : Int), .string kB19, .string t2, .bool true]) (star (blkA gb 52 [.pointer (some ⟨gr, 0, none⟩), .int .i64 (k : Int), .int .i64 (n : Int), .string kB19]) (star (blkA ga 45 [.pointer (some ⟨g, 0, none⟩), .int .i64 (k : Int), .int .i64 (n : Int), .string kB19]) nought))))) := hnew
          clear hrun hnew HLb
          refine hK.out _ _ (two_blks (Ly.part Hwk.out).right.right) (fun hHeld => ?_)
          clear hK K
          refine tkH 12 ?_; go_simp
          refine tkH 13 ?_; go_simp
          refine wpAnyH_done (by kernel_rfl) ?_ _
          refine NoPanic.normal ?_
          go_wp2_with fail
          go_roundw
          case rel => exact ⟨_, _, k + 1, b2, b3', P2, rfl, rfl, by omega, by go_num, Ly.dropAll (Ly.drop (Ly.drop Hwk.out)), HNS.out⟩
          case measure => simp [intOf]; omega
        · go_simp
          have HLb : Hid (Ly w.heap.size w (wh.alloc (.cells [.pointer (some ⟨gr, 0, none⟩), .int .i64 (k : Int), .int .i64 (n : Int), .string kB19, .string t2, .bool true].toArray 54)) g gr N b2 b3' vl vm (.slice (some ⟨gc, 0, none⟩) N cc) k (shS g n P2) C (star (blkA wh.heap.size 54 [.pointer (some ⟨gr, 0, none⟩), .int .i64 (k : Int), .int .i64 (n : Int), .string kB19, .string t2, .bool true]) (star (blkA ge 47 [.pointer (some ⟨g, 0, none⟩), .int .i64 (k : Int), .int .i64 (n : Int), .string kB19, .string t2, .bool true]) (star (blkA gb 52 [.pointer (some ⟨gr, 0, none⟩), .int .i64 (k : Int), .int .i64 (n : Int), .string kB19]) (star (blkA ga 45 [.pointer (some ⟨g, 0, none⟩), .int .i64 (k : Int), .int .i64 (n : Int), .string kB19]) nought))))) := HLa.out.newBlk ((firm_blk _ _ _).star HE1.out) _ _
          refine hK.out _ _ (two_blks (Ly.part HLb.out).right.right) (fun hHeld => ?_)
          clear hK K
          clear HLa
          generalize wh.alloc (.cells [.pointer (some ⟨gr, 0, none⟩), .int .i64 (k : Int), .int .i64 (n : Int), .string kB19, .string t2, .bool true].toArray 54) = wi at *
          generalize wh.heap.size = gf at *
          refine rdH 5 fun K hK => ?_
          obtain ⟨la, lc, wj, hrun, hnew⟩ := Ly.pushL ((firm_blk _ _ _).star ((firm_blk _ _ _).star HE1.out)) HLb.out HN1.out (s := ⟨g, (k : Int), (n : Int), kB19, t2, true⟩) HLb.out.blk2 HSK.out
          refine step_append_ty rfl _ _ 36 36 rfl _ _ rfl rfl _ _ hrun ?_
          have Hwj : Hid (LyH w.heap.size w wj g gr N b2 b3' (.slice la (k + 1) lc) vm (.slice (some ⟨gc, 0, none⟩) N cc) k (shS g n P2) C (star (blkA gf 54 [.pointer (some ⟨gr, 0, none⟩), .int .i64 (k : Int), .int .i64 (n : Int), .string kB19, .string t2, .bool true]) (star (blkA ge 47 [.pointer (some ⟨g, 0, none⟩), .int .i64 (k : Int), .int .i64 (n : Int), .string kB19, .string t2, .bool true]) (star (blkA gb 52 [.pointer (some ⟨gr, 0, none⟩), .int .i64 (k : Int), .int .i64 (n : Int), .string kB19]) (star (blkA ga 45 [.pointer (some ⟨g, 0, none⟩), .int .i64 (k : Int), .int .i64 (n : Int), .string kB19]) nought))))) := hnew
          clear hrun hnew HLb
          refine hK.out _ _ (two_blks (LyH.part Hwj.out).right.right) (fun hHeld => ?_)
          clear hK K
          refine rdH 11 fun K hK => ?_
          obtain ⟨ma, mc, wk, hrun, hnew⟩ := Ly.pushM ((firm_blk _ _ _).star ((firm_blk _ _ _).star HE1.out)) Hwj.out HN1.out (s := ⟨g, (k : Int), (n : Int), kB19, t2, true⟩) (Hold.blk (LyH.part Hwj.out)) HSK.out
          refine step_append_ty rfl _ _ 37 37 rfl _ _ rfl rfl _ _ hrun ?_
          have Hwk : Hid (Ly w.heap.size w wk g gr N b2 b3' (.slice la (k + 1) lc) (.slice ma (k + 1) mc) (.slice (some ⟨gc, 0, none⟩) N cc) (k + 1) (shS g n P2) C (star (blkA gf 54 [.pointer (some ⟨gr, 0, none⟩), .int .i64 (k : Int), .int .i64 (n : Int), .string kB19, .string t2, .bool true]) (star (blkA ge 47 [.pointer (some ⟨g, 0, none⟩), .int .i64 (k : Int), .int .i64 (n : Int), .string kB19, .string t2, .bool true]) (star (blkA gb 52 [.pointer (some ⟨gr, 0, none⟩), .int .i64 (k : Int), .int .i64 (n : Int), .string kB19]) (star (blkA ga 45 [.pointer (some ⟨g, 0, none⟩), .int .i64 (k : Int), .int .i64 (n : Int), .string kB19]) nought))))) := hnew
          clear hrun hnew Hwj
          refine hK.out _ _ (two_blks (Ly.part Hwk.out).right.right) (fun hHeld => ?_)
          clear hK K
          refine tkH 12 ?_; go_simp
          refine tkH 13 ?_; go_simp
          refine wpAnyH_done (by kernel_rfl) ?_ _
          refine NoPanic.normal ?_
          go_wp2_with fail
          go_roundw
          case rel => exact ⟨_, _, k + 1, b2, b3', P2, rfl, rfl, by omega, by go_num, Ly.dropAll (Ly.drop (Ly.drop Hwk.out)), HNS.out⟩
          case measure => simp [intOf]; omega
      · go_simp
        have HLa : Hid (Ly w.heap.size w (wg.alloc (.cells [.pointer (some ⟨gr, 0, none⟩), .int .i64 (k : Int), .int .i64 (n : Int), .string kB19, .string t2, .bool true].toArray 54)) g gr N b2 b3' vl vm (.slice (some ⟨gc, 0, none⟩) N cc) k (shS g n P2) C (star (blkA wg.heap.size 54 [.pointer (some ⟨gr, 0, none⟩), .int .i64 (k : Int), .int .i64 (n : Int), .string kB19, .string t2, .bool true]) (star (blkA gb 52 [.pointer (some ⟨gr, 0, none⟩), .int .i64 (k : Int), .int .i64 (n : Int), .string kB19]) (star (blkA ga 45 [.pointer (some ⟨g, 0, none⟩), .int .i64 (k : Int), .int .i64 (n : Int), .string kB19]) nought)))) := HL15.out.newBlk HE1.out _ _
        refine hK.out _ _ (two_blks (Ly.part HLa.out).right) (fun hHeld => ?_)
        clear hK K
        clear HL15
        generalize wg.alloc (.cells [.pointer (some ⟨gr, 0, none⟩), .int .i64 (k : Int), .int .i64 (n : Int), .string kB19, .string t2, .bool true].toArray 54) = wh at *
        generalize wg.heap.size = gf at *
        refine rdH 4 fun K hK => ?_
        go_simp
        have HLb : Hid (Ly w.heap.size w (wh.alloc (.cells [.pointer (some ⟨g, 0, none⟩), .int .i64 (k : Int), .int .i64 (n : Int), .string kB19, .string t2, .bool true].toArray 47)) g gr N b2 b3' vl vm (.slice (some ⟨gc, 0, none⟩) N cc) k (shS g n P2) C (star (blkA wh.heap.size 47 [.pointer (some ⟨g, 0, none⟩), .int .i64 (k : Int), .int .i64 (n : Int), .string kB19, .string t2, .bool true]) (star (blkA gf 54 [.pointer (some ⟨gr, 0, none⟩), .int .i64 (k : Int), .int .i64 (n : Int), .string kB19, .string t2, .bool true]) (star (blkA gb 52 [.pointer (some ⟨gr, 0, none⟩), .int .i64 (k : Int), .int .i64 (n : Int), .string kB19]) (star (blkA ga 45 [.pointer (some ⟨g, 0, none⟩), .int .i64 (k : Int), .int .i64 (n : Int), .string kB19]) nought))))) := HLa.out.newBlk ((firm_blk _ _ _).star HE1.out) _ _
        refine hK.out _ _ (two_blks (Ly.part HLb.out).right.right) (fun hHeld => ?_)
        clear hK K
        clear HLa
        generalize wh.alloc (.cells [.pointer (some ⟨g, 0, none⟩), .int .i64 (k : Int), .int .i64 (n : Int), .string kB19, .string t2, .bool true].toArray 47) = wi at *
        generalize wh.heap.size = ge at *
        refine rdH 5 fun K hK => ?_
        obtain ⟨la, lc, wj, hrun, hnew⟩ := Ly.pushL ((firm_blk _ _ _).star ((firm_blk _ _ _).star HE1.out)) HLb.out HN1.out (s := ⟨g, (k : Int), (n : Int), kB19, t2, true⟩) HLb.out.blk HSK.out
        refine step_append_ty rfl _ _ 36 36 rfl _ _ rfl rfl _ _ hrun ?_
        have Hwj : Hid (LyH w.heap.size w wj g gr N b2 b3' (.slice la (k + 1) lc) vm (.slice (some ⟨gc, 0, none⟩) N cc) k (shS g n P2) C (star (blkA ge 47 [.pointer (some ⟨g, 0, none⟩), .int .i64 (k : Int), .int .i64 (n : Int), .string kB19, .string t2, .bool true]) (star (blkA gf 54 [.pointer (some ⟨gr, 0, none⟩), .int .i64 (k : Int), .int .i64 (n : Int), .string kB19, .string t2, .bool true]) (star (blkA gb 52 [.pointer (some ⟨gr, 0, none⟩), .int .i64 (k : Int), .int .i64 (n : Int), .string kB19]) (star (blkA ga 45 [.pointer (some ⟨g, 0, none⟩), .int .i64 (k : Int), .int .i64 (n : Int), .string kB19]) nought))))) := hnew
        clear hrun hnew HLb
        refine hK.out _ _ (two_blks (LyH.part Hwj.out).right.right) (fun hHeld => ?_)
        clear hK K
        refine rdH 11 fun K hK => ?_
        obtain ⟨ma, mc, wk, hrun, hnew⟩ := Ly.pushM ((firm_blk _ _ _).star ((firm_blk _ _ _).star HE1.out)) Hwj.out HN1.out (s := ⟨g, (k : Int), (n : Int), kB19, t2, true⟩) (Hold.blk (Hold.right (LyH.part Hwj.out))) HSK.out
        refine step_append_ty rfl _ _ 37 37 rfl _ _ rfl rfl _ _ hrun ?_
        have Hwk : Hid (Ly w.heap.size w wk g gr N b2 b3' (.slice la (k + 1) lc) (.slice ma (k + 1) mc) (.slice (some ⟨gc, 0, none⟩) N cc) (k + 1) (shS g n P2) C (star (blkA ge 47 [.pointer (some ⟨g, 0, none⟩), .int .i64 (k : Int), .int .i64 (n : Int), .string kB19, .string t2, .bool true]) (star (blkA gf 54 [.pointer (some ⟨gr, 0, none⟩), .int .i64 (k : Int), .int .i64 (n : Int), .string kB19, .string t2, .bool true]) (star (blkA gb 52 [.pointer (some ⟨gr, 0, none⟩), .int .i64 (k : Int), .int .i64 (n : Int), .string kB19]) (star (blkA ga 45 [.pointer (some ⟨g, 0, none⟩), .int .i64 (k : Int), .int .i64 (n : Int), .string kB19]) nought))))) := hnew
        clear hrun hnew Hwj
        refine hK.out _ _ (two_blks (Ly.part Hwk.out).right.right) (fun hHeld => ?_)
        clear hK K
        refine tkH 12 ?_; go_simp
        refine tkH 13 ?_; go_simp
        refine wpAnyH_done (by kernel_rfl) ?_ _
        refine NoPanic.normal ?_
        go_wp2_with fail
        go_roundw
        case rel => exact ⟨_, _, k + 1, b2, b3', P2, rfl, rfl, by omega, by go_num, Ly.dropAll (Ly.drop (Ly.drop Hwk.out)), HNS.out⟩
        case measure => simp [intOf]; omega
    · obtain rfl : k = N := by omega
      have hnn := HN.out.1
      have kb : (k : Int) ≤ 10 := by have := HN.out; omega
      have kw : wrap64 (k : Int) = (k : Int) := by unfold wrap64; omega
      clear H32 HT HD HZ4 HZ4r hzs hzr
      go_wp2_with fail
      go_returns
      exact ⟨g, gr, b, b', vl, vm, _, P, by simp, HLY.out, HS.out⟩
end Go.Proofs.YtokknmkleceooaaGreatDoor
