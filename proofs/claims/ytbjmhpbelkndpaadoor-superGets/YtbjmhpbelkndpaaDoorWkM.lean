/- 3 texts in one. -/
import Derived.Test.YtbjmhpbelkndpaaDoorSuRec
import Derived.Test.YtbjmhpbelkndpaaDoorSuPut
import Derived.Test.YtbjmhpbelkndpaaDoorSuGet
/- What the law fixes: a record that is written and read. -/
namespace Go.Proofs.YtbjmhpbelkndpaaDoor
open Go.RowKit Go.PlainAid
set_option linter.unusedVariables false
set_option maxRecDepth 20000

/-- What is made lies there. -/
theorem lies_own {B : Nat} {w0 w : World} {R : Rec} {sa ma : Option Addr} {sc mc : Nat} {T : TypeId} {Y : Asn} (h : Hold B w0 w (star (rowK 3 1 (.slice sa R.ns sc) R.ns (si R.ns R.seat)) (star (rowK T 3 (.slice ma R.nm mc) R.nm (memF R.st R.top R.log R.nm)) Y))) : Lies w R sa ma := ⟨own_sx h.rowK, own_mx h.right.rowK (memF_P _ _ _ _)⟩
theorem lies_own2 {B : Nat} {w0 w : World} {R : Rec} {sa ma : Option Addr} {sc mc : Nat} {T : TypeId} {Y Z : Asn} (h : Hold B w0 w (star (rowK 3 1 (.slice sa R.ns sc) R.ns (si R.ns R.seat)) (star Z (star (rowK T 3 (.slice ma R.nm mc) R.nm (memF R.st R.top R.log R.nm)) Y)))) : Lies w R sa ma := ⟨own_sx h.rowK, own_mx h.right.right.rowK (memF_P _ _ _ _)⟩
theorem Raw.At.fine {x : Raw} {A : Nat → Int} {D : Nat → Dsk} {w : World} (h : x.At A D w) (hc : 0 ≤ x.count ∧ x.count ≤ 18446744073709551615) (he : 0 ≤ x.epoch ∧ x.epoch ≤ 18446744073709551615) (hd : -9223372036854775808 ≤ x.data ∧ x.data ≤ 9223372036854775807) (hs : -9223372036854775808 ≤ x.slots ∧ x.slots ≤ 9223372036854775807) (hm : -9223372036854775808 ≤ x.mark ∧ x.mark ≤ 9223372036854775807) (hb : -9223372036854775808 ≤ x.built ∧ x.built ≤ 9223372036854775807) : (x.toR A D).Fine := by
  refine ⟨hc, he, hd, hs, hm, hb, ?_, ?_, fun i hi => ?_, fun i hi => ?_, fun i hi => ?_, fun i hi => ?_⟩
  · show min x.xn 30 ≤ 100; omega
  · show min x.dn 20 ≤ 100; omega
  · have hi' : i < min x.xn 30 := hi
    obtain ⟨b, o, _, h1, _⟩ := h.sx w (Below.refl _ _) i (by omega)
    exact h1
  · have hi' : i < min x.dn 20 := hi
    obtain ⟨b, o, _, h1, _⟩ := h.dx w (Below.refl _ _) i (by omega)
    exact h1.1
  · show (dgB _ _).size ≤ _; rw [dgB_size]; split <;> omega
  · show (dgB _ _).size ≤ _; rw [dgB_size]; omega
/-- The record of the law's own. -/
def wkA (i : Nat) : Int := (i : Int)
def wkD (i : Nat) : Dsk := ⟨1, 0, 0, false⟩
def wkX (g h : Nat) : Raw := ⟨7, 0, 2, 4, 0, 0, false, some ⟨g, 0, none⟩, 4, 4, some ⟨h, 0, none⟩, 4, 4⟩
def wkR : Rec := ⟨7, 0, 2, 4, 0, 0, false, 4, wkA, 4, fun _ => 1, fun _ => dgB 0 31, fun _ => dgB 0 31⟩
theorem wk_R (g h : Nat) : (wkX g h).toR wkA wkD = wkR := rfl
theorem wk_cnt : ∀ i : Nat, i < 4 → cnt wkR (i : Int) 4 = 1 := fun i hi => by
  rcases (by omega : i = 0 ∨ i = 1 ∨ i = 2 ∨ i = 3) with rfl | rfl | rfl | rfl <;> rfl
theorem wk_good : gd wkR = true := by
  rw [gd_iff]
  refine ⟨⟨by decide, by decide, by decide, .inr (.inl rfl), by decide, by decide, by decide, by decide, ?_, by decide, by decide⟩, fun i hi => ?_, fun j hj => ?_, .inr ⟨rfl, rfl⟩⟩
  · rintro ⟨h1, _⟩; exact absurd h1 (by decide)
  · have hi' : i < 4 := hi
    refine ⟨by show (0 : Int) ≤ 1; decide, by show (1 : Int) ≤ 3; decide, by show (dgB 0 31).size = 32; rw [dgB_size], by show (dgB 0 31).size = 32; rw [dgB_size], ?_, ?_, ?_⟩
    · show cnt _ _ 4 ≤ 1; rw [wk_cnt i hi']; exact Nat.le_refl _
    · rintro ⟨_, h2⟩; exact absurd (show (1 : Int) = 0 from h2) (by decide)
    · rintro ⟨h1, _⟩
      have h1' : cnt wkR (i : Int) 4 = 0 := h1
      rw [wk_cnt i hi'] at h1'; omega
  · have hj' : j < 4 := hj
    show 0 ≤ (j : Int) ∧ (j : Int) < 4
    omega
theorem wk_fine : wkR.Fine := by
  refine ⟨by decide, by decide, by decide, by decide, by decide, by decide, by decide, by decide, fun i hi => ?_, fun i hi => ?_, fun i hi => ?_, fun i hi => ?_⟩
  · have hi' : i < 4 := hi
    show _ ≤ (i : Int) ∧ (i : Int) ≤ _; omega
  · show _ ≤ (1 : Int) ∧ (1 : Int) ≤ _; omega
  · show (dgB 0 31).size ≤ _; rw [dgB_size]; decide
  · show (dgB 0 31).size ≤ _; rw [dgB_size]; decide
theorem wk_rec : IsRec wkR (byB wkR) := ⟨wk_good, by decide, by decide, rfl⟩
theorem wk_size : (byB wkR).size = 456 := by
  rw [byB_size (fun i hi => ⟨by show (dgB 0 31).size = 32; rw [dgB_size], by show (dgB 0 31).size = 32; rw [dgB_size]⟩)]; rfl
theorem wk_get : getE (byB wkR) = 0 ∧ (getR (byB wkR)).count = 7 ∧ (getR (byB wkR)).ns = 4 := by
  have ho := okP_of wk_rec
  have hs := (wk_rec.read0 wayP wayP_fits).1
  unfold getE getR
  rw [ho]
  exact ⟨rfl, hs.c, hs.ns⟩
theorem wk_put : putT wkR = byB wkR ∧ putE wkR = 0 := by unfold putT putE; rw [wk_good]; exact ⟨rfl, rfl⟩
end Go.Proofs.YtbjmhpbelkndpaaDoor
/- What the law fixes: a record that is written and read, walked. -/
namespace Go.Proofs.YtbjmhpbelkndpaaDoor
open Go.RowKit Go.PlainAid
set_option linter.unusedVariables false
set_option maxRecDepth 20000

/-- Two records, each in a variable of its own. -/
structure Two (w1 : World) (L1 L2 : List Value) (w2 : World) : Prop where
  low : Below w1.heap.size w1 w2
  a : Blk w2 w1.heap.size 26 L1
  b : Blk w2 (w1.heap.size + 1) 32 L2
theorem two_boxes (w1 : World) (L1 L2 : List Value) : Two w1 L1 L2 ((((w1.alloc (.cells zS.toArray 26)).alloc (.cells zS.toArray 32)).setRow w1.heap.size L1.toArray).setRow (w1.heap.size + 1) L2.toArray) ∧ Blk ((w1.alloc (.cells zS.toArray 26)).alloc (.cells zS.toArray 32)) w1.heap.size 26 zS ∧ Blk (((w1.alloc (.cells zS.toArray 26)).alloc (.cells zS.toArray 32)).setRow w1.heap.size L1.toArray) (w1.heap.size + 1) 32 zS := by
  have a0 : Blk ((w1.alloc (.cells zS.toArray 26)).alloc (.cells zS.toArray 32)) w1.heap.size 26 zS := (Blk.box w1 26 zS).alloc _
  have b0 : Blk ((w1.alloc (.cells zS.toArray 26)).alloc (.cells zS.toArray 32)) (w1.heap.size + 1) 32 zS := by
    have := Blk.box (w1.alloc (.cells zS.toArray 26)) 32 zS
    rwa [World.size_alloc] at this
  have l0 : Below w1.heap.size w1 ((w1.alloc (.cells zS.toArray 26)).alloc (.cells zS.toArray 32)) := ((Below.refl _ _).alloc (Nat.le_refl _) _).alloc (by simp) _
  have b1 := b0.setRowOther (k := w1.heap.size) (by omega) L1.toArray
  refine ⟨⟨?_, ?_, b1.setRow⟩, a0, b1⟩
  · have l1 := (Kept.oneRow _ w1.heap.size L1.toArray).below l0 l0.size (fun k e => by rw [e]; exact Nat.le_refl _)
    exact (Kept.oneRow _ (w1.heap.size + 1) L2.toArray).below l1 l1.size (fun k e => by rw [e]; omega)
  · exact (a0.setRow (M := L1)).setRowOther (by omega) _
/-- What stands behind records, and the two stores of what it answers. -/
structure Pk (w w1 : World) (R : Rec) (sa ma mb : Option Addr) (sc mc md : Nat) (L1 L2 : List Value) (w2 : World) : Prop where
  e1 : supV R sa ma sc mc = L1
  e2 : supV R sa mb sc md = L2
  l1 : L1.length = 9
  l2 : L2.length = 9
  o1 : ∀ v ∈ L1, v.oneCell' = true
  o2 : ∀ v ∈ L2, v.oneCell' = true
  ew : (((w1.alloc (.cells zS.toArray 26)).alloc (.cells zS.toArray 32)).setRow w1.heap.size L1.toArray).setRow (w1.heap.size + 1) L2.toArray = w2
  a : Blk w2 w1.heap.size 26 L1
  b : Blk w2 (w1.heap.size + 1) 32 L2
  z1 : Blk ((w1.alloc (.cells zS.toArray 26)).alloc (.cells zS.toArray 32)) w1.heap.size 26 zS
  z2 : Blk (((w1.alloc (.cells zS.toArray 26)).alloc (.cells zS.toArray 32)).setRow w1.heap.size L1.toArray) (w1.heap.size + 1) 32 zS
  la : Lies w2 R sa ma
  lb : Lies w2 R sa mb
  low : Below w.heap.size w w2
  own : Hold w.heap.size w w2 (star (rowK 3 1 (.slice sa R.ns sc) R.ns (si R.ns R.seat)) (star (rowK 64 3 (.slice ma R.nm mc) R.nm (memF R.st R.top R.log R.nm)) (star (rowK 49 3 (.slice mb R.nm md) R.nm (memF R.st R.top R.log R.nm)) nought)))
  s1 : (Tryd.prog.info? 26).map (·.size) = some L1.length
  s2 : (Tryd.prog.info? 32).map (·.size) = some L2.length
  n1 : zS.length = L1.length
  n2 : zS.length = L2.length
theorem rec_pack {w w1 : World} {R : Rec} {sa ma mb : Option Addr} {sc mc md : Nat} (h1 : Hold w.heap.size w w1 (star (rowK 3 1 (.slice sa R.ns sc) R.ns (si R.ns R.seat)) (star (rowK 64 3 (.slice ma R.nm mc) R.nm (memF R.st R.top R.log R.nm)) (star (rowK 49 3 (.slice mb R.nm md) R.nm (memF R.st R.top R.log R.nm)) nought)))) : ∃ L1 L2 w2, Pk w w1 R sa ma mb sc mc md L1 L2 w2 := by
  obtain ⟨t1, t2, t3⟩ := two_boxes w1 (supV R sa ma sc mc) (supV R sa mb sc md)
  exact ⟨_, _, _, rfl, rfl, rfl, rfl, supV_one _ _ _ _ _, supV_one _ _ _ _ _, rfl, t1.a, t1.b, t2, t3, (lies_own h1).below t1.low, (lies_own2 h1).below t1.low, h1.low.trans (t1.low.mono h1.size), h1.below ((firm_rowK _ _ _ _ _).star ((firm_rowK _ _ _ _ _).star ((firm_rowK _ _ _ _ _).star firm_nought))) t1.low, Tryd.size26, Tryd.size32, rfl, rfl⟩
set_option maxRecDepth 20000 in
set_option maxHeartbeats 4000000 in
theorem wakes14_any (w : World) : Calls Tryd.prog 6 #[] w fun e w' => e = .returned (.bool true) ∧ Below w.heap.size w w' := by
  have hz0 : ∀ w, (zeroValue 54).run Tryd.prog w = .ok (.agg #[.int .i64 0, .int .u8 0, .int .u8 0, .bool false]) w := fun w => by
    obtain ⟨i, hi, hz⟩ := Option.map_eq_some_iff.1 (show (Tryd.prog.info? 54).map (fun i => i.zero) = some (some (.agg #[.int .i64 0, .int .u8 0, .int .u8 0, .bool false])) by kernel_rfl)
    simp [zeroValue, typeInfo, hi, hz]
  have hz3 : ∀ w, (zeroValue 59).run Tryd.prog w = .ok (.agg #[.int .u64 0, .int .u64 0, .int .i64 0, .int .i64 0, .int .i64 0, .int .i64 0, .bool false, .slice none 0 0, .slice none 0 0]) w := fun w => by
    obtain ⟨i, hi, hz⟩ := Option.map_eq_some_iff.1 (show (Tryd.prog.info? 59).map (fun i => i.zero) = some (some (.agg #[.int .u64 0, .int .u64 0, .int .i64 0, .int .i64 0, .int .i64 0, .int .i64 0, .bool false, .slice none 0 0, .slice none 0 0])) by kernel_rfl)
    simp [zeroValue, typeInfo, hi, hz]
  have hz1 := zeroSup
  have hz2 := zeroRSup
  obtain ⟨HS, hHS⟩ : ∃ HS, w.heap.size = HS := ⟨_, rfl⟩
  have b1 := Blk.new (w.alloc (.cells #[.int .i64 1, .int .u8 0, .int .u8 0, .bool false] 54)) 3 #[.int .i64 0, .int .i64 1, .int .i64 2, .int .i64 3]
  have b2 := b1.alloc (.cells #[.int .i64 1, .int .u8 0, .int .u8 0, .bool false, .int .i64 1, .int .u8 0, .int .u8 0, .bool false, .int .i64 1, .int .u8 0, .int .u8 0, .bool false, .int .i64 1, .int .u8 0, .int .u8 0, .bool false] 54)
  have b3 := Blk.new ((w.alloc (.cells #[.int .i64 1, .int .u8 0, .int .u8 0, .bool false] 54)).alloc (.cells #[.int .i64 0, .int .i64 1, .int .i64 2, .int .i64 3] 3)) 54 #[.int .i64 1, .int .u8 0, .int .u8 0, .bool false, .int .i64 1, .int .u8 0, .int .u8 0, .bool false, .int .i64 1, .int .u8 0, .int .u8 0, .bool false, .int .i64 1, .int .u8 0, .int .u8 0, .bool false]
  have hlow := ((((Below.refl w.heap.size w).alloc (Nat.le_refl _) (.cells #[.int .i64 1, .int .u8 0, .int .u8 0, .bool false] 54)).alloc (by simp) (.cells #[.int .i64 0, .int .i64 1, .int .i64 2, .int .i64 3] 3))).alloc (by simp; omega) (.cells #[.int .i64 1, .int .u8 0, .int .u8 0, .bool false, .int .i64 1, .int .u8 0, .int .u8 0, .bool false, .int .i64 1, .int .u8 0, .int .u8 0, .bool false, .int .i64 1, .int .u8 0, .int .u8 0, .bool false] 54)
  rw [World.size_alloc, hHS] at b2
  rw [World.size_alloc, World.size_alloc, hHS] at b3
  rw [hHS] at hlow ⊢
  have HLOW : Hid (Below HS w _) := hlow
  have hat : ∀ W3 : World, Blk W3 (HS + 1) 3 [.int .i64 0, .int .i64 1, .int .i64 2, .int .i64 3] → Blk W3 (HS + 1 + 1) 54 [.int .i64 1, .int .u8 0, .int .u8 0, .bool false, .int .i64 1, .int .u8 0, .int .u8 0, .bool false, .int .i64 1, .int .u8 0, .int .u8 0, .bool false, .int .i64 1, .int .u8 0, .int .u8 0, .bool false] → (wkX (HS + 1) (HS + 1 + 1)).At wkA wkD W3 := fun W3 b2 b3 => by
    refine ⟨fun w' hw' i hi => ⟨HS + 1, 0, rfl, ?_, ?_⟩, fun w' hw' i hi => ⟨HS + 1 + 1, 0, rfl, ⟨by show _ ≤ (1 : Int) ∧ (1 : Int) ≤ _; omega, by show 0 < 256; decide, by show 0 < 256; decide⟩, ?_⟩, ⟨Nat.le_refl _, by show 4 ≤ maxLen; decide⟩, ⟨Nat.le_refl _, by show 4 ≤ maxLen; decide⟩⟩
    · have hi' : i < 4 := hi
      unfold wkA; omega
    · have hi' : i < 4 := hi
      have hb := b2.below hw' b2.lt
      rw [Nat.zero_add]
      rcases (by omega : i = 0 ∨ i = 1 ∨ i = 2 ∨ i = 3) with rfl | rfl | rfl | rfl
      · exact hb.cell rfl
      · exact hb.cell rfl
      · exact hb.cell rfl
      · exact hb.cell rfl
    · have hi' : i < 4 := hi
      have hb := b3.below hw' b3.lt
      intro j v hv
      have hj : j < 4 := by
        rcases Nat.lt_or_ge j 4 with h | h
        · exact h
        · rw [List.getElem?_eq_none (by rw [Dsk.len]; exact h)] at hv; cases hv
      rw [Nat.zero_add]
      rcases (by omega : i = 0 ∨ i = 1 ∨ i = 2 ∨ i = 3) with rfl | rfl | rfl | rfl <;> rcases (by omega : j = 0 ∨ j = 1 ∨ j = 2 ∨ j = 3) with rfl | rfl | rfl | rfl <;> exact hb.cell hv
  have HREC := records_any (wkX (HS + 1) (HS + 1 + 1)) wkA wkD _ (hat _ b2 b3)
  rw [wk_R] at HREC
  clear b1 b2 b3 hlow hat
  have HPUT : Hid (∀ z sa ma sc mc, Lies z wkR sa ma → Calls Tryd.prog 19 #[.agg (supV wkR sa ma sc mc).toArray] z fun e w' => e = .returned (.tuple #[.string (byB wkR), .int .i64 0]) ∧ Below z.heap.size z w') := fun z sa ma sc mc hl => by
    have := sput_any wk_fine hl (sc := sc) (mc := mc)
    rwa [wk_put.1, wk_put.2] at this
  have HGET : Hid (∀ z, Calls Tryd.prog 4 #[.string (byB wkR)] z fun e w' => ∃ sa ma sc mc, e = .returned (.tuple #[.agg (supV (getR (byB wkR)) sa ma sc mc).toArray, .int .i64 0]) ∧ Lies w' (getR (byB wkR)) sa ma ∧ Below z.heap.size z w') := fun z => by
    have := sget_any (byB wkR) (by rw [wk_size]; decide) z
    rwa [wk_get.1] at this
  have HGD : Hid (∀ z sa ma sc mc, Lies z wkR sa ma → Calls Tryd.prog 13 #[.agg (supV wkR sa ma sc mc).toArray] z fun e w' => e = .returned (.bool true) ∧ Below z.heap.size z w') := fun z sa ma sc mc hl => by
    have := sgood_any wk_fine hl (sc := sc) (mc := mc)
    rwa [wk_good] at this
  have HSZ : Hid ((byB wkR).size = 456) := wk_size
  have HG0 : Hid (∀ sa ma sc mc, (supV (getR (byB wkR)) sa ma sc mc)[0]? = some (.int .u64 7) ∧ (supV (getR (byB wkR)) sa ma sc mc)[7]? = some (.slice sa 4 sc) ∧ (supV (getR (byB wkR)) sa ma sc mc).length = 9 ∧ ∀ v ∈ supV (getR (byB wkR)) sa ma sc mc, v.oneCell' = true) := fun sa ma sc mc => ⟨by show some (Value.int .u64 (getR (byB wkR)).count) = _; rw [wk_get.2.1], by show some (Value.slice sa (getR (byB wkR)).ns sc) = _; rw [wk_get.2.2], rfl, supV_one _ _ _ _ _⟩
  have HZ9 : Hid (zS.length = 9) := rfl
  have HS9 : Hid ((Tryd.prog.info? 26).map (·.size) = some 9) := Tryd.size26
  have HR9 : Hid ((Tryd.prog.info? 32).map (·.size) = some 9) := Tryd.size32
  generalize getR (byB wkR) = GR at *
  generalize byB wkR = BB at *
  go_enter Tryd.func6, Tryd.ntmps6
  go_wp2_with (first
    | (go_at_call 18; refine HREC.mono ?_; rintro e w1 ⟨sa, sc, ma, mc, mb, md, rfl, h1⟩; obtain ⟨L1, L2, w2, pk⟩ := rec_pack h1; have HP1 := fun z => HPUT.out z sa ma sc mc; have HG1 := fun z => HGD.out z sa ma sc mc; rw [pk.e1] at HP1 HG1; rw [pk.e1, pk.e2]; have HP1 : Hid (∀ z, Lies z wkR sa ma → _) := HP1; have HG1 : Hid (∀ z, Lies z wkR sa ma → _) := HG1; have PK : Hid (Pk _ w1 wkR sa ma mb sc mc md L1 L2 w2) := pk; have HL2 : Hid (Lies w2 wkR sa ma) := pk.la; have HA2 : Hid (Blk w2 w1.heap.size 26 L1) := pk.a; have HB2 : Hid (Below HS w w2) := HLOW.out.trans (pk.low.mono (by simp; omega)); have hw2 := pk.ew; clear h1 pk HPUT HGD HREC)
    | (refine wpList_store_blk rfl 26 _ _ rfl w1.heap.size zS L1 rfl rfl 26 PK.out.z1 PK.out.s1 PK.out.n1 PK.out.o1 ?_)
    | (refine wpList_store_blk rfl 32 _ _ rfl (w1.heap.size + 1) zS L2 rfl rfl 32 PK.out.z2 PK.out.s2 PK.out.n2 PK.out.o2 ?_; rw [hw2]; clear hw2)
    | (refine wpList_load_blk rfl 26 _ rfl w1.heap.size rfl 26 L1 _ HA2.out Tryd.underlying26 rfl PK.out.s1 ?_)
    | (go_at_call 19; refine (HP1.out _ HL2.out).mono ?_; rintro e w3 ⟨rfl, hb3⟩; have HL3 : Hid (Lies w3 wkR sa ma) := HL2.out.below hb3; have HA3 : Hid (Blk w3 w1.heap.size 26 L1) := HA2.out.below hb3 HA2.out.lt; have HB3 : Hid (Below HS w w3) := HB2.out.trans (hb3.mono (by have := HB2.out.size; omega)); clear hb3 HL2 HA2 HB2)
    | (go_at_call 4; refine (HGET.out _).mono ?_; rintro e w4 ⟨ga, ha, gc, hc, rfl, hl4, hb4⟩; have HL4 : Hid (Lies w4 wkR sa ma) := HL3.out.below hb4; have HA4 : Hid (Blk w4 w1.heap.size 26 L1) := HA3.out.below hb4 HA3.out.lt; have HB4 : Hid (Below HS w w4) := HB3.out.trans (hb4.mono (by have := HB3.out.size; omega)); obtain ⟨g0, g7, g9, g1⟩ := HG0.out ga ha gc hc; obtain ⟨L3, hL3⟩ : ∃ L, supV GR ga ha gc hc = L := ⟨_, rfl⟩; rw [hL3] at g0 g7 g9 g1 ⊢; obtain ⟨w5, hw5⟩ : ∃ w5, (w4.alloc (.cells zS.toArray 26)).setRow w4.heap.size L3.toArray = w5 := ⟨_, rfl⟩; have x1 := Below.boxed w4 26 zS L3; have x2 := Blk.boxed w4 26 zS L3; rw [hw5] at x1 x2; have HL5 : Hid (Lies w5 wkR sa ma) := HL4.out.below x1; have HA5 : Hid (Blk w5 w1.heap.size 26 L1) := HA4.out.below x1 HA4.out.lt; have HB5 : Hid (Below HS w w5) := HB4.out.trans (x1.mono (by have := HB4.out.size; omega)); have HX5 : Hid (Blk w5 w4.heap.size 26 L3) := x2; have G9 : Hid (L3.length = 9) := g9; have G1 : Hid (∀ v ∈ L3, v.oneCell' = true) := g1; have G0 : Hid (L3[0]? = some (.int .u64 7)) := g0; have G7 : Hid (L3[7]? = some (.slice ga 4 gc)) := g7; clear hl4 hb4 HL3 HA3 HB3 HL4 HA4 HB4 x1 x2 hL3 g0 g7 g9 g1 HG0 HGET)
    | (refine wpList_store_blk rfl 26 _ _ rfl w4.heap.size zS L3 rfl rfl 26 (Blk.box _ _ _) (by rw [HS9.out, G9.out]) (by rw [HZ9.out, G9.out]) G1.out ?_; rw [hw5]; clear hw5)
    | (refine wpList_load_blk rfl 26 _ rfl w1.heap.size rfl 26 L1 _ HA3.out Tryd.underlying26 rfl PK.out.s1 ?_)
    | (refine wpList_load_blk rfl 26 _ rfl w1.heap.size rfl 26 L1 _ HA5.out Tryd.underlying26 rfl PK.out.s1 ?_)
    | (go_at_call 13; refine (HG1.out _ HL5.out).mono ?_; rintro e w6 ⟨rfl, hb6⟩; have HB6 : Hid (Below HS w w6) := HB5.out.trans (hb6.mono (by have := HB5.out.size; omega)); have hx6 := HX5.out.below hb6 HX5.out.lt; have c0 := hx6.cell G0.out; have c7 := hx6.cell G7.out; have hs := HSZ.out; clear hb6 hx6 HB5 HX5 HL5 HA5))
  go_ret
  exact ⟨rfl, HB6.out⟩
end Go.Proofs.YtbjmhpbelkndpaaDoor
/- Both records of the law, as they stand. -/
namespace Go.Proofs.YtbjmhpbelkndpaaDoor
open Go.RowKit Go.PlainAid
set_option linter.unusedVariables false
set_option maxRecDepth 20000

theorem Tryd.size59 : (Tryd.prog.info? 59).map (·.size) = some 9 := by kernel_rfl
/-- A record is loaded behind a guard that is met. -/
theorem wpList_load_blkG {P : Program} {ops : Array Oper} {rest : List Oper} {o : Oper} {a : Act} {w : World} {Q : Exit → Act → World → Prop} (hgd : Region.wanted o (yielded ops a.tmps) = true) (ty : TypeId) (x : Operand) (ho : o.op = .load ty x)
    (g : Nat) (hx : a.eval x = .pointer (some ⟨g, 0, none⟩)) (t : TypeId) (L : List Value) (d : TypeDesc) (hg : Blk w g t L)
    (hu : P.underlying ty = some d) (hd : (match d with | .struct _ | .array _ _ => true | _ => false) = true) (hi : (P.info? ty).map (·.size) = some L.length)
    (h : wpList P ops Q rest (a.put o.dst (.agg L.toArray)) w) : wpList P ops Q (o :: rest) a w :=
  wpList_step fun K hK => by simp only [hgd, if_true]; exact wp_load_row ty x ho g hx t L.toArray (0, 0) d hg hu hd (by simpa using hi) (hK _ _ h)
/-- The program's record and the document's, each in its variable. -/
structure St (B : Nat) (W : World) (R : Rec) (sa ma mb : Option Addr) (L1 L2 : List Value) (g : Nat) (w : World) : Prop where
  la : Lies w R sa ma
  lb : Lies w R sa mb
  a : Blk w g 26 L1
  b : Blk w (g + 1) 32 L2
  low : Below B W w
  sz : B ≤ w.heap.size
theorem St.below {B : Nat} {W w w' : World} {R : Rec} {sa ma mb : Option Addr} {L1 L2 : List Value} {g : Nat} (h : St B W R sa ma mb L1 L2 g w) (hb : Below w.heap.size w w') : St B W R sa ma mb L1 L2 g w' :=
  ⟨h.la.below hb, h.lb.below hb, h.a.below hb h.a.lt, h.b.below hb h.b.lt, h.low.trans (hb.mono h.sz), Nat.le_trans h.sz hb.size⟩
theorem Pk.st {B : Nat} {W w w1 w2 : World} {R : Rec} {sa ma mb : Option Addr} {sc mc md : Nat} {L1 L2 : List Value} (h : Pk w w1 R sa ma mb sc mc md L1 L2 w2) (hl : Below B W w) (hz : B ≤ w.heap.size) : St B W R sa ma mb L1 L2 w1.heap.size w2 := ⟨h.la, h.lb, h.a, h.b, hl.trans (h.low.mono hz), Nat.le_trans hz h.low.size⟩
/-- A record that was read, in a variable of its own. -/
structure Got (w4 : World) (GR : Rec) (ga ha : Option Addr) (L : List Value) (w : World) : Prop where
  l : Lies w GR ga ha
  a : Blk w w4.heap.size 26 L
  low : Below w4.heap.size w4 w
theorem Got.below {w4 w w' : World} {GR : Rec} {ga ha : Option Addr} {L : List Value} (h : Got w4 GR ga ha L w) (hb : Below w.heap.size w w') : Got w4 GR ga ha L w' := ⟨h.l.below hb, h.a.below hb h.a.lt, h.low.trans (hb.mono h.low.size)⟩
theorem got_boxed {w4 : World} {GR : Rec} {ga ha : Option Addr} {L : List Value} (h : Lies w4 GR ga ha) : Got w4 GR ga ha L ((w4.alloc (.cells zS.toArray 26)).setRow w4.heap.size L.toArray) :=
  have x := Below.boxed w4 26 zS L
  ⟨h.below x, Blk.boxed w4 26 zS L, x⟩
end Go.Proofs.YtbjmhpbelkndpaaDoor
