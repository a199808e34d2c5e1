/- 5 texts in one. -/
import Derived.Test.YtbjmhpbelkndpaaDoorWkM
import Derived.Test.YtbjmhpbelkndpaaDoorSuGet
import Derived.Test.YtbjmhpbelkndpaaDoorShaM
import Derived.Test.YtbjmhpbelkndpaaDoorCdRef
import Derived.Test.YtbjmhpbelkndpaaDoorSuParse
import Derived.Test.YtbjmhpbelkndpaaDoorSuRead0
import Derived.Test.YtbjmhpbelkndpaaDoorSuRec1
import Derived.Test.YtbjmhpbelkndpaaDoorSuRPut
import Derived.Test.YtbjmhpbelkndpaaDoorSuSame0
import Derived.Test.YtbjmhpbelkndpaaDoorSuSame
/- The law SuperGets, walked: given what the document's Get answers, and that both records are the same. -/
namespace Go.Proofs.YtbjmhpbelkndpaaDoor
open Go.RowKit Go.PlainAid
set_option linter.unusedVariables false
set_option maxRecDepth 20000

theorem sdigest_any (s : ByteArray) (hs : s.size ≤ 2000) (w : World) (ht : Tabs w) : Calls Tryd.prog 8 #[.string s] w fun e w' => e = .returned (.string (digest (⟨#[2]⟩ ++ s))) ∧ Below w.heap.size w w' := by
  have h := top_any s (by omega) w ht
  go_enter Tryd.func8, Tryd.ntmps8
  go_wp2_with (go_at_call 20; refine h.mono ?_; rintro e w1 ⟨rfl, hb⟩; have H : Hid (Below w.heap.size w w1) := hb; clear hb h)
  go_ret
  exact ⟨rfl, H.out⟩
theorem rdigest_any (s : ByteArray) (hs : s.size ≤ 2000) (w : World) (hr : RTabs w) : Calls Tryd.prog 9 #[.string s] w fun e w' => e = .returned (.string (digest (⟨#[2]⟩ ++ s))) ∧ Below w.heap.size w w' := by
  have h := refKind_any 2 (by decide) s (by omega) w hr
  rw [show strOfNums [((2 : Nat) : Int)] = (⟨#[2]⟩ : ByteArray) by decide +kernel] at h
  have h : Calls Tryd.prog 21 #[.int .u8 2, .string s] w fun e w' => e = .returned (.string (digest (⟨#[2]⟩ ++ s))) ∧ Below w.heap.size w w' := h
  go_enter Tryd.func9, Tryd.ntmps9
  go_wp2_with (go_at_call 21; refine h.mono ?_; rintro e w1 ⟨rfl, hb⟩; have H : Hid (Below w.heap.size w w1) := hb; clear hb h)
  go_ret
  exact ⟨rfl, H.out⟩
/-- The record that was read and the document's, each in its variable; the tables. -/
structure Gs (W : World) (P Q : Rec) (pa pb qa qb : Option Addr) (L1 L2 : List Value) (g1 g2 : Nat) (w : World) : Prop where
  lp : Lies w P pa pb
  lq : Lies w Q qa qb
  a : Blk w g1 26 L1
  b : Blk w g2 32 L2
  low : Below W.heap.size W w
  t : Tabs w
  r : RTabs w
theorem Gs.below {W w w' : World} {P Q : Rec} {pa pb qa qb : Option Addr} {L1 L2 : List Value} {g1 g2 : Nat} (h : Gs W P Q pa pb qa qb L1 L2 g1 g2 w) (hb : Below w.heap.size w w') : Gs W P Q pa pb qa qb L1 L2 g1 g2 w' :=
  ⟨h.lp.below hb, h.lq.below hb, h.a.below hb h.a.lt, h.b.below hb h.b.lt, h.low.trans (hb.mono h.low.size), h.t.below hb h.t.lt, h.r.below hb h.r.lt⟩
/-- What the law's text is told of the document's Get. -/
def Told14 (A : ByteArray) (GR : Rec) : Prop := (∀ z, Calls Tryd.prog 5 #[.string A] z fun e w' => ∃ sa ma sc mc, e = .returned (.tuple #[.agg (supV GR sa ma sc mc).toArray, .int .i64 (getE A)]) ∧ Lies w' GR sa ma ∧ Below z.heap.size z w') ∧
  ∀ z sa ma sb mb sc mc sd md, Lies z (getR A) sa ma → Lies z GR sb mb → Calls Tryd.prog 7 #[.agg (supV (getR A) sa ma sc mc).toArray, .agg (supV GR sb mb sd md).toArray] z fun e w' => e = .returned (.bool true) ∧ Below z.heap.size z w'
set_option maxRecDepth 20000 in
set_option maxHeartbeats 4000000 in
theorem superGets_walk (HT : ∀ A : ByteArray, A.size ≤ 1500 → ∃ GR, Told14 A GR) (s : ByteArray) (hs : s.size ≤ maxLen) (w : World) (ht : Tabs w) (hr : RTabs w) : Calls Tryd.prog 3 #[.string s] w fun e w' => e = .returned (.bool true) ∧ Below w.heap.size w w' := by
  unfold maxLen at hs
  have hS9 : (Tryd.prog.info? 26).map (·.size) = some 9 := Tryd.size26
  have hR9 : (Tryd.prog.info? 32).map (·.size) = some 9 := Tryd.size32
  have HS9 : Hid _ := hS9
  have HR9 : Hid _ := hR9
  have HZ9 : Hid (zS.length = 9) := rfl
  have hz1 := zeroSup
  have hz2 := zeroRSup
  clear hS9 hR9
  have HT0 : Hid (Tabs w) := ht
  have HR0 : Hid (RTabs w) := hr
  have h2 : Hid (2 < w.heap.size) := ht.lt
  clear ht hr
  go_enter Tryd.func3, Tryd.ntmps3
  go_wp2_with fail
  have hA : (s.extract 0 (min (s.size : Int) 1500).toNat).size ≤ 1500 := by rw [ByteArray.size_extract]; omega
  generalize s.extract 0 (min (s.size : Int) 1500).toNat = A at hA ⊢
  obtain ⟨GR, hg1, hg2⟩ := HT A hA
  have hget := sget_any A (by omega)
  have HG : Hid _ := hget
  have HG1 : Hid _ := hg1
  have HG2 : Hid _ := hg2
  have HD1 : Hid _ := sdigest_any A (by omega)
  have HD2 : Hid _ := rdigest_any A (by omega)
  have HL : Hid (∀ R sa ma sc mc, (supV R sa ma sc mc).length = 9) := fun _ _ _ _ _ => rfl
  have HO : Hid (∀ R sa ma sc mc, ∀ v ∈ supV R sa ma sc mc, v.oneCell' = true) := fun _ _ _ _ _ => supV_one _ _ _ _ _
  clear hs hget hg1 hg2 HT hA
  generalize getR A = GP at *
  generalize getE A = E at *
  generalize digest (⟨#[2]⟩ ++ A) = DG at *
  refine (HG.out w).mono ?_
  rintro e w1 ⟨pa, pb, pc, pd, rfl, hl1, hb1⟩
  have HL1 := HL.out GP pa pb pc pd
  have HO1 := HO.out GP pa pb pc pd
  have HSM := fun z qa qb qc qd h1 h2 => HG2.out z pa pb qa qb pc pd qc qd h1 h2
  obtain ⟨L1, hL1⟩ : ∃ L, supV GP pa pb pc pd = L := ⟨_, rfl⟩
  rw [hL1] at HL1 HO1 HSM ⊢
  have HL1 : Hid _ := HL1
  have HO1 : Hid _ := HO1
  have HSM : Hid (∀ z qa qb qc qd, Lies z GP pa pb → Lies z GR qa qb → _) := HSM
  clear hL1 HG HG2
  have hx := Below.boxed w1 26 zS L1
  have hxb := Blk.boxed w1 26 zS L1
  obtain ⟨w2, hw2⟩ : ∃ w2, (w1.alloc (.cells zS.toArray 26)).setRow w1.heap.size L1.toArray = w2 := ⟨_, rfl⟩
  rw [hw2] at hx hxb
  have HP2 : Hid (Lies w2 GP pa pb) := hl1.below hx
  have HB2 : Hid (Below w.heap.size w w2) := hb1.trans (hx.mono hb1.size)
  have HA2 : Hid (Blk w2 w1.heap.size 26 L1) := hxb
  clear hl1 hb1 hx hxb
  go_wp2_with (first
    | (refine wpList_store_blk rfl 26 _ _ rfl w1.heap.size zS L1 rfl rfl 26 (Blk.box _ _ _) (by rw [HS9.out, HL1.out]) (by rw [HZ9.out, HL1.out]) HO1.out ?_; rw [hw2]; clear hw2)
    | (go_at_call 5; refine (HG1.out _).mono ?_; rintro e w3 ⟨qa, qb, qc, qd, rfl, hl3, hb3⟩; have HL2 := HL.out GR qa qb qc qd; have HO2 := HO.out GR qa qb qc qd; have HS2 := fun z h1 h2 => HSM.out z qa qb qc qd h1 h2; obtain ⟨L2, hL2⟩ : ∃ L, supV GR qa qb qc qd = L := ⟨_, rfl⟩; rw [hL2] at HL2 HO2 HS2 ⊢; have HL2 : Hid _ := HL2; have HO2 : Hid _ := HO2; have HS2 : Hid (∀ z, Lies z GP pa pb → Lies z GR qa qb → _) := HS2; have hx := Below.boxed w3 32 zS L2; have hxb := Blk.boxed w3 32 zS L2; obtain ⟨w4, hw4⟩ : ∃ w4, (w3.alloc (.cells zS.toArray 32)).setRow w3.heap.size L2.toArray = w4 := ⟨_, rfl⟩; rw [hw4] at hx hxb; have hb24 := hb3.trans (hx.mono hb3.size); have hlow := HB2.out.trans (hb24.mono HB2.out.size); have G4 : Hid (Gs w GP GR pa pb qa qb L1 L2 w1.heap.size w3.heap.size w4) := ⟨HP2.out.below hb24, hl3.below hx, HA2.out.below hb24 HA2.out.lt, hxb, hlow, HT0.out.below hlow h2.out, HR0.out.below hlow (by have := h2.out; omega)⟩; clear hL2 hl3 hb3 hx hxb hb24 hlow HSM HP2 HB2 HA2 HG1)
    | (refine wpList_store_blk rfl 32 _ _ rfl w3.heap.size zS L2 rfl rfl 32 (Blk.box _ _ _) (by rw [HR9.out, HL2.out]) (by rw [HZ9.out, HL2.out]) HO2.out ?_; rw [hw4]; clear hw4)
    | (go_at_call 6; refine (wakes14_any _).mono ?_; rintro e w5 ⟨rfl, hb5⟩; have G5 : Hid (Gs w GP GR pa pb qa qb L1 L2 w1.heap.size w3.heap.size w5) := G4.out.below hb5; clear hb5 G4)
    | (refine wpList_load_blkG rfl 26 _ rfl w1.heap.size rfl 26 L1 _ G5.out.a Tryd.underlying26 rfl (by rw [HS9.out, HL1.out]) ?_)
    | (refine wpList_load_blkG rfl 32 _ rfl w3.heap.size rfl 32 L2 _ G5.out.b Tryd.underlying32 rfl (by rw [HR9.out, HL2.out]) ?_)
    | (go_at_call 7; refine (HS2.out _ G5.out.lp G5.out.lq).mono ?_; rintro e w6 ⟨rfl, hb6⟩; have G6 : Hid (Gs w GP GR pa pb qa qb L1 L2 w1.heap.size w3.heap.size w6) := G5.out.below hb6; clear hb6 G5)
    | (go_at_call 8; refine (HD1.out _ G6.out.t).mono ?_; rintro e w7 ⟨rfl, hb7⟩; have G7 : Hid (Gs w GP GR pa pb qa qb L1 L2 w1.heap.size w3.heap.size w7) := G6.out.below hb7; clear hb7 G6)
    | (go_at_call 9; refine (HD2.out _ G7.out.r).mono ?_; rintro e w8 ⟨rfl, hb8⟩; have G8 : Hid (Gs w GP GR pa pb qa qb L1 L2 w1.heap.size w3.heap.size w8) := G7.out.below hb8; clear hb8 G7))
  go_ret
  exact ⟨rfl, G8.out.low⟩
end Go.Proofs.YtbjmhpbelkndpaaDoor
/- The document's reader of a record: what it tells, and where it stands. -/
namespace Go.Proofs.YtbjmhpbelkndpaaDoor
open Go.RowKit Go.PlainAid
set_option linter.unusedVariables false
set_option maxRecDepth 20000

section
variable {B : Nat} {w0 w : World} {g : Nat} {S : ByteArray} {p : Nat} {e : Int} {R : Asn}
set_option maxRecDepth 20000 in
theorem rsmall_any (hR : Firm R) (h : Hold B w0 w (star (rrd g S p e) R)) (hS : S.size ≤ 140737488355328) (hp : p ≤ S.size) : Calls Tryd.prog 15 #[.pointer (some ⟨g, 0, none⟩)] w fun x w' => x = .returned (.int .i64 (smV (nmV (lft S p) e))) ∧ ∃ q, q ≤ S.size ∧ lft S q = nmL (lft S p) e ∧ Hold B w0 w' (star (rrd g S q (nmE (lft S p) e)) R) := by
  have hn := rnumber_any hR h hS hp
  obtain ⟨n0, n1⟩ := nmV_range (lft S p) e
  have HV : Hid (∀ v, smV v = if 100 < v then -1 else v) := fun _ => rfl
  generalize nmV (lft S p) e = V at *
  clear h
  by_cases hv : 100 < V
  · have HV2 : Hid (smV V = -1) := by show smV V = -1; rw [HV.out, if_pos hv]
    go_enter Tryd.func15, Tryd.ntmps15
    go_wp2_with (go_at_call 14; refine hn.mono ?_; rintro x w' ⟨rfl, h2⟩; have H2 : Hid (∃ q, q ≤ S.size ∧ lft S q = nmL (lft S p) e ∧ Hold B w0 w' (star (rrd g S q (nmE (lft S p) e)) R)) := h2; clear h2 hn)
    go_ret
    exact ⟨by rw [HV2.out]; rfl, H2.out⟩
  · have HV2 : Hid (smV V = V) := by show smV V = V; rw [HV.out, if_neg hv]
    have hv2 : V ≤ 100 := by omega
    go_enter Tryd.func15, Tryd.ntmps15
    go_wp2_with (go_at_call 14; refine hn.mono ?_; rintro x w' ⟨rfl, h2⟩; have H2 : Hid (∃ q, q ≤ S.size ∧ lft S q = nmL (lft S p) e ∧ Hold B w0 w' (star (rrd g S q (nmE (lft S p) e)) R)) := h2; clear h2 hn)
    go_ret
    exact ⟨by rw [HV2.out]; rfl, H2.out⟩
end
/-- The document's reader in a state, the record's own variable, the answer's. -/
def RRd (B : Nat) (w0 w : World) (g vs v2 : Nat) (X : Asn) (S : ByteArray) (s : Rst) (C : List Value) : Prop := ∃ p, p ≤ S.size ∧ lft S p = s.1 ∧ Hold B w0 w (star (rrd g S p s.2) (star (blkA vs 32 C) (star (blkA v2 32 zS) X)))
section
variable {B : Nat} {w0 w : World} {g vs v2 : Nat} {X : Asn} {S : ByteArray} {s : Rst} {C : List Value}
theorem firm_rrd2 (hX : Firm X) : Firm (star (blkA vs 32 C) (star (blkA v2 32 zS) X)) := (firm_blk _ _ _).star ((firm_blk _ _ _).star hX)
theorem RRd.low (h : RRd B w0 w g vs v2 X S s C) : Below B w0 w := by obtain ⟨p, _, _, h⟩ := h; exact h.low
theorem RRd.num (hX : Firm X) (h : RRd B w0 w g vs v2 X S s C) (hS : S.size ≤ 140737488355328) : Calls Tryd.prog 14 #[.pointer (some ⟨g, 0, none⟩)] w fun x w' => x = .returned (.int .u64 (cblV s.1 s.2 18446744073709551616)) ∧ RRd B w0 w' g vs v2 X S (m1 18446744073709551616 s) C := by
  obtain ⟨p, hp, hl, h⟩ := h
  have := rnumber_any (firm_rrd2 hX) h hS hp
  rw [hl] at this
  rw [cbl_big]
  exact this.mono fun x w' ⟨hx, q, hq, e, h'⟩ => ⟨hx, q, hq, e, by unfold m1; rw [blE_big]; exact h'⟩
theorem RRd.small (hX : Firm X) (h : RRd B w0 w g vs v2 X S s C) (hS : S.size ≤ 140737488355328) : Calls Tryd.prog 15 #[.pointer (some ⟨g, 0, none⟩)] w fun x w' => x = .returned (.int .i64 (smV (cblV s.1 s.2 18446744073709551616))) ∧ RRd B w0 w' g vs v2 X S (m1 18446744073709551616 s) C := by
  obtain ⟨p, hp, hl, h⟩ := h
  have := rsmall_any (firm_rrd2 hX) h hS hp
  rw [hl] at this
  rw [cbl_big]
  exact this.mono fun x w' ⟨hx, q, hq, e, h'⟩ => ⟨hx, q, hq, e, by unfold m1; rw [blE_big]; exact h'⟩
theorem RRd.text (hX : Firm X) (h : RRd B w0 w g vs v2 X S s C) (hS : S.size ≤ 140737488355328) : Calls Tryd.prog 16 #[.pointer (some ⟨g, 0, none⟩)] w fun x w' => x = .returned (.string (txV s.1 s.2)) ∧ RRd B w0 w' g vs v2 X S (m2 s) C := by
  obtain ⟨p, hp, hl, h⟩ := h
  have := rwords_any (firm_rrd2 hX) h hS hp
  rw [hl] at this
  exact this.mono fun x w' ⟨hx, q, hq, e, h'⟩ => ⟨hx, q, hq, e, h'⟩
theorem RRd.own (h : RRd B w0 w g vs v2 X S s C) : Blk w vs 32 C := by obtain ⟨p, _, _, h⟩ := h; exact (Hold.swap h).blk
theorem RRd.set (hX : Firm X) (h : RRd B w0 w g vs v2 X S s C) (i : Nat) (v : Value) : RRd B w0 (w.setCell ⟨vs, i, none⟩ v) g vs v2 X S s (C.set i v) := by
  obtain ⟨p, hp, hl, h⟩ := h
  exact ⟨p, hp, hl, ((Hold.swap h).setBlk ((firm_rrd _ _ _ _).star ((firm_blk _ _ _).star hX)) i v).swap⟩
end
end Go.Proofs.YtbjmhpbelkndpaaDoor
/- The document's reader of a record: rows that grow beside it. -/
namespace Go.Proofs.YtbjmhpbelkndpaaDoor
open Go.RowKit Go.PlainAid
set_option linter.unusedVariables false
set_option maxRecDepth 20000

section
variable {B : Nat} {w0 w : World} {g vs v2 : Nat} {X : Asn} {S : ByteArray} {s : Rst} {C : List Value}
/-- At the begin: the answer's variable, the reader, the record's. -/
theorem RRd.start (w : World) (t : ByteArray) : RRd w.heap.size w (((w.alloc (.cells zS.toArray 32)).alloc (.cells #[.string t, .int .i64 0, .int .i64 0] 45)).alloc (.cells zS.toArray 32)) (w.heap.size + 1) (w.heap.size + 1 + 1) w.heap.size nought t (t, 0) zS := by
  have h0 := (hold_nought w.heap.size w w (Nat.le_refl _) (Below.refl _ _)).newBlk firm_nought 32 zS.toArray
  have h1 := h0.newBlk ((firm_blk _ _ _).star firm_nought) 45 #[.string t, .int .i64 0, .int .i64 0]
  have h2 := h1.newBlk ((firm_blk _ _ _).star ((firm_blk _ _ _).star firm_nought)) 32 zS.toArray
  rw [World.size_alloc, World.size_alloc, List.toList_toArray] at h2
  refine ⟨0, Nat.zero_le _, ?_, h2.swap⟩
  unfold lft; exact ByteArray.extract_zero_size
theorem RRd.firm (hX : Firm X) (p : Nat) : Firm (star (rrd g S p s.2) (star (blkA vs 32 C) (star (blkA v2 32 zS) X))) := (firm_rrd _ _ _ _).star (firm_rrd2 hX)
theorem RRd.below {w' : World} (hX : Firm X) (h : RRd B w0 w g vs v2 X S s C) (hb : Below w.heap.size w w') : RRd B w0 w' g vs v2 X S s C := by
  obtain ⟨p, hp, hl, h⟩ := h
  exact ⟨p, hp, hl, h.below (RRd.firm hX p) hb⟩
theorem RRd.drew (hX : Firm X) (h : RRd B w0 w g vs v2 X S s C) : RRd B w0 w.drew g vs v2 X S s C := h.below hX (Below.refl _ _).drew
/-- To what lies beside, and back. -/
theorem RRd.out (h : RRd B w0 w g vs v2 X S s C) : ∃ p, p ≤ S.size ∧ lft S p = s.1 ∧ Hold B w0 w (star X (star (rrd g S p s.2) (star (blkA vs 32 C) (blkA v2 32 zS)))) := by
  obtain ⟨p, hp, hl, h⟩ := h
  exact ⟨p, hp, hl, h.mono fun F h => pull_last h⟩
theorem RRd.ofOut (h : ∃ p, p ≤ S.size ∧ lft S p = s.1 ∧ Hold B w0 w (star X (star (rrd g S p s.2) (star (blkA vs 32 C) (blkA v2 32 zS))))) : RRd B w0 w g vs v2 X S s C := by
  obtain ⟨p, hp, hl, h⟩ := h
  exact ⟨p, hp, hl, h.mono fun F h => push_last h⟩
theorem RRd.firmO (p : Nat) : Firm (star (rrd g S p s.2) (star (blkA vs 32 C) (blkA v2 32 zS))) := (firm_rrd _ _ _ _).star ((firm_blk _ _ _).star (firm_blk _ _ _))
theorem RRd.mono {Y : Asn} (h : RRd B w0 w g vs v2 X S s C) (hXY : ∀ F, X w F → Y w F) : RRd B w0 w g vs v2 Y S s C := by
  obtain ⟨p, hp, hl, h⟩ := h.out
  exact RRd.ofOut ⟨p, hp, hl, h.monoL hXY⟩
theorem RRd.drop {A : Asn} (h : RRd B w0 w g vs v2 (star A X) S s C) : RRd B w0 w g vs v2 X S s C := by
  obtain ⟨p, hp, hl, h⟩ := h.out
  exact RRd.ofOut ⟨p, hp, hl, h.assoc.right⟩
/-- A variable more. -/
theorem RRd.more (hX : Firm X) (h : RRd B w0 w g vs v2 X S s C) (T : TypeId) (L : List Value) : RRd B w0 (w.alloc (.cells L.toArray T)) g vs v2 (star (blkA w.heap.size T L) X) S s C := by
  obtain ⟨p, hp, hl, h⟩ := h.out
  have h1 := Hold.newBlk (hX.star (RRd.firmO p)) h T L.toArray
  rw [List.toList_toArray] at h1
  exact RRd.ofOut ⟨p, hp, hl, h1.unassoc⟩
theorem RRd.bx {G : Nat} {T : TypeId} {L : List Value} (h : RRd B w0 w g vs v2 (star (blkA G T L) X) S s C) : Blk w G T L := by
  obtain ⟨p, hp, hl, h⟩ := h.out
  exact h.left.blk
theorem RRd.setBx {G : Nat} {T : TypeId} {L : List Value} (hX : Firm X) (h : RRd B w0 w g vs v2 (star (blkA G T L) X) S s C) (i : Nat) (v : Value) : RRd B w0 (w.setCell ⟨G, i, none⟩ v) g vs v2 (star (blkA G T (L.set i v)) X) S s C := by
  obtain ⟨p, hp, hl, h⟩ := h.out
  exact RRd.ofOut ⟨p, hp, hl, ((h.assoc).setBlk (hX.star (RRd.firmO p)) i v).unassoc⟩
/-- Rows of nothing. -/
theorem RRd.nil (h : RRd B w0 w g vs v2 X S s C) (T : TypeId) (K : Nat) : RRd B w0 w g vs v2 (star (rowK T K (.slice none 0 0) 0 []) X) S s C :=
  h.mono fun F h => star_comm (star_nilK h)
/-- A number behind the others. -/
theorem RRd.pushI (hX : Firm X) {v : Value} {k : Nat} {f : Nat → Int} (h : RRd B w0 w g vs v2 (star (rowK 3 1 v k (si k f)) X) S s C) (hk : k ≤ 1000) (x : Int) (hx : f k = x) :
    ∃ a c w', (Builtin.append_ #[23, 23] 23 #[v, .slice (some ⟨w.heap.size, 0, none⟩) 1 1]).run Tryd.prog (w.alloc (.cells #[.int .i64 x] 3)) = .ok (.slice a (k + 1) c) w' ∧ RRd B w0 w' g vs v2 (star (rowK 3 1 (.slice a (k + 1) c) (k + 1) (si (k + 1) f)) X) S s C := by
  obtain ⟨p, hp, hl, h⟩ := h.out
  have hF : Firm (star X (star (rrd g S p s.2) (star (blkA vs 32 C) (blkA v2 32 zS)))) := hX.star (RRd.firmO p)
  have h2 := h.assoc.below ((firm_rowK _ _ _ _ _).star hF) ((Below.refl w.heap.size w).alloc (Nat.le_refl _) (.cells #[.int .i64 x] 3))
  obtain ⟨v', w', hrun, h3⟩ := rowK_app hF 23 3 23 (.int .i64 0) 1 8 Tryd.underlying23 Tryd.info3w rfl (by decide) (by decide) h2 ⟨w.heap.size, 0, none⟩ 1 1 [.int .i64 x] rfl (fun j u hu => by
    rw [Go.WideShapes.add_plain, Nat.zero_add]; exact (Blk.new w 3 #[.int .i64 x]).cell hu) (fun u hu => by simp only [List.mem_cons, List.not_mem_nil, or_false] at hu; rw [hu]; rfl) (by omega)
  obtain ⟨a, c, rfl⟩ := own_form h3.rowK
  have e : si (k + 1) f = si k f ++ [.int .i64 x] := by unfold si; rw [List.range_succ, List.map_append, ← hx]; rfl
  refine ⟨a, c, w', hrun, RRd.ofOut ⟨p, hp, hl, ?_⟩⟩
  rw [e]; exact h3.unassoc
/-- A member behind the others. -/
theorem RRd.pushM (hX : Firm X) {v : Value} {k : Nat} {st : Nat → Int} {top log : Nat → ByteArray} (h : RRd B w0 w g vs v2 (star (rowK 49 3 v k (memF st top log k)) X) S s C) (hk : k ≤ 1000) (x : Int) (t l : ByteArray) (e1 : st k = x) (e2 : top k = t) (e3 : log k = l) :
    ∃ a c w', (Builtin.append_ #[30, 30] 30 #[v, .slice (some ⟨w.heap.size, 0, none⟩) 1 1]).run Tryd.prog (w.alloc (.cells #[.int .i64 x, .string t, .string l] 49)) = .ok (.slice a (k + 1) c) w' ∧ RRd B w0 w' g vs v2 (star (rowK 49 3 (.slice a (k + 1) c) (k + 1) (memF st top log (k + 1))) X) S s C := by
  obtain ⟨p, hp, hl, h⟩ := h.out
  have hF : Firm (star X (star (rrd g S p s.2) (star (blkA vs 32 C) (blkA v2 32 zS)))) := hX.star (RRd.firmO p)
  have h2 := h.assoc.below ((firm_rowK _ _ _ _ _).star hF) ((Below.refl w.heap.size w).alloc (Nat.le_refl _) (.cells #[.int .i64 x, .string t, .string l] 49))
  obtain ⟨v', w', hrun, h3⟩ := rowK_app hF 30 49 30 (.agg (mrow 0 noB noB).toArray) 3 40 Tryd.underlying30 Tryd.info49w rfl (by decide) (by decide) h2 ⟨w.heap.size, 0, none⟩ 1 1 (mrow x t l) rfl (fun j u hu => by
    rw [Go.WideShapes.add_plain, Nat.zero_add]; exact (Blk.new w 49 #[.int .i64 x, .string t, .string l]).cell hu) (mrow_one _ _ _) (by omega)
  obtain ⟨a, c, rfl⟩ := own_form h3.rowK
  have e : memF st top log (k + 1) = memF st top log k ++ mrow x t l := by show _ ++ mrow _ _ _ = _; rw [e1, e2, e3]
  refine ⟨a, c, w', hrun, RRd.ofOut ⟨p, hp, hl, ?_⟩⟩
  rw [e]; exact h3.unassoc
/-- The record lies there. -/
theorem RRd.lies {R : Rec} {sa ma : Option Addr} {sc mc : Nat} (h : RRd B w0 w g vs v2 (star (rowK 49 3 (.slice ma R.nm mc) R.nm (memF R.st R.top R.log R.nm)) (star (rowK 3 1 (.slice sa R.ns sc) R.ns (si R.ns R.seat)) X)) S s C) : Lies w R sa ma := by
  obtain ⟨p, hp, hl, h⟩ := h.out
  exact ⟨own_sx h.left.right.rowK, own_mx h.left.rowK (memF_P _ _ _ _)⟩
/-- The answer's variable, laid over. -/
theorem RRd.two (hX : Firm X) (h : RRd B w0 w g vs v2 X S s C) : Hold B w0 w (star (blkA v2 32 zS) X) := by
  obtain ⟨p, hp, hl, h⟩ := h
  exact h.right.right
end
end Go.Proofs.YtbjmhpbelkndpaaDoor
/- The record that bytes are, by the document. -/
namespace Go.Proofs.YtbjmhpbelkndpaaDoor
open Go.RowKit Go.PlainAid
set_option linter.unusedVariables false
set_option maxRecDepth 20000

/-- What the document's Get answers. -/
def rgetR (t : ByteArray) : Rec := if okR t then wayR.told t else zRec
def rgetE (t : ByteArray) : Int := if okR t then 0 else 4
theorem zeroRM (w : World) : (zeroValue 49).run Tryd.prog w = .ok (.agg #[.int .i64 0, .string noB, .string noB]) w := by
  obtain ⟨i, hi, hz⟩ := Option.map_eq_some_iff.1 (show (Tryd.prog.info? 49).map (fun i => i.zero) = some (some (.agg #[.int .i64 0, .string noB, .string noB])) by kernel_rfl)
  simp [zeroValue, typeInfo, hi, hz]
theorem RRd_lies2 {B : Nat} {w0 w : World} {X : Asn} {R : Rec} {sa ma : Option Addr} {sc mc : Nat} (h : Hold B w0 w (star (rowK 49 3 (.slice ma R.nm mc) R.nm (memF R.st R.top R.log R.nm)) (star (rowK 3 1 (.slice sa R.ns sc) R.ns (si R.ns R.seat)) X))) : Lies w R sa ma :=
  ⟨own_sx h.right.rowK, own_mx h.rowK (memF_P _ _ _ _)⟩
set_option maxRecDepth 20000 in
set_option maxHeartbeats 8000000 in
theorem rget_any (t : ByteArray) (ht : t.size ≤ 140737488355328) (w : World) : Calls Tryd.prog 5 #[.string t] w fun e w' => ∃ sa ma sc mc, e = .returned (.tuple #[.agg (supV (rgetR t) sa ma sc mc).toArray, .int .i64 (rgetE t)]) ∧ Lies w' (rgetR t) sa ma ∧ Below w.heap.size w w' := by
  have hF := wayR_fine t ht
  have hst := RRd.start w t
  obtain ⟨HS, hHS⟩ : ∃ HS, w.heap.size = HS := ⟨_, rfl⟩
  rw [hHS] at hst ⊢
  have hA : Hid (RRd HS w _ (HS + 1) (HS + 1 + 1) HS nought t (rdS wayR.hb (t, 0) 0) zS) := hst
  have N0 : Hid (∀ z C, RRd HS w z (HS + 1) (HS + 1 + 1) HS nought t (rdS wayR.hb (t, 0) 0) C → Calls Tryd.prog 14 #[.pointer (some ⟨HS + 1, 0, none⟩)] z fun x w' => x = .returned (.int .u64 (rdV wayR.hb (t, 0) 0)) ∧ RRd HS w w' (HS + 1) (HS + 1 + 1) HS nought t (rdS wayR.hb (t, 0) 1) C) := fun z C h => RRd.num firm_nought h ht
  have N1 : Hid (∀ z C, RRd HS w z (HS + 1) (HS + 1 + 1) HS nought t (rdS wayR.hb (t, 0) 1) C → Calls Tryd.prog 14 #[.pointer (some ⟨HS + 1, 0, none⟩)] z fun x w' => x = .returned (.int .u64 (rdV wayR.hb (t, 0) 1)) ∧ RRd HS w w' (HS + 1) (HS + 1 + 1) HS nought t (rdS wayR.hb (t, 0) 2) C) := fun z C h => RRd.num firm_nought h ht
  have N2 : Hid (∀ z C, RRd HS w z (HS + 1) (HS + 1 + 1) HS nought t (rdS wayR.hb (t, 0) 2) C → Calls Tryd.prog 15 #[.pointer (some ⟨HS + 1, 0, none⟩)] z fun x w' => x = .returned (.int .i64 (smV (rdV wayR.hb (t, 0) 2))) ∧ RRd HS w w' (HS + 1) (HS + 1 + 1) HS nought t (rdS wayR.hb (t, 0) 3) C) := fun z C h => RRd.small firm_nought h ht
  have N3 : Hid (∀ z C, RRd HS w z (HS + 1) (HS + 1 + 1) HS nought t (rdS wayR.hb (t, 0) 3) C → Calls Tryd.prog 15 #[.pointer (some ⟨HS + 1, 0, none⟩)] z fun x w' => x = .returned (.int .i64 (smV (rdV wayR.hb (t, 0) 3))) ∧ RRd HS w w' (HS + 1) (HS + 1 + 1) HS nought t (rdS wayR.hb (t, 0) 4) C) := fun z C h => RRd.small firm_nought h ht
  have N4 : Hid (∀ z C, RRd HS w z (HS + 1) (HS + 1 + 1) HS nought t (rdS wayR.hb (t, 0) 4) C → Calls Tryd.prog 15 #[.pointer (some ⟨HS + 1, 0, none⟩)] z fun x w' => x = .returned (.int .i64 (smV (rdV wayR.hb (t, 0) 4))) ∧ RRd HS w w' (HS + 1) (HS + 1 + 1) HS nought t (rdS wayR.hb (t, 0) 5) C) := fun z C h => RRd.small firm_nought h ht
  have N5 : Hid (∀ z C, RRd HS w z (HS + 1) (HS + 1 + 1) HS nought t (rdS wayR.hb (t, 0) 5) C → Calls Tryd.prog 15 #[.pointer (some ⟨HS + 1, 0, none⟩)] z fun x w' => x = .returned (.int .i64 (smV (rdV wayR.hb (t, 0) 5))) ∧ RRd HS w w' (HS + 1) (HS + 1 + 1) HS nought t (rdS wayR.hb (t, 0) 6) C) := fun z C h => RRd.small firm_nought h ht
  have N6 : Hid (∀ z C, RRd HS w z (HS + 1) (HS + 1 + 1) HS nought t (rdS wayR.hb (t, 0) 6) C → Calls Tryd.prog 15 #[.pointer (some ⟨HS + 1, 0, none⟩)] z fun x w' => x = .returned (.int .i64 (smV (rdV wayR.hb (t, 0) 6))) ∧ RRd HS w w' (HS + 1) (HS + 1 + 1) HS nought t (rdS wayR.hb (t, 0) 7) C) := fun z C h => RRd.small firm_nought h ht
  have N7 : Hid (∀ z C, RRd HS w z (HS + 1) (HS + 1 + 1) HS nought t (rdS wayR.hb (t, 0) 7) C → Calls Tryd.prog 15 #[.pointer (some ⟨HS + 1, 0, none⟩)] z fun x w' => x = .returned (.int .i64 (smV (rdV wayR.hb (t, 0) 7))) ∧ RRd HS w w' (HS + 1) (HS + 1 + 1) HS nought t (rdS wayR.hb (t, 0) 8) C) := fun z C h => RRd.small firm_nought h ht
  have NS : Hid (∀ z C Y k, Firm Y → RRd HS w z (HS + 1) (HS + 1 + 1) HS Y t (rdS (fun _ => wayR.bs) (wayR.s8 t) k) C → Calls Tryd.prog 15 #[.pointer (some ⟨HS + 1, 0, none⟩)] z fun x w' => x = .returned (.int .i64 (smV (rdV (fun _ => wayR.bs) (wayR.s8 t) k))) ∧ RRd HS w w' (HS + 1) (HS + 1 + 1) HS Y t (rdS (fun _ => wayR.bs) (wayR.s8 t) (k + 1)) C) := fun z C Y k hY h => RRd.small hY h ht
  have NM : Hid (∀ z C Y, Firm Y → RRd HS w z (HS + 1) (HS + 1 + 1) HS Y t (wayR.sS t) C → Calls Tryd.prog 15 #[.pointer (some ⟨HS + 1, 0, none⟩)] z fun x w' => x = .returned (.int .i64 (smV (rdV (fun _ => wayR.bm) (wayR.sS t) 0))) ∧ RRd HS w w' (HS + 1) (HS + 1 + 1) HS Y t (wayR.sM t) C) := fun z C Y hY h => RRd.small hY h ht
  have M1 : Hid (∀ z C Y k, Firm Y → RRd HS w z (HS + 1) (HS + 1 + 1) HS Y t (mbS wayR.bt (wayR.sM t) k) C → Calls Tryd.prog 15 #[.pointer (some ⟨HS + 1, 0, none⟩)] z fun x w' => x = .returned (.int .i64 ((wayR.told t).st k)) ∧ RRd HS w w' (HS + 1) (HS + 1 + 1) HS Y t (m1 wayR.bt (mbS wayR.bt (wayR.sM t) k)) C) := fun z C Y k hY h => RRd.small hY h ht
  have M2 : Hid (∀ z C Y k, Firm Y → RRd HS w z (HS + 1) (HS + 1 + 1) HS Y t (m1 wayR.bt (mbS wayR.bt (wayR.sM t) k)) C → Calls Tryd.prog 16 #[.pointer (some ⟨HS + 1, 0, none⟩)] z fun x w' => x = .returned (.string ((wayR.told t).top k)) ∧ RRd HS w w' (HS + 1) (HS + 1 + 1) HS Y t (m2 (m1 wayR.bt (mbS wayR.bt (wayR.sM t) k))) C) := fun z C Y k hY h => RRd.text hY h ht
  have M3 : Hid (∀ z C Y k, Firm Y → RRd HS w z (HS + 1) (HS + 1 + 1) HS Y t (m2 (m1 wayR.bt (mbS wayR.bt (wayR.sM t) k))) C → Calls Tryd.prog 16 #[.pointer (some ⟨HS + 1, 0, none⟩)] z fun x w' => x = .returned (.string ((wayR.told t).log k)) ∧ RRd HS w w' (HS + 1) (HS + 1 + 1) HS Y t (mbS wayR.bt (wayR.sM t) (k + 1)) C) := fun z C Y k hY h => RRd.text hY h ht
  have hns := hF.ns
  have hnm := hF.nm
  have v7 : (wayR.told t).ns = (smV (rdV wayR.hb (t, 0) 7)).toNat := rfl
  have vm : (wayR.told t).nm = (smV (rdV (fun _ => wayR.bm) (wayR.sS t) 0)).toNat := rfl
  have HSEAT : Hid (∀ k, smV (rdV (fun _ => wayR.bs) (wayR.s8 t) k) = (wayR.told t).seat k) := fun k => rfl
  have HW : Hid (∀ (sa ma : Option Addr) (sc mc : Nat), supV (wayR.told t) sa ma sc mc = [.int .u64 (rdV wayR.hb (t, 0) 0), .int .u64 (rdV wayR.hb (t, 0) 1), .int .i64 (smV (rdV wayR.hb (t, 0) 2)), .int .i64 (smV (rdV wayR.hb (t, 0) 3)), .int .i64 (smV (rdV wayR.hb (t, 0) 4)), .int .i64 (smV (rdV wayR.hb (t, 0) 5)), .bool (smV (rdV wayR.hb (t, 0) 6) == 1), .slice sa (wayR.told t).ns sc, .slice ma (wayR.told t).nm mc]) := fun _ _ _ _ => rfl
  have HPUT : Hid (∀ z sa ma sc mc, Lies z (wayR.told t) sa ma → Calls Tryd.prog 17 #[.agg (supV (wayR.told t) sa ma sc mc).toArray] z fun e w' => e = .returned (.tuple #[.string (putT (wayR.told t)), .int .i64 (putE (wayR.told t))]) ∧ Below z.heap.size z w') := fun z sa ma sc mc hl => r14put_any hF hl
  have HPT : Hid (putT (wayR.told t) = (if gd (wayR.told t) then byB (wayR.told t) else noB) ∧ putE (wayR.told t) = if gd (wayR.told t) then 0 else 4) := by
    unfold putT putE
    cases gd (wayR.told t) <;> exact ⟨rfl, rfl⟩
  have HOK : Hid (okR t = (gd (wayR.told t) && decide (byB (wayR.told t) = t))) := rfl
  have HR : Hid (rgetR t = if okR t then wayR.told t else zRec) := rfl
  have HE : Hid (rgetE t = if okR t then 0 else 4) := rfl
  have HS8 : Hid (rdS wayR.hb (t, 0) 8 = rdS (fun _ => wayR.bs) (wayR.s8 t) 0) := rfl
  have HSS : Hid (wayR.sS t = rdS (fun _ => wayR.bs) (wayR.s8 t) (wayR.told t).ns) := rfl
  have HMB : Hid (wayR.sM t = mbS wayR.bt (wayR.sM t) 0) := rfl
  have hzero := zeroRSup
  have hzm := zeroRM
  have HZL : Hid (zS.length = 9) := rfl
  have HZO : Hid (∀ v ∈ zS, v.oneCell' = true) := supV_one _ _ _ _ _
  have HSZ9 : Hid ((Tryd.prog.info? 32).map (·.size) = some 9) := Tryd.size32
  have HZZ : Hid (zS = supV zRec none none 0 0) := rfl
  have HZE : zS = [.int .u64 0, .int .u64 0, .int .i64 0, .int .i64 0, .int .i64 0, .int .i64 0, .bool false, .slice none 0 0, .slice none 0 0] := rfl
  have HZE2 : Hid _ := HZE
  clear hF hst HZE
  generalize okR t = ok at *
  generalize gd (wayR.told t) = gg at *
  generalize byB (wayR.told t) = by_ at *
  generalize putT (wayR.told t) = PTx at *
  generalize putE (wayR.told t) = PEx at *
  generalize rgetR t = GR at *
  generalize rgetE t = GE at *
  generalize rdS (fun _ => wayR.bs) (wayR.s8 t) = QS at *
  generalize mbS wayR.bt (wayR.sM t) = QM at *
  generalize wayR.sS t = SS at *
  generalize wayR.sM t = SM at *
  generalize m1 wayR.bt = M1F at *
  generalize wayR.told t = RR at *
  generalize rdS wayR.hb (t, 0) 0 = Q0 at *
  generalize rdS wayR.hb (t, 0) 1 = Q1 at *
  generalize rdS wayR.hb (t, 0) 2 = Q2 at *
  generalize rdS wayR.hb (t, 0) 3 = Q3 at *
  generalize rdS wayR.hb (t, 0) 4 = Q4 at *
  generalize rdS wayR.hb (t, 0) 5 = Q5 at *
  generalize rdS wayR.hb (t, 0) 6 = Q6 at *
  generalize rdS wayR.hb (t, 0) 7 = Q7 at *
  generalize rdS wayR.hb (t, 0) 8 = Q8 at *
  generalize rdV wayR.hb (t, 0) 0 = V0 at *
  generalize rdV wayR.hb (t, 0) 1 = V1 at *
  generalize smV (rdV wayR.hb (t, 0) 2) = V2 at *
  generalize smV (rdV wayR.hb (t, 0) 3) = V3 at *
  generalize smV (rdV wayR.hb (t, 0) 4) = V4 at *
  generalize smV (rdV wayR.hb (t, 0) 5) = V5 at *
  generalize smV (rdV wayR.hb (t, 0) 6) = V6 at *
  generalize smV (rdV wayR.hb (t, 0) 7) = V7 at *
  generalize smV (rdV (fun _ => wayR.bm) SS 0) = VM at *
  generalize rdV (fun _ => wayR.bs) (wayR.s8 t) = VS at *
  obtain ⟨NN, hNN⟩ : ∃ NN, RR.ns = NN := ⟨_, rfl⟩
  obtain ⟨MM, hMM⟩ : ∃ MM, RR.nm = MM := ⟨_, rfl⟩
  have HNN : Hid (RR.ns = NN ∧ RR.nm = MM) := ⟨hNN, hMM⟩
  rw [hNN] at v7 hns HSS
  rw [hMM] at vm hnm
  have HW : Hid (∀ (sa ma : Option Addr) (sc mc : Nat), supV RR sa ma sc mc = [.int .u64 V0, .int .u64 V1, .int .i64 V2, .int .i64 V3, .int .i64 V4, .int .i64 V5, .bool (V6 == 1), .slice sa NN sc, .slice ma MM mc]) := fun sa ma sc mc => by rw [HW.out, hNN, hMM]
  clear hNN hMM
  have ht2 : Hid (t.size ≤ 140737488355328) := ht
  clear ht
  go_enter Tryd.func5, Tryd.ntmps5
  go_wp2_with (first
    | (go_at_call 14; refine (N0.out _ _ hA.out).mono ?_; rintro x w1 ⟨rfl, hr⟩; have c0 := hr.own.cell (i := 0) rfl; have f0 := hr.own.frozen 0; have h1 : Hid (RRd HS w _ (HS + 1) (HS + 1 + 1) HS nought t Q1 (zS.set 0 (.int .u64 V0))) := RRd.set firm_nought hr 0 (.int .u64 V0); clear hr hA N0)
    | (go_at_call 14; refine (N1.out _ _ h1.out).mono ?_; rintro x w2 ⟨rfl, hr⟩; have c1 := hr.own.cell (i := 1) rfl; have f1 := hr.own.frozen 1; have h2 : Hid (RRd HS w _ (HS + 1) (HS + 1 + 1) HS nought t Q2 ((zS.set 0 (.int .u64 V0)).set 1 (.int .u64 V1))) := RRd.set firm_nought hr 1 (.int .u64 V1); clear hr h1 N1)
    | (go_at_call 15; refine (N2.out _ _ h2.out).mono ?_; rintro x w3 ⟨rfl, hr⟩; have c2 := hr.own.cell (i := 2) rfl; have f2 := hr.own.frozen 2; have h3 : Hid (RRd HS w _ (HS + 1) (HS + 1 + 1) HS nought t Q3 (((zS.set 0 (.int .u64 V0)).set 1 (.int .u64 V1)).set 2 (.int .i64 V2))) := RRd.set firm_nought hr 2 (.int .i64 V2); clear hr h2 N2)
    | (go_at_call 15; refine (N3.out _ _ h3.out).mono ?_; rintro x w4 ⟨rfl, hr⟩; have c3 := hr.own.cell (i := 3) rfl; have f3 := hr.own.frozen 3; have h4 : Hid (RRd HS w _ (HS + 1) (HS + 1 + 1) HS nought t Q4 ((((zS.set 0 (.int .u64 V0)).set 1 (.int .u64 V1)).set 2 (.int .i64 V2)).set 3 (.int .i64 V3))) := RRd.set firm_nought hr 3 (.int .i64 V3); clear hr h3 N3)
    | (go_at_call 15; refine (N4.out _ _ h4.out).mono ?_; rintro x w5 ⟨rfl, hr⟩; have c4 := hr.own.cell (i := 4) rfl; have f4 := hr.own.frozen 4; have h5 : Hid (RRd HS w _ (HS + 1) (HS + 1 + 1) HS nought t Q5 (((((zS.set 0 (.int .u64 V0)).set 1 (.int .u64 V1)).set 2 (.int .i64 V2)).set 3 (.int .i64 V3)).set 4 (.int .i64 V4))) := RRd.set firm_nought hr 4 (.int .i64 V4); clear hr h4 N4)
    | (go_at_call 15; refine (N5.out _ _ h5.out).mono ?_; rintro x w6 ⟨rfl, hr⟩; have c5 := hr.own.cell (i := 5) rfl; have f5 := hr.own.frozen 5; have h6 : Hid (RRd HS w _ (HS + 1) (HS + 1 + 1) HS nought t Q6 ((((((zS.set 0 (.int .u64 V0)).set 1 (.int .u64 V1)).set 2 (.int .i64 V2)).set 3 (.int .i64 V3)).set 4 (.int .i64 V4)).set 5 (.int .i64 V5))) := RRd.set firm_nought hr 5 (.int .i64 V5); clear hr h5 N5)
    | (go_at_call 15; refine (N6.out _ _ h6.out).mono ?_; rintro x w7 ⟨rfl, hr⟩; have c6 := hr.own.cell (i := 6) rfl; have f6 := hr.own.frozen 6; have h7 : Hid (RRd HS w _ (HS + 1) (HS + 1 + 1) HS nought t Q7 (((((((zS.set 0 (.int .u64 V0)).set 1 (.int .u64 V1)).set 2 (.int .i64 V2)).set 3 (.int .i64 V3)).set 4 (.int .i64 V4)).set 5 (.int .i64 V5)).set 6 (.bool (V6 == 1)))) := RRd.set firm_nought hr 6 (.bool (V6 == 1)); clear hr h6 N6)
    | (go_at_call 15; refine (N7.out _ _ h7.out).mono ?_; rintro x w8 ⟨rfl, hr⟩; have h8 : Hid (RRd HS w _ (HS + 1) (HS + 1 + 1) HS nought t Q8 (((((((zS.set 0 (.int .u64 V0)).set 1 (.int .u64 V1)).set 2 (.int .i64 V2)).set 3 (.int .i64 V3)).set 4 (.int .i64 V4)).set 5 (.int .i64 V5)).set 6 (.bool (V6 == 1)))) := hr; clear hr h7 N7))
  clear c0 f0 c1 f1 c2 f2 c3 f3 c4 f4 c5 f5 c6 f6 hzero
  obtain ⟨CA, hCA⟩ : ∃ CA : Value → Value → List Value, CA = fun a b => [.int .u64 V0, .int .u64 V1, .int .i64 V2, .int .i64 V3, .int .i64 V4, .int .i64 V5, .bool (V6 == 1), a, b] := ⟨_, rfl⟩
  have HC7 : Hid (∀ a b u, (CA a b).set 7 u = CA u b) := fun a b u => by rw [hCA]; rfl
  have HC8 : Hid (∀ a b u, (CA a b).set 8 u = CA a u) := fun a b u => by rw [hCA]; rfl
  have HG7 : Hid (∀ a b, (CA a b)[7]? = some a) := fun a b => by rw [hCA]; rfl
  have HG8 : Hid (∀ a b, (CA a b)[8]? = some b) := fun a b => by rw [hCA]; rfl
  have HCW : Hid (∀ (sa ma : Option Addr) (sc mc : Nat), CA (.slice sa NN sc) (.slice ma MM mc) = supV RR sa ma sc mc) := fun sa ma sc mc => by rw [HW.out, hCA]
  have h9 : Hid (RRd HS w w8 (HS + 1) (HS + 1 + 1) HS (star (rowK 3 1 (.slice none 0 0) 0 (si 0 RR.seat)) nought) t (QS 0) (CA (.slice none 0 0) (.slice none 0 0))) := by
    rw [← HS8.out, hCA]
    exact RRd.nil h8.out 3 1
  clear h8 HS8 hCA HW
  have hv7 : V7 ≤ 100 ∨ True := .inr trivial
  clear hv7
  go_loopw [8] (fun i wr => ∃ (k : Nat) (sa : Option Addr) (sc : Nat), k ≤ NN ∧ i = .int .i64 (k : Int) ∧ Hid (RRd HS w wr (HS + 1) (HS + 1 + 1) HS (star (rowK 3 1 (.slice sa k sc) k (si k RR.seat)) nought) t (QS k) (CA (.slice sa k sc) (.slice none 0 0)))) (fun i _ => NN - (intOf i).toNat)
  case atStart => exact ⟨0, none, 0, Nat.zero_le _, rfl, h9.out⟩
  case round =>
    clear h9
    obtain ⟨k, sa, sc, hk, rfl, hh⟩ := hrel
    by_cases hlt : k < NN
    · have hk' : (k : Int) < V7 := by omega
      have hkb : (k : Int) ≤ 1000 := by omega
      go_wp2_with (first
        | (go_at_call 15; refine (NS.out _ _ _ k ((firm_rowK _ _ _ _ _).star firm_nought) hh.out).mono ?_; rintro x wa ⟨rfl, ha⟩; have cA := ha.own.cell (HG7.out _ _); have cB := (ha.below ((firm_rowK _ _ _ _ _).star firm_nought) ((Below.refl wa.heap.size wa).alloc (Nat.le_refl _) (.cells #[.int .i64 (smV (VS k))] 3))).own.cell (HG7.out _ _); obtain ⟨a', c', w3, hrun, h3⟩ := RRd.pushI firm_nought ha (by omega) (smV (VS k)) (HSEAT.out k).symm; have c3 := h3.own.cell (HG7.out _ _); have f3 := h3.own.frozen 7; have h4 := h3.set ((firm_rowK _ _ _ _ _).star firm_nought) 7 (.slice a' (k + 1) c'); rw [HC7.out] at h4; have H4 : Hid (RRd HS w (w3.setCell ⟨HS + 1 + 1, 7, none⟩ (.slice a' (k + 1) c')) (HS + 1) (HS + 1 + 1) HS (star (rowK 3 1 (.slice a' (k + 1) c') (k + 1) (si (k + 1) RR.seat)) nought) t (QS (k + 1)) (CA (.slice a' (k + 1) c') (.slice none 0 0))) := h4; clear ha h3 h4 hh)
        | (at_builtin; refine Lib.wpList_append_run _ rfl _ _ 23 23 rfl _ _ rfl rfl _ _ hrun ?_))
      go_roundw
      case rel => exact ⟨k + 1, a', c', by omega, by go_num, H4.out⟩
      case measure => simp [intOf]; omega
    · obtain rfl : k = NN := by omega
      have hk' : ¬ (k : Int) < V7 := by omega
      go_wp2_with (go_at_call 15; refine (NM.out _ _ _ ((firm_rowK _ _ _ _ _).star firm_nought) (by rw [HSS.out]; exact hh.out)).mono ?_; rintro x wa ⟨rfl, ha⟩; have H0 : Hid (RRd HS w wa (HS + 1) (HS + 1 + 1) HS (star (rowK 3 1 (.slice sa k sc) k (si k RR.seat)) nought) t SM (CA (.slice sa k sc) (.slice none 0 0))) := ha; clear ha hh)
      have HFK : Hid (Firm (star (rowK 3 1 (.slice sa k sc) k (si k RR.seat)) nought)) := (firm_rowK _ _ _ _ _).star firm_nought
      have h9 : Hid (RRd HS w wa (HS + 1) (HS + 1 + 1) HS (star (rowK 49 3 (.slice none 0 0) 0 (memF RR.st RR.top RR.log 0)) (star (rowK 3 1 (.slice sa k sc) k (si k RR.seat)) nought)) t (QM 0) (CA (.slice sa k sc) (.slice none 0 0))) := by
        rw [← HMB.out]
        exact RRd.nil H0.out 49 3
      clear H0 HMB hk' hlt hk v7
      generalize hYY : star (rowK 3 1 (.slice sa k sc) k (si k RR.seat)) nought = YY at *
      obtain ⟨ws, hws⟩ : ∃ ws, ws = wr := ⟨_, rfl⟩
      subst hws
      have HYY : Hid _ := hYY
      clear hYY
      go_loopw [11] (fun i wr => ∃ (j : Nat) (ma : Option Addr) (mc : Nat), j ≤ MM ∧ i = .int .i64 (j : Int) ∧ Hid (RRd HS w wr (HS + 1) (HS + 1 + 1) HS (star (rowK 49 3 (.slice ma j mc) j (memF RR.st RR.top RR.log j)) YY) t (QM j) (CA (.slice sa k sc) (.slice ma j mc)))) (fun i _ => MM - (intOf i).toNat)
      case atStart => exact ⟨0, none, 0, Nat.zero_le _, rfl, h9.out⟩
      case round =>
        clear h9
        obtain ⟨j, ma, mc, hj, rfl, hh⟩ := hrel
        by_cases hlt : j < MM
        · have hj' : (j : Int) < VM := by omega
          have hjb : (j : Int) ≤ 1000 := by omega
          have H1 : Hid (RRd HS w _ (HS + 1) (HS + 1 + 1) HS (star (blkA wr.heap.size 49 [.int .i64 0, .string noB, .string noB]) (star (rowK 49 3 (.slice ma j mc) j (memF RR.st RR.top RR.log j)) YY)) t (QM j) (CA (.slice sa k sc) (.slice ma j mc))) := hh.out.more ((firm_rowK _ _ _ _ _).star HFK.out) 49 [.int .i64 0, .string noB, .string noB]
          have HFM : Hid (Firm (star (rowK 49 3 (.slice ma j mc) j (memF RR.st RR.top RR.log j)) YY)) := (firm_rowK _ _ _ _ _).star HFK.out
          have HXL : Hid (∀ (ww : World) (L : List Value), RRd HS w ww (HS + 1) (HS + 1 + 1) HS (star (blkA wr.heap.size 49 L) (star (rowK 49 3 (.slice ma j mc) j (memF RR.st RR.top RR.log j)) YY)) t (QM (j + 1)) (CA (.slice sa k sc) (.slice ma j mc)) → RRd HS w ww (HS + 1) (HS + 1 + 1) HS (star (rowK 49 3 (.slice ma j mc) j (memF RR.st RR.top RR.log j)) YY) t (QM (j + 1)) (CA (.slice sa k sc) (.slice ma j mc))) := fun ww L h => h.drop
          clear hh
          generalize hbx : wr.heap.size = bx at *
          go_wp2_with (first
            | (go_at_call 15; refine (M1.out _ _ _ j ((firm_blk _ _ _).star HFM.out) H1.out).mono ?_; rintro x wa ⟨rfl, ha⟩; have a0 := ha.bx.cell (i := 0) rfl; have b0 := ha.bx.frozen 0; have H2 : Hid (RRd HS w _ (HS + 1) (HS + 1 + 1) HS (star (blkA bx 49 [.int .i64 (RR.st j), .string noB, .string noB]) _) t _ _) := ha.setBx HFM.out 0 (.int .i64 (RR.st j)); clear ha H1)
            | (go_at_call 16; refine (M2.out _ _ _ j ((firm_blk _ _ _).star HFM.out) H2.out).mono ?_; rintro x wb ⟨rfl, ha⟩; have a1 := ha.bx.cell (i := 1) rfl; have b1 := ha.bx.frozen 1; have H3 : Hid (RRd HS w _ (HS + 1) (HS + 1 + 1) HS (star (blkA bx 49 [.int .i64 (RR.st j), .string (RR.top j), .string noB]) _) t _ _) := ha.setBx HFM.out 1 (.string (RR.top j)); clear ha H2)
            | (go_at_call 16; refine (M3.out _ _ _ j ((firm_blk _ _ _).star HFM.out) H3.out).mono ?_; rintro x wc ⟨rfl, ha⟩; have a2 := ha.bx.cell (i := 2) rfl; have b2 := ha.bx.frozen 2; have h4 := ha.setBx HFM.out 2 (.string (RR.log j)); have d0 := h4.bx.cell (i := 0) rfl; have d1 := h4.bx.cell (i := 1) rfl; have d2 := h4.bx.cell (i := 2) rfl; have d8 := h4.own.cell (HG8.out _ _); obtain ⟨wd, hwd⟩ : ∃ wd, wc.setCell ⟨bx, 2, none⟩ (.string (RR.log j)) = wd := ⟨_, rfl⟩; rw [hwd] at h4 d0 d1 d2 d8; obtain ⟨a', c', w3, hrun, h5⟩ := RRd.pushM HFK.out (HXL.out _ _ h4) (by omega) (RR.st j) (RR.top j) (RR.log j) rfl rfl rfl; have c5 := h5.own.cell (HG8.out _ _); have f5 := h5.own.frozen 8; have h6 := h5.set ((firm_rowK _ _ _ _ _).star HFK.out) 8 (.slice a' (j + 1) c'); rw [HC8.out] at h6; have H6 : Hid (RRd HS w (w3.setCell ⟨HS + 1 + 1, 8, none⟩ (.slice a' (j + 1) c')) (HS + 1) (HS + 1 + 1) HS (star (rowK 49 3 (.slice a' (j + 1) c') (j + 1) (memF RR.st RR.top RR.log (j + 1))) YY) t (QM (j + 1)) (CA (.slice sa k sc) (.slice a' (j + 1) c'))) := h6; clear ha H3 h4 h5 h6)
            | (at_builtin; refine Lib.wpList_append_run _ rfl _ _ 30 30 rfl _ _ rfl rfl _ _ hrun ?_))
          go_roundw
          case rel => exact ⟨j + 1, a', c', by omega, by go_num, H6.out⟩
          case measure => simp [intOf]; omega
        · obtain rfl : j = MM := by omega
          have hj' : ¬ (j : Int) < VM := by omega
          have HL : Hid (Lies wr RR sa ma) := RRd.lies (R := RR) (sc := sc) (mc := mc) (X := nought) (by rw [HNN.out.1, HNN.out.2, HYY.out]; exact hh.out)
          have hh2 := hh.out
          rw [HCW.out] at hh2
          have HB : Hid (Blk wr (HS + 1 + 1) 32 (supV RR sa ma sc mc)) := hh2.own
          have H2 : Hid (Hold HS w wr (star (blkA HS 32 zS) (star (rowK 49 3 (.slice ma j mc) j (memF RR.st RR.top RR.log j)) YY))) := RRd.two ((firm_rowK _ _ _ _ _).star HFK.out) hh2
          have HFM : Hid (Firm (star (rowK 49 3 (.slice ma j mc) j (memF RR.st RR.top RR.log j)) YY)) := (firm_rowK _ _ _ _ _).star HFK.out
          have HP2 := fun z => HPUT.out z sa ma sc mc
          have HDL : Hid ((supV RR sa ma sc mc).length = 9) := rfl
          have HDO : Hid (∀ v ∈ supV RR sa ma sc mc, v.oneCell' = true) := supV_one _ _ _ _ _
          have HDD : Hid (∀ z, Lies z GR sa ma → GR = RR → ∃ sa' ma' sc' mc', Value.agg (supV RR sa ma sc mc).toArray = .agg (supV GR sa' ma' sc' mc').toArray ∧ Lies z GR sa' ma') := fun z h e => ⟨sa, ma, sc, mc, by rw [e], h⟩
          generalize hDS : supV RR sa ma sc mc = DS at *
          have HP3 : Hid (∀ z, Lies z RR sa ma → Calls Tryd.prog 17 #[.agg DS.toArray] z fun e w' => e = .returned (.tuple #[.string PTx, .int .i64 PEx]) ∧ Below z.heap.size z w') := HP2
          clear HP2 HPUT hh2 hh hDS HCW
          obtain ⟨hpt, hpe⟩ := HPT.out
          have te : ∀ a b : ByteArray, (a.toList == b.toList) = decide (a = b) := teqS
          have HTE : Hid (decide (by_ = t) = true ↔ by_ = t) := decide_eq_true_iff
          clear hlt vm

          cases gg
          · have ho : ok = false := by rw [HOK.out]; rfl
            rw [ho] at HR HE
            have HR2 : Hid (GR = zRec) := HR.out
            have HE2 : Hid (GE = 4) := HE.out
            clear HR HE ho
            have hpe : PEx = 4 := hpe
            have hpt : PTx = noB := hpt
            rw [hpe, hpt] at HP3
            clear hpe hpt HPT
            go_wp2_with (first
              | (refine wpList_load_blk rfl 32 _ rfl (HS + 1 + 1) rfl 32 DS _ HB.out Tryd.underlying32 rfl (by rw [HSZ9.out, HDL.out]) ?_)
              | (go_at_call 17; refine (HP3.out _ HL.out).mono ?_; rintro e w5 ⟨rfl, hb5⟩; have HB5 : Hid (Blk w5 (HS + 1 + 1) 32 DS) := HB.out.below hb5 HB.out.lt; have h5 := H2.out.below ((firm_blk _ _ _).star HFM.out) hb5; have hb2 : Hid (Hold _ _ _ _) := h5; have hb3 : Hid (Hold _ _ _ _) := h5.setRowBlk HFM.out zS; have HL5 : Hid (Lies w5 RR sa ma) := HL.out.below hb5; clear hb5 h5 HL HB H2)
              | (refine wpList_load_blk rfl 32 _ rfl (HS + 1 + 1) rfl 32 DS _ HB5.out Tryd.underlying32 rfl (by rw [HSZ9.out, HDL.out]) ?_)
              | (refine wpList_store_blk rfl 32 _ _ rfl HS zS zS rfl rfl 32 hb2.out.blk (by rw [HSZ9.out, HZL.out]) (by rw [HZL.out]) HZO.out ?_))
            have HR3 : Hid ((loadVar 32 ⟨HS, 0, none⟩).run Tryd.prog (w5.setRow HS zS.toArray) = .ok (.agg zS.toArray) (w5.setRow HS zS.toArray)) := run_loadVar_row _ HS 32 32 zS.toArray (0, 0) _ hb3.out.blk Tryd.underlying32 rfl (by rw [HSZ9.out]; simp [HZL.out])
            exact bodyPost_ret_by (v := .tuple #[.agg zS.toArray, .int .i64 4]) (results_cell_tmp 2 3 32 ⟨HS, 0, none⟩ Tryd.results5 rfl HR3.out rfl) rfl ⟨none, none, 0, 0, by rw [HR2.out, HE2.out, HZZ.out], by rw [HR2.out]; exact lies_z _, hb3.out.low⟩
          · have hpe : PEx = 0 := hpe
            have hpt : PTx = by_ := hpt
            rw [hpe, hpt] at HP3
            clear hpe hpt HPT
            by_cases hbt : by_ = t
            · have ho : ok = true := by rw [HOK.out, decide_eq_true hbt]; rfl
              rw [ho] at HR HE
              have HR2 : Hid (GR = RR) := HR.out
              have HE2 : Hid (GE = 0) := HE.out
              have ht3 : (by_.toList == t.toList) = true := by rw [te]; exact decide_eq_true hbt
              clear HR HE ho hbt te
              go_wp2_with (first
                | (refine wpList_load_blk rfl 32 _ rfl (HS + 1 + 1) rfl 32 DS _ HB.out Tryd.underlying32 rfl (by rw [HSZ9.out, HDL.out]) ?_)
                | (go_at_call 17; refine (HP3.out _ HL.out).mono ?_; rintro e w5 ⟨rfl, hb5⟩; have HB5 : Hid (Blk w5 (HS + 1 + 1) 32 DS) := HB.out.below hb5 HB.out.lt; have h5 := H2.out.below ((firm_blk _ _ _).star HFM.out) hb5; have hb2 : Hid (Hold _ _ _ _) := h5; have hb3 : Hid (Hold _ _ _ _) := h5.setRowBlk HFM.out DS; have HL5 : Hid (Lies w5 RR sa ma) := HL.out.below hb5; clear hb5 h5 HL HB H2)
                | (refine wpList_load_blk rfl 32 _ rfl (HS + 1 + 1) rfl 32 DS _ HB5.out Tryd.underlying32 rfl (by rw [HSZ9.out, HDL.out]) ?_)
                | (refine wpList_store_blk rfl 32 _ _ rfl HS zS DS rfl rfl 32 hb2.out.blk (by rw [HSZ9.out, HDL.out]) (by rw [HZL.out, HDL.out]) HDO.out ?_))
              have HR3 : Hid ((loadVar 32 ⟨HS, 0, none⟩).run Tryd.prog (w5.setRow HS DS.toArray) = .ok (.agg DS.toArray) (w5.setRow HS DS.toArray)) := run_loadVar_row _ HS 32 32 DS.toArray (0, 0) _ hb3.out.blk Tryd.underlying32 rfl (by rw [HSZ9.out]; simp [HDL.out])
              have HL6 : Hid (Lies (w5.setRow HS DS.toArray) RR sa ma) := by
                have h7 := hb3.out.right
                rw [← HYY.out] at h7
                exact RRd_lies2 (by rw [HNN.out.1, HNN.out.2]; exact h7)
              obtain ⟨sa', ma', sc', mc', e1, e2⟩ := HDD.out _ (by rw [HR2.out]; exact HL6.out) HR2.out
              exact bodyPost_ret_by (v := .tuple #[.agg DS.toArray, .int .i64 0]) (results_cell_tmp 2 3 32 ⟨HS, 0, none⟩ Tryd.results5 rfl HR3.out rfl) rfl ⟨sa', ma', sc', mc', by rw [← e1, HE2.out], e2, hb3.out.low⟩
            · have ho : ok = false := by rw [HOK.out, decide_eq_false hbt]; rfl
              rw [ho] at HR HE
              have HR2 : Hid (GR = zRec) := HR.out
              have HE2 : Hid (GE = 4) := HE.out
              have ht3 : (by_.toList == t.toList) = false := by rw [te]; exact decide_eq_false hbt
              clear HR HE ho hbt te
              go_wp2_with (first
                | (refine wpList_load_blk rfl 32 _ rfl (HS + 1 + 1) rfl 32 DS _ HB.out Tryd.underlying32 rfl (by rw [HSZ9.out, HDL.out]) ?_)
                | (go_at_call 17; refine (HP3.out _ HL.out).mono ?_; rintro e w5 ⟨rfl, hb5⟩; have HB5 : Hid (Blk w5 (HS + 1 + 1) 32 DS) := HB.out.below hb5 HB.out.lt; have h5 := H2.out.below ((firm_blk _ _ _).star HFM.out) hb5; have hb2 : Hid (Hold _ _ _ _) := h5; have hb3 : Hid (Hold _ _ _ _) := h5.setRowBlk HFM.out zS; have HL5 : Hid (Lies w5 RR sa ma) := HL.out.below hb5; clear hb5 h5 HL HB H2)
                | (refine wpList_load_blk rfl 32 _ rfl (HS + 1 + 1) rfl 32 DS _ HB5.out Tryd.underlying32 rfl (by rw [HSZ9.out, HDL.out]) ?_)
                | (refine wpList_store_blk rfl 32 _ _ rfl HS zS zS rfl rfl 32 hb2.out.blk (by rw [HSZ9.out, HZL.out]) (by rw [HZL.out]) HZO.out ?_))
              have HR3 : Hid ((loadVar 32 ⟨HS, 0, none⟩).run Tryd.prog (w5.setRow HS zS.toArray) = .ok (.agg zS.toArray) (w5.setRow HS zS.toArray)) := run_loadVar_row _ HS 32 32 zS.toArray (0, 0) _ hb3.out.blk Tryd.underlying32 rfl (by rw [HSZ9.out]; simp [HZL.out])
              exact bodyPost_ret_by (v := .tuple #[.agg zS.toArray, .int .i64 4]) (results_cell_tmp 2 3 32 ⟨HS, 0, none⟩ Tryd.results5 rfl HR3.out rfl) rfl ⟨none, none, 0, 0, by rw [HR2.out, HE2.out, HZZ.out], by rw [HR2.out]; exact lies_z _, hb3.out.low⟩
end Go.Proofs.YtbjmhpbelkndpaaDoor
/- What the Go function SuperGets answers: true, for every text. -/
namespace Go.Proofs.YtbjmhpbelkndpaaDoor
open Go.RowKit Go.PlainAid
set_option linter.unusedVariables false
set_option maxRecDepth 20000

theorem told14 (A : ByteArray) (hA : A.size ≤ 1500) : Told14 A (rgetR A) := by
  have hE : rgetE A = getE A := by unfold rgetE getE; rw [okR_iff]
  have hS : (getR A).Same (rgetR A) := by
    unfold getR rgetR
    rw [okR_iff]
    cases h : okP A
    · exact Rec.Same.refl _
    · exact ok_same A h
  have hn : (getR A).ns ≤ 100 ∧ (getR A).nm ≤ 100 := by
    unfold getR
    have hF := wayP_fine A (by omega)
    split
    · exact ⟨hF.ns, hF.nm⟩
    · exact ⟨Nat.zero_le _, Nat.zero_le _⟩
  refine ⟨fun z => ?_, fun z sa ma sb mb sc mc sd md h1 h2 => ?_⟩
  · have h := rget_any A (by omega) z
    rwa [hE] at h
  · have h := same_any hn.1 hn.2 h1 h2 (sc := sc) (mc := mc) (sd := sd) (md := md)
    rwa [sameQ_yes hS] at h
theorem superGets_law (s : ByteArray) (hs : s.size ≤ maxLen) (w : World) (ht : Tabs w) (hr : RTabs w) : Calls Tryd.prog 3 #[.string s] w fun e w' => e = .returned (.bool true) ∧ Below w.heap.size w w' :=
  superGets_walk (fun A hA => ⟨_, told14 A hA⟩) s hs w ht hr
end Go.Proofs.YtbjmhpbelkndpaaDoor
