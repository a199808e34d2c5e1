/- The law SuperCopies, walked. -/
import Derived.Test.YtbjmhpbelkndpaaSuSt
import Derived.Test.YtbjmhpbelkndpaaSuSame
import Derived.Test.YtbjmhpbelkndpaaSuCopy
import Derived.Test.YtbjmhpbelkndpaaSuRow
namespace Go.Proofs.Ytbjmhpbelkndpaa
open Go.RowKit Go.PlainAid
set_option linter.unusedVariables false

/-- Numbers in a row; members in a row. -/
def IntsL (n : Nat) (xs : List Value) : Prop := ∀ i, i < n → ∃ m, xs[i]? = some (.int .i64 m)
/-- A copy with lists of its own. -/
def Cp (w2 : World) (R : Rec) (sb mb : Option Addr) (sd md : Nat) (gc : Nat) (L3 : List Value) (xs ys : List Value) (w : World) : Prop := Hold w2.heap.size w2 w (star (rowK 3 1 (.slice sb R.ns sd) R.ns xs) (star (rowK 50 3 (.slice mb R.nm md) R.nm ys) (star (blkA gc 29 L3) nought)))
section
variable {w2 w : World} {R : Rec} {sb mb : Option Addr} {sd md gc : Nat} {L3 xs ys : List Value}
theorem firm_cp2 : Firm (star (rowK 50 3 (.slice mb R.nm md) R.nm ys) (star (blkA gc 29 L3) nought)) := (firm_rowK _ _ _ _ _).star ((firm_blk _ _ _).star firm_nought)
theorem firm_cp1 : Firm (star (rowK 3 1 (.slice sb R.ns sd) R.ns xs) (star (blkA gc 29 L3) nought)) := (firm_rowK _ _ _ _ _).star ((firm_blk _ _ _).star firm_nought)
theorem Cp.below {w' : World} (h : Cp w2 R sb mb sd md gc L3 xs ys w) (hb : Below w.heap.size w w') : Cp w2 R sb mb sd md gc L3 xs ys w' := Hold.below h ((firm_rowK _ _ _ _ _).star firm_cp2) hb
theorem Cp.low (h : Cp w2 R sb mb sd md gc L3 xs ys w) : Below w2.heap.size w2 w := Hold.low h
theorem Cp.blk (h : Cp w2 R sb mb sd md gc L3 xs ys w) : Blk w gc 29 L3 := Hold.blk (Hold.right (Hold.right h))
/-- One number laid over. -/
theorem Cp.seat (h : Cp w2 R sb mb sd md gc L3 xs ys w) (hx : IntsL R.ns xs) (k : Nat) (hk : k < R.ns) : ∃ g m, sb = some ⟨g, 0, none⟩ ∧ w.cell? ⟨g, k, none⟩ = some (.int .i64 m) ∧ w.frozen? ⟨g, k, none⟩ = false ∧ ∀ v, IntsL R.ns (xs.set k (.int .i64 v)) ∧ Cp w2 R sb mb sd md gc L3 (xs.set k (.int .i64 v)) ys (w.setCell ⟨g, k, none⟩ (.int .i64 v)) := by
  obtain ⟨g, rfl⟩ := rowK_addr h (by omega)
  obtain ⟨m, hm⟩ := hx k hk
  obtain ⟨c1, c2⟩ := rowK_at h hm
  refine ⟨g, m, rfl, c1, c2, fun v => ⟨fun i hi => ?_, rowK_set firm_cp2 h k (by omega) _⟩⟩
  by_cases e : k = i
  · subst e
    have hl : k < xs.length := (List.getElem?_eq_some_iff.1 hm).1
    exact ⟨v, by rw [List.getElem?_set_self hl]⟩
  · rw [List.getElem?_set_ne e]; exact hx i hi
/-- One member's digest laid over. -/
theorem Cp.top (h : Cp w2 R sb mb sd md gc L3 xs ys w) (k : Nat) (hk : k < R.nm) : ∃ g m, mb = some ⟨g, 0, none⟩ ∧ w.cell? ⟨g, k * 3 + 1, none⟩ = some m ∧ w.frozen? ⟨g, k * 3 + 1, none⟩ = false ∧ ∀ v, Cp w2 R sb mb sd md gc L3 xs (ys.set (k * 3 + 1) v) (w.setCell ⟨g, k * 3 + 1, none⟩ v) := by
  have h' := Hold.swap h
  obtain ⟨g, rfl⟩ := rowK_addr h' (by omega)
  have hl : k * 3 + 1 < ys.length := by rw [h'.rowK.1]; omega
  obtain ⟨c1, c2⟩ := rowK_at h' (List.getElem?_eq_getElem hl)
  exact ⟨g, _, rfl, c1, c2, fun v => Hold.swap (rowK_set firm_cp1 h' (k * 3 + 1) (by omega) v)⟩
end
/-- What stands behind Copy, and the store of what it answers. -/
structure Ck (w2 w3 : World) (R : Rec) (sb mb : Option Addr) (sd md : Nat) (L3 : List Value) (w4 : World) : Prop where
  e : supV R sb mb sd md = L3
  o : ∀ v ∈ L3, v.oneCell' = true
  s : (Try.prog.info? 29).map (·.size) = some L3.length
  n : zS.length = L3.length
  ew : (w3.alloc (.cells zS.toArray 29)).setRow w3.heap.size L3.toArray = w4
  cp : Cp w2 R sb mb sd md w3.heap.size L3 (si R.ns R.seat) (memF R.st R.top R.log R.nm) w4
  l : Lies w4 R sb mb
  c7 : L3[7]? = some (.slice sb R.ns sd)
  c8 : L3[8]? = some (.slice mb R.nm md)
theorem copy_pack {w2 w3 : World} {R : Rec} {sb mb : Option Addr} {sd md : Nat} (h : Hold w2.heap.size w2 w3 (star (rowK 3 1 (.slice sb R.ns sd) R.ns (si R.ns R.seat)) (star (rowK 50 3 (.slice mb R.nm md) R.nm (memF R.st R.top R.log R.nm)) nought))) : ∃ L3 w4, Ck w2 w3 R sb mb sd md L3 w4 := by
  have hf : Firm (star (rowK 3 1 (.slice sb R.ns sd) R.ns (si R.ns R.seat)) (star (rowK 50 3 (.slice mb R.nm md) R.nm (memF R.st R.top R.log R.nm)) nought)) := (firm_rowK _ _ _ _ _).star ((firm_rowK _ _ _ _ _).star firm_nought)
  have h1 := h.newBlk hf 29 zS.toArray
  have h2 := h1.setRowBlk hf (supV R sb mb sd md)
  exact ⟨_, _, rfl, supV_one _ _ _ _ _, Try.size29, rfl, rfl, h2.swap.monoR (fun F h => star_swap h), (lies_own h).below (Below.boxed _ _ _ _), rfl, rfl⟩
set_option maxRecDepth 20000 in
set_option maxHeartbeats 4000000 in
theorem superCopies_law (x : Raw) (A : Nat → Int) (D : Nat → Dsk) (by_ : Int) (W : World) (hx : x.At A D W) (hf : (x.toR A D).Fine) (hby : -9223372036854775808 ≤ by_ ∧ by_ ≤ 9223372036854775807) : Calls Try.prog 5 #[.agg x.row.toArray, .int .i64 by_] W fun e w' => e = .returned (.bool true) ∧ Below W.heap.size W w' := by
  have hz1 := zeroSup
  have hz2 := zeroRSup
  obtain ⟨HS, hHS⟩ : ∃ HS, W.heap.size = HS := ⟨_, rfl⟩
  have hlow : Below W.heap.size W (W.alloc (.cells x.row.toArray 26)) := (Below.refl _ _).alloc (Nat.le_refl _) _
  have hbk := Blk.box W 26 x.row
  have hrec := records_any x A D _ (hx.below hlow)
  have hn1 : (x.toR A D).ns ≤ 100 := by show min x.xn 30 ≤ 100; omega
  have hn2 : (x.toR A D).nm ≤ 100 := by show min x.dn 20 ≤ 100; omega
  have HCP : Hid (∀ z sa ma sc mc, Lies z (x.toR A D) sa ma → NilOk sa (x.toR A D).ns sc → NilOk ma (x.toR A D).nm mc → Calls Try.prog 15 #[.agg (supV (x.toR A D) sa ma sc mc).toArray] z _) := fun z sa ma sc mc hl n1 n2 => scopy_any hn1 hn2 hl n1 n2
  have HSAME : Hid (∀ z ga ha sa mb gc hc sc md, Lies z (x.toR A D) ga ha → Lies z (x.toR A D) sa mb → Calls Try.prog 14 #[.agg (supV (x.toR A D) ga ha gc hc).toArray, .agg (supV (x.toR A D) sa mb sc md).toArray] z fun e w' => e = .returned (.bool true) ∧ Below z.heap.size z w') := fun z ga ha sa mb gc hc sc md h1 h2 => by
    have := same_any hn1 hn2 h1 h2 (sc := gc) (mc := hc) (sd := sc) (md := md)
    rwa [sameQ_yes (Rec.Same.refl _)] at this
  have hl9 : x.row.length = 9 := rfl
  have HL9 : Hid ((Try.prog.info? 26).map (·.size) = some x.row.length) := Try.size26
  generalize x.row = XR at *
  generalize x.toR A D = R at *
  rw [hHS] at hlow hbk ⊢
  have HLOW : Hid (Below HS W _) := hlow
  have HBK : Hid (Blk _ HS 26 XR) := hbk
  have HS9 : Hid ((Try.prog.info? 29).map (·.size) = some 9) := Try.size29
  clear hx hf hl9 hlow hbk
  go_enter Try.func5, Try.ntmps5
  go_wp2_with (first
    | (refine wpList_load_blk rfl 26 _ rfl HS rfl 26 XR _ HBK.out Try.underlying26 rfl HL9.out ?_)
    | (go_at_call 7; refine hrec.mono ?_; rintro e w1 ⟨sa, sc, ma, mc, mb, md, rfl, h1⟩; obtain ⟨L1, L2, w2, pk⟩ := rec_pack h1; have n1 := own_nil pk.own.rowK; have n2 := own_nil pk.own.right.rowK; have HC1 := fun z hl => HCP.out z sa ma sc mc hl n1 n2; have HE1 := fun z ga ha gc hc => HSAME.out z ga ha sa mb gc hc sc md; have HE0 := fun z => HSAME.out z sa ma sa mb sc mc sc md; rw [pk.e1] at HC1 HE0; rw [pk.e2] at HE1 HE0; rw [pk.e1, pk.e2]; have HC1 : Hid (∀ z, Lies z R sa ma → _) := HC1; have HE1 : Hid (∀ z ga ha gc hc, Lies z R ga ha → Lies z R sa mb → _) := HE1; have HE0 : Hid (∀ z, Lies z R sa ma → Lies z R sa mb → _) := HE0; have PK : Hid (Pk _ w1 R sa ma mb sc mc md L1 L2 w2) := pk; have ST : Hid (St HS W R sa ma mb L1 L2 w1.heap.size w2) := pk.st HLOW.out (by simp; omega); have hw2 := pk.ew; clear h1 pk n1 n2 HCP HSAME hrec HLOW HBK)
    | (refine wpList_store_blk rfl 29 _ _ rfl w1.heap.size zS L1 rfl rfl 29 PK.out.z1 PK.out.s1 PK.out.n1 PK.out.o1 ?_)
    | (refine wpList_store_blk rfl 32 _ _ rfl (w1.heap.size + 1) zS L2 rfl rfl 32 PK.out.z2 PK.out.s2 PK.out.n2 PK.out.o2 ?_; rw [hw2]; clear hw2)
    | (refine wpList_load_blk rfl 29 _ rfl w1.heap.size rfl 29 L1 _ ST.out.a Try.underlying29 rfl PK.out.s1 ?_)
    | (go_at_call 15; refine (HC1.out _ ST.out.la).mono ?_; rintro e w3 ⟨sb, sd, nb, nd, rfl, h3⟩; obtain ⟨L3, w4, ck⟩ := copy_pack h3; have HE2 := fun z => HE1.out z sb nb sd nd; rw [ck.e] at HE2 ⊢; have HE2 : Hid (∀ z, Lies z R sb nb → Lies z R sa mb → _) := HE2; have CK : Hid (Ck w2 w3 R sb nb sd nd L3 w4) := ck; have hw4 := ck.ew; have CP : Hid (Cp w2 R sb nb sd nd w3.heap.size L3 (si R.ns R.seat) (memF R.st R.top R.log R.nm) w4) := ck.cp; have LL : Hid (Lies w4 R sb nb) := ck.l; clear h3 ck HC1 HE1)
    | (refine wpList_store_blk rfl 29 _ _ rfl w3.heap.size zS L3 rfl rfl 29 (Blk.box _ _ _) CK.out.s CK.out.n CK.out.o ?_; rw [hw4]; clear hw4)
    | (go_at_call 10; refine (wakes14_any _).mono ?_; rintro e w5 ⟨rfl, hb5⟩; have cp := CP.out.below hb5; have ll := LL.out.below hb5; clear CP LL hb5; have CP : Hid (Cp w2 R sb nb sd nd w3.heap.size L3 (si R.ns R.seat) (memF R.st R.top R.log R.nm) w5) := cp; have LL : Hid (Lies w5 R sb nb) := ll; clear cp ll)
    | (refine wpList_load_blkG rfl 29 _ rfl w3.heap.size rfl 29 L3 _ CP.out.blk Try.underlying29 rfl CK.out.s ?_)
    | (refine wpList_load_blkG rfl 32 _ rfl (w1.heap.size + 1) rfl 32 L2 _ (ST.out.below CP.out.low).b Try.underlying32 rfl PK.out.s2 ?_)
    | (go_at_call 14; refine (HE2.out _ LL.out (ST.out.below CP.out.low).lb).mono ?_; rintro e w6 ⟨rfl, hb6⟩; have cp := CP.out.below hb6; clear CP LL hb6 HE2; have CP : Hid (Cp w2 R sb nb sd nd w3.heap.size L3 (si R.ns R.seat) (memF R.st R.top R.log R.nm) w6) := cp; have c7 := cp.blk.cell CK.out.c7; clear cp))
  go_loopw [28] (fun i wr => ∃ k : Nat, k ≤ R.ns ∧ i = .int .i64 (k : Int) ∧ ∃ xs, Hid (IntsL R.ns xs ∧ Cp w2 R sb nb sd nd w3.heap.size L3 xs (memF R.st R.top R.log R.nm) wr)) (fun i _ => R.ns - (intOf i).toNat)
  case atStart => exact ⟨0, Nat.zero_le _, rfl, _, ⟨fun i hi => ⟨_, si_at _ _ i hi⟩, CP.out⟩⟩
  case round =>
    clear CP c7
    obtain ⟨k, hk, rfl, xs, hr⟩ := hrel
    by_cases hlt : k < R.ns
    · have hlt' : (k : Int) < (R.ns : Int) := by omega
      obtain ⟨g, m, rfl, cK, fK, hset⟩ := hr.out.2.seat hr.out.1 k hlt
      have c7 := hr.out.2.blk.cell CK.out.c7
      have HSET : Hid (∀ v, IntsL R.ns (xs.set k (.int .i64 v)) ∧ Cp w2 R (some ⟨g, 0, none⟩) nb sd nd w3.heap.size L3 (xs.set k (.int .i64 v)) (memF R.st R.top R.log R.nm) (wr.setCell ⟨g, k, none⟩ (.int .i64 v))) := hset
      clear hr hset
      go_wp2
      go_roundw
      case rel => exact ⟨k + 1, by omega, by go_num, _, HSET.out _⟩
      case measure => simp [intOf]; omega
    · obtain rfl : k = R.ns := by omega
      have hlt' : ¬ (R.ns : Int) < (R.ns : Int) := by omega
      have c8 := hr.out.2.blk.cell CK.out.c8
      go_wp2
      go_loopw [43] (fun i wr => ∃ k : Nat, k ≤ R.nm ∧ i = .int .i64 (k : Int) ∧ ∃ ys, Hid (Cp w2 R sb nb sd nd w3.heap.size L3 xs ys wr)) (fun i _ => R.nm - (intOf i).toNat)
      case atStart => exact ⟨0, Nat.zero_le _, rfl, _, hr.out.2⟩
      case round =>
        clear hr c8
        obtain ⟨k, hk, rfl, ys, hr⟩ := hrel
        by_cases hlt : k < R.nm
        · have hlt' : (k : Int) < (R.nm : Int) := by omega
          obtain ⟨g, m, rfl, cK, fK, hset⟩ := hr.out.top k hlt
          have c8 := hr.out.blk.cell CK.out.c8
          have HSET : Hid (∀ v, Cp w2 R sb (some ⟨g, 0, none⟩) sd nd w3.heap.size L3 xs (ys.set (k * 3 + 1) v) (wr.setCell ⟨g, k * 3 + 1, none⟩ v)) := hset
          clear hr hset
          go_wp2
          go_roundw
          case rel => exact ⟨k + 1, by omega, by go_num, _, HSET.out _⟩
          case measure => simp [intOf]; omega
        · obtain rfl : k = R.nm := by omega
          have hlt' : ¬ (R.nm : Int) < (R.nm : Int) := by omega
          have ST2 : Hid (St HS W R sa ma mb L1 L2 w1.heap.size wr) := ST.out.below hr.out.low
          clear ST hr
          go_wp2_with (first
            | (refine wpList_load_blk rfl 29 _ rfl w1.heap.size rfl 29 L1 _ ST2.out.a Try.underlying29 rfl PK.out.s1 ?_)
            | (refine wpList_load_blk rfl 32 _ rfl (w1.heap.size + 1) rfl 32 L2 _ ST2.out.b Try.underlying32 rfl PK.out.s2 ?_)
            | (go_at_call 14; refine (HE0.out _ ST2.out.la ST2.out.lb).mono ?_; rintro e w8 ⟨rfl, hb8⟩; have st := ST2.out.below hb8; clear ST2 hb8; have ST2 : Hid (St HS W R sa ma mb L1 L2 w1.heap.size w8) := st; clear st))
          go_ret
          exact ⟨rfl, ST2.out.low⟩
end Go.Proofs.Ytbjmhpbelkndpaa
