/- The cells of a log, and its digest, by the program. -/
import Derived.Test.YtegebaomhbogmaaDoorInSum
import Derived.Test.YtegebaomhbogmaaDoorInLow
namespace Go.Proofs.YtegebaomhbogmaaDoor
open Go.RowKit Go.PlainAid
set_option linter.unusedVariables false
set_option maxRecDepth 20000

/-- The cells' row, and the write that is under way. -/
def Pt (w z : World) (a : Option Addr) (k c : Nat) (f : Nat → ByteArray) (g : Nat) (L : List Value) : Prop := Hold w.heap.size w z (star (rowK 9 1 (.slice a k c) k (txs k f)) (star (blkA g 49 L) nought))
theorem pt_firm (g : Nat) (L : List Value) : Firm (star (blkA g 49 L) nought) := (firm_blk _ _ _).star firm_nought
section
variable {w z z' : World} {a : Option Addr} {k c : Nat} {f : Nat → ByteArray} {g : Nat} {L : List Value}
theorem Pt.below (h : Pt w z a k c f g L) (hb : Below z.heap.size z z') : Pt w z' a k c f g L := Hold.below h ((firm_rowK _ _ _ _ _).star (pt_firm g L)) hb
theorem Pt.own (h : Pt w z a k c f g L) : Blk z g 49 L := (Hold.right h).blk
theorem Pt.row (h : Pt w z a k c f g L) : Hold w.heap.size w z (star (rowK 9 1 (.slice a k c) k (txs k f)) nought) := (Hold.swap h).right
theorem Pt.low (h : Pt w z a k c f g L) : Below w.heap.size w z := Hold.low h
theorem Pt.mk (h : Hold w.heap.size w z (star (rowK 9 1 (.slice a k c) k (txs k f)) nought)) (Z L : List Value) : Pt w ((z.alloc (.cells Z.toArray 49)).setRow z.heap.size L.toArray) a k c f z.heap.size L :=
  (((h.newBlk ((firm_rowK _ _ _ _ _).star firm_nought) 49 Z.toArray).setRowBlk ((firm_rowK _ _ _ _ _).star firm_nought) L)).swap
theorem Pt.push (h : Pt w z a k c f g L) (hk : k ≤ 1000) (x : ByteArray) (hx : f k = x) (ty : TypeId) :
    ∃ a' c' w', (Builtin.append_ #[27, 27] ty #[.slice a k c, .slice (some ⟨z.heap.size, 0, none⟩) 1 1]).run Tryd.prog (z.alloc (.cells #[.string x] 9)) = .ok (.slice a' (k + 1) c') w' ∧ Pt w w' a' (k + 1) c' f g L :=
  push_txt (pt_firm g L) h hk x hx ty
end
/-- A row of one text, to begin with. -/
theorem row_one {B : Nat} {w0 w : World} {R : Asn} (hR : Firm R) (h : Hold B w0 w R) (f : Nat → ByteArray) (x : ByteArray) (hx : f 0 = x) : Hold B w0 (w.alloc (.cells #[.string x] 9)) (star (rowK 9 1 (.slice (some ⟨w.heap.size, 0, none⟩) 1 1) 1 (txs 1 f)) R) :=
  Hold.new hR h ((Below.refl _ _).alloc (Nat.le_refl _) _) (G := fun k => k = w.heap.size) ⟨by
    have e : txs 1 f = (#[Value.string x] : Array Value).toList := by show [Value.string (f 0)] = _; rw [hx]
    rw [e]; exact World.ownsRow_lit w #[.string x] 1 (Nat.zero_le _) (by decide) rfl, fun k => ⟨fun e => by rw [e]; rfl, fun e => (Option.some.inj e).symm⟩⟩ (fun k hk => by rw [hk]; exact Nat.le_refl _)
theorem cat_small {n : Nat} {A : Nat → Int} {C : Nat → ByteArray} (hn : n ≤ 1000) (h : ∀ i, i < n → (C i).size ≤ 2032) : (cat (fun i => ctxB (celF n A C i)) 0 (n + 1)).size ≤ 900000000 := by
  have := cat_size (fun i => ctxB (celF n A C i)) 2056 (n + 1) 0 (fun j hj => by
    rw [Nat.zero_add]; show (ctxB _).size ≤ _; rw [ctxB_size]; have := celF_size (A := A) (C := C) n j h hj; omega)
  omega
set_option maxHeartbeats 4000000 in
theorem iput_any {w : World} {a : Option Addr} {n cap : Nat} {A : Nat → Int} {C : Nat → ByteArray} (hL : Wx w a n A C) (hn : n ≤ 1000) (ht : Tabs w) : Calls Tryd.prog 8 #[.slice a n cap] w fun e w' => ∃ a' c', e = .returned (.tuple #[.slice a' (lgN n A C) c', .string (lgD n A C), .int .i64 (lgE n A C)]) ∧ Cs w' a' (lgN n A C) (celF n A C) ∧ lgN n A C ≤ c' ∧ Below w.heap.size w w' := by
  by_cases h95 : 95 < n
  · have hE : lgE n A C = 10 := if_pos h95
    have hN : lgN n A C = 0 := if_neg (by rw [hE]; decide)
    have hD : lgD n A C = noB := if_neg (by rw [hE]; decide)
    rw [hE, hN, hD]
    have h95' : (96 : Int) ≤ (n : Int) := by omega
    go_enter Tryd.func8, Tryd.ntmps8
    go_wp2
    go_ret3
    exact ⟨none, 0, rfl, .inl rfl, Nat.le_refl _, Below.refl _ _⟩
  have h95' : ¬ (96 : Int) ≤ (n : Int) := by omega
  have h95'' : (n : Int) < 96 := by omega
  have hEE : Hid (lgE n A C = fsE A C n) := if_neg h95
  have HL : Hid (Wx w a n A C) := hL
  have HT : Hid (Tabs w) := ht
  have h2 : Hid (2 < w.heap.size) := ht.lt
  have hc0 := cnumF_any (n : Int) (by omega) (by omega) w
  have e0 : (n : Int) % 18446744073709551616 = (n : Int) := by omega
  have HF0 : Hid (celF n A C 0 = numB (n : Int)) := rfl
  have HFK : Hid (∀ k, celF n A C (k + 1) = numB (A k) ++ ctxB (C k)) := fun _ => rfl
  have HZ2 : Hid ((Tryd.prog.info? 49).map (·.size) = some 2) := Tryd.size49
  have hzw := zeroWr
  have HB1 : Hid (∀ z, Below w.heap.size w z → Hold w.heap.size w (z.alloc (.cells #[.string (numB (n : Int))] 9)) (star (rowK 9 1 (.slice (some ⟨z.heap.size, 0, none⟩) 1 1) 1 (txs 1 (celF n A C))) nought)) := fun z hz => row_one firm_nought (hold_nought w.heap.size w z hz.size hz) _ _ rfl
  clear hL ht
  generalize numB (n : Int) = N0 at *
  go_enter Tryd.func8, Tryd.ntmps8
  go_wp2_with (first
    | (go_at_call 19; refine hc0.mono ?_; rintro e w1 ⟨rfl, hb1⟩; have H1 : Hid (Hold w.heap.size w _ _) := HB1.out w1 hb1; clear hb1 hc0 HB1))
  generalize w1.alloc (.cells #[.string N0] 9) = w2 at *
  generalize w1.heap.size = g1 at *
  go_loopw [5, 19] (fun v i wr => ∃ (k c : Nat) (s : Option Addr), k ≤ n ∧ i = .int .i64 (k : Int) ∧ v = .slice s (k + 1) c ∧ Hid (fsE A C k = 0) ∧ Hid (Hold w.heap.size w wr (star (rowK 9 1 (.slice s (k + 1) c) (k + 1) (txs (k + 1) (celF n A C))) nought))) (fun _ i _ => n - (intOf i).toNat)
  case atStart => exact ⟨0, 1, _, Nat.zero_le _, rfl, rfl, rfl, H1.out⟩
  case round =>
    clear H1
    obtain ⟨k, c, s, hk, rfl, rfl, hfs, hh⟩ := hrel
    by_cases hlt : k < n
    · have hk' : (k : Int) < (n : Int) := by omega
      obtain ⟨b, o, hao, hr⟩ := HL.out.at hh.out.low k hlt
      have HR : Hid (wr.rangeAt b (o + k * 2) (wrow (A k) (C k))) := hr
      have H2 : Hid (Pt w _ s (k + 1) c (celF n A C) wr.heap.size [.int .i64 (A k), .string (C k)]) := Pt.mk hh.out [.int .i64 0, .string noB] [.int .i64 (A k), .string (C k)]
      obtain ⟨w2, hw2⟩ : ∃ w2, (wr.alloc (.cells #[.int .i64 0, .string noB] 49)).setRow wr.heap.size #[.int .i64 (A k), .string (C k)] = w2 := ⟨_, rfl⟩
      have H2 : Hid (Pt w w2 s (k + 1) c (celF n A C) wr.heap.size [.int .i64 (A k), .string (C k)]) := by rw [← hw2]; exact H2
      have hft : Hid (∀ z, Calls Tryd.prog 20 #[.agg #[.int .i64 (A k), .string (C k)]] z _) := fun z => ifault_any (A k) (C k) z
      have HB2 : Hid (Blk w2 wr.heap.size 49 [.int .i64 (A k), .string (C k)]) := H2.out.own
      clear hr hh
      subst hao
      by_cases hw : wrE (A k) (C k) = 0
      · obtain ⟨a0, a1, a2⟩ := wrE_zero.1 hw
        rw [hw] at hft
        have HFS : Hid (fsE A C (k + 1) = 0) := by show fsE A C (k + 1) = 0; rw [fsE_step hfs.out]; exact hw
        have hnm : Hid (∀ z, Calls Tryd.prog 19 #[.int .u64 (A k)] z _) := fun z => cnumF_any (A k) (by omega) (by omega) z
        have htx : Hid (∀ z, Calls Tryd.prog 21 #[.string (C k)] z _) := fun z => ctextF_any (C k) (by omega) z
        have HX : Hid (celF n A C (k + 1) = numB (A k) ++ ctxB (C k)) := rfl
        have hz1 := numB_size (A k)
        have hz2 := ctxB_size (C k)
        have hza : (9223372036854775807 < (numB (A k)).size + (ctxB (C k)).size) = False := by simp; omega
        have e1 : IntKind.u64.wrap (A k) = A k := IntWalk.u64_in _ ⟨by omega, by omega⟩
        have HK : Hid (k + 1 ≤ 1000) := (by omega : k + 1 ≤ 1000)
        have hkb : (k : Int) ≤ 95 := by omega
        clear hw hz1 hz2 a2 hfs
        generalize numB (A k) = t1 at *
        generalize ctxB (C k) = t2 at *
        generalize A k = ak at *
        generalize C k = ck at *
        go_wp2_with (first
          | (refine wpList_load_mid rfl 49 _ rfl b (o + k * 2) rfl _ _ HR.out Tryd.underlying49 rfl HZ2.out ?_)
          | (refine wpList_store_blk rfl 49 _ _ rfl wr.heap.size [.int .i64 0, .string noB] [.int .i64 ak, .string ck] rfl rfl 49 (Blk.box _ _ _) HZ2.out rfl (wrow_one _ _) ?_; rw [hw2]; clear hw2)
          | (refine wpList_load_blk rfl 49 _ rfl wr.heap.size rfl 49 [.int .i64 ak, .string ck] _ HB2.out Tryd.underlying49 rfl HZ2.out ?_)
          | (go_at_call 20; refine (hft.out _).mono ?_; rintro e w3 ⟨rfl, hb3⟩; have H3 : Hid (Pt w w3 s (k + 1) c (celF n A C) wr.heap.size [.int .i64 ak, .string ck]) := H2.out.below hb3; clear hb3 hft HB2 H2))
        generalize wr.heap.size = g at *
        have H4 : Hid (Pt w w3.drew s (k + 1) c (celF n A C) g [.int .i64 ak, .string ck]) := H3.out.below (Below.refl _ _).drew
        clear H3 HR
        refine wp_region_noPanic ?_
        refine wp_region_held_drew (S := fun z => Blk z g 49 [.int .i64 ak, .string ck]) (by kernel_rfl) H4.out.own (fun hHeld => ?_)
        generalize w3.drew = w4 at *
        refine wpAnyH_take (i := 0) (v := ?_) rfl (by kernel_rfl) (by kernel_rfl) (by kernel_rfl) (fun _ _ _ h => h) (Or.inl ⟨by rfl, ?_⟩) hHeld ?_
        rotate_left
        · intro w hSw; have d0 := hSw.cell (i := 0) rfl; have d1 := hSw.cell (i := 1) rfl; go_simp; try with_reducible rfl
        go_simp
        refine wpAnyH_take (i := 1) (v := ?_) rfl (by kernel_rfl) (by kernel_rfl) (by kernel_rfl) (fun _ _ _ h => h) (Or.inl ⟨by rfl, ?_⟩) hHeld ?_
        rotate_left
        · intro w hSw; have d0 := hSw.cell (i := 0) rfl; have d1 := hSw.cell (i := 1) rfl; go_simp; try with_reducible rfl
        go_simp
        refine wpAnyH_take (i := 2) (v := ?_) rfl (by kernel_rfl) (by kernel_rfl) (by kernel_rfl) (fun _ _ _ h => h) (Or.inl ⟨by rfl, ?_⟩) hHeld ?_
        rotate_left
        · intro w hSw; have d0 := hSw.cell (i := 0) rfl; have d1 := hSw.cell (i := 1) rfl; go_simp; try with_reducible rfl
        go_simp
        refine wpAnyH_take (i := 3) (v := ?_) rfl (by kernel_rfl) (by kernel_rfl) (by kernel_rfl) (fun _ _ _ h => h) (Or.inl ⟨by rfl, ?_⟩) hHeld ?_
        rotate_left
        · intro w hSw; have d0 := hSw.cell (i := 0) rfl; have d1 := hSw.cell (i := 1) rfl; go_simp; try with_reducible rfl
        go_simp
        refine wpAnyH_take (i := 5) (v := ?_) rfl (by kernel_rfl) (by kernel_rfl) (by kernel_rfl) (fun _ _ _ h => h) (Or.inl ⟨by rfl, ?_⟩) hHeld ?_
        rotate_left
        · intro w hSw; have d0 := hSw.cell (i := 0) rfl; have d1 := hSw.cell (i := 1) rfl; go_simp; try with_reducible rfl
        go_simp
        refine wpAnyH_take (i := 6) (v := ?_) rfl (by kernel_rfl) (by kernel_rfl) (by kernel_rfl) (fun _ _ _ h => h) (Or.inl ⟨by rfl, ?_⟩) hHeld ?_
        rotate_left
        · intro w hSw; have d0 := hSw.cell (i := 0) rfl; have d1 := hSw.cell (i := 1) rfl; go_simp; try with_reducible rfl
        go_simp
        have Hw4 := H4
        refine wpAnyH_ready (rs := [4]) (by kernel_rfl) (by simp) (AllReadyH.cons rfl (fun K hK => ?_) AllReadyH.nil)
        go_simp
        go_at_call 19
        refine (hnm.out _).mono ?_
        rintro e w5 ⟨rfl, hbw5⟩
        have Hw5 : Hid (Pt w w5 s (k + 1) c (celF n A C) g [.int .i64 ak, .string ck]) := Hw4.out.below hbw5
        refine hK.out _ _ Hw5.out.own (fun hHeld => ?_)
        clear hK K
        refine wpAnyH_ready (rs := [7]) (by kernel_rfl) (by simp) (AllReadyH.cons rfl (fun K hK => ?_) AllReadyH.nil)
        go_simp
        go_at_call 21
        refine (htx.out _).mono ?_
        rintro e w6 ⟨rfl, hbw6⟩
        have Hw6 : Hid (Pt w w6 s (k + 1) c (celF n A C) g [.int .i64 ak, .string ck]) := Hw5.out.below hbw6
        refine hK.out _ _ Hw6.out.own (fun hHeld => ?_)
        clear hK K
        refine wpAnyH_take (i := 8) (v := ?_) rfl (by kernel_rfl) (by kernel_rfl) (by kernel_rfl) (fun _ _ _ h => h) (Or.inl ⟨by rfl, ?_⟩) hHeld ?_
        rotate_left
        · intro w hSw; have d0 := hSw.cell (i := 0) rfl; have d1 := hSw.cell (i := 1) rfl; go_simp; try with_reducible rfl
        go_simp
        have H6 : Hid (Blk _ g 49 [.int .i64 ak, .string ck]) := (Hw6.out.below ((Below.refl w6.heap.size w6).alloc (Nat.le_refl _) (.cells #[.string (t1 ++ t2)] 9))).own
        obtain ⟨s', c', w7, hrun, H7'⟩ := Hw6.out.push HK.out (t1 ++ t2) HX.out 27
        have H7 : Hid (Pt w w7 s' (k + 1 + 1) c' (celF n A C) g [.int .i64 ak, .string ck]) := H7'
        clear H7'
        refine wpAnyH_ready (rs := [9]) (by kernel_rfl) (by simp) (AllReadyH.cons rfl (fun K hK => ?_) AllReadyH.nil)
        go_simp
        refine hK.out _ _ H6.out (fun hHeld => ?_)
        clear hK K
        refine wpAnyH_ready (rs := [10]) (by kernel_rfl) (by simp) (AllReadyH.cons rfl (fun K hK => ?_) AllReadyH.nil)
        refine step_append_ty rfl _ _ 27 27 rfl _ _ rfl rfl _ _ hrun ?_
        refine hK.out _ _ H7.out.own (fun hHeld => ?_)
        clear hK K
        refine wpAnyH_take (i := 11) (v := ?_) rfl (by kernel_rfl) (by kernel_rfl) (by kernel_rfl) (fun _ _ _ h => h) (Or.inl ⟨by rfl, ?_⟩) hHeld ?_
        rotate_left
        · intro w hSw; have d0 := hSw.cell (i := 0) rfl; have d1 := hSw.cell (i := 1) rfl; go_simp; try with_reducible rfl
        go_simp
        refine wpAnyH_done (by kernel_rfl) ?_ _
        refine NoPanic.normal ?_
        go_wp2
        go_roundw
        case rel => exact ⟨k + 1, c', s', by omega, by go_num, rfl, HFS.out, H7.out.row⟩
        case measure => simp [intOf]; omega
      · have hE : lgE n A C = wrE (A k) (C k) := by rw [hEE.out]; exact fsE_stop hfs.out hlt hw
        have hN : lgN n A C = 0 := if_neg (by rw [hE]; exact hw)
        have hD : lgD n A C = noB := if_neg (by rw [hE]; exact hw)
        have HA : Hid (lgE n A C = wrE (A k) (C k) ∧ lgN n A C = 0 ∧ lgD n A C = noB) := ⟨hE, hN, hD⟩
        have hw' : (wrE (A k) (C k) != 0) = true := by simpa using hw
        clear hE hN hD hw
        generalize wrE (A k) (C k) = E at *
        generalize A k = ak at *
        generalize C k = ck at *
        go_wp2_with (first
          | (refine wpList_load_mid rfl 49 _ rfl b (o + k * 2) rfl _ _ HR.out Tryd.underlying49 rfl HZ2.out ?_)
          | (refine wpList_store_blk rfl 49 _ _ rfl wr.heap.size [.int .i64 0, .string noB] [.int .i64 ak, .string ck] rfl rfl 49 (Blk.box _ _ _) HZ2.out rfl (wrow_one _ _) ?_; rw [hw2]; clear hw2)
          | (refine wpList_load_blk rfl 49 _ rfl wr.heap.size rfl 49 [.int .i64 ak, .string ck] _ HB2.out Tryd.underlying49 rfl HZ2.out ?_)
          | (go_at_call 20; refine (hft.out _).mono ?_; rintro e w3 ⟨rfl, hb3⟩; have H3 : Hid (Pt w w3 s (k + 1) c (celF n A C) wr.heap.size [.int .i64 ak, .string ck]) := H2.out.below hb3; clear hb3 hft HB2 H2))
        go_ret3
        exact ⟨none, 0, by rw [HA.out.1, HA.out.2.1, HA.out.2.2]; rfl, by rw [HA.out.2.1]; exact .inl rfl, by rw [HA.out.2.1]; exact Nat.zero_le _, H3.out.low⟩
    · obtain rfl : k = n := by omega
      have hk' : ¬ (k : Int) < (k : Int) := by omega
      have hE : lgE k A C = 0 := by rw [hEE.out]; exact hfs.out
      have hN : lgN k A C = k + 1 := if_pos hE
      have hD : lgD k A C = dgT (celF k A C) (k + 1) := if_pos hE
      have hall := fsE_all hfs.out
      have hsz := cat_small (A := A) (C := C) hn (fun i hi => (wrE_zero.1 (hall i hi)).2.2)
      have HCS : Hid (Cs wr s (k + 1) (celF k A C)) := own_cs hh.out.rowK
      have HCP : Hid (k + 1 ≤ c) := own_cap hh.out.rowK
      have hsum : Hid (Calls Tryd.prog 22 #[.slice s (k + 1) c, .int .i64 ((k + 1 : Nat) : Int)] wr _) := isum_any (cap := c) HCS.out (Nat.le_refl _) (by omega) hsz (HT.out.below hh.out.low h2.out)
      have HA : Hid (lgE k A C = 0 ∧ lgN k A C = k + 1 ∧ lgD k A C = dgT (celF k A C) (k + 1)) := ⟨hE, hN, hD⟩
      have ek : ((k + 1 : Nat) : Int) = (k : Int) + 1 := by omega
      rw [ek] at hsum
      clear hE hN hD hall hsz ek
      go_wp2_with (first
        | (go_at_call 22; refine hsum.out.mono ?_; rintro e w3 ⟨rfl, hb3⟩; have L3 : Hid (Below w.heap.size w w3) := hh.out.low.trans (hb3.mono hh.out.size); have C3 : Hid (Cs w3 s (k + 1) (celF k A C)) := HCS.out.below hb3; clear hb3 hsum HCS hh))
      go_ret3
      exact ⟨s, c, by rw [HA.out.1, HA.out.2.1, HA.out.2.2]; rfl, by rw [HA.out.2.1]; exact C3.out, by rw [HA.out.2.1]; exact HCP.out, L3.out⟩
end Go.Proofs.YtegebaomhbogmaaDoor
