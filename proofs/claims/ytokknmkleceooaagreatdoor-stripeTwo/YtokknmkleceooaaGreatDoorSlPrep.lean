import Derived.Test.YtokknmkleceooaaGreatDoorSlPrep0
namespace Go.Proofs.YtokknmkleceooaaGreatDoor
open Go.RowKit Go.PlainAid
set_option linter.unusedVariables false
set_option maxRecDepth 20000
set_option maxHeartbeats 2000000 in
theorem sprep_any {w : World} {g N : Nat} {D : Nat → Dk} {sn : Nat} {p : Option Nat} (hB : Bk w g N D sn p) (ht : Tabs w) {i : Nat} (hi : i < N) (hdn : 140 ≤ (D i).n) {d n : Nat} (hn : 2 ^ d = n) (hd : 1 ≤ d ∧ d ≤ 4) {key : ByteArray} (hg : GoodIs w (slV (.pointer (some ⟨g, 0, none⟩)) (i : Int) (n : Int) key) true) (top : ByteArray) {a : Option Addr} {c : Nat} {l : List (Int × ByteArray)} (hl : Cg w 92 a l) (hm : l.length ≤ 100) (hrf : rfE (n : Int) l = 0) :
    Calls Tryz.prog 37 #[slV (.pointer (some ⟨g, 0, none⟩)) (i : Int) (n : Int) key, .string top, .slice a l.length c] w fun e w' => ((prR (rdS p (D i)) (eR p (D i)) d (sl0 top) l).1 ≠ 0 → e = .returned (.tuple #[.slice none 0 0, .string noB, .int .i64 (prR (rdS p (D i)) (eR p (D i)) d (sl0 top) l).1])) ∧
      ((prR (rdS p (D i)) (eR p (D i)) d (sl0 top) l).1 = 0 → ∃ v, e = .returned (.tuple #[v, .string (prR (rdS p (D i)) (eR p (D i)) d (sl0 top) l).2.top, .int .i64 0]) ∧ w'.ownsRow w.heap.size 144 2 v (slW (prR (rdS p (D i)) (eR p (D i)) d (sl0 top) l).2).length (pairs (slW (prR (rdS p (D i)) (eR p (D i)) d (sl0 top) l).2))) ∧ Below w.heap.size w w' := by
  have h16 : n ≤ 16 := by rw [← hn]; exact pow_le16 d hd.2
  have hb : Hid (Below w.heap.size w (w.alloc (.cells #[.pointer (some ⟨g, 0, none⟩), .int .i64 (i : Int), .int .i64 (n : Int), .string key] 45))) := (Below.refl _ _).alloc (Nat.le_refl _) _
  have hBx : Hid (Blk _ _ _ _) := Blk.box w 45 [.pointer (some ⟨g, 0, none⟩), .int .i64 (i : Int), .int .i64 (n : Int), .string key]
  have hz : Hid ((Tryz.prog.info? 45).map (·.size) = some 4) := Tryz.size45
  have hz2 : Hid ((Tryz.prog.info? 92).map (·.size) = some 2) := Tryz.sizeChg17
  have hz3 : Hid ((Tryz.prog.info? 119).map (·.size) = some 3) := Tryz.sizeWay17
  have hzc := zeroChg
  have hzw := zeroWay
  have hzr := zero17
  have hmk := @run_makeMap Tryz.prog
  have HC : Hid (Cg w 92 a l) := hl
  have HIN : Hid (∀ (k : Nat) q, l[k]? = some q → ∃ s : Nat, q.1 = (s : Int) ∧ s < n ∧ q.2.size ≤ 2032) := fun k q hk => by
    obtain ⟨⟨h1, h2⟩, h3⟩ := rfE_all hrf q (List.mem_of_getElem? hk)
    exact ⟨q.1.toNat, by omega, by omega, h3⟩
  have hrc : Hid (Calls _ _ _ _ _) := srefuse_any (hg.below hb.out) (hl.below hb.out) (c := c) (by omega)
  rw [hrf] at hrc
  have HLE : Hid (∀ z b1 n1 (S : Sl) s, Below w.heap.size w z → MapW z b1 100 n1 S.ch → s < n → Calls Tryz.prog 54 #[slV (.pointer (some ⟨g, 0, none⟩)) (i : Int) (n : Int) key, .string S.top, .int .i64 (s : Int), .map (some b1)] z fun e w' => (∃ a1 n1 c1 a2 n2 c2 lf, e = .returned (.tuple #[.agg #[.slice a1 n1 c1, .slice a2 n2 c2, .string lf], .int .i64 (ovE (rdS p (D i)) (eR p (D i)) S d s)]) ∧
      (ovE (rdS p (D i)) (eR p (D i)) S d s = 0 → n1 = d ∧ n2 = d ∧ fol d s (slk (rdS p (D i)) S d s) S.top d = some lf ∧ Hold z.heap.size z w' (star (rowK 3 1 (.slice a1 n1 c1) d (nr .i64 d (nd d s))) (star (rowK 9 1 (.slice a2 n2 c2) d (strs d (slk (rdS p (D i)) S d s))) nought)))) ∧ Below z.heap.size z w') := fun z b1 n1 S s hz hmp hs => slead_any (hB.below hz) (ht.below hz ht.lt) hi hdn hn hd key S (.inr ⟨b1, n1, rfl, hmp⟩) hs
  have HLF : Hid (∀ z t, Below w.heap.size w z → t.size ≤ 2032 → Calls Tryz.prog 57 #[.string t] z fun e w' => e = .returned (.string (lH t)) ∧ Below z.heap.size z w') := fun z t hz hs => leaf_any t (by omega) z (ht.below hz ht.lt)
  have HPU : Hid (∀ z s a2 c2 (q : Nat → ByteArray) x, Below w.heap.size w z → s < n → Sa z a2 d q → (∀ k, k < d → (q k).size = 64) → x.size = 32 → Calls Tryz.prog 79 #[.int .i64 (s : Int), .slice a2 d c2, .string x] z fun e w' => ∃ v, e = .returned (.tuple #[v, .string (cur d s q x d), .int .i64 0]) ∧ w'.ownsRow z.heap.size 9 1 v d (strs d (neu d s q x)) ∧ Below z.heap.size z w') := fun z s a2 c2 q x hz hs hS hq hx => put_ok a2 d c2 s x q ⟨hd.1, hd.2, by omega, by omega⟩ ⟨hx, hq⟩ z hS (ht.below hz ht.lt)
  have HPA : Hid (∀ z (k : Nat), k < 16 → Calls Tryz.prog 73 #[.int .i64 (k : Int)] z fun e w' => e = .returned (.int .i64 ((100 + k : Nat) : Int)) ∧ w' = z) := fun z k hk => pairAt_any k (by omega) z
  have HCA : Hid (∀ z (k : Nat), k < 16 → Calls Tryz.prog 56 #[.int .i64 (k : Int)] z fun e w' => e = .returned (.int .i64 ((120 + k : Nat) : Int)) ∧ w' = z) := fun z k hk => cellAt_any k (by omega) z
  have HND : Hid (∀ s k, s < n → k < d → nd d s k < 16) := fun s k hs hk => by have := (nd_inner d s k hk (by omega)).2; omega
  have HSP : Hid (∀ s, s < n → s < 2 ^ d) := fun s hs => by omega
  generalize hrd : rdS p (D i) = rd at *
  generalize her : eR p (D i) = E at *
  obtain ⟨X, hX⟩ : ∃ X, prR rd E d (sl0 top) l = X := ⟨_, rfl⟩
  rw [hX]
  have HAP : Hid (prR rd E d (sl0 top) l = X) := hX
  have Hq : Hid (∀ (k : Nat) q, l[k]? = some q → l.drop k = q :: l.drop (k + 1)) := fun k q hk => by
    obtain ⟨h1, h2⟩ := List.getElem?_eq_some_iff.1 hk
    rw [List.drop_eq_getElem_cons h1, h2]
  have H0 := (hold_nought w.heap.size w w (Nat.le_refl _) (Below.refl _ _)).newBlk firm_nought 45 #[.pointer (some ⟨g, 0, none⟩), .int .i64 (i : Int), .int .i64 (n : Int), .string key]
  generalize hql : l.length = m at *
  have HQL : Hid (l.length = m) := hql
  have hd2 : d ≤ 4 := hd.2
  generalize hpv : Value.pointer (some ⟨g, 0, none⟩) = pv at *
  clear hX hl hg hql hrd her hB ht hi hdn hn hd hrf hpv
  go_enter Tryz.func37, Tryz.ntmps37
  go_wp2_with (first
    | (refine wpList_load_blk rfl 45 _ rfl w.heap.size rfl 45 [pv, .int .i64 (i : Int), .int .i64 (n : Int), .string key] _ hBx.out Tryz.underlying45 rfl hz.out ?_)
    | (go_at_call 78; refine hrc.out.mono ?_; rintro e w1 ⟨rfl, hw⟩; have h1 := H0.below ((firm_blk _ _ _).star firm_nought) hw; have H1 : Hid (Pp w ((w1.alloc (.map #[] 0)).alloc (.map #[] 0)) [pv, .int .i64 (i : Int), .int .i64 (n : Int), .string key] w1.heap.size (w1.heap.size + 1) 0 0 (sl0 top).ch (sl0 top).ce) := Pp.start w _ h1; clear hw h1))
  generalize hw2 : (w1.alloc (.map #[] 0)).alloc (.map #[] 0) = w2 at *
  generalize hb2 : w1.heap.size + 1 = b2 at *
  generalize hb1 : w1.heap.size = b1 at *
  clear hw2 hb2 hb1 hrc H0 hmk
  go_loopw [12, 33] (fun tv j wr => ∃ (k n1 n2 : Nat) (S : Sl), k ≤ m ∧ j = .int .i64 (k : Int) ∧ tv = .string S.top ∧ Hid (n1 ≤ 4 * k ∧ n2 ≤ k) ∧ Hid (prR rd E d S (l.drop k) = X) ∧ Hid (Pp w wr [pv, .int .i64 (i : Int), .int .i64 (n : Int), .string key] b1 b2 n1 n2 S.ch S.ce)) (fun _ j _ => m - (intOf j).toNat)
  case atStart => exact ⟨0, 0, 0, sl0 top, Nat.zero_le _, rfl, rfl, ⟨Nat.le_refl _, Nat.le_refl _⟩, HAP.out, H1.out⟩
  case round =>
    clear H1 HAP
    obtain ⟨k, n1, n2, S, hk, rfl, rfl, hcnt, hap, hh⟩ := hrel
    by_cases hlt : k < m
    · have hk' : (k : Int) < (m : Int) := by omega
      obtain ⟨q, hp⟩ : ∃ q, l[k]? = some q := ⟨_, List.getElem?_eq_getElem (by have := HQL.out; omega)⟩
      obtain ⟨bq, oq, hgq, hrg⟩ := HC.out.at hh.out.low hp
      subst hgq
      obtain ⟨s, hs1, hs2, hs3⟩ := HIN.out k q hp
      have hcons := Hq.out k q hp
      have hap1 := hap.out
      rw [hcons] at hap1
      have hq1 : q.1.toNat = s := by omega
      obtain ⟨q1, t⟩ := q
      simp only at hs1 hs3 hrg hq1
      subst hs1
      have HRG : Hid (wr.rangeAt bq (oq + k * 2) [.int .i64 (s : Int), .string t]) := hrg
      have hh2 : Hid (Pp w (wr.alloc (.cells [.int .i64 (s : Int), .string t].toArray 92)) [pv, .int .i64 (i : Int), .int .i64 (n : Int), .string key] b1 b2 n1 n2 S.ch S.ce) := hh.out.below ((Below.refl _ _).alloc (Nat.le_refl _) _)
      have hN2 : Hid (Blk (wr.alloc (.cells [.int .i64 (s : Int), .string t].toArray 92)) wr.heap.size 92 [.int .i64 (s : Int), .string t]) := Blk.box _ _ _
      have hB2 : Hid (Blk (wr.alloc (.cells [.int .i64 (s : Int), .string t].toArray 92)) w.heap.size 45 [pv, .int .i64 (i : Int), .int .i64 (n : Int), .string key]) := hh2.out.box
      have hle := HLE.out _ b1 n1 S s hh2.out.low hh2.out.m1 hs2
      by_cases hE : ovE rd E S d s = 0
      · have hap2 : Hid (prR rd E d (sl1 rd S d s t) (l.drop (k + 1)) = X) := by
          show _ = _
          rw [← hap1, prR_ok (by rw [Int.toNat_natCast]; exact hE), Int.toNat_natCast]
        have HOV : Hid (ovE rd E S d s = 0) := hE
        rw [hE] at hle
        clear hap hap1 hcons hE hq1 hrg
        obtain ⟨wz, hwz⟩ : ∃ wz, wr.alloc (.cells [.int .i64 (s : Int), .string t].toArray 92) = wz := ⟨_, rfl⟩
        have HWZ : Hid (wr.alloc (.cells [.int .i64 (s : Int), .string t].toArray 92) = wz) := hwz
        rw [hwz] at hh2 hN2 hB2 hle
        have d0 := hN2.out.cell (i := 0) rfl
        clear hwz
        go_wp2_with (first
          | (refine wpList_load_mid rfl 92 _ rfl bq (oq + k * 2) rfl [.int .i64 (s : Int), .string t] _ HRG.out Tryz.underlying92 rfl hz2.out ?_)
          | (refine wpList_store_blk rfl 92 _ _ rfl wr.heap.size [.int .i64 0, .string noB] [.int .i64 (s : Int), .string t] rfl rfl 92 (Blk.box _ _ _) hz2.out rfl (wrow17 _ _) ?_; rw [set_over, HWZ.out])
          | (refine wpList_load_blk rfl 45 _ rfl w.heap.size rfl 45 [pv, .int .i64 (i : Int), .int .i64 (n : Int), .string key] _ hB2.out Tryz.underlying45 rfl hz.out ?_)
          | (go_at_call 54; refine hle.mono ?_; rintro e w4 ⟨⟨a1, n1', c1, a2, n2', c2, lf, rfl, hrows⟩, hw4⟩; have HRW : Hid (_ ∧ _ ∧ _ ∧ _) := hrows trivial; have L4 : Hid (Below wz.heap.size wz w4) := hw4; clear hrows hw4 hle)
          | (refine wpList_store_blk rfl 119 _ _ rfl w4.heap.size [.slice none 0 0, .slice none 0 0, .string noB] [.slice a1 n1' c1, .slice a2 n2' c2, .string lf] rfl rfl 119 (Blk.box _ _ _) hz3.out rfl (way_one _ _ _ _ _ _ _) ?_; rw [set_over]))
        obtain ⟨e1, e2, hfo, hrws⟩ := HRW.out
        have e1' := e1.symm
        have e2' := e2.symm
        clear e1 e2
        subst e1' e2'
        clear HRW
        have HFO : Hid (fol d s (slk rd S d s) S.top d = some lf) := hfo
        have HNR : Hid (w4.ownsRow wz.heap.size 3 1 (.slice a1 d c1) d (nr .i64 d (nd d s))) := hrws.rowBack
        have HPR : Hid (w4.ownsRow wz.heap.size 9 1 (.slice a2 d c2) d (strs d (slk rd S d s))) := hrws.right.rowBack
        clear hfo hrws d0 hB2
        have hgl4 : Hid (wz.heap.size ≤ w4.heap.size) := L4.out.size
        have L5 : Hid (Below wz.heap.size wz (w4.alloc (.cells [.slice a1 d c1, .slice a2 d c2, .string lf].toArray 119))) := L4.out.alloc L4.out.size _
        have hBw : Hid (Blk (w4.alloc (.cells [.slice a1 d c1, .slice a2 d c2, .string lf].toArray 119)) w4.heap.size 119 [.slice a1 d c1, .slice a2 d c2, .string lf]) := Blk.box _ _ _
        have K45 : Hid (Below w4.heap.size w4 (w4.alloc (.cells [.slice a1 d c1, .slice a2 d c2, .string lf].toArray 119))) := (Below.refl _ _).alloc (Nat.le_refl _) _
        generalize hw5 : w4.alloc (.cells [.slice a1 d c1, .slice a2 d c2, .string lf].toArray 119) = w5 at *
        generalize hgw : w4.heap.size = gw at *
        have hgw5 : Hid (gw ≤ w5.heap.size) := by show gw ≤ _; rw [← hgw]; exact K45.out.size
        have HS : Hid (∀ z, Below w5.heap.size w5 z → (z.cell? ⟨wr.heap.size, 0, none⟩ = some (.int .i64 (s : Int)) ∧ z.cell? ⟨wr.heap.size, 1, none⟩ = some (.string t) ∧ z.cell? ⟨gw, 1, none⟩ = some (.slice a2 d c2)) ∧ z.cell? ⟨gw, 0, none⟩ = some (.slice a1 d c1) ∧ Below w.heap.size w z ∧ Sa z a2 d (slk rd S d s) ∧ Below wz.heap.size wz z ∧ z.ownsRow wz.heap.size 3 1 (.slice a1 d c1) d (nr .i64 d (nd d s))) := fun z hz => by
          have hq : Below wz.heap.size wz z := L5.out.trans (hz.mono L5.out.size)
          have h4 : Below gw w4 z := K45.out.trans (hz.mono hgw5.out)
          have h1 := hN2.out.below hq hN2.out.lt
          have h2 := hBw.out.below hz hBw.out.lt
          have hK : Kept (fun _ => False) w4 z := Kept.ofBelow (by rw [hgw]; exact h4)
          obtain ⟨a', c', e1, e2⟩ := Sa.owns (owns_kept HPR.out hK (fun _ _ h => h))
          cases e1
          exact ⟨⟨h1.cell (i := 0) rfl, h1.cell (i := 1) rfl, h2.cell (i := 1) rfl⟩, h2.cell (i := 0) rfl, hh2.out.low.trans (hq.mono hh2.out.low.size), e2, hq, owns_kept HNR.out hK (fun _ _ h => h)⟩
        have M0 : Hid (Below w5.heap.size w5 w5.drew) := (Below.refl _ _).drew
        have HSZ : Hid (∀ k, k < d → (slk rd S d s k).size = 64) := fol_sizes HFO.out
        clear hw5 hgw hBw K45 L5 L4 HNR HPR
        refine wp_region_noPanic ?_
        refine wp_region_held_drew (S := fun z : World => z.cell? ⟨wr.heap.size, 0, none⟩ = some (.int .i64 (s : Int)) ∧ z.cell? ⟨wr.heap.size, 1, none⟩ = some (.string t) ∧ z.cell? ⟨gw, 1, none⟩ = some (.slice a2 d c2)) (by kernel_rfl) (HS.out _ M0.out).1 (fun hHeld => ?_)
        refine tkH 0 ?_; go_simp
        refine tkH 1 ?_; go_simp
        refine tkH 2 ?_; go_simp
        refine tkH 3 ?_; go_simp
        refine tkH 4 ?_; go_simp
        refine tkH 5 ?_; go_simp
        refine rdH 6 fun K hK => ?_
        go_simp
        go_at_call 57
        refine (HLF.out _ t (HS.out _ M0.out).2.2.1 hs3).mono ?_
        rintro x wa ⟨rfl, hba⟩
        have M1 : Hid (Below w5.heap.size w5 wa) := M0.out.trans (hba.mono M0.out.size)
        clear hba
        refine hK.out _ _ (HS.out _ M1.out).1 (fun hHeld => ?_)
        clear hK K
        refine rdH 7 fun K hK => ?_
        go_simp
        go_at_call 79
        refine (HPU.out _ s a2 c2 _ (lH t) (HS.out _ M1.out).2.2.1 hs2 (HS.out _ M1.out).2.2.2.1 HSZ.out (lH_size t)).mono ?_
        rintro x wb ⟨cv, rfl, hrow, hbb⟩
        obtain ⟨a3, c3, rfl⟩ := owns_form hrow
        have HQ : Hid (Pq w wb [pv, .int .i64 (i : Int), .int .i64 (n : Int), .string key] b1 b2 n1 n2 S.ch S.ce (.slice a1 d c1) (.slice a3 d c3) d s (neu d s (slk rd S d s) (lH t)) wr.heap.size [.int .i64 (s : Int), .string t]) := Pq.start hh.out [.int .i64 (s : Int), .string t] (zb := wa) (by rw [HWZ.out]; exact (HS.out _ M1.out).2.2.2.2.1) (by rw [HWZ.out]; exact (HS.out _ M1.out).2.2.2.2.2) hbb hrow
        have M2 : Hid (Below w5.heap.size w5 wb) := M1.out.trans (hbb.mono M1.out.size)
        clear hbb hrow
        refine hK.out _ _ (HS.out _ M2.out).1 (fun hHeld => ?_)
        clear hK K
        refine tkH 8 ?_; go_simp
        refine tkH 9 ?_; go_simp
        refine tkH 10 ?_; go_simp
        refine tkH 11 ?_; go_simp
        refine tkH 12 ?_; go_simp
        refine tkH 13 ?_; go_simp
        refine tkH 14 ?_; go_simp
        refine wpAnyH_done (by kernel_rfl) ?_ _
        refine NoPanic.normal ?_
        have f0 := (HS.out _ M2.out).2.1
        have HSX : Hid (∀ x, x < 1 → True) := fun _ _ => trivial
        obtain ⟨x, hx⟩ : ∃ x, neu d s (slk rd S d s) (lH t) = x := ⟨_, rfl⟩
        rw [hx] at HQ
        have HCJ : Hid (chJ S.ch d s x d = slCh rd S d s t) := by rw [← hx]; exact chJ_all (HSP.out s hs2)
        clear hx HSX
        obtain ⟨cu, hcu⟩ : ∃ cu, cur d s (slk rd S d s) (lH t) d = cu := ⟨_, rfl⟩
        have HCU : Hid (cur d s (slk rd S d s) (lH t) d = cu) := hcu
        rw [hcu]
        clear hcu
        go_wp2
        obtain ⟨gc, hgc⟩ : ∃ gc, wr.heap.size = gc := ⟨_, rfl⟩
        rw [hgc] at HQ
        rw [hgc]
        clear hgc M2 M1 M0 HS hh hh2 hN2 HWZ HFO HSZ HOV f0 HRG
        obtain ⟨wo, hwo⟩ : ∃ wo, wr = wo := ⟨_, rfl⟩
        subst hwo
        go_loopw [64] (fun j wy => ∃ kk : Nat, kk ≤ d ∧ j = .int .i64 (kk : Int) ∧ Hid (Pq w wy [pv, .int .i64 (i : Int), .int .i64 (n : Int), .string key] b1 b2 (n1 + kk) n2 (chJ S.ch d s x kk) S.ce (.slice a1 d c1) (.slice a3 d c3) d s x gc [.int .i64 (s : Int), .string t])) (fun j _ => d - (intOf j).toNat)
        case atStart => exact ⟨0, Nat.zero_le _, rfl, HQ.out⟩
        case round =>
          clear HQ
          obtain ⟨kk, hkk, rfl, hq⟩ := hrel
          by_cases hlt2 : kk < d
          · have hkk' : (kk : Int) < (d : Int) := by omega
            obtain ⟨g1, hg1, hcn⟩ := owns_cell hq.out.nrow (nr_at .i64 d (nd d s) kk hlt2)
            subst hg1
            obtain ⟨g3, hg3, hcx⟩ := owns_cell hq.out.crow (strs_at d x kk hlt2)
            subst hg3
            have hn16 := HND.out s kk hs2 hlt2
            have hq1 : Hid (Pq w wr.drew [pv, .int .i64 (i : Int), .int .i64 (n : Int), .string key] b1 b2 (n1 + kk) n2 (chJ S.ch d s x kk) S.ce (.slice (some ⟨g1, 0, none⟩) d c1) (.slice (some ⟨g3, 0, none⟩) d c3) d s x gc [.int .i64 (s : Int), .string t]) := hq.out.below (Below.refl _ _).drew
            obtain ⟨w7, hput, h7⟩ := hq1.out.put1 (by have := hcnt.out; omega) hn16 (x kk)
            have H7 : Hid (Pq w w7 [pv, .int .i64 (i : Int), .int .i64 (n : Int), .string key] b1 b2 (n1 + (kk + 1)) n2 (chJ S.ch d s x (kk + 1)) S.ce (.slice (some ⟨g1, 0, none⟩) d c1) (.slice (some ⟨g3, 0, none⟩) d c3) d s x gc [.int .i64 (s : Int), .string t]) := h7
            have hs7 : Hid (w7.cell? ⟨g3, kk, none⟩ = some (.string (x kk))) := by
              obtain ⟨g', e1, e2⟩ := owns_cell h7.crow (strs_at d x kk hlt2)
              cases e1; exact e2
            have hs0 : Hid (wr.drew.cell? ⟨g3, kk, none⟩ = some (.string (x kk))) := hcx
            clear h7 hq
            generalize x kk = xk at *
            generalize hA : ((100 + nd d s kk : Nat) : Int) = A at *
            have HPA2 : Hid (∀ z, Calls Tryz.prog 73 #[.int .i64 ((nd d s kk : Nat) : Int)] z fun e w' => e = .returned (.int .i64 A) ∧ w' = z) := fun z => by rw [← hA]; exact HPA.out z _ hn16
            clear hA
            generalize nd d s kk = nk at *
            go_wp2
            refine wp_region_noPanic ?_
            refine wp_region_held_drew (S := fun z : World => z.cell? ⟨g3, kk, none⟩ = some (.string xk)) (by kernel_rfl) hs0.out (fun hHeld => ?_)
            refine tkH 0 ?_; go_simp
            refine tkH 1 ?_; go_simp
            refine tkH 2 ?_; go_simp
            refine tkH 4 ?_; go_simp
            refine tkH 5 ?_; go_simp
            refine tkH 6 ?_; go_simp
            refine tkH 7 ?_; go_simp
            refine rdH 3 fun K hK => ?_
            go_simp
            go_at_call 73
            refine (HPA2.out _).mono ?_
            rintro y wa ⟨rfl, hw⟩
            rw [hw]
            clear hw wa
            refine hK.out _ _ hs0.out (fun hHeld => ?_)
            clear hK K
            refine tkH 8 ?_; go_simp
            refine rdH 9 fun K hK => ?_
            go_simp
            refine hK.out _ _ hs7.out (fun hHeld => ?_)
            clear hK K
            refine wpAnyH_done (by kernel_rfl) ?_ _
            refine NoPanic.normal ?_
            go_wp2
            go_roundw
            case rel => exact ⟨kk + 1, by omega, by go_num, H7.out⟩
            case measure => simp [intOf]; omega
          · obtain rfl : kk = d := by omega
            have hkk' : ¬ (kk : Int) < (kk : Int) := by omega
            have hs16 : s < 16 := by omega
            have hq1 : Hid (Pq w wr.drew [pv, .int .i64 (i : Int), .int .i64 (n : Int), .string key] b1 b2 (n1 + kk) n2 (chJ S.ch kk s x kk) S.ce (.slice a1 kk c1) (.slice a3 kk c3) kk s x gc [.int .i64 (s : Int), .string t]) := hq.out.below (Below.refl _ _).drew
            obtain ⟨w7, hput, h7⟩ := hq1.out.put2 (by have := hcnt.out; omega) hs16 t
            have H7 : Hid (Pp w w7 [pv, .int .i64 (i : Int), .int .i64 (n : Int), .string key] b1 b2 (n1 + kk) (n2 + 1) (sl1 rd S kk s t).ch (sl1 rd S kk s t).ce) := by
              have h8 := h7.pp
              rw [HCJ.out] at h8
              exact h8
            have hs7 : Hid (w7.cell? ⟨gc, 0, none⟩ = some (.int .i64 (s : Int)) ∧ w7.cell? ⟨gc, 1, none⟩ = some (.string t)) := ⟨h7.chg.cell (i := 0) rfl, h7.chg.cell (i := 1) rfl⟩
            have hs0 : Hid (wr.drew.cell? ⟨gc, 0, none⟩ = some (.int .i64 (s : Int)) ∧ wr.drew.cell? ⟨gc, 1, none⟩ = some (.string t)) := ⟨hq1.out.chg.cell (i := 0) rfl, hq1.out.chg.cell (i := 1) rfl⟩
            have HTOP : Hid (cu = (sl1 rd S kk s t).top) := HCU.out.symm
            clear h7 hq hq1
            generalize hA : ((120 + s : Nat) : Int) = A at *
            have HCA2 : Hid (∀ z, Calls Tryz.prog 56 #[.int .i64 (s : Int)] z fun e w' => e = .returned (.int .i64 A) ∧ w' = z) := fun z => by rw [← hA]; exact HCA.out z _ hs16
            clear hA
            go_wp2
            refine wp_region_noPanic ?_
            refine wp_region_held_drew (S := fun z : World => z.cell? ⟨gc, 0, none⟩ = some (.int .i64 (s : Int)) ∧ z.cell? ⟨gc, 1, none⟩ = some (.string t)) (by kernel_rfl) hs0.out (fun hHeld => ?_)
            refine tkH 0 ?_; go_simp
            refine tkH 1 ?_; go_simp
            refine tkH 2 ?_; go_simp
            refine tkH 3 ?_; go_simp
            refine tkH 4 ?_; go_simp
            refine tkH 6 ?_; go_simp
            refine tkH 7 ?_; go_simp
            refine rdH 5 fun K hK => ?_
            go_simp
            go_at_call 56
            refine (HCA2.out _).mono ?_
            rintro y wa ⟨rfl, hw⟩
            rw [hw]
            clear hw wa
            refine hK.out _ _ hs0.out (fun hHeld => ?_)
            clear hK K
            refine tkH 8 ?_; go_simp
            refine rdH 9 fun K hK => ?_
            go_simp
            refine hK.out _ _ hs7.out (fun hHeld => ?_)
            clear hK K
            refine wpAnyH_done (by kernel_rfl) ?_ _
            refine NoPanic.normal ?_
            go_wp2
            go_roundw
            case rel => exact ⟨k + 1, n1 + kk, n2 + 1, sl1 rd S kk s t, by omega, by go_num, by rw [HTOP.out], ⟨by have := hcnt.out; omega, by have := hcnt.out; omega⟩, hap2.out, H7.out⟩
            case measure => simp [intOf]; omega
      · have HX : Hid (X = (ovE rd E S d s, S)) := by
          show _ = _
          rw [← hap1, prR_bad (by rw [Int.toNat_natCast]; exact hE), Int.toNat_natCast]
        have d0 := hN2.out.cell (i := 0) rfl
        have hlow : Hid (Below w.heap.size w (wr.alloc (.cells [.int .i64 (s : Int), .string t].toArray 92))) := hh2.out.low
        have HNE : Hid (ovE rd E S d s ≠ 0) := hE
        generalize ovE rd E S d s = OV at *
        have hE' : (OV != 0) = true := by simpa using hE
        clear hap hap1 hcons hq1 hrg hh2 hN2
        go_wp2_with (first
          | (refine wpList_load_mid rfl 92 _ rfl bq (oq + k * 2) rfl [.int .i64 (s : Int), .string t] _ HRG.out Tryz.underlying92 rfl hz2.out ?_)
          | (refine wpList_store_blk rfl 92 _ _ rfl wr.heap.size [.int .i64 0, .string noB] [.int .i64 (s : Int), .string t] rfl rfl 92 (Blk.box _ _ _) hz2.out rfl (wrow17 _ _) ?_; rw [set_over])
          | (refine wpList_load_blk rfl 45 _ rfl w.heap.size rfl 45 [pv, .int .i64 (i : Int), .int .i64 (n : Int), .string key] _ hB2.out Tryz.underlying45 rfl hz.out ?_)
          | (go_at_call 54; refine hle.mono ?_; rintro e w4 ⟨⟨a1, n1', c1, a2, n2', c2, lf, rfl, hrows⟩, hw4⟩; have L4 : Hid (Below w.heap.size w w4) := hlow.out.trans (hw4.mono hlow.out.size); clear hrows hw4 hle)
          | (refine wpList_store_blk rfl 119 _ _ rfl w4.heap.size [.slice none 0 0, .slice none 0 0, .string noB] [.slice a1 n1' c1, .slice a2 n2' c2, .string lf] rfl rfl 119 (Blk.box _ _ _) hz3.out rfl (way_one _ _ _ _ _ _ _) ?_; rw [set_over]))
        go_ret3
        exact ⟨fun _ => by rw [HX.out]; rfl, fun h0 => absurd (by rw [HX.out] at h0; exact h0) HNE.out, L4.out.alloc L4.out.size _⟩
    · obtain rfl : k = m := by omega
      have hk' : ¬ (k : Int) < (k : Int) := by omega
      have HX : Hid (X = (0, S)) := by
        show _ = _
        rw [← hap.out, List.drop_eq_nil_of_le (by have := HQL.out; omega)]; rfl
      have hm1 := inOrder_any hh.out.m1 (by have := hcnt.out; omega)
      have hm2 : Hid (∀ z, Below wr.heap.size wr z → Calls Tryz.prog 80 #[.map (some b2)] z fun e w' => ∃ v, e = .returned v ∧ w'.ownsRow z.heap.size 144 2 v (slL 120 S.ce 16).length (pairs (slL 120 S.ce 16)) ∧ ((slL 120 S.ce 16).length = 0 → v = .slice none 0 0) ∧ Below z.heap.size z w') := fun z hz => inOrder_any (hh.out.m2.below hz) (by have := hcnt.out; omega)
      have HQW : Hid (slW S = slL 100 S.ch 16 ++ slL 120 S.ce 16) := rfl
      have l1 : (slL 100 S.ch 16).length ≤ 16 := by rw [slL_length]; exact ksN_length _
      have l2 : (slL 120 S.ce 16).length ≤ 16 := by rw [slL_length]; exact ksN_length _
      have LW : Hid (Below w.heap.size w wr) := hh.out.low
      generalize slL 100 S.ch 16 = q1 at *
      generalize slL 120 S.ce 16 = q2 at *
      have tok : True := trivial
      go_wp2_with (first
        | (go_at_call 80; have _t := tok; refine hm1.mono ?_; rintro e w3 ⟨v1, rfl, hr1, hn1, hb3⟩; have H3 : Hid (Hold w.heap.size w w3 (star (rowK 144 2 v1 q1.length (pairs q1)) nought)) := (hold_nought w.heap.size w wr LW.out.size LW.out).newRow firm_nought hb3 hr1; have L3 : Hid (Below wr.heap.size wr w3) := hb3; clear tok hr1 hn1 hb3)
        | (go_at_call 80; refine (hm2.out _ L3.out).mono ?_; rintro e w4 ⟨v2, rfl, hr2, hn2, hb4⟩; obtain ⟨v5, w5, hrun, h5⟩ := app_two (H3.out.below ((firm_rowK _ _ _ _ _).star firm_nought) hb4) hr2 (by first | exact hn2 | (intro h0; exact hn2 (by rw [h0]; rfl))) (by omega) (by omega); have H5 : Hid (Hold w.heap.size w w5 (star (rowK 144 2 v5 (q1 ++ q2).length (pairs (q1 ++ q2))) nought)) := h5; clear hr2 hn2 hb4 h5)
        | (at_builtin; refine Lib.wpList_append_run _ rfl _ _ 85 85 rfl _ _ rfl rfl _ _ hrun ?_))
      go_ret3
      exact ⟨fun h0 => absurd (by rw [HX.out]) h0, fun _ => ⟨v5, by rw [HX.out]; rfl, by rw [HX.out]; show _; rw [HQW.out]; exact H5.out.rowBack⟩, H5.out.low⟩
end Go.Proofs.YtokknmkleceooaaGreatDoor
