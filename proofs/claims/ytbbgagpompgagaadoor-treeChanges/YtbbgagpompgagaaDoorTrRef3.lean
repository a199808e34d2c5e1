/- Trees: the document's own Follow and Put. -/
import Derived.Test.YtbbgagpompgagaaDoorTrRef2
namespace Go.Proofs.YtbbgagpompgagaaDoor
open Go.RowKit Go.PlainAid Go.Shelf
set_option linter.unusedVariables false

theorem not_okS (n : Nat) (s : Int) (h : ¬ okS n s) : s < 0 ∨ (sizI n : Int) ≤ s := by
  unfold okS at h
  unfold sizI
  by_cases h1 : 1 ≤ n ∧ n ≤ 4
  · rw [if_pos h1]
    by_cases h2 : s < 0
    · exact .inl h2
    · exact .inr (Int.not_lt.1 fun h3 => h ⟨h1.1, h1.2, by omega, h3⟩)
  · rw [if_neg h1]; omega
theorem siz_okS {n : Nat} {s : Int} (h : okS n s) : sizI n = 2 ^ n := by unfold sizI; rw [if_pos ⟨h.1, h.2.1⟩]
set_option maxRecDepth 20000 in
theorem rFollow_bad (top : ByteArray) (s : Int) (a : Option Addr) (n cap : Nat) (hn : n ≤ 1000000) (h : ¬ okS n s) (w : World) : Calls Tryd.prog 18 #[.string top, .int .i64 s, .slice a n cap] w fun e w' => e = .returned (.tuple #[.string noB, .int .i64 2]) ∧ Below w.heap.size w w' := by
  have hz := rsize_any n hn w
  have h' := not_okS n s h
  generalize (sizI n : Int) = Z at hz h'
  by_cases hs : s < 0
  · go_enter Tryd.func18, Tryd.ntmps18
    go_wp2_with fail
    refine hz.mono ?_
    rintro e w' ⟨rfl, hw'⟩
    rw [hw']
    clear hw' w'
    go_wp2_with fail
    go_ret2
    exact ⟨rfl, Below.refl _ _⟩
  · have h2 : Z ≤ s := by omega
    have h0 : 0 ≤ s := by omega
    clear h h' hs
    go_enter Tryd.func18, Tryd.ntmps18
    go_wp2_with fail
    refine hz.mono ?_
    rintro e w' ⟨rfl, hw'⟩
    rw [hw']
    clear hw' w'
    go_wp2_with fail
    go_ret2
    exact ⟨rfl, Below.refl _ _⟩
set_option maxRecDepth 20000 in
set_option maxHeartbeats 4000000 in
theorem rFollow_ok (top : ByteArray) (s : Nat) (a : Option Addr) (n cap : Nat) (p : Nat → ByteArray) (h : okS n (s : Int)) (w : World) (hp : Sa w a n p) (ht : RTabs w) : Calls Tryd.prog 18 #[.string top, .int .i64 (s : Int), .slice a n cap] w fun e w' =>
    e = .returned (.tuple #[.string (folS n (s : Int) p top), .int .i64 (folE n (s : Int) p top)]) ∧ Below w.heap.size w w' := by
  have hfs : folS n (s : Int) p top = (fol n s p top n).getD noB := by unfold folS; rw [if_pos h, Int.toNat_natCast]
  have hfe : folE n (s : Int) p top = oE (fol n s p top n) := by unfold folE; rw [if_pos h, Int.toNat_natCast]
  rw [hfs, hfe]
  obtain ⟨N, hN⟩ : ∃ N, 2 ^ n = N := ⟨_, rfl⟩
  have hz := rsize_any n (by have := h.2.1; omega) w
  have hpa := fun z => rPath_ok n N s hN h z
  rw [siz_okS h, hN] at hz
  obtain ⟨h1, h2, _, h4⟩ := h
  rw [hN] at h4
  have h16 := pow_le16 n h2
  rw [hN] at h16
  obtain ⟨pb, po, rfl, hcell⟩ := hp.cells h1
  have hpb := cell_blk_lt (hcell 0 h1)
  have HC : Hid _ := hcell
  have HN : Hid (2 ^ n = N) := hN
  have HZ : Hid _ := hz
  have HPA : Hid _ := hpa
  have g2 : decide ((s : Int) < 0) = false := decide_eq_false (by omega)
  have g3 : decide (N ≤ s) = false := decide_eq_false (by omega)
  have hs4 : s < 2 ^ n := by omega
  clear hfs hfe hz hpa hcell hN hp
  go_enter Tryd.func18, Tryd.ntmps18
  go_wp2_with fail
  refine Calls.mono HZ.out ?_
  rintro e w' ⟨rfl, hw'⟩
  rw [hw']
  clear hw' w' HZ
  go_wp2_with fail
  refine Calls.mono (HPA.out w) ?_
  rintro e w1 ⟨v, rfl, hv, hb1⟩
  clear HPA
  rcases hv.2 with ⟨_, h0⟩ | ⟨gr, cr, cu, rfl, hgr0, hgg, _⟩
  · omega
  have hgr1 : gr < w1.heap.size := (Array.getElem?_eq_some_iff.1 hgg).1
  have HR : Hid (∀ i, i < n → w1.cell? ⟨gr, i, none⟩ = some (.int .i64 (nd n s i : Int))) := fun i hi => (hv.cellAt i (by omega)).trans (nr_at .i64 n (nd n s) i hi)
  clear hv hgg
  go_wp2_with fail
  go_loopw [0, 11] (fun tv i wr => ∃ (k : Nat) (t : ByteArray), k ≤ n ∧ tv = .string t ∧ i = .int .i64 (k : Int) ∧ Hid (fol n s p top k = some t) ∧ Below w1.heap.size w1 wr) (fun _ i _ => n - (intOf i).toNat)
  case atStart => exact ⟨0, top, Nat.zero_le _, rfl, rfl, rfl, Below.refl _ _⟩
  case round =>
    obtain ⟨k, t, hk, rfl, rfl, hf, hB⟩ := hrel
    have hBw : Below w.heap.size w wr := hb1.trans (hB.mono hb1.size)
    by_cases hlt : k < n
    · have cp : wr.cell? ⟨pb, po + k, none⟩ = some (.string (p k)) := (hBw.cell (p := ⟨pb, po + k, none⟩) hpb).trans (HC.out k hlt)
      have hki : (k : Int) < (n : Int) := by omega
      by_cases h64 : (p k).size = 64
      · have hkd := rKind_any (p k) (by omega) wr (ht.below hBw ht.lt)
        have HK : Hid _ := hkd
        have H64 : Hid ((p k).size = 64) := h64
        clear hkd
        by_cases hq : nH (p k) = t
        · have hy := fol_yes hf.out h64 hq
          have hsd := sd_lt n s k
          have hS : sd n s k = 0 ∨ sd n s k = 1 := by omega
          have hnx := nd_succ n s k hlt
          have hM100 : nd n s k ≤ 100 := by have := (nd_inner n s k hlt hs4).2; have := HN.out; omega
          have qb : ((nH (p k)).toList == t.toList) = true := by rw [teq, decide_eq_true hq]
          have HQ : Hid (nH (p k) = t) := hq
          generalize nH (p k) = Y at HK qb
          generalize hX : p k = X at cp h64 HK hy
          clear hq
          go_wp2_with fail
          refine Calls.mono HK.out ?_
          rintro e w2 ⟨rfl, hb2⟩
          have hB2 := hB.trans (hb2.mono hB.size)
          have cp2 : w2.cell? ⟨pb, po + k, none⟩ = some (.string X) := (hb2.cell (p := ⟨pb, po + k, none⟩) (cell_blk_lt cp)).trans cp
          have cm : w2.cell? ⟨gr, k, none⟩ = some (.int .i64 (nd n s k : Int)) := (hB2.cell (p := ⟨gr, k, none⟩) hgr1).trans (HR.out k hlt)
          clear cp hb2 HK hB hBw
          by_cases hk1 : k + 1 < n
          · have cn : w2.cell? ⟨gr, k + 1, none⟩ = some (.int .i64 (nd n s (k + 1) : Int)) := (hB2.cell (p := ⟨gr, k + 1, none⟩) hgr1).trans (HR.out (k + 1) hk1)
            have hk1i : (k : Int) + 1 < (n : Int) := by omega
            have e1 : ((k : Int) + 1).toNat = k + 1 := by omega
            rcases hS with hS | hS
            · unfold half at hy
              rw [hS, if_pos rfl] at hy
              rw [hS] at hnx
              rw [hnx] at cn
              generalize nd n s k = M at cm cn hM100
              have cn' : w2.cell? ⟨gr, k + 1, none⟩ = some (.int .i64 (2 * (M : Int))) := by rw [show (2 * M + 0 : Nat) = 2 * M from rfl] at cn; rw [cn]; congr 2
              clear cn hnx
              go_wp2_with fail
              go_roundw
              case rel => exact ⟨k + 1, _, hlt, rfl, by go_num, hy, hB2⟩
              case measure => simp [intOf]; omega
            · unfold half at hy
              rw [hS, if_neg (by decide)] at hy
              rw [hS] at hnx
              rw [hnx] at cn
              generalize nd n s k = M at cm cn hM100
              have cn' : w2.cell? ⟨gr, k + 1, none⟩ = some (.int .i64 (2 * (M : Int) + 1)) := by rw [cn]; congr 2
              clear cn hnx
              go_wp2_with fail
              go_roundw
              case rel => exact ⟨k + 1, _, hlt, rfl, by go_num, hy, hB2⟩
              case measure => simp [intOf]; omega
          · have hkn : k + 1 = n := by omega
            have hk1i : (n : Int) ≤ (k : Int) + 1 := by omega
            have hlast := nd_last n s
            rw [HN.out, ← hkn] at hlast
            rw [← hkn] at hnx
            rw [hnx] at hlast
            rw [← hkn] at hS
            rw [← hkn] at cm hM100
            have hyk : fol n s p top (k + 1) = some (half (sd (k + 1) s k) X) := by rw [← hkn] at hy ⊢; exact hy
            clear hy
            rcases hS with hS | hS
            · unfold half at hyk
              rw [hS, if_pos rfl] at hyk
              rw [hS] at hlast
              generalize nd (k + 1) s k = M at cm hlast hM100
              have e2 : (N : Int) + (s : Int) = 2 * (M : Int) := by omega
              clear hnx hlast
              go_wp2_with fail
              go_roundw
              case rel => exact ⟨k + 1, _, hlt, rfl, by go_num, hyk, hB2⟩
              case measure => simp [intOf]; omega
            · unfold half at hyk
              rw [hS, if_neg (by decide)] at hyk
              rw [hS] at hlast
              generalize nd (k + 1) s k = M at cm hlast hM100
              have e2 : (N : Int) + (s : Int) = 2 * (M : Int) + 1 := by omega
              clear hnx hlast
              go_wp2_with fail
              go_roundw
              case rel => exact ⟨k + 1, _, hlt, rfl, by go_num, hyk, hB2⟩
              case measure => simp [intOf]; omega
        · have hno := fol_no hf.out (fun h => hq h.2)
          have hend := fol_none' hno hlt
          have qb : ((nH (p k)).toList == t.toList) = false := by rw [teq, decide_eq_false hq]
          have HQ : Hid _ := hq
          generalize nH (p k) = Y at HK qb
          generalize p k = X at cp h64 HK
          have HE : Hid _ := hend
          clear hq hno hend
          go_wp2_with fail
          refine Calls.mono HK.out ?_
          rintro e w2 ⟨rfl, hb2⟩
          go_wp2_with fail
          go_ret2
          rw [HE.out]
          exact ⟨rfl, hBw.trans (hb2.mono hBw.size)⟩
      · have hno := fol_no hf.out (fun h => h64 h.1)
        have hend := fol_none' hno hlt
        have hne : ((p k).size : Int) ≠ 64 := by omega
        have HE : Hid _ := hend
        generalize p k = X at cp h64 hne
        clear hno hend
        go_wp2_with fail
        go_ret2
        rw [HE.out]
        exact ⟨rfl, hBw⟩
    · have hkn : k = n := by omega
      subst hkn
      go_wp2_with fail
      go_ret2
      rw [hf.out]
      exact ⟨rfl, hBw⟩
theorem rFollow_any (top : ByteArray) (s : Int) (a : Option Addr) (n cap : Nat) (hn : n ≤ 1000000) (p : Nat → ByteArray) (w : World) (hp : Sa w a n p) (ht : RTabs w) : Calls Tryd.prog 18 #[.string top, .int .i64 s, .slice a n cap] w fun e w' =>
    e = .returned (.tuple #[.string (folS n s p top), .int .i64 (folE n s p top)]) ∧ Below w.heap.size w w' := by
  by_cases h : okS n s
  · obtain ⟨k, rfl⟩ := Int.eq_ofNat_of_zero_le h.2.2.1
    exact rFollow_ok top k a n cap p h w hp ht
  · have := rFollow_bad top s a n cap hn h w
    unfold folS folE
    rw [if_neg h, if_neg h]
    exact this
end Go.Proofs.YtbbgagpompgagaaDoor
