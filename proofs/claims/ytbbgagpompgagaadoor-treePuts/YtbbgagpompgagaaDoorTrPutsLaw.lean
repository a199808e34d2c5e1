/- What the Go function TreePuts answers: true, for every texts, numbers and text. -/
import Derived.Test.YtbbgagpompgagaaDoorTrOpensLaw
import Derived.Lib.AppendZeros
namespace Go.Proofs.YtbbgagpompgagaaDoor
open Go.RowKit Go.PlainAid Go.Shelf
set_option linter.unusedVariables false

/-- A copy of texts: append([]string(nil), l...). -/
theorem copied_strs (x : World) (ar : Addr) (k cr : Nat) (f : Nat → ByteArray) (hk1 : 1 ≤ k) (h : Sa x (some ar) k f) (hk : k ≤ 1000) :
    ∃ g' cap' w', (∀ ty, (Builtin.append_ #[32, 32] ty #[.slice none 0 0, .slice (some ar) k cr]).run Tryd.prog x = .ok (.slice (some ⟨g', 0, none⟩) k cap') w') ∧ w'.ownsRow x.heap.size 9 1 (.slice (some ⟨g', 0, none⟩) k cap') k (strs k f) ∧ Below x.heap.size x w' := by
  obtain ⟨i, hi, hz0, hz1, hz2⟩ := info_parts Tryd.info9t
  obtain ⟨b, o, e, hc⟩ := h.cells hk1
  cases e
  have hnews : ∀ j u, (strs k f)[j]? = some u → x.cell? ((⟨b, o, none⟩ : Addr).add j) = some u := fun j u hu => by
    have hj : j < k := by
      rcases Nat.lt_or_ge j k with h | h
      · exact h
      · rw [List.getElem?_eq_none (by rw [strs_length]; exact h)] at hu; cases hu
    rw [strs_at k f j hj] at hu
    rw [Go.WideShapes.add_plain, hc j hj]
    exact hu
  have hall := fun ty => run_append_own (P := Tryd.prog) x x.heap.size 32 ty 9 i (.string noB) 1 16 Tryd.underlying32 hi hz0 hz1 hz2 rfl (by decide) (.slice none 0 0) 0 [] (World.ownsRow_nil _ _ _ _) ⟨b, o, none⟩ k cr (strs k f) (by rw [strs_length, Nat.mul_one]) hnews (strs_one k f) (by unfold maxLen; omega) (by omega) (Nat.le_refl _)
  obtain ⟨v', w', hr, hown, hgrow, _⟩ := hall 0
  rw [Nat.zero_add, List.nil_append] at hown
  have hown' := hown
  rcases hown.2 with ⟨_, h0⟩ | ⟨g', cap', cur, rfl, hbase, _⟩
  · omega
  refine ⟨g', cap', w', fun ty => ?_, hown', ?_⟩
  · have := hr
    rw [← this]
    rfl
  · exact (Below.refl _ x).grown hgrow (Nat.le_refl _) (fun j e => by cases e)

set_option maxRecDepth 20000 in
set_option maxHeartbeats 8000000 in
theorem treePuts_walk (a : Option Addr) (len cap : Nat) (x y : Int) (o : ByteArray) (w : World) (hA : TsArg w a len cap) (hos : o.size ≤ 140737488351232) (hT : Tabs w) (hR : RTabs w) : Calls Tryd.prog 6 #[.slice a len cap, .agg #[.int .i64 x, .int .i64 y], .string o] w fun e w' => e = .returned (.bool true) ∧ Below w.heap.size w w' := by
  obtain ⟨T, h1, h2, h3, h4, h5⟩ := hA
  have bx := Blk.new w 22 #[.int .i64 x, .int .i64 y]
  have hBx : Below w.heap.size w (w.alloc (.cells #[.int .i64 x, .int .i64 y] 22)) := (Below.refl _ w).alloc (Nat.le_refl _) _
  have c0 := bx.cell (i := 0) rfl
  have hdg := ldigests_any x a len cap (by omega) T _ (h4.later hBx) (hT.below hBx hT.lt)
  obtain ⟨d1, d2⟩ := depL_ok x
  generalize depL x = d at hdg d1 d2
  obtain ⟨N, hN⟩ : ∃ N, 2 ^ d = N := ⟨_, rfl⟩
  have h16 := pow_le16 d d2
  rw [hN] at hdg h16
  have hN2 : 1 ≤ N := by rw [← hN]; exact pow_pos' d
  have HN : Hid (2 ^ d = N) := hN
  have HDG : Hid _ := hdg
  obtain ⟨z, hz⟩ : ∃ z, (if 0 < y then y else 0) = z := ⟨_, rfl⟩
  have hz0 : 0 ≤ z := by rw [← hz]; split <;> omega
  have hmx : max 0 y = z := by rw [← hz]; split <;> omega
  have hNi : (0 : Int) < (N : Int) := by omega
  obtain ⟨s, hs⟩ := Int.eq_ofNat_of_zero_le (show 0 ≤ z % (N : Int) from Int.emod_nonneg _ (by omega))
  have hsN : s < N := by
    have := Int.emod_lt_of_pos z hNi
    omega
  obtain ⟨q4, hq4, hq41, hq42⟩ : ∃ q : Nat, (if (40 : Int) < (o.size : Int) then (40 : Int) else (o.size : Int)) = (q : Int) ∧ q ≤ o.size ∧ q ≤ 40 := ⟨min o.size 40, by split <;> omega, by omega, by omega⟩
  have hq4' : min (o.size : Int) 40 = (q4 : Int) := by rw [← hq4]; split <;> omega
  have hq4i : (q4 : Int) ≤ (o.size : Int) := by omega
  obtain ⟨q7, hq7, hq71, hq72⟩ : ∃ q : Nat, (if (70 : Int) < (o.size : Int) then (70 : Int) else (o.size : Int)) = (q : Int) ∧ q ≤ o.size ∧ q ≤ 70 := ⟨min o.size 70, by split <;> omega, by omega, by omega⟩
  have hq7' : min (o.size : Int) 70 = (q7 : Int) := by rw [← hq7]; split <;> omega
  have hq7i : (q7 : Int) ≤ (o.size : Int) := by omega
  clear hdg h5 h4 h3 h2 h1 hN
  go_enter Tryd.func6, Tryd.ntmps6
  go_wp2_with fail
  refine Calls.mono HDG.out ?_
  rintro e w1 ⟨v1, D, rfl, hv1, hD, hb1⟩
  clear HDG c0
  have bx1 := bx.below hb1 bx.lt
  have hB1 := hBx.trans (hb1.mono hBx.size)
  clear bx hBx hb1
  obtain ⟨a1, k1, rfl, hs1⟩ := Sa.owns hv1
  have hT1 := hT.below hB1 hT.lt
  have hR1 := hR.below hB1 hR.lt
  have hbu := rBuild_any a1 N k1 (by omega) D w1 hs1 hR1
  obtain ⟨z1, z2, z3, z4⟩ := built d N D HN.out d1 d2 hD
  obtain ⟨ho, -⟩ := z4 s hsN
  rw [z1, z2, z3] at hbu
  have HBU : Hid _ := hbu
  have HO : Hid (okS d (s : Int)) := ho
  clear hbu hs1 hv1 z1 z2 z3 z4 hD ho
  generalize dg D N 1 = t at HBU
  generalize bP N D = P at HBU
  go_wp2_with fail
  refine Calls.mono HBU.out ?_
  rintro e w2 ⟨v2, rfl, hv2, hb2⟩
  clear HBU
  obtain ⟨a2, k2, rfl, hs2⟩ := Sa.owns hv2
  have hB2 := hB1.trans (hb2.mono hB1.size)
  have bx2 := bx1.below hb2 bx1.lt
  have c1 := bx2.cell (i := 1) rfl
  have hov := lover_any a2 d N k2 s HN.out HO.out P w2 hs2
  have HOV : Hid _ := hov
  clear hov hs2 hv2 hb2 bx1 hB1 hT1 hR1
  go_wp2_with fail
  rw [hs]
  refine Calls.mono HOV.out ?_
  rintro e w3 ⟨v3, rfl, hv3, hb3⟩
  clear HOV
  rcases hv3.2 with ⟨_, h0⟩ | ⟨g3, k3, cu3, rfl, hg30, hgg3, _⟩
  · omega
  clear hgg3
  have hB3 := hB2.trans (hb3.mono hB2.size)
  have bx3 := bx2.below hb3 bx2.lt
  have hT3 := hT.below hB3 hT.lt
  have hd0 : (d : Int) ≠ 0 := by omega
  have hd0b : ((d : Int) == 0) = false := beq_eq_false_iff_ne.2 hd0
  have hg3w : w.heap.size < g3 := Nat.lt_of_lt_of_le bx2.lt hg30
  have hw2 : w.heap.size + 1 ≤ w2.heap.size := bx2.lt
  clear c1 bx2 hb3 hB2 hg30
  go_wp2_with fail
  refine (lwakes_any w3 hT3).mono ?_
  rintro e w4 ⟨rfl, hb4⟩
  have hB4 := hB3.trans (hb4.mono hB3.size)
  have bx4 := bx3.below hb4 bx3.lt
  have hRow4 : Hid (∃ f, w4.ownsRow (w.heap.size + 1) 9 1 (.slice (some ⟨g3, 0, none⟩) d k3) d (strs d f)) := ⟨_, owns_base (owns_kept hv3 (Kept.ofBelow (F := fun _ => False) hb4) (fun _ _ h => h)) hw2⟩
  clear hv3 hb4 bx3 hB3 hT3
  have c1 := bx4.cell (i := 1) rfl
  go_wp2_with fail
  have hBd : Below w.heap.size w (w4.alloc (.cells #[.int .i64 (s : Int), .int .i64 y] 3)).drew := (hB4.alloc hB4.size _).drew
  have bi : Blk (w4.alloc (.cells #[.int .i64 (s : Int), .int .i64 y] 3)).drew w4.heap.size 3 [.int .i64 (s : Int), .int .i64 y] := Blk.new w4 3 #[.int .i64 (s : Int), .int .i64 y]
  have hRowd : Hid (∃ f, (w4.alloc (.cells #[.int .i64 (s : Int), .int .i64 y] 3)).drew.ownsRow (w.heap.size + 1) 9 1 (.slice (some ⟨g3, 0, none⟩) d k3) d (strs d f)) := by
    obtain ⟨f, hf⟩ := hRow4.out
    exact ⟨f, owns_kept hf ((Kept.refl (fun _ => False) w4).alloc _).drew (fun _ _ h => h)⟩
  have hGi : w.heap.size + 1 ≤ w4.heap.size := bx4.lt
  have HI : Hid (∀ j, j < 2 → ∃ S : Int, [Value.int .i64 (s : Int), .int .i64 y][j]? = some (.int .i64 S)) := fun j hj => by
    have : j = 0 ∨ j = 1 := by omega
    rcases this with rfl | rfl
    · exact ⟨_, rfl⟩
    · exact ⟨_, rfl⟩
  clear hRow4 hB4
  go_region
  generalize (w4.alloc (.cells #[.int .i64 (s : Int), .int .i64 y] 3)).drew = w5 at hBd bi hRowd ⊢
  generalize w4.heap.size = Gi at bi hGi ⊢
  generalize [Value.int .i64 (s : Int), .int .i64 y] = L at bi HI
  clear c1 bx4
  go_wp2_with fail
  try rw [hs]
  have HSs : Hid (z % (N : Int) = (s : Int)) := hs
  have HMX : Hid _ := hmx
  have HZZ : Hid _ := hz
  clear hs hmx hz
  go_loopw [11, 57] (fun wv i wr => ∃ (j g c : Nat), j ≤ 2 ∧ wv = .slice (some ⟨g, 0, none⟩) d c ∧ i = .int .i64 (j : Int) ∧ Hid (∃ f, wr.ownsRow (w.heap.size + 1) 9 1 (.slice (some ⟨g, 0, none⟩) d c) d (strs d f)) ∧ Blk wr Gi 3 L ∧ Below w.heap.size w wr) (fun _ i _ => 2 - (intOf i).toNat)
  case atStart => exact ⟨0, _, _, by omega, rfl, rfl, hRowd, bi, hBd⟩
  case round =>
    clear hRowd bi hBd
    obtain ⟨j, g, c, hj, rfl, rfl, hRow, bi, hB⟩ := hrel
    by_cases hj2 : j < 2
    · obtain ⟨S, hS⟩ := HI.out j hj2
      have cS := bi.cell hS
      have hji : (j : Int) < 2 := by omega
      have hlf := leaf_any o (by omega) wr.drew (hT.below hB.drew hT.lt)
      generalize digest (⟨#[0]⟩ ++ o) = X1 at hlf
      have HLF : Hid _ := hlf
      have bid : Blk wr.drew Gi 3 L := bi
      have hBd : Below w.heap.size w wr.drew := hB.drew
      have hRowd : Hid (∃ f, wr.drew.ownsRow (w.heap.size + 1) 9 1 (.slice (some ⟨g, 0, none⟩) d c) d (strs d f)) := hRow
      clear hlf
      go_wp2_with fail
      refine wp_region_noPanic ?_
      refine wp_region_held_drew (S := fun _ => True) (by kernel_rfl) trivial (fun hHeld => ?_)
      generalize wr.drew = wd at HLF bid hBd hRowd ⊢
      clear hRow bi hB cS
      refine wpAnyH_take (i := 0) (v := ?_) rfl (by kernel_rfl) (by kernel_rfl) (by kernel_rfl) (fun _ _ _ h => h) (Or.inl ⟨by rfl, ?_⟩) (by assumption) ?_
      rotate_left
      · intro w hSw; go_simp; try with_reducible rfl
      go_simp
      refine wpAnyH_take (i := 2) (v := ?_) rfl (by kernel_rfl) (by kernel_rfl) (by kernel_rfl) (fun _ _ _ h => h) (Or.inl ⟨by rfl, ?_⟩) (by assumption) ?_
      rotate_left
      · intro w hSw; go_simp; try with_reducible rfl
      go_simp
      refine wpAnyH_take (i := 3) (v := ?_) rfl (by kernel_rfl) (by kernel_rfl) (by kernel_rfl) (fun _ _ _ h => h) (Or.inl ⟨by rfl, ?_⟩) (by assumption) ?_
      rotate_left
      · intro w hSw; go_simp; try with_reducible rfl
      go_simp
      refine wpAnyH_take (i := 4) (v := ?_) rfl (by kernel_rfl) (by kernel_rfl) (by kernel_rfl) (fun _ _ _ h => h) (Or.inl ⟨by rfl, ?_⟩) (by assumption) ?_
      rotate_left
      · intro w hSw; go_simp; try with_reducible rfl
      go_simp
      refine wpAnyH_take (i := 5) (v := ?_) rfl (by kernel_rfl) (by kernel_rfl) (by kernel_rfl) (fun _ _ _ h => h) (Or.inl ⟨by rfl, ?_⟩) (by assumption) ?_
      rotate_left
      · intro w hSw; go_simp; try with_reducible rfl
      go_simp
      refine wpAnyH_take (i := 6) (v := ?_) rfl (by kernel_rfl) (by kernel_rfl) (by kernel_rfl) (fun _ _ _ h => h) (Or.inl ⟨by rfl, ?_⟩) (by assumption) ?_
      rotate_left
      · intro w hSw; go_simp; try with_reducible rfl
      go_simp
      refine wpAnyH_take (i := 9) (v := ?_) rfl (by kernel_rfl) (by kernel_rfl) (by kernel_rfl) (fun _ _ _ h => h) (Or.inl ⟨by rfl, ?_⟩) (by assumption) ?_
      rotate_left
      · intro w hSw; go_simp; try with_reducible rfl
      go_simp
      refine wpAnyH_ready (rs := [1]) (by kernel_rfl) (by simp) (AllReadyH.cons rfl (fun K hK => ?_) AllReadyH.nil)
      go_simp
      go_at_call 19
      refine Calls.mono HLF.out ?_
      rintro e wl ⟨rfl, hbl⟩
      refine hK.out _ _ trivial (fun hHeld => ?_)
      clear hK K
      refine wpAnyH_ready (rs := [7]) (by kernel_rfl) (by simp) (AllReadyH.cons rfl (fun K hK => ?_) AllReadyH.nil)
      go_simp
      refine hK.out _ _ trivial (fun hHeld => ?_)
      clear hK K
      refine wpAnyH_take (i := 8) (v := ?_) rfl (by kernel_rfl) (by kernel_rfl) (by kernel_rfl) (fun _ _ _ h => h) (Or.inl ⟨by rfl, ?_⟩) (by assumption) ?_
      rotate_left
      · intro w hSw; go_simp; try with_reducible rfl
      go_simp
      refine wpAnyH_done (by kernel_rfl) ?_ _
      refine NoPanic.normal ?_
      clear hHeld HLF
      have hal : Below wl.heap.size wl (wl.alloc (.cells #[.string X1, .string (o.extract 0 q4)] 9)) := (Below.refl _ _).alloc (Nat.le_refl _) _
      have hbw : Below wd.heap.size wd (wl.alloc (.cells #[.string X1, .string (o.extract 0 q4)] 9)) := hbl.trans (hal.mono hbl.size)
      have bi7 := bid.below hbw bid.lt
      have hB7 := hBd.trans (hbw.mono hBd.size)
      have hRow7 : Hid (∃ f, (wl.alloc (.cells #[.string X1, .string (o.extract 0 q4)] 9)).ownsRow (w.heap.size + 1) 9 1 (.slice (some ⟨g, 0, none⟩) d c) d (strs d f)) := by
        obtain ⟨f, hf⟩ := hRowd.out
        exact ⟨f, owns_kept hf (Kept.ofBelow (F := fun _ => False) hbw) (fun _ _ h => h)⟩
      have bd7 := Blk.new wl 9 #[.string X1, .string (o.extract 0 q4)]
      have HX : Hid (∀ k, k < 2 → ∃ X : ByteArray, (wl.alloc (.cells #[.string X1, .string (o.extract 0 q4)] 9)).cell? ⟨wl.heap.size, k, none⟩ = some (.string X)) := fun k hk => by
        have : k = 0 ∨ k = 1 := by omega
        rcases this with rfl | rfl
        · exact ⟨_, bd7.cell rfl⟩
        · exact ⟨_, bd7.cell rfl⟩
      have hlt7 := bd7.lt
      clear bid hBd hRowd hbl hal hbw bd7
      generalize wl.alloc (.cells #[.string X1, .string (o.extract 0 q4)] 9) = w7 at bi7 hB7 hRow7 HX hlt7 ⊢
      generalize wl.heap.size = Gd at HX hlt7 ⊢
      obtain ⟨f, hf⟩ := hRow7.out
      have hS7 : Sa w7 (some ⟨g, 0, none⟩) d f := by
        obtain ⟨aw, kw, hwe, hsw⟩ := Sa.owns hf
        cases hwe; exact hsw
      have HS7 : Hid (Sa w7 (some ⟨g, 0, none⟩) d f) := hS7
      clear hS7 hf
      go_wp2_with fail
      go_loopw [71] (fun i wr => ∃ k : Nat, k ≤ 2 ∧ i = .int .i64 (k : Int) ∧ Below w7.heap.size w7 wr) (fun i _ => 2 - (intOf i).toNat)
      case atStart => exact ⟨0, by omega, rfl, Below.refl _ _⟩
      case round =>
        obtain ⟨k, hk, rfl, hBk⟩ := hrel
        have hBw := hB7.trans (hBk.mono hB7.size)
        by_cases hk2 : k < 2
        · obtain ⟨X, hX⟩ := HX.out k hk2
          have cX : wr.cell? ⟨Gd, k, none⟩ = some (.string X) := (hBk.cell (p := ⟨Gd, k, none⟩) hlt7).trans hX
          have hki : (k : Int) < 2 := by omega
          have hS8 : Hid (Sa wr (some ⟨g, 0, none⟩) d f) := HS7.out.later hBk
          have p1 := put_any (some ⟨g, 0, none⟩) d c S X f (by omega) wr hS8.out (hT.below hBw hT.lt)
          have P1 : Hid _ := p1
          clear p1 hX
          go_wp2_with fail
          refine Calls.mono P1.out ?_
          rintro e w9 ⟨v9, rfl, hv9, hb9⟩
          have hB9 := hBk.trans (hb9.mono hBk.size)
          have hBw9 := hBw.trans (hb9.mono hBw.size)
          obtain ⟨a9, k9, rfl, hs9⟩ := Sa.owns hv9
          have HS9 : Hid (Sa w9 (some ⟨g, 0, none⟩) d f) := hS8.out.later hb9
          have p2 := rPut_any (some ⟨g, 0, none⟩) d c S X f (by omega) w9 HS9.out (hR.below hBw9 hR.lt)
          have hun : uN d S f X ≤ 4 := by unfold uN; split <;> omega
          generalize uT d S f X = T1 at p2 ⊢
          generalize uE d S f X = E1 at p2 ⊢
          generalize uN d S f X = N1 at p2 hs9 hv9 hun ⊢
          generalize neu d S.toNat f X = F1 at p2 hs9 hv9
          have P2 : Hid _ := p2
          have HS9' : Hid (Sa w9 a9 N1 F1) := hs9
          clear p2 P1 hs9 hv9 hb9 hBk hBw cX hS8
          go_wp2_with fail
          refine Calls.mono P2.out ?_
          rintro e w10 ⟨v10, rfl, hv10, hb10⟩
          have hB10 := hB9.trans (hb10.mono hB9.size)
          obtain ⟨a10, k10, rfl, hs10⟩ := Sa.owns hv10
          have HE : Hid _ := lequal_same a9 a10 N1 k9 k10 F1 w10 (by omega) (HS9'.out.later hb10) hs10
          clear P2 hs10 hv10 hb10 hB9 HS9 HS9'
          go_wp2_with fail
          refine Calls.mono HE.out ?_
          rintro e w11 ⟨rfl, hb11⟩
          have hB11 := hB10.trans (hb11.mono hB10.size)
          clear HE
          go_wp2_with fail
          go_roundw
          case rel => exact ⟨k + 1, hk2, by go_num, hB11⟩
          case measure => simp [intOf]; omega
        · have hki : (2 : Int) ≤ (k : Int) := by omega
          have bi8 := bi7.below hBk bi7.lt
          have hRow8 : Hid (∃ f, wr.ownsRow (w.heap.size + 1) 9 1 (.slice (some ⟨g, 0, none⟩) d c) d (strs d f)) := by
            obtain ⟨f, hf⟩ := hRow7.out
            exact ⟨f, owns_kept hf (Kept.ofBelow (F := fun _ => False) hBk) (fun _ _ h => h)⟩
          by_cases hj0 : j = 0
          · have hj0i : (j : Int) = 0 := by omega
            have hj0b : ((j : Int) == 0) = true := beq_iff_eq.2 hj0i
            have HJ0 : Hid _ := hj0
            clear hj0 hj0i
            obtain ⟨g', c', w', hrun, hown, hbc⟩ := copied_strs wr ⟨g, 0, none⟩ d c f d1 (HS7.out.later hBk) (by omega)
            have hB' := hBw.trans (hbc.mono hBw.size)
            have bi' := bi8.below hbc bi8.lt
            obtain ⟨m, hm⟩ : ∃ m, d - 1 = m := ⟨_, rfl⟩
            have hmd : m < d := by omega
            have hmi : (d : Int) - 1 = (m : Int) := by omega
            have hmi2 : (m : Int) < (d : Int) := by omega
            have cw := (hown.cellAt m (by omega)).trans (strs_at d f m hmd)
            have fw := hown.frozenAt m
            obtain ⟨hr2, -⟩ := hown.stored m (.string (o.extract 0 q7))
            rw [strs_set] at hr2
            have hge := (World.ownsRow.lt hown g' rfl).1
            have hgw : w.heap.size < g' := by have := bi8.lt; have := hB7.size; have := hBk.size; have := hlt7; omega
            have hR2 : Hid (∃ f, (w'.setCell ⟨g', m, none⟩ (.string (o.extract 0 q7))).ownsRow (w.heap.size + 1) 9 1 (.slice (some ⟨g', 0, none⟩) d c') d (strs d f)) := ⟨_, owns_base hr2 (by have := bi8.lt; omega)⟩
            have hB2 : Below w.heap.size w (w'.setCell ⟨g', m, none⟩ (.string (o.extract 0 q7))) := hB'.setCell (p := ⟨g', m, none⟩) (by show w.heap.size ≤ g'; omega) _
            have bi2 : Blk (w'.setCell ⟨g', m, none⟩ (.string (o.extract 0 q7))) Gi 3 L := bi'.setOther (by have := bi8.lt; omega) _ _
            clear hr2 hB' bi' hRow8
            go_wp2_with (at_builtin; refine Lib.wpList_append_run _ rfl _ _ 32 32 rfl _ _ rfl rfl _ _ (hrun _) ?_)
            go_roundw
            case rel => exact ⟨j + 1, _, _, by omega, rfl, by go_num, hR2, bi2, hB2⟩
            case measure => simp [intOf]; omega
          · have hj0i : (j : Int) ≠ 0 := by omega
            have hj0b : ((j : Int) == 0) = false := beq_eq_false_iff_ne.2 hj0i
            go_wp2_with fail
            go_roundw
            case rel => exact ⟨j + 1, _, _, by omega, rfl, by go_num, hRow8, bi8, hBw⟩
            case measure => simp [intOf]; omega
    · have hj22 : j = 2 := by omega
      subst hj22
      go_wp2_with fail
      go_ret
      exact ⟨rfl, hB⟩
end Go.Proofs.YtbbgagpompgagaaDoor
