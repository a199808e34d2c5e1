/- LayoutGrows: its walk. -/
import Derived.Test.YtbekmjljcjgopabDoorLyGrow
import Derived.Test.YtbekmjljcjgopabDoorLyAls
namespace Go.Proofs.YtbekmjljcjgopabDoor
open Go.RowKit Go.PlainAid
set_option linter.unusedVariables false
set_option maxRecDepth 20000

theorem rowC {w : World} {T : TypeId} {g n c i : Nat} {L : List Value} {u : Value} (h : L[i]? = some u) (hr : w.ownsRow 0 T 1 (.slice (some ⟨g, 0, none⟩) n c) n L) : w.cell? ⟨g, i, none⟩ = some u := by
  obtain ⟨g', e, hc⟩ := owns_cell hr h
  cases e; exact hc
set_option maxHeartbeats 4000000 in
theorem layoutGrows_law (D S M : Int) (G : Bool) (w : World) (hD1 : D ≤ 9223372036854775807) (hM1 : M ≤ 9223372036854775807) (ht : Tabs w) : Calls Tryd.prog 3 #[.agg #[.int .i64 D, .int .i64 S, .int .i64 M, .bool G]] w fun e w' => e = .returned (.bool true) ∧ Below w.heap.size w w' := by
  have q0 : Hid (∀ z, Calls Tryd.prog 4 #[.agg #[.int .i64 D, .int .i64 S, .int .i64 M, .bool true]] z fun e w' => e = .returned (.agg #[.int .i64 (goD D), .int .i64 (goS S), .int .i64 (goM S M true), .bool true]) ∧ Below z.heap.size z w') := fun z => good18_any z hD1 hM1
  have qw : Hid (∀ z, Tabs z → Calls Tryd.prog 10 #[] z fun e w' => e = .returned (.bool true) ∧ Below z.heap.size z w') := fun z hz => wakes18_any z hz
  have HTA : Hid (∀ z, Below w.heap.size w z → Tabs z) := fun z hz => ht.below hz ht.lt
  have HSZ : Hid ((Tryd.prog.info? 24).map (·.size) = some 4) := Tryd.size24
  have hg0 := go_gd D S M true
  have h0 : Hid (Hold w.heap.size w (w.alloc (.cells #[.int .i64 D, .int .i64 S, .int .i64 M, .bool true] 23)) nought) := (hold_nought w.heap.size w w (Nat.le_refl _) (Below.refl _ _)).below firm_nought (bx w 23 (lyL D S M true))
  obtain ⟨Dn, hDn⟩ : ∃ Dn : Nat, goD D = (Dn : Int) := ⟨(goD D).toNat, by have := hg0.d2; omega⟩
  obtain ⟨Sn, hSn⟩ : ∃ Sn : Nat, goS S = (Sn : Int) := ⟨(goS S).toNat, by have := hg0.s16.1; omega⟩
  rw [hDn, hSn] at q0 hg0
  have HG : Hid (∀ m : Nat, m < Sn → Gd (Dn : Int) (Sn : Int) (m : Int) true) := fun m hm => ⟨hg0.1, hg0.2.1, by omega, by omega, .inl rfl⟩
  have hd7 : Dn ≤ 7 := by have := hg0.1.2; simp at this; omega
  have hd2 : 2 ≤ Dn := by have := hg0.d2; omega
  have hs16 : Sn ≤ 16 := by have := hg0.s16.2; omega
  have hs2 : 2 ≤ Sn := by have := hg0.s16.1; omega
  generalize goM S M true = gm0 at *
  have hgw0 : gwL (Dn : Int) (Sn : Int) 0 = lyL (Dn : Int) (Sn : Int) 0 true := if_pos (by omega)
  have HGW : Hid (gwL (Dn : Int) (Sn : Int) 0 = lyL (Dn : Int) (Sn : Int) 0 true) := hgw0
  clear ht hg0 hDn hSn hgw0 hD1 hM1
  go_enter Tryd.func3, Tryd.ntmps3
  go_wp2_with (first
    | (go_at_call 4; refine (q0.out _).mono ?_; rintro x w1 ⟨rfl, h1⟩; have H1 : Hid (Hold w.heap.size w (w1.alloc (.cells #[.int .i64 (Dn : Int), .int .i64 (Sn : Int), .int .i64 0, .bool true] 24)) (star (blkA w1.heap.size 24 (lyL (Dn : Int) (Sn : Int) 0 true)) nought)) := (h0.out.below firm_nought h1).newBlk firm_nought 24 (lyL (Dn : Int) (Sn : Int) 0 true).toArray; clear h1))
  generalize w1.alloc (.cells #[.int .i64 (Dn : Int), .int .i64 (Sn : Int), .int .i64 0, .bool true] 24) = w2 at *
  generalize w1.heap.size = gl at *
  clear q0 h0
  have HFB : Hid (∀ L, Firm (star (blkA gl 24 (L)) nought)) := fun L => (firm_blk _ _ _).star firm_nought
  go_loopw [34] (fun j wr => ∃ m : Nat, j = .int .i64 (m : Int) ∧ Hid (m ≤ Sn ∧ Hold w.heap.size w wr (star (blkA gl 24 (gwL (Dn : Int) (Sn : Int) m)) nought))) (fun j _ => Sn - (intOf j).toNat)
  case atStart => exact ⟨0, rfl, Nat.zero_le _, by rw [HGW.out]; exact H1.out⟩
  case round =>
    clear H1
    obtain ⟨m, rfl, hmr⟩ := hrel
    have hm2 := hmr.out.1
    by_cases hlt : m < Sn
    · have hmi : (m : Int) < (Sn : Int) := by omega
      have H3 : Hid (Hold w.heap.size w wr (star (blkA gl 24 (lyL (Dn : Int) (Sn : Int) (m : Int) true)) nought)) := by
        have h := hmr.out.2
        rw [show gwL (Dn : Int) (Sn : Int) m = lyL (Dn : Int) (Sn : Int) (m : Int) true from if_pos hmi] at h
        exact h
      have hg := HG.out m hlt
      have hgn := gr_good hg
      have hE : stE (Dn : Int) (Sn : Int) (m : Int) true = 0 := by unfold stE; rw [if_pos hg, if_pos rfl]
      have hN : mvN (Dn : Int) (Sn : Int) (m : Int) true = Dn + 1 := by unfold mvN; rw [if_pos hE]; omega
      have hsp := gr_step hg
      have HNXT : Hid (gwL (Dn : Int) (Sn : Int) (m + 1) = lyL (nxD (Dn : Int) (Sn : Int) (m : Int)) (Sn : Int) (nxM (Sn : Int) (m : Int)) (nxG (Sn : Int) (m : Int))) := by
        show gwL (Dn : Int) (Sn : Int) (m + 1) = _
        unfold gwL nxD nxM nxG
        by_cases h : (m : Int) + 1 = (Sn : Int)
        · rw [if_pos h, if_pos h, if_pos h, if_neg (by omega)]
        · rw [if_neg h, if_neg h, if_neg h, if_pos (by omega)]; rfl
      have hpd := md_le hg
      have hnb1 := hg.sd
      have hnb2 := hgn.sd
      have hRC : Hid (∀ b : Int, (m : Int) * ((Dn : Int) + 1) ≤ b → b < (Sn : Int) * (Dn : Int) → fdE (Dn : Int) (Sn : Int) (m : Int) true b = 0 ∧ (m : Int) ≤ fdT (Dn : Int) (Sn : Int) (m : Int) true b) := fun b h1 h2 => gr_cur hg h1 h2
      have hRN : Hid (∀ i : Nat, i < Dn + 1 → (m : Int) * ((Dn : Int) + 1) + (i : Int) < (Sn : Int) * nxD (Dn : Int) (Sn : Int) (m : Int) → fdE (nxD (Dn : Int) (Sn : Int) (m : Int)) (Sn : Int) (nxM (Sn : Int) (m : Int)) (nxG (Sn : Int) (m : Int)) ((m : Int) * ((Dn : Int) + 1) + (i : Int)) = 0 ∧ fdT (nxD (Dn : Int) (Sn : Int) (m : Int)) (Sn : Int) (nxM (Sn : Int) (m : Int)) (nxG (Sn : Int) (m : Int)) ((m : Int) * ((Dn : Int) + 1) + (i : Int)) = (m : Int) ∧ fdC (nxD (Dn : Int) (Sn : Int) (m : Int)) (Sn : Int) (nxM (Sn : Int) (m : Int)) (nxG (Sn : Int) (m : Int)) ((m : Int) * ((Dn : Int) + 1) + (i : Int)) = (i : Int)) := fun i h1 h2 => gr_nx hg (by omega) (by omega) h2
      have hRR : Hid (∀ b : Int, 0 ≤ b → b < (Sn : Int) * (Dn : Int) → (b < (m : Int) * ((Dn : Int) + 1) ∨ (m : Int) * ((Dn : Int) + 1) + (Dn : Int) < b) → fdT (Dn : Int) (Sn : Int) (m : Int) true b = fdT (nxD (Dn : Int) (Sn : Int) (m : Int)) (Sn : Int) (nxM (Sn : Int) (m : Int)) (nxG (Sn : Int) (m : Int)) b ∧ fdC (Dn : Int) (Sn : Int) (m : Int) true b = fdC (nxD (Dn : Int) (Sn : Int) (m : Int)) (Sn : Int) (nxM (Sn : Int) (m : Int)) (nxG (Sn : Int) (m : Int)) b ∧ fdT (nxD (Dn : Int) (Sn : Int) (m : Int)) (Sn : Int) (nxM (Sn : Int) (m : Int)) (nxG (Sn : Int) (m : Int)) b ≠ (m : Int)) := fun b h1 h2 h3 => gr_rest hg h1 h2 h3
      have QM1 := fun z hz => moves_any (D := (Dn : Int)) (S := (Sn : Int)) (M := (m : Int)) (G := true) z hz
      rw [hE, hN] at QM1
      have QT1 := fun z hz => step_any (D := (Dn : Int)) (S := (Sn : Int)) (M := (m : Int)) (G := true) z hz
      rw [hE, hsp] at QT1
      have QG1 := fun z hz => good_any (D := nxD (Dn : Int) (Sn : Int) (m : Int)) (S := (Sn : Int)) (M := nxM (Sn : Int) (m : Int)) (G := nxG (Sn : Int) (m : Int)) z hz
      rw [decide_eq_true hgn] at QG1
      have QB1 := fun z hz => blocks_any (D := (Dn : Int)) (S := (Sn : Int)) (M := (m : Int)) (G := true) z hz
      rw [show bkN (Dn : Int) (Sn : Int) (m : Int) true = (Sn : Int) * (Dn : Int) from if_pos hg] at QB1
      have QB2 := fun z hz => blocks_any (D := nxD (Dn : Int) (Sn : Int) (m : Int)) (S := (Sn : Int)) (M := nxM (Sn : Int) (m : Int)) (G := nxG (Sn : Int) (m : Int)) z hz
      rw [show bkN (nxD (Dn : Int) (Sn : Int) (m : Int)) (Sn : Int) (nxM (Sn : Int) (m : Int)) (nxG (Sn : Int) (m : Int)) = (Sn : Int) * nxD (Dn : Int) (Sn : Int) (m : Int) from if_pos hgn] at QB2
      have QF1 : Hid (∀ (b : Int) z, Tabs z → Calls Tryd.prog 9 #[.agg #[.int .i64 (Dn : Int), .int .i64 (Sn : Int), .int .i64 (m : Int), .bool true], .int .i64 b] z fun e w' => e = .returned (.tuple #[.int .i64 (fdT (Dn : Int) (Sn : Int) (m : Int) true b), .int .i64 (fdC (Dn : Int) (Sn : Int) (m : Int) true b), .int .i64 (fdE (Dn : Int) (Sn : Int) (m : Int) true b)]) ∧ Below z.heap.size z w') := fun b z hz => find_any z hz b
      have QF2 := fun (b : Int) z hz => find_any (D := nxD (Dn : Int) (Sn : Int) (m : Int)) (S := (Sn : Int)) (M := nxM (Sn : Int) (m : Int)) (G := nxG (Sn : Int) (m : Int)) z hz b
      have hat : ∀ i : Nat, i < Dn + 1 → (mvL (Dn : Int) (m : Int) (Dn + 1))[i]? = some (.int .i64 ((m : Int) * ((Dn : Int) + 1) + (i : Int))) := fun i hi => mvL_at _ _ hi
      generalize mvL (Dn : Int) (m : Int) (Dn + 1) = ML at *
      generalize nxD (Dn : Int) (Sn : Int) (m : Int) = d3 at *
      generalize nxM (Sn : Int) (m : Int) = m3 at *
      generalize nxG (Sn : Int) (m : Int) = g3 at *
      generalize (m : Int) * ((Dn : Int) + 1) = P at *
      generalize (Sn : Int) * (Dn : Int) = B1 at *
      generalize (Sn : Int) * d3 = B2 at *
      have HAT : Hid (∀ i : Nat, i < Dn + 1 → ML[i]? = some (.int .i64 (P + (i : Int)))) := hat
      have QM : Hid (∀ z, Tabs z → Calls Tryd.prog 5 #[.agg #[.int .i64 (Dn : Int), .int .i64 (Sn : Int), .int .i64 (m : Int), .bool true]] z fun e w' => ∃ v, e = .returned (.tuple #[v, .int .i64 0]) ∧ w'.ownsRow z.heap.size 3 1 v (Dn + 1) ML ∧ Below z.heap.size z w') := QM1
      have QT : Hid (∀ z, Tabs z → Calls Tryd.prog 6 #[.agg #[.int .i64 (Dn : Int), .int .i64 (Sn : Int), .int .i64 (m : Int), .bool true]] z fun e w' => e = .returned (.tuple #[.agg #[.int .i64 d3, .int .i64 (Sn : Int), .int .i64 m3, .bool g3], .int .i64 0]) ∧ Below z.heap.size z w') := QT1
      have QG : Hid (∀ z, Tabs z → Calls Tryd.prog 7 #[.agg #[.int .i64 d3, .int .i64 (Sn : Int), .int .i64 m3, .bool g3]] z fun e w' => e = .returned (.bool true) ∧ Below z.heap.size z w') := QG1
      obtain ⟨Bn, hBn⟩ : ∃ Bn : Nat, B1 = (Bn : Int) := ⟨B1.toNat, by omega⟩
      subst hBn
      have QBC : Hid (∀ z, Tabs z → Calls Tryd.prog 8 #[.agg #[.int .i64 (Dn : Int), .int .i64 (Sn : Int), .int .i64 (m : Int), .bool true]] z fun e w' => e = .returned (.int .i64 (Bn : Int)) ∧ Below z.heap.size z w') := QB1
      have QBN : Hid (∀ z, Tabs z → Calls Tryd.prog 8 #[.agg #[.int .i64 d3, .int .i64 (Sn : Int), .int .i64 m3, .bool g3]] z fun e w' => e = .returned (.int .i64 B2) ∧ Below z.heap.size z w') := QB2
      have QFN : Hid (∀ (b : Int) z, Tabs z → Calls Tryd.prog 9 #[.agg #[.int .i64 d3, .int .i64 (Sn : Int), .int .i64 m3, .bool g3], .int .i64 b] z fun e w' => e = .returned (.tuple #[.int .i64 (fdT d3 (Sn : Int) m3 g3 b), .int .i64 (fdC d3 (Sn : Int) m3 g3 b), .int .i64 (fdE d3 (Sn : Int) m3 g3 b)]) ∧ Below z.heap.size z w') := QF2
      obtain ⟨hp0, hp1⟩ := hpd
      obtain ⟨hB10, hB11⟩ := hnb1
      obtain ⟨hB20, hB21⟩ := hnb2
      clear hg hgn hE hN hsp QM1 QT1 QG1 QB1 QB2 QF2 hat hmr
      have hb3c := H3.out.blk
      have c30 := hb3c.cell (i := 0) rfl
      have c31 := hb3c.cell (i := 1) rfl
      have c32 := hb3c.cell (i := 2) rfl
      have c33 := hb3c.cell (i := 3) rfl
      clear hb3c
      go_wp2_with (first
        | (go_at_call 5; refine (QM.out _ (HTA.out _ H3.out.low)).mono ?_; rintro x w4 ⟨v4, rfl, hr4, h4⟩; obtain ⟨a4, c4, hv4⟩ := owns_form hr4; subst hv4; have H4 : Hid (Hold w.heap.size w w4 (star (rowK 3 1 (.slice a4 (Dn + 1) c4) (Dn + 1) ML) (star (blkA gl 24 (lyL (Dn : Int) (Sn : Int) (m : Int) true)) nought))) := Hold.newRow (HFB.out _) H3.out h4 hr4; have hb4c := H4.out.right.blk; have c40 := hb4c.cell (i := 0) rfl; have c41 := hb4c.cell (i := 1) rfl; have c42 := hb4c.cell (i := 2) rfl; have c43 := hb4c.cell (i := 3) rfl; clear hb4c; clear h4 hr4 H3 c30 c31 c32 c33)
        | (go_at_call 6; refine (QT.out _ (HTA.out _ H4.out.low)).mono ?_; rintro x w5 ⟨rfl, h5⟩; have H5 : Hid (Hold w.heap.size w (w5.alloc (.cells #[.int .i64 d3, .int .i64 (Sn : Int), .int .i64 m3, .bool g3] 24)) (star (blkA w5.heap.size 24 (lyL d3 (Sn : Int) m3 g3)) (star (rowK 3 1 (.slice a4 (Dn + 1) c4) (Dn + 1) ML) (star (blkA gl 24 (lyL (Dn : Int) (Sn : Int) (m : Int) true)) nought)))) := (H4.out.below ((firm_rowK _ _ _ _ _).star (HFB.out _)) h5).newBlk ((firm_rowK _ _ _ _ _).star (HFB.out _)) 24 (lyL d3 (Sn : Int) m3 g3).toArray; have hb5n := H5.out.blk; have n50 := hb5n.cell (i := 0) rfl; have n51 := hb5n.cell (i := 1) rfl; have n52 := hb5n.cell (i := 2) rfl; have n53 := hb5n.cell (i := 3) rfl; clear hb5n; have hb5c := H5.out.right.right.blk; have c50 := hb5c.cell (i := 0) rfl; have c51 := hb5c.cell (i := 1) rfl; have c52 := hb5c.cell (i := 2) rfl; have c53 := hb5c.cell (i := 3) rfl; clear hb5c; clear h5 H4 c40 c41 c42 c43)
        | (go_at_call 7; refine (QG.out _ (HTA.out _ H5.out.low)).mono ?_; rintro x w6 ⟨rfl, h6⟩; have H6 : Hid (Hold w.heap.size w w6 (star (blkA w5.heap.size 24 (lyL d3 (Sn : Int) m3 g3)) (star (rowK 3 1 (.slice a4 (Dn + 1) c4) (Dn + 1) ML) (star (blkA gl 24 (lyL (Dn : Int) (Sn : Int) (m : Int) true)) nought)))) := H5.out.below ((firm_blk _ _ _).star ((firm_rowK _ _ _ _ _).star (HFB.out _))) h6; clear h6 H5 c50 c51 c52 c53 n50 n51 n52 n53))
      generalize w5.heap.size = g5 at *
      clear QM QT QG
      have HF2 : Hid (Firm (star (blkA g5 24 (lyL d3 (Sn : Int) m3 g3)) (star (rowK 3 1 (.slice a4 (Dn + 1) c4) (Dn + 1) ML) (star (blkA gl 24 (lyL (Dn : Int) (Sn : Int) (m : Int) true)) nought)))) := (firm_blk _ _ _).star ((firm_rowK _ _ _ _ _).star (HFB.out _))
      go_loopw [67] (fun j wr => ∃ i : Nat, j = .int .i64 (i : Int) ∧ Hid (i ≤ Dn + 1 ∧ Hold w.heap.size w wr (star (blkA g5 24 (lyL d3 (Sn : Int) m3 g3)) (star (rowK 3 1 (.slice a4 (Dn + 1) c4) (Dn + 1) ML) (star (blkA gl 24 (lyL (Dn : Int) (Sn : Int) (m : Int) true)) nought))))) (fun j _ => Dn + 1 - (intOf j).toNat)
      case atStart => exact ⟨0, rfl, Nat.zero_le _, H6.out⟩
      case round =>
        clear H6
        obtain ⟨i, rfl, hi⟩ := hrel
        have hi2 := hi.out.1
        have H7 : Hid (Hold w.heap.size w wr (star (blkA g5 24 (lyL d3 (Sn : Int) m3 g3)) (star (rowK 3 1 (.slice a4 (Dn + 1) c4) (Dn + 1) ML) (star (blkA gl 24 (lyL (Dn : Int) (Sn : Int) (m : Int) true)) nought)))) := hi.out.2
        clear hi
        by_cases hil : i < Dn + 1
        · have hii : (i : Int) < (Dn : Int) + 1 := by omega
          obtain ⟨gr, hgr, hcell⟩ := owns_cell (Hold.rowK (Hold.right H7.out)) (HAT.out i hil)
          subst hgr
          have hb7n := H7.out.blk
          have n70 := hb7n.cell (i := 0) rfl
          have n71 := hb7n.cell (i := 1) rfl
          have n72 := hb7n.cell (i := 2) rfl
          have n73 := hb7n.cell (i := 3) rfl
          clear hb7n
          have hb7c := H7.out.right.right.blk
          have c70 := hb7c.cell (i := 0) rfl
          have c71 := hb7c.cell (i := 1) rfl
          have c72 := hb7c.cell (i := 2) rfl
          have c73 := hb7c.cell (i := 3) rfl
          clear hb7c
          obtain ⟨bv, hbv⟩ : ∃ bv, P + (i : Int) = bv := ⟨_, rfl⟩
          have HBV : Hid (P + (i : Int) = bv) := hbv
          rw [hbv] at hcell
          have hb0 : P ≤ bv := by omega
          clear hbv
          by_cases h1 : bv < (Bn : Int)
          · have hF1 := QF1.out bv
            obtain ⟨e1, e2⟩ := hRC.out bv hb0 h1
            rw [e1] at hF1
            generalize fdT (Dn : Int) (Sn : Int) (m : Int) true bv = T1 at hF1 e2
            generalize fdC (Dn : Int) (Sn : Int) (m : Int) true bv = C1 at hF1
            have QFC : Hid (∀ z, Tabs z → Calls Tryd.prog 9 #[.agg #[.int .i64 (Dn : Int), .int .i64 (Sn : Int), .int .i64 (m : Int), .bool true], .int .i64 bv] z fun e w' => e = .returned (.tuple #[.int .i64 T1, .int .i64 C1, .int .i64 0]) ∧ Below z.heap.size z w') := hF1
            clear hF1 e1
            by_cases h2 : bv < B2
            · obtain ⟨n1, n2, n3⟩ := hRN.out i hil (by rw [HBV.out]; exact h2)
              have hF2 := QFN.out bv
              rw [HBV.out] at n1 n2 n3
              rw [n1, n2, n3] at hF2
              have QFM : Hid (∀ z, Tabs z → Calls Tryd.prog 9 #[.agg #[.int .i64 d3, .int .i64 (Sn : Int), .int .i64 m3, .bool g3], .int .i64 bv] z fun e w' => e = .returned (.tuple #[.int .i64 (m : Int), .int .i64 (i : Int), .int .i64 0]) ∧ Below z.heap.size z w') := hF2
              clear hF2 n1 n2 n3
              go_wp2_with (first
                | (go_at_call 8; refine (QBC.out _ (HTA.out _ H7.out.low)).mono ?_; rintro x w8 ⟨rfl, h8⟩; have H8 : Hid (Hold w.heap.size w w8 (star (blkA g5 24 (lyL d3 (Sn : Int) m3 g3)) (star (rowK 3 1 (.slice (some ⟨gr, 0, none⟩) (Dn + 1) c4) (Dn + 1) ML) (star (blkA gl 24 (lyL (Dn : Int) (Sn : Int) (m : Int) true)) nought)))) := H7.out.below HF2.out h8; have hb8n := H8.out.blk; have n80 := hb8n.cell (i := 0) rfl; have n81 := hb8n.cell (i := 1) rfl; have n82 := hb8n.cell (i := 2) rfl; have n83 := hb8n.cell (i := 3) rfl; clear hb8n; have hb8c := H8.out.right.right.blk; have c80 := hb8c.cell (i := 0) rfl; have c81 := hb8c.cell (i := 1) rfl; have c82 := hb8c.cell (i := 2) rfl; have c83 := hb8c.cell (i := 3) rfl; clear hb8c; clear h8 H7)
                | (go_at_call 9; refine (QFC.out _ (HTA.out _ H8.out.low)).mono ?_; rintro x w9 ⟨rfl, h9⟩; have H9 : Hid (Hold w.heap.size w w9 (star (blkA g5 24 (lyL d3 (Sn : Int) m3 g3)) (star (rowK 3 1 (.slice (some ⟨gr, 0, none⟩) (Dn + 1) c4) (Dn + 1) ML) (star (blkA gl 24 (lyL (Dn : Int) (Sn : Int) (m : Int) true)) nought)))) := H8.out.below HF2.out h9; have hb9n := H9.out.blk; have n90 := hb9n.cell (i := 0) rfl; have n91 := hb9n.cell (i := 1) rfl; have n92 := hb9n.cell (i := 2) rfl; have n93 := hb9n.cell (i := 3) rfl; clear hb9n; have hb9c := H9.out.right.right.blk; have c90 := hb9c.cell (i := 0) rfl; have c91 := hb9c.cell (i := 1) rfl; have c92 := hb9c.cell (i := 2) rfl; have c93 := hb9c.cell (i := 3) rfl; clear hb9c; clear h9 H8)
                | (go_at_call 8; refine (QBN.out _ (HTA.out _ H9.out.low)).mono ?_; rintro x w10 ⟨rfl, h10⟩; have H10 : Hid (Hold w.heap.size w w10 (star (blkA g5 24 (lyL d3 (Sn : Int) m3 g3)) (star (rowK 3 1 (.slice (some ⟨gr, 0, none⟩) (Dn + 1) c4) (Dn + 1) ML) (star (blkA gl 24 (lyL (Dn : Int) (Sn : Int) (m : Int) true)) nought)))) := H9.out.below HF2.out h10; have hb10n := H10.out.blk; have n100 := hb10n.cell (i := 0) rfl; have n101 := hb10n.cell (i := 1) rfl; have n102 := hb10n.cell (i := 2) rfl; have n103 := hb10n.cell (i := 3) rfl; clear hb10n; have hb10c := H10.out.right.right.blk; have c100 := hb10c.cell (i := 0) rfl; have c101 := hb10c.cell (i := 1) rfl; have c102 := hb10c.cell (i := 2) rfl; have c103 := hb10c.cell (i := 3) rfl; clear hb10c; clear h10 H9)
                | (go_at_call 9; refine (QFM.out _ (HTA.out _ H10.out.low)).mono ?_; rintro x w11 ⟨rfl, h11⟩; have H11 : Hid (Hold w.heap.size w w11 (star (blkA g5 24 (lyL d3 (Sn : Int) m3 g3)) (star (rowK 3 1 (.slice (some ⟨gr, 0, none⟩) (Dn + 1) c4) (Dn + 1) ML) (star (blkA gl 24 (lyL (Dn : Int) (Sn : Int) (m : Int) true)) nought)))) := H10.out.below HF2.out h11; have hb11n := H11.out.blk; have n110 := hb11n.cell (i := 0) rfl; have n111 := hb11n.cell (i := 1) rfl; have n112 := hb11n.cell (i := 2) rfl; have n113 := hb11n.cell (i := 3) rfl; clear hb11n; have hb11c := H11.out.right.right.blk; have c110 := hb11c.cell (i := 0) rfl; have c111 := hb11c.cell (i := 1) rfl; have c112 := hb11c.cell (i := 2) rfl; have c113 := hb11c.cell (i := 3) rfl; clear hb11c; clear h11 H10))
              go_roundw
              case rel => exact ⟨i + 1, by go_num, by omega, H11.out⟩
              case measure => simp [intOf]; omega
            · go_wp2_with (first
                | (go_at_call 8; refine (QBC.out _ (HTA.out _ H7.out.low)).mono ?_; rintro x w8 ⟨rfl, h8⟩; have H8 : Hid (Hold w.heap.size w w8 (star (blkA g5 24 (lyL d3 (Sn : Int) m3 g3)) (star (rowK 3 1 (.slice (some ⟨gr, 0, none⟩) (Dn + 1) c4) (Dn + 1) ML) (star (blkA gl 24 (lyL (Dn : Int) (Sn : Int) (m : Int) true)) nought)))) := H7.out.below HF2.out h8; have hb8n := H8.out.blk; have n80 := hb8n.cell (i := 0) rfl; have n81 := hb8n.cell (i := 1) rfl; have n82 := hb8n.cell (i := 2) rfl; have n83 := hb8n.cell (i := 3) rfl; clear hb8n; have hb8c := H8.out.right.right.blk; have c80 := hb8c.cell (i := 0) rfl; have c81 := hb8c.cell (i := 1) rfl; have c82 := hb8c.cell (i := 2) rfl; have c83 := hb8c.cell (i := 3) rfl; clear hb8c; clear h8 H7)
                | (go_at_call 9; refine (QFC.out _ (HTA.out _ H8.out.low)).mono ?_; rintro x w9 ⟨rfl, h9⟩; have H9 : Hid (Hold w.heap.size w w9 (star (blkA g5 24 (lyL d3 (Sn : Int) m3 g3)) (star (rowK 3 1 (.slice (some ⟨gr, 0, none⟩) (Dn + 1) c4) (Dn + 1) ML) (star (blkA gl 24 (lyL (Dn : Int) (Sn : Int) (m : Int) true)) nought)))) := H8.out.below HF2.out h9; have hb9n := H9.out.blk; have n90 := hb9n.cell (i := 0) rfl; have n91 := hb9n.cell (i := 1) rfl; have n92 := hb9n.cell (i := 2) rfl; have n93 := hb9n.cell (i := 3) rfl; clear hb9n; have hb9c := H9.out.right.right.blk; have c90 := hb9c.cell (i := 0) rfl; have c91 := hb9c.cell (i := 1) rfl; have c92 := hb9c.cell (i := 2) rfl; have c93 := hb9c.cell (i := 3) rfl; clear hb9c; clear h9 H8)
                | (go_at_call 8; refine (QBN.out _ (HTA.out _ H9.out.low)).mono ?_; rintro x w10 ⟨rfl, h10⟩; have H10 : Hid (Hold w.heap.size w w10 (star (blkA g5 24 (lyL d3 (Sn : Int) m3 g3)) (star (rowK 3 1 (.slice (some ⟨gr, 0, none⟩) (Dn + 1) c4) (Dn + 1) ML) (star (blkA gl 24 (lyL (Dn : Int) (Sn : Int) (m : Int) true)) nought)))) := H9.out.below HF2.out h10; have hb10n := H10.out.blk; have n100 := hb10n.cell (i := 0) rfl; have n101 := hb10n.cell (i := 1) rfl; have n102 := hb10n.cell (i := 2) rfl; have n103 := hb10n.cell (i := 3) rfl; clear hb10n; have hb10c := H10.out.right.right.blk; have c100 := hb10c.cell (i := 0) rfl; have c101 := hb10c.cell (i := 1) rfl; have c102 := hb10c.cell (i := 2) rfl; have c103 := hb10c.cell (i := 3) rfl; clear hb10c; clear h10 H9))
              go_roundw
              case rel => exact ⟨i + 1, by go_num, by omega, H10.out⟩
              case measure => simp [intOf]; omega
          · by_cases h2 : bv < B2
            · obtain ⟨n1, n2, n3⟩ := hRN.out i hil (by rw [HBV.out]; exact h2)
              have hF2 := QFN.out bv
              rw [HBV.out] at n1 n2 n3
              rw [n1, n2, n3] at hF2
              have QFM : Hid (∀ z, Tabs z → Calls Tryd.prog 9 #[.agg #[.int .i64 d3, .int .i64 (Sn : Int), .int .i64 m3, .bool g3], .int .i64 bv] z fun e w' => e = .returned (.tuple #[.int .i64 (m : Int), .int .i64 (i : Int), .int .i64 0]) ∧ Below z.heap.size z w') := hF2
              clear hF2 n1 n2 n3
              go_wp2_with (first
                | (go_at_call 8; refine (QBC.out _ (HTA.out _ H7.out.low)).mono ?_; rintro x w8 ⟨rfl, h8⟩; have H8 : Hid (Hold w.heap.size w w8 (star (blkA g5 24 (lyL d3 (Sn : Int) m3 g3)) (star (rowK 3 1 (.slice (some ⟨gr, 0, none⟩) (Dn + 1) c4) (Dn + 1) ML) (star (blkA gl 24 (lyL (Dn : Int) (Sn : Int) (m : Int) true)) nought)))) := H7.out.below HF2.out h8; have hb8n := H8.out.blk; have n80 := hb8n.cell (i := 0) rfl; have n81 := hb8n.cell (i := 1) rfl; have n82 := hb8n.cell (i := 2) rfl; have n83 := hb8n.cell (i := 3) rfl; clear hb8n; have hb8c := H8.out.right.right.blk; have c80 := hb8c.cell (i := 0) rfl; have c81 := hb8c.cell (i := 1) rfl; have c82 := hb8c.cell (i := 2) rfl; have c83 := hb8c.cell (i := 3) rfl; clear hb8c; clear h8 H7)
                | (go_at_call 8; refine (QBN.out _ (HTA.out _ H8.out.low)).mono ?_; rintro x w9 ⟨rfl, h9⟩; have H9 : Hid (Hold w.heap.size w w9 (star (blkA g5 24 (lyL d3 (Sn : Int) m3 g3)) (star (rowK 3 1 (.slice (some ⟨gr, 0, none⟩) (Dn + 1) c4) (Dn + 1) ML) (star (blkA gl 24 (lyL (Dn : Int) (Sn : Int) (m : Int) true)) nought)))) := H8.out.below HF2.out h9; have hb9n := H9.out.blk; have n90 := hb9n.cell (i := 0) rfl; have n91 := hb9n.cell (i := 1) rfl; have n92 := hb9n.cell (i := 2) rfl; have n93 := hb9n.cell (i := 3) rfl; clear hb9n; have hb9c := H9.out.right.right.blk; have c90 := hb9c.cell (i := 0) rfl; have c91 := hb9c.cell (i := 1) rfl; have c92 := hb9c.cell (i := 2) rfl; have c93 := hb9c.cell (i := 3) rfl; clear hb9c; clear h9 H8)
                | (go_at_call 9; refine (QFM.out _ (HTA.out _ H9.out.low)).mono ?_; rintro x w10 ⟨rfl, h10⟩; have H10 : Hid (Hold w.heap.size w w10 (star (blkA g5 24 (lyL d3 (Sn : Int) m3 g3)) (star (rowK 3 1 (.slice (some ⟨gr, 0, none⟩) (Dn + 1) c4) (Dn + 1) ML) (star (blkA gl 24 (lyL (Dn : Int) (Sn : Int) (m : Int) true)) nought)))) := H9.out.below HF2.out h10; have hb10n := H10.out.blk; have n100 := hb10n.cell (i := 0) rfl; have n101 := hb10n.cell (i := 1) rfl; have n102 := hb10n.cell (i := 2) rfl; have n103 := hb10n.cell (i := 3) rfl; clear hb10n; have hb10c := H10.out.right.right.blk; have c100 := hb10c.cell (i := 0) rfl; have c101 := hb10c.cell (i := 1) rfl; have c102 := hb10c.cell (i := 2) rfl; have c103 := hb10c.cell (i := 3) rfl; clear hb10c; clear h10 H9))
              go_roundw
              case rel => exact ⟨i + 1, by go_num, by omega, H10.out⟩
              case measure => simp [intOf]; omega
            · go_wp2_with (first
                | (go_at_call 8; refine (QBC.out _ (HTA.out _ H7.out.low)).mono ?_; rintro x w8 ⟨rfl, h8⟩; have H8 : Hid (Hold w.heap.size w w8 (star (blkA g5 24 (lyL d3 (Sn : Int) m3 g3)) (star (rowK 3 1 (.slice (some ⟨gr, 0, none⟩) (Dn + 1) c4) (Dn + 1) ML) (star (blkA gl 24 (lyL (Dn : Int) (Sn : Int) (m : Int) true)) nought)))) := H7.out.below HF2.out h8; have hb8n := H8.out.blk; have n80 := hb8n.cell (i := 0) rfl; have n81 := hb8n.cell (i := 1) rfl; have n82 := hb8n.cell (i := 2) rfl; have n83 := hb8n.cell (i := 3) rfl; clear hb8n; have hb8c := H8.out.right.right.blk; have c80 := hb8c.cell (i := 0) rfl; have c81 := hb8c.cell (i := 1) rfl; have c82 := hb8c.cell (i := 2) rfl; have c83 := hb8c.cell (i := 3) rfl; clear hb8c; clear h8 H7)
                | (go_at_call 8; refine (QBN.out _ (HTA.out _ H8.out.low)).mono ?_; rintro x w9 ⟨rfl, h9⟩; have H9 : Hid (Hold w.heap.size w w9 (star (blkA g5 24 (lyL d3 (Sn : Int) m3 g3)) (star (rowK 3 1 (.slice (some ⟨gr, 0, none⟩) (Dn + 1) c4) (Dn + 1) ML) (star (blkA gl 24 (lyL (Dn : Int) (Sn : Int) (m : Int) true)) nought)))) := H8.out.below HF2.out h9; have hb9n := H9.out.blk; have n90 := hb9n.cell (i := 0) rfl; have n91 := hb9n.cell (i := 1) rfl; have n92 := hb9n.cell (i := 2) rfl; have n93 := hb9n.cell (i := 3) rfl; clear hb9n; have hb9c := H9.out.right.right.blk; have c90 := hb9c.cell (i := 0) rfl; have c91 := hb9c.cell (i := 1) rfl; have c92 := hb9c.cell (i := 2) rfl; have c93 := hb9c.cell (i := 3) rfl; clear hb9c; clear h9 H8))
              go_roundw
              case rel => exact ⟨i + 1, by go_num, by omega, H9.out⟩
              case measure => simp [intOf]; omega
        · obtain rfl : i = Dn + 1 := by omega
          have hb7n := H7.out.blk
          have n70 := hb7n.cell (i := 0) rfl
          have n71 := hb7n.cell (i := 1) rfl
          have n72 := hb7n.cell (i := 2) rfl
          have n73 := hb7n.cell (i := 3) rfl
          clear hb7n
          have hb7c := H7.out.right.right.blk
          have c70 := hb7c.cell (i := 0) rfl
          have c71 := hb7c.cell (i := 1) rfl
          have c72 := hb7c.cell (i := 2) rfl
          have c73 := hb7c.cell (i := 3) rfl
          clear hb7c
          have hii : ¬ ((Dn + 1 : Nat) : Int) < (Dn : Int) + 1 := by omega
          obtain ⟨gr, hgr⟩ : ∃ gr, a4 = some ⟨gr, 0, none⟩ := by
            obtain ⟨gr, hgr, -⟩ := owns_cell (Hold.rowK (Hold.right H7.out)) (HAT.out 0 (by omega))
            exact ⟨gr, hgr⟩
          subst hgr
          go_wp2_with (first
            | (go_at_call 8; refine (QBC.out _ (HTA.out _ H7.out.low)).mono ?_; rintro x w8 ⟨rfl, h8⟩; have H8 : Hid (Hold w.heap.size w w8 (star (blkA g5 24 (lyL d3 (Sn : Int) m3 g3)) (star (rowK 3 1 (.slice (some ⟨gr, 0, none⟩) (Dn + 1) c4) (Dn + 1) ML) (star (blkA gl 24 (lyL (Dn : Int) (Sn : Int) (m : Int) true)) nought)))) := H7.out.below HF2.out h8; have hb8n := H8.out.blk; have n80 := hb8n.cell (i := 0) rfl; have n81 := hb8n.cell (i := 1) rfl; have n82 := hb8n.cell (i := 2) rfl; have n83 := hb8n.cell (i := 3) rfl; clear hb8n; have hb8c := H8.out.right.right.blk; have c80 := hb8c.cell (i := 0) rfl; have c81 := hb8c.cell (i := 1) rfl; have c82 := hb8c.cell (i := 2) rfl; have c83 := hb8c.cell (i := 3) rfl; clear hb8c; clear h8 H7))
          clear n80 n81 n82 n83 c80 c81 c82 c83
          go_loopw [116] (fun j wr => ∃ b : Nat, j = .int .i64 (b : Int) ∧ Hid (b ≤ Bn ∧ Hold w.heap.size w wr (star (blkA g5 24 (lyL d3 (Sn : Int) m3 g3)) (star (rowK 3 1 (.slice (some ⟨gr, 0, none⟩) (Dn + 1) c4) (Dn + 1) ML) (star (blkA gl 24 (lyL (Dn : Int) (Sn : Int) (m : Int) true)) nought))))) (fun j _ => Bn - (intOf j).toNat)
          case atStart => exact ⟨0, rfl, Nat.zero_le _, H8.out⟩
          case round =>
            clear H8
            obtain ⟨b, rfl, hb⟩ := hrel
            have hb2 := hb.out.1
            have H9 : Hid (Hold w.heap.size w wr (star (blkA g5 24 (lyL d3 (Sn : Int) m3 g3)) (star (rowK 3 1 (.slice (some ⟨gr, 0, none⟩) (Dn + 1) c4) (Dn + 1) ML) (star (blkA gl 24 (lyL (Dn : Int) (Sn : Int) (m : Int) true)) nought)))) := hb.out.2
            clear hb
            have hb9n := H9.out.blk
            have n90 := hb9n.cell (i := 0) rfl
            have n91 := hb9n.cell (i := 1) rfl
            have n92 := hb9n.cell (i := 2) rfl
            have n93 := hb9n.cell (i := 3) rfl
            clear hb9n
            have hb9c := H9.out.right.right.blk
            have c90 := hb9c.cell (i := 0) rfl
            have c91 := hb9c.cell (i := 1) rfl
            have c92 := hb9c.cell (i := 2) rfl
            have c93 := hb9c.cell (i := 3) rfl
            clear hb9c
            by_cases hbl : b < Bn
            · have hbi : (b : Int) < (Bn : Int) := by omega
              have hrr := hRR.out (b : Int) (by omega) hbi
              have hF1 := QF1.out (b : Int)
              have hF2 := QFN.out (b : Int)
              generalize fdT (Dn : Int) (Sn : Int) (m : Int) true (b : Int) = T1 at hrr hF1
              generalize fdC (Dn : Int) (Sn : Int) (m : Int) true (b : Int) = C1 at hrr hF1
              generalize fdE (Dn : Int) (Sn : Int) (m : Int) true (b : Int) = E1 at hF1
              generalize fdT d3 (Sn : Int) m3 g3 (b : Int) = T2 at hrr hF2
              generalize fdC d3 (Sn : Int) m3 g3 (b : Int) = C2 at hrr hF2
              generalize fdE d3 (Sn : Int) m3 g3 (b : Int) = E2 at hF2
              have QF1b : Hid (∀ z, Tabs z → Calls Tryd.prog 9 #[.agg #[.int .i64 (Dn : Int), .int .i64 (Sn : Int), .int .i64 (m : Int), .bool true], .int .i64 (b : Int)] z fun e w' => e = .returned (.tuple #[.int .i64 T1, .int .i64 C1, .int .i64 E1]) ∧ Below z.heap.size z w') := hF1
              have QF2b : Hid (∀ z, Tabs z → Calls Tryd.prog 9 #[.agg #[.int .i64 d3, .int .i64 (Sn : Int), .int .i64 m3, .bool g3], .int .i64 (b : Int)] z fun e w' => e = .returned (.tuple #[.int .i64 T2, .int .i64 C2, .int .i64 E2]) ∧ Below z.heap.size z w') := hF2
              clear hF1 hF2
              by_cases hlo : (b : Int) < P
              · obtain ⟨rfl, rfl, hne⟩ := hrr (.inl hlo)
                have hnb : (T1 == (m : Int)) = false := by simpa using hne
                go_wp2_with (first
                  | (go_at_call 9; refine (QF1b.out _ (HTA.out _ H9.out.low)).mono ?_; rintro x w10 ⟨rfl, h10⟩; have H10 : Hid (Hold w.heap.size w w10 (star (blkA g5 24 (lyL d3 (Sn : Int) m3 g3)) (star (rowK 3 1 (.slice (some ⟨gr, 0, none⟩) (Dn + 1) c4) (Dn + 1) ML) (star (blkA gl 24 (lyL (Dn : Int) (Sn : Int) (m : Int) true)) nought)))) := H9.out.below HF2.out h10; have hb10n := H10.out.blk; have n100 := hb10n.cell (i := 0) rfl; have n101 := hb10n.cell (i := 1) rfl; have n102 := hb10n.cell (i := 2) rfl; have n103 := hb10n.cell (i := 3) rfl; clear hb10n; have hb10c := H10.out.right.right.blk; have c100 := hb10c.cell (i := 0) rfl; have c101 := hb10c.cell (i := 1) rfl; have c102 := hb10c.cell (i := 2) rfl; have c103 := hb10c.cell (i := 3) rfl; clear hb10c; clear h10 H9)
                  | (go_at_call 9; refine (QF2b.out _ (HTA.out _ H10.out.low)).mono ?_; rintro x w11 ⟨rfl, h11⟩; have H11 : Hid (Hold w.heap.size w w11 (star (blkA g5 24 (lyL d3 (Sn : Int) m3 g3)) (star (rowK 3 1 (.slice (some ⟨gr, 0, none⟩) (Dn + 1) c4) (Dn + 1) ML) (star (blkA gl 24 (lyL (Dn : Int) (Sn : Int) (m : Int) true)) nought)))) := H10.out.below HF2.out h11; have hb11n := H11.out.blk; have n110 := hb11n.cell (i := 0) rfl; have n111 := hb11n.cell (i := 1) rfl; have n112 := hb11n.cell (i := 2) rfl; have n113 := hb11n.cell (i := 3) rfl; clear hb11n; have hb11c := H11.out.right.right.blk; have c110 := hb11c.cell (i := 0) rfl; have c111 := hb11c.cell (i := 1) rfl; have c112 := hb11c.cell (i := 2) rfl; have c113 := hb11c.cell (i := 3) rfl; clear hb11c; have r0 := rowC (HAT.out 0 (by omega)) (Hold.rowK (Hold.right H11.out)); have rD := rowC (HAT.out Dn (by omega)) (Hold.rowK (Hold.right H11.out)); rw [Int.natCast_zero, Int.add_zero] at r0; clear h11 H10))
                go_roundw
                case rel => exact ⟨b + 1, by go_num, by omega, H11.out⟩
                case measure => simp [intOf]; omega
              · by_cases hhi : P + (Dn : Int) < (b : Int)
                · obtain ⟨rfl, rfl, hne⟩ := hrr (.inr hhi)
                  have hnb : (T1 == (m : Int)) = false := by simpa using hne
                  go_wp2_with (first
                    | (go_at_call 9; refine (QF1b.out _ (HTA.out _ H9.out.low)).mono ?_; rintro x w10 ⟨rfl, h10⟩; have H10 : Hid (Hold w.heap.size w w10 (star (blkA g5 24 (lyL d3 (Sn : Int) m3 g3)) (star (rowK 3 1 (.slice (some ⟨gr, 0, none⟩) (Dn + 1) c4) (Dn + 1) ML) (star (blkA gl 24 (lyL (Dn : Int) (Sn : Int) (m : Int) true)) nought)))) := H9.out.below HF2.out h10; have hb10n := H10.out.blk; have n100 := hb10n.cell (i := 0) rfl; have n101 := hb10n.cell (i := 1) rfl; have n102 := hb10n.cell (i := 2) rfl; have n103 := hb10n.cell (i := 3) rfl; clear hb10n; have hb10c := H10.out.right.right.blk; have c100 := hb10c.cell (i := 0) rfl; have c101 := hb10c.cell (i := 1) rfl; have c102 := hb10c.cell (i := 2) rfl; have c103 := hb10c.cell (i := 3) rfl; clear hb10c; clear h10 H9)
                    | (go_at_call 9; refine (QF2b.out _ (HTA.out _ H10.out.low)).mono ?_; rintro x w11 ⟨rfl, h11⟩; have H11 : Hid (Hold w.heap.size w w11 (star (blkA g5 24 (lyL d3 (Sn : Int) m3 g3)) (star (rowK 3 1 (.slice (some ⟨gr, 0, none⟩) (Dn + 1) c4) (Dn + 1) ML) (star (blkA gl 24 (lyL (Dn : Int) (Sn : Int) (m : Int) true)) nought)))) := H10.out.below HF2.out h11; have hb11n := H11.out.blk; have n110 := hb11n.cell (i := 0) rfl; have n111 := hb11n.cell (i := 1) rfl; have n112 := hb11n.cell (i := 2) rfl; have n113 := hb11n.cell (i := 3) rfl; clear hb11n; have hb11c := H11.out.right.right.blk; have c110 := hb11c.cell (i := 0) rfl; have c111 := hb11c.cell (i := 1) rfl; have c112 := hb11c.cell (i := 2) rfl; have c113 := hb11c.cell (i := 3) rfl; clear hb11c; have r0 := rowC (HAT.out 0 (by omega)) (Hold.rowK (Hold.right H11.out)); have rD := rowC (HAT.out Dn (by omega)) (Hold.rowK (Hold.right H11.out)); rw [Int.natCast_zero, Int.add_zero] at r0; clear h11 H10))
                  go_roundw
                  case rel => exact ⟨b + 1, by go_num, by omega, H11.out⟩
                  case measure => simp [intOf]; omega
                · have hlo2 : P ≤ (b : Int) := by omega
                  have hhi2 : (b : Int) ≤ P + (Dn : Int) := by omega
                  clear hrr
                  go_wp2_with (first
                    | (go_at_call 9; refine (QF1b.out _ (HTA.out _ H9.out.low)).mono ?_; rintro x w10 ⟨rfl, h10⟩; have H10 : Hid (Hold w.heap.size w w10 (star (blkA g5 24 (lyL d3 (Sn : Int) m3 g3)) (star (rowK 3 1 (.slice (some ⟨gr, 0, none⟩) (Dn + 1) c4) (Dn + 1) ML) (star (blkA gl 24 (lyL (Dn : Int) (Sn : Int) (m : Int) true)) nought)))) := H9.out.below HF2.out h10; have hb10n := H10.out.blk; have n100 := hb10n.cell (i := 0) rfl; have n101 := hb10n.cell (i := 1) rfl; have n102 := hb10n.cell (i := 2) rfl; have n103 := hb10n.cell (i := 3) rfl; clear hb10n; have hb10c := H10.out.right.right.blk; have c100 := hb10c.cell (i := 0) rfl; have c101 := hb10c.cell (i := 1) rfl; have c102 := hb10c.cell (i := 2) rfl; have c103 := hb10c.cell (i := 3) rfl; clear hb10c; clear h10 H9)
                    | (go_at_call 9; refine (QF2b.out _ (HTA.out _ H10.out.low)).mono ?_; rintro x w11 ⟨rfl, h11⟩; have H11 : Hid (Hold w.heap.size w w11 (star (blkA g5 24 (lyL d3 (Sn : Int) m3 g3)) (star (rowK 3 1 (.slice (some ⟨gr, 0, none⟩) (Dn + 1) c4) (Dn + 1) ML) (star (blkA gl 24 (lyL (Dn : Int) (Sn : Int) (m : Int) true)) nought)))) := H10.out.below HF2.out h11; have hb11n := H11.out.blk; have n110 := hb11n.cell (i := 0) rfl; have n111 := hb11n.cell (i := 1) rfl; have n112 := hb11n.cell (i := 2) rfl; have n113 := hb11n.cell (i := 3) rfl; clear hb11n; have hb11c := H11.out.right.right.blk; have c110 := hb11c.cell (i := 0) rfl; have c111 := hb11c.cell (i := 1) rfl; have c112 := hb11c.cell (i := 2) rfl; have c113 := hb11c.cell (i := 3) rfl; clear hb11c; have r0 := rowC (HAT.out 0 (by omega)) (Hold.rowK (Hold.right H11.out)); have rD := rowC (HAT.out Dn (by omega)) (Hold.rowK (Hold.right H11.out)); rw [Int.natCast_zero, Int.add_zero] at r0; clear h11 H10))
                  go_roundw
                  case rel => exact ⟨b + 1, by go_num, by omega, H11.out⟩
                  case measure => simp [intOf]; omega
            · obtain rfl : b = Bn := by omega
              have hbi : ¬ (b : Int) < (b : Int) := by omega
              have H10 : Hid (Hold w.heap.size w (wr.setRow gl (lyL d3 (Sn : Int) m3 g3).toArray) (star (blkA gl 24 (lyL d3 (Sn : Int) m3 g3)) nought)) := H9.out.right.right.setRowBlk firm_nought (lyL d3 (Sn : Int) m3 g3)
              go_wp2_with (first
                | (refine wpList_store_blk rfl 24 _ _ rfl gl (lyL (Dn : Int) (Sn : Int) (m : Int) true) (lyL d3 (Sn : Int) m3 g3) rfl rfl 24 H9.out.right.right.blk HSZ.out rfl (ly_one _ _ _ _) ?_))
              go_roundw
              case rel => exact ⟨m + 1, by go_num, by omega, by rw [HNXT.out]; exact H10.out⟩
              case measure => simp [intOf]; omega
    · obtain rfl : m = Sn := by omega
      have hmi : ¬ (m : Int) < (m : Int) := by omega
      have H3 : Hid (Hold w.heap.size w wr (star (blkA gl 24 (lyL ((Dn : Int) + 1) (m : Int) 0 false)) nought)) := by
        have h := hmr.out.2
        rw [show gwL (Dn : Int) (m : Int) m = lyL ((Dn : Int) + 1) (m : Int) 0 false from if_neg hmi] at h
        exact h
      clear hmr
      go_wp2_with (go_at_call 10; refine (qw.out _ (HTA.out _ H3.out.low)).mono ?_; rintro x w9 ⟨rfl, h9⟩; have H9 : Hid (Hold w.heap.size w w9 (star (blkA gl 24 (lyL ((Dn : Int) + 1) (m : Int) 0 false)) nought)) := H3.out.below (HFB.out _) h9; have hb9c := H9.out.blk; have c90 := hb9c.cell (i := 0) rfl; have c91 := hb9c.cell (i := 1) rfl; have c92 := hb9c.cell (i := 2) rfl; have c93 := hb9c.cell (i := 3) rfl; clear hb9c; clear h9 H3)
      go_ret
      exact ⟨by simp, H9.out.low⟩
end Go.Proofs.YtbekmjljcjgopabDoor
