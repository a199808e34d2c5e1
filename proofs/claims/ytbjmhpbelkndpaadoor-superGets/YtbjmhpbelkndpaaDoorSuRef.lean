/- What the document asks of a record. -/
import Derived.Test.YtbjmhpbelkndpaaDoorSuPut
import Derived.Deep.DeepCutAuto
import Derived.BigQuiet
namespace Go.Proofs.YtbjmhpbelkndpaaDoor
open Go.RowKit Go.PlainAid
set_option linter.unusedVariables false

theorem zeroRMem : ∃ Z : List Value, Z.length = 3 ∧ ∀ w, (zeroValue 49).run Tryd.prog w = .ok (.agg Z.toArray) w := by
  refine ⟨mrow 0 noB noB, rfl, fun w => ?_⟩
  obtain ⟨i, hi, hz⟩ := Option.map_eq_some_iff.1 (show (Tryd.prog.info? 49).map (fun i => i.zero) = some (some (.agg (mrow 0 noB noB).toArray)) by kernel_rfl)
  simp [zeroValue, typeInfo, hi, hz]
section
variable {R : Rec} {sa ma : Option Addr} {sc mc : Nat} {w : World}
set_option maxRecDepth 20000 in
set_option maxHeartbeats 400000 in
theorem r14seated_any (hn : R.ns ≤ 100) (hL : Lies w R sa ma) (x : Int) : Calls Tryd.prog 49 #[.agg (supV R sa ma sc mc).toArray, .int .i64 x] w fun e w' => e = .returned (.int .i64 ((cnt R x R.ns : Nat) : Int)) ∧ Below w.heap.size w w' := by
  have hB : Hid (Below w.heap.size w (w.alloc (.cells (supV R sa ma sc mc).toArray 32))) := Below.refl w.heap.size w |>.alloc (Nat.le_refl _) (.cells (supV R sa ma sc mc).toArray 32)
  have hK := Blk.box w 32 (supV R sa ma sc mc)
  obtain ⟨L, hLL⟩ : ∃ L, supV R sa ma sc mc = L := ⟨_, rfl⟩
  have c7 : L[7]? = some (.slice sa R.ns sc) := by rw [← hLL]; rfl
  rw [hLL] at hB hK ⊢
  have c7' := hK.cell c7
  have HL : Hid (Lies w R sa ma) := hL
  clear hLL c7 hL hK
  obtain ⟨W1, hW1⟩ : ∃ W1, w.alloc (.cells L.toArray 32) = W1 := ⟨_, rfl⟩
  rw [hW1] at hB c7'
  go_enter Tryd.func49, Tryd.ntmps49
  go_wp2
  clear hW1
  go_loop [5, 6] (fun n i => ∃ k : Nat, k ≤ R.ns ∧ i = .int .i64 (k : Int) ∧ n = .int .i64 ((cnt R x k : Nat) : Int)) (fun _ i => R.ns - (intOf i).toNat)
  case atStart => exact ⟨0, Nat.zero_le _, rfl, rfl⟩
  case round =>
    obtain ⟨k, hk, rfl, rfl⟩ := hrel
    by_cases hlt : k < R.ns
    · have hk' : (k : Int) < (R.ns : Int) := by omega
      obtain ⟨b, o, rfl, hr⟩ := HL.out.1.at hB.out k hlt
      have hbn := nOf_le (fun j => R.seat j == x) k
      have hbl := cnt_succ R x k
      have hbk : cnt R x k ≤ 100 := by unfold cnt; omega
      clear hbn
      by_cases h3 : R.seat k = x
      · have h3' : (R.seat k == x) = true := by simpa using h3
        rw [h3', if_pos rfl] at hbl
        have HBL : Hid _ := hbl
        clear hbl h3
        go_wp2
        go_round
        case rel => exact ⟨k + 1, by omega, by go_num, by rw [HBL.out]; go_num⟩
        case measure => simp [intOf]; omega
      · have h3' : (R.seat k == x) = false := by simpa using h3
        rw [h3', if_neg (by decide)] at hbl
        have HBL : Hid _ := hbl
        clear hbl
        go_wp2
        go_round
        case rel => exact ⟨k + 1, by omega, by go_num, by rw [HBL.out]; rfl⟩
        case measure => simp [intOf]; omega
    · obtain rfl : k = R.ns := by omega
      have hk' : ¬ (R.ns : Int) < (R.ns : Int) := by omega
      go_wp2
      go_ret
      exact ⟨rfl, hB.out⟩
set_option maxRecDepth 20000 in
set_option maxHeartbeats 4000000 in
theorem r14good_any (hf : R.Fine) (hL : Lies w R sa ma) : Calls Tryd.prog 29 #[.agg (supV R sa ma sc mc).toArray] w fun e w' => e = .returned (.bool (gd R)) ∧ Below w.heap.size w w' := by
  have HNO : Hid (∀ h : ¬ rOk R, gd R = false) := fun h => by
    cases hg : gd R
    · rfl
    · exact absurd ((gd_iff R).1 hg) h
  have hn := hf.nm
  have hs := hf.ns
  have HE : Hid (∀ wr, Below w.heap.size w wr → ∀ x, Calls Tryd.prog 49 #[.agg (supV R sa ma sc mc).toArray, .int .i64 x] wr fun e w' => e = .returned (.int .i64 ((cnt R x R.ns : Nat) : Int)) ∧ Below wr.heap.size wr w') := fun wr hb x => r14seated_any hs (hL.below hb) x
  have hB : Hid (Below w.heap.size w (w.alloc (.cells (supV R sa ma sc mc).toArray 32))) := Below.refl w.heap.size w |>.alloc (Nat.le_refl _) (.cells (supV R sa ma sc mc).toArray 32)
  have hK : Hid (Blk _ w.heap.size 32 (supV R sa ma sc mc)) := Blk.box w 32 (supV R sa ma sc mc)
  have hd := hf.d
  have hS : Hid (∀ j, j < R.ns → _) := hf.seat
  obtain ⟨L, hLL⟩ : ∃ L, supV R sa ma sc mc = L := ⟨_, rfl⟩
  have c2 : L[2]? = some (.int .i64 R.data) := by rw [← hLL]; rfl
  have c3 : L[3]? = some (.int .i64 R.slots) := by rw [← hLL]; rfl
  have c4 : L[4]? = some (.int .i64 R.mark) := by rw [← hLL]; rfl
  have c5 : L[5]? = some (.int .i64 R.built) := by rw [← hLL]; rfl
  have c6 : L[6]? = some (.bool R.grow) := by rw [← hLL]; rfl
  have c7 : L[7]? = some (.slice sa R.ns sc) := by rw [← hLL]; rfl
  have c8 : L[8]? = some (.slice ma R.nm mc) := by rw [← hLL]; rfl
  have hl9 : L.length = 9 := by rw [← hLL]; rfl
  have HL9 : Hid ((Tryd.prog.info? 32).map (·.size) = some L.length) := by rw [hl9]; exact Tryd.size32
  rw [hLL] at hB hK HE ⊢
  have HL : Hid (Lies w R sa ma) := hL
  have HC : Hid (∀ z, Blk z w.heap.size 32 L → z.cell? ⟨w.heap.size, 7, none⟩ = some (.slice sa R.ns sc) ∧ z.cell? ⟨w.heap.size, 8, none⟩ = some (.slice ma R.nm mc) ∧ z.cell? ⟨w.heap.size, 5, none⟩ = some (.int .i64 R.built)) := fun z hz => ⟨hz.cell c7, hz.cell c8, hz.cell c5⟩
  obtain ⟨W1, hW1⟩ : ∃ W1, w.alloc (.cells L.toArray 32) = W1 := ⟨_, rfl⟩
  rw [hW1] at hB hK
  have d2 := hK.out.cell c2
  have d3 := hK.out.cell c3
  have d4 := hK.out.cell c4
  have d5 := hK.out.cell c5
  have d6 := hK.out.cell c6
  have d7 := hK.out.cell c7
  have d8 := hK.out.cell c8
  clear hLL hl9 hL c2 c3 c4 c5 c6 c7 c8 hf
  by_cases hin : 2 ≤ R.data ∧ R.data ≤ mst R
  · obtain ⟨i1, i2⟩ := hin
    have hm8 : mst R ≤ 8 := by unfold mst; cases R.grow <;> decide
    have hm7 : 7 ≤ mst R := by unfold mst; cases R.grow <;> decide
    have i3 : R.data ≤ 8 := by omega
    have i4 : ¬ R.data < 2 := by omega
    have i5 : ¬ mst R < R.data := by omega
    clear hm8 hm7
    go_enter Tryd.func29, Tryd.ntmps29
    go_upto_if 14 with fail
    clear hW1
    go_cut [3, 4] (fun a b wx => a = .int .i64 (mst R) ∧ b = .int .i64 (wid R) ∧ wx = W1)
    case first =>
      as_aux_lemma =>
        cases hg : R.grow
        · go_wp2
          go_meet
          case rel => exact ⟨by unfold mst; rw [hg]; rfl, by unfold wid; rw [hg]; rfl, rfl⟩
        · go_wp2
          go_meet
          case rel => exact ⟨by unfold mst; rw [hg]; rfl, by unfold wid; rw [hg]; rfl, rfl⟩
    case rest =>
      obtain ⟨rfl, rfl, hw⟩ := hcut
      rw [hw]
      clear hw
      generalize hV : wid R = V at *
      have HV : Hid (wid R = V) := hV
      clear hV
      by_cases h33 : (R.ns : Int) = V
      · have h33b : ((R.ns : Int) != V) = false := by simpa using h33
        have h33c : ((R.ns : Int) == V) = true := by simpa using h33
        have H33 : Hid ((R.ns : Int) = V) := h33
        clear h33
        go_upto_region 8 with fail
        go_cut [51] (fun c wx => ∃ q : Bool, c = .bool q ∧ (q = false ↔ (R.slots = 2 ∨ R.slots = 4 ∨ R.slots = 8 ∨ R.slots = 16)) ∧ wx = W1)
        case first =>
          as_aux_lemma =>
            by_cases s2 : R.slots = 2
            · go_wp2
              go_meet
              case rel => exact ⟨false, rfl, ⟨fun _ => .inl s2, fun _ => rfl⟩, rfl⟩
            · have s2b : (R.slots != 2) = true := by simpa using s2
              by_cases s4 : R.slots = 4
              · go_wp2
                go_meet
                case rel => exact ⟨false, rfl, ⟨fun _ => .inr (.inl s4), fun _ => rfl⟩, rfl⟩
              · have s4b : (R.slots != 4) = true := by simpa using s4
                by_cases s8 : R.slots = 8
                · go_wp2
                  go_meet
                  case rel => exact ⟨false, rfl, ⟨fun _ => .inr (.inr (.inl s8)), fun _ => rfl⟩, rfl⟩
                · have s8b : (R.slots != 8) = true := by simpa using s8
                  by_cases s16 : R.slots = 16
                  · go_wp2
                    go_meet
                    case rel => exact ⟨false, rfl, ⟨fun _ => .inr (.inr (.inr s16)), fun _ => rfl⟩, rfl⟩
                  · have s16b : (R.slots != 16) = true := by simpa using s16
                    go_wp2
                    go_meet
                    case rel => exact ⟨true, rfl, ⟨fun h => absurd h (by decide), fun h => by omega⟩, rfl⟩
        case rest =>
          obtain ⟨q, rfl, hq, hw⟩ := hcut
          rw [hw]
          clear hw
          cases q
          · have HSL : Hid (R.slots = 2 ∨ R.slots = 4 ∨ R.slots = 8 ∨ R.slots = 16) := hq.1 rfl
            clear hq
            go_upto_region 10 with fail
            go_cut [83] (fun c wx => ∃ q : Bool, c = .bool q ∧ (q = false ↔ (0 ≤ R.mark ∧ R.mark ≤ R.slots ∧ 0 ≤ R.built ∧ R.built ≤ R.slots ∧ ¬ (0 < R.mark ∧ R.grow = false))) ∧ wx = W1)
            case first =>
              as_aux_lemma =>
                by_cases m1 : R.mark < 0
                · go_wp2
                  go_meet
                  case rel => exact ⟨true, rfl, ⟨fun h => absurd h (by decide), fun h => by omega⟩, rfl⟩
                · by_cases m2 : R.slots < R.mark
                  · go_wp2
                    go_meet
                    case rel => exact ⟨true, rfl, ⟨fun h => absurd h (by decide), fun h => by omega⟩, rfl⟩
                  · by_cases m3 : R.built < 0
                    · go_wp2
                      go_meet
                      case rel => exact ⟨true, rfl, ⟨fun h => absurd h (by decide), fun h => by omega⟩, rfl⟩
                    · by_cases m4 : R.slots < R.built
                      · go_wp2
                        go_meet
                        case rel => exact ⟨true, rfl, ⟨fun h => absurd h (by decide), fun h => by omega⟩, rfl⟩
                      · by_cases m5 : 0 < R.mark
                        · cases hg : R.grow
                          · rw [hg] at d6
                            go_wp2
                            go_meet
                            case rel => exact ⟨true, rfl, ⟨fun h => absurd h (by decide), fun h => absurd ⟨by omega, hg⟩ h.2.2.2.2⟩, rfl⟩
                          · rw [hg] at d6
                            go_wp2
                            go_meet
                            case rel => exact ⟨false, rfl, ⟨fun h => ⟨by omega, by omega, by omega, by omega, fun h => by rw [hg] at h; exact absurd h.2 (by decide)⟩, fun h => rfl⟩, rfl⟩
                        · go_wp2
                          go_meet
                          case rel => exact ⟨false, rfl, ⟨fun h => ⟨by omega, by omega, by omega, by omega, fun h => by omega⟩, fun h => rfl⟩, rfl⟩
            case rest =>
              obtain ⟨q, rfl, hq, hw⟩ := hcut
              rw [hw]
              clear hw
              cases q
              · have HMK : Hid (0 ≤ R.mark ∧ R.mark ≤ R.slots ∧ 0 ≤ R.built ∧ R.built ≤ R.slots ∧ ¬ (0 < R.mark ∧ R.grow = false)) := hq.1 rfl
                clear hq
                by_cases n1 : R.nm < 1
                · have n1' : (R.nm : Int) < 1 := by omega
                  have HX : Hid (¬ rOk R) := fun h => by have := h.1.2.2.2.2.2.2.2.2.2.1; omega
                  go_wp2
                  go_ret
                  exact ⟨by rw [HNO.out (HX.out)]; rfl, hB.out⟩
                · by_cases n2 : 12 < R.nm
                  · have n1' : ¬ (R.nm : Int) < 1 := by omega
                    have n2' : (12 : Int) < (R.nm : Int) := by omega
                    have HX : Hid (¬ rOk R) := fun h => by have := h.1.2.2.2.2.2.2.2.2.2.2; omega
                    go_wp2
                    go_ret
                    exact ⟨by rw [HNO.out (HX.out)]; rfl, hB.out⟩
                  · have n1' : ¬ (R.nm : Int) < 1 := by omega
                    have n2' : ¬ (12 : Int) < (R.nm : Int) := by omega
                    have HH : Hid (hOk R) := ⟨i1, i2, by rw [HV.out]; exact H33.out, HSL.out, HMK.out.1, HMK.out.2.1, HMK.out.2.2.1, HMK.out.2.2.2.1, HMK.out.2.2.2.2, by omega, by omega⟩
                    go_wp2
                    clear d2 d3 d4 d5 d6 d7 d8 n1' n2' h33b h33c i1 i2 i3 i4 i5 hd
                    obtain ⟨Z, hZl, hZ⟩ := zeroRMem
                    have HZ : Hid (Z.length = 3) := hZl
                    clear hZl
                    go_loopw [5, 6] (fun n i wr => ∃ k : Nat, k ≤ R.nm ∧ i = .int .i64 (k : Int) ∧ n = .int .i64 ((bld R k : Nat) : Int) ∧ Hid (∀ j, j < k → mOk R j) ∧ Hid (Below w.heap.size w wr) ∧ Hid (Blk wr w.heap.size 32 L)) (fun _ i _ => R.nm - (intOf i).toNat)
                    case atStart => exact ⟨0, Nat.zero_le _, rfl, rfl, fun j hj => by omega, hB.out, hK.out⟩
                    case round =>
                      clear hB hK
                      obtain ⟨k, hk, rfl, rfl, hmk, hb, hbx⟩ := hrel
                      obtain ⟨d7, d8, d5⟩ := HC.out _ hbx.out
                      by_cases hlt : k < R.nm
                      · have hk' : (k : Int) < (R.nm : Int) := by omega
                        obtain ⟨b, o, rfl, hr⟩ := HL.out.2.at hb.out k hlt
                        have HR : Hid (wr.rangeAt b (o + k * 3) _) := hr
                        obtain ⟨wx, hwx⟩ : ∃ wx, (wr.alloc (.cells Z.toArray 49)).setRow wr.heap.size (mrow (R.st k) (R.top k) (R.log k)).toArray = wx := ⟨_, rfl⟩
                        have hxx := Below.boxed wr 49 Z (mrow (R.st k) (R.top k) (R.log k))
                        have hxb := Blk.boxed wr 49 Z (mrow (R.st k) (R.top k) (R.log k))
                        rw [hwx] at hxx hxb
                        have hx : Hid (Below w.heap.size w wx) := hb.out.trans (hxx.mono hb.out.size)
                        have hxk : Hid (Blk wx w.heap.size 32 L) := hbx.out.below hxx hbx.out.lt
                        have HXB : Hid (Blk wx wr.heap.size 49 _) := hxb
                        have hse := HE.out _ hx.out (k : Int)
                        have hbn := nOf_le (fun i => R.st i == 3) k
                        have hbl : bld R (k + 1) = bld R k + (if R.st k == 3 then 1 else 0) := rfl
                        have hbk : bld R k ≤ 100 := by unfold bld; omega
                        have HMO : Hid (mOk R k ↔ (0 ≤ R.st k ∧ R.st k ≤ 3 ∧ (R.top k).size = 32 ∧ (R.log k).size = 32 ∧ cnt R (k : Int) R.ns ≤ 1 ∧ ¬ (cnt R (k : Int) R.ns = 1 ∧ R.st k = 0) ∧ ¬ (cnt R (k : Int) R.ns = 0 ∧ (R.st k = 1 ∨ R.st k = 3)))) := Iff.rfl
                        have HBL : Hid _ := hbl
                        clear hr hb hbx hxx hxb hbn hbl
                        generalize cnt R (k : Int) R.ns = cn at *
                        generalize R.st k = x at *
                        go_upto_region 20 with (first
                          | (refine wpList_load_mid rfl 49 _ rfl b (o + k * 3) rfl _ _ HR.out Tryd.underlying49 rfl Tryd.size49 ?_)
                          | (refine wpList_store_blk rfl 49 _ _ rfl wr.heap.size Z (mrow x (R.top k) (R.log k)) rfl rfl 49 (Blk.box _ _ _) Tryd.size49 (by rw [HZ.out]; rfl) (mrow_one _ _ _) ?_; rw [hwx]; clear hwx)
                          | (refine wpList_load_blk rfl 32 _ rfl w.heap.size rfl 32 L _ hxk.out Tryd.underlying32 rfl HL9.out ?_)
                          | (go_at_call 49; refine hse.mono ?_; rintro e w2 ⟨rfl, hb2⟩; have hx2 : Hid (Below w.heap.size w w2) := hx.out.trans (hb2.mono hx.out.size); have hxk2 : Hid (Blk w2 w.heap.size 32 L) := hxk.out.below hb2 hxk.out.lt; have HXB2 : Hid (Blk w2 wr.heap.size 49 (mrow x (R.top k) (R.log k))) := HXB.out.below hb2 HXB.out.lt; clear hb2 hse hx hxk HXB))
                        clear d7 d8 d5
                        have c0 := HXB2.out.cell (i := 0) rfl
                        have c1 := HXB2.out.cell (i := 1) rfl
                        have c2 := HXB2.out.cell (i := 2) rfl
                        generalize wr.heap.size = bx at *
                        go_cut [132] (fun c wx => ∃ q : Bool, c = .bool q ∧ (q = false ↔ (0 ≤ x ∧ x ≤ 3 ∧ (R.top k).size = 32 ∧ (R.log k).size = 32 ∧ cn ≤ 1)) ∧ wx = w2)
                        case first =>
                          as_aux_lemma =>
                            by_cases a1 : x < 0
                            · go_wp2
                              go_meet
                              case rel => exact ⟨true, rfl, ⟨fun h => absurd h (by decide), fun h => by omega⟩, rfl⟩
                            · by_cases a2 : 3 < x
                              · go_wp2
                                go_meet
                                case rel => exact ⟨true, rfl, ⟨fun h => absurd h (by decide), fun h => by omega⟩, rfl⟩
                              · by_cases a3 : ((R.top k).size : Int) = 32
                                · by_cases a4 : ((R.log k).size : Int) = 32
                                  · by_cases a5 : (1 : Int) < (cn : Int)
                                    · go_wp2
                                      go_meet
                                      case rel => exact ⟨true, rfl, ⟨fun h => absurd h (by decide), fun h => by omega⟩, rfl⟩
                                    · go_wp2
                                      go_meet
                                      case rel => exact ⟨false, rfl, ⟨fun h => ⟨by omega, by omega, by omega, by omega, by omega⟩, fun h => rfl⟩, rfl⟩
                                  · have a4b : (((R.log k).size : Int) != 32) = true := by simpa using a4
                                    go_wp2
                                    go_meet
                                    case rel => exact ⟨true, rfl, ⟨fun h => absurd h (by decide), fun h => by omega⟩, rfl⟩
                                · have a3b : (((R.top k).size : Int) != 32) = true := by simpa using a3
                                  go_wp2
                                  go_meet
                                  case rel => exact ⟨true, rfl, ⟨fun h => absurd h (by decide), fun h => by omega⟩, rfl⟩
                        case rest =>
                          obtain ⟨q, rfl, hq, hw⟩ := hcut
                          rw [hw]
                          clear hw c1 c2
                          cases q
                          · have H1 : Hid (0 ≤ x ∧ x ≤ 3 ∧ (R.top k).size = 32 ∧ (R.log k).size = 32 ∧ cn ≤ 1) := hq.1 rfl
                            clear hq
                            go_upto_region 22 with fail
                            go_cut [139] (fun c wx => ∃ q : Bool, c = .bool q ∧ (q = false ↔ ¬ (cn = 1 ∧ x = 0)) ∧ wx = w2)
                            case first =>
                              as_aux_lemma =>
                                by_cases a1 : (cn : Int) = 1
                                · by_cases a2 : x = 0
                                  · go_wp2
                                    go_meet
                                    case rel => exact ⟨true, rfl, ⟨fun h => absurd h (by decide), fun h => absurd ⟨by omega, a2⟩ h⟩, rfl⟩
                                  · have a2b : (x == 0) = false := by simpa using a2
                                    go_wp2
                                    go_meet
                                    case rel => exact ⟨false, rfl, ⟨fun h h2 => a2 h2.2, fun h => rfl⟩, rfl⟩
                                · have a1b : ((cn : Int) == 1) = false := by simpa using a1
                                  go_wp2
                                  go_meet
                                  case rel => exact ⟨false, rfl, ⟨fun h h2 => a1 (by omega), fun h => rfl⟩, rfl⟩
                            case rest =>
                              obtain ⟨q, rfl, hq, hw⟩ := hcut
                              rw [hw]
                              clear hw
                              cases q
                              · have H2 : Hid (¬ (cn = 1 ∧ x = 0)) := hq.1 rfl
                                clear hq
                                go_upto_region 24 with fail
                                go_cut [151] (fun c wx => ∃ q : Bool, c = .bool q ∧ (q = false ↔ ¬ (cn = 0 ∧ (x = 1 ∨ x = 3))) ∧ wx = w2)
                                case first =>
                                  as_aux_lemma =>
                                    by_cases a1 : (cn : Int) = 0
                                    · by_cases a2 : x = 1
                                      · go_wp2
                                        go_meet
                                        case rel => exact ⟨true, rfl, ⟨fun h => absurd h (by decide), fun h => absurd ⟨by omega, .inl a2⟩ h⟩, rfl⟩
                                      · have a2b : (x == 1) = false := by simpa using a2
                                        by_cases a3 : x = 3
                                        · go_wp2
                                          go_meet
                                          case rel => exact ⟨true, rfl, ⟨fun h => absurd h (by decide), fun h => absurd ⟨by omega, .inr a3⟩ h⟩, rfl⟩
                                        · have a3b : (x == 3) = false := by simpa using a3
                                          go_wp2
                                          go_meet
                                          case rel => exact ⟨false, rfl, ⟨fun h h2 => by omega, fun h => rfl⟩, rfl⟩
                                    · have a1b : ((cn : Int) == 0) = false := by simpa using a1
                                      go_wp2
                                      go_meet
                                      case rel => exact ⟨false, rfl, ⟨fun h h2 => a1 (by omega), fun h => rfl⟩, rfl⟩
                                case rest =>
                                  obtain ⟨q, rfl, hq, hw⟩ := hcut
                                  rw [hw]
                                  clear hw
                                  cases q
                                  · have H3 : Hid (mOk R k) := HMO.out.2 ⟨H1.out.1, H1.out.2.1, H1.out.2.2.1, H1.out.2.2.2.1, H1.out.2.2.2.2, H2.out, hq.1 rfl⟩
                                    clear hq
                                    by_cases a3 : x = 3
                                    · have a3b : (x == 3) = true := by simpa using a3
                                      have h4 := HBL.out
                                      rw [a3b, if_pos rfl] at h4
                                      have H4 : Hid _ := h4
                                      clear h4 a3
                                      go_wp2
                                      go_roundw
                                      case rel => exact ⟨k + 1, by omega, by go_num, by rw [H4.out]; go_num, fun j hj => by
                                        by_cases e : j = k
                                        · rw [e]; exact H3.out
                                        · exact hmk.out j (by omega), hx2.out, hxk2.out⟩
                                      case measure => simp [intOf]; omega
                                    · have a3b : (x == 3) = false := by simpa using a3
                                      have h4 := HBL.out
                                      rw [a3b, if_neg (by decide)] at h4
                                      have H4 : Hid _ := h4
                                      clear h4
                                      go_wp2
                                      go_roundw
                                      case rel => exact ⟨k + 1, by omega, by go_num, by rw [H4.out]; rfl, fun j hj => by
                                        by_cases e : j = k
                                        · rw [e]; exact H3.out
                                        · exact hmk.out j (by omega), hx2.out, hxk2.out⟩
                                      case measure => simp [intOf]; omega
                                  · have HX : Hid (¬ rOk R) := fun h => by have := hq.2 (HMO.out.1 (h.2.1 k hlt)).2.2.2.2.2.2; cases this
                                    go_wp2
                                    go_ret
                                    exact ⟨by rw [HNO.out HX.out]; rfl, hx2.out⟩
                              · have HX : Hid (¬ rOk R) := fun h => by have := hq.2 (HMO.out.1 (h.2.1 k hlt)).2.2.2.2.2.1; cases this
                                go_wp2
                                go_ret
                                exact ⟨by rw [HNO.out HX.out]; rfl, hx2.out⟩
                          · have HX : Hid (¬ rOk R) := fun h => by
                              obtain ⟨y1, y2, y3, y4, y5, -⟩ := HMO.out.1 (h.2.1 k hlt)
                              have := hq.2 ⟨y1, y2, y3, y4, y5⟩; cases this
                            go_wp2
                            go_ret
                            exact ⟨by rw [HNO.out HX.out]; rfl, hx2.out⟩
                      · obtain rfl : k = R.nm := by omega
                        have hk' : ¬ (R.nm : Int) < (R.nm : Int) := by omega
                        go_wp2
                        clear d7 d8 d5 hk' hlt hk
                        obtain ⟨ws, hws⟩ : ∃ ws, ws = wr := ⟨_, rfl⟩
                        subst hws
                        go_loopw [9] (fun i wr => ∃ k : Nat, k ≤ R.ns ∧ i = .int .i64 (k : Int) ∧ Hid (∀ j, j < k → 0 ≤ R.seat j ∧ R.seat j < (R.nm : Int)) ∧ Hid (Below w.heap.size w wr) ∧ Hid (Blk wr w.heap.size 32 L)) (fun i _ => R.ns - (intOf i).toNat)
                        case atStart => exact ⟨0, Nat.zero_le _, rfl, fun j hj => by omega, hb.out, hbx.out⟩
                        case round =>
                          clear hb hbx
                          obtain ⟨k, hk, rfl, hse, hb, hbx⟩ := hrel
                          obtain ⟨d7, d8, d5⟩ := HC.out _ hbx.out
                          by_cases hlt : k < R.ns
                          · have hk' : (k : Int) < (R.ns : Int) := by omega
                            obtain ⟨b, o, rfl, hr⟩ := HL.out.1.at hb.out k hlt
                            have hb2 : Hid (∀ n, Below w.heap.size w (wr.drewN n)) := fun n => ⟨hb.out.os, hb.out.tape, hb.out.output, hb.out.size, hb.out.block⟩
                            have hbx2 : Hid (∀ n, Blk (wr.drewN n) w.heap.size 32 L) := fun n => hbx.out.drewN n
                            have f1 : (0 : Int) ≤ (k : Int) := by omega
                            by_cases s1 : R.seat k < 0
                            · have s1b : decide (R.seat k < 0) = true := decide_eq_true s1
                              have HX : Hid (¬ rOk R) := fun h => by have := h.2.2.1 k hlt; omega
                              go_wp2
                              go_quiet (fail)
                              go_wp2
                              go_ret
                              exact ⟨by rw [HNO.out HX.out]; rfl, hb2.out _⟩
                            · have s1b : decide (R.seat k < 0) = false := decide_eq_false s1
                              by_cases s2 : (R.nm : Int) ≤ R.seat k
                              · have s2b : decide ((R.nm : Int) ≤ R.seat k) = true := decide_eq_true s2
                                have HX : Hid (¬ rOk R) := fun h => by have := h.2.2.1 k hlt; omega
                                go_wp2
                                go_quiet (fail)
                                go_wp2
                                go_ret
                                exact ⟨by rw [HNO.out HX.out]; rfl, hb2.out _⟩
                              · have s2b : decide ((R.nm : Int) ≤ R.seat k) = false := decide_eq_false s2
                                go_wp2
                                go_quiet (fail)
                                go_wp2
                                go_roundw
                                case rel => exact ⟨k + 1, by omega, by go_num, fun j hj => by
                                  by_cases e : j = k
                                  · rw [e]; omega
                                  · exact hse.out j (by omega), hb2.out _, hbx2.out _⟩
                                case measure => simp [intOf]; omega
                          · obtain rfl : k = R.ns := by omega
                            have hk' : ¬ (R.ns : Int) < (R.ns : Int) := by omega
                            have HGD : Hid (gd R = true ↔ (bld R R.nm = 1 ∨ (bld R R.nm = 0 ∧ R.built = 0))) := by
                              show _ ↔ _
                              rw [gd_iff]
                              exact ⟨fun h => h.2.2.2, fun h => ⟨HH.out, hmk.out, hse.out, h⟩⟩
                            have HNG : Hid (¬ (bld R R.nm = 1 ∨ (bld R R.nm = 0 ∧ R.built = 0)) → gd R = false) := fun h => by
                              cases hg : gd R
                              · rfl
                              · exact absurd (HGD.out.1 hg) h
                            generalize bld R R.nm = bb at *
                            by_cases b1 : (bb : Int) = 1
                            · have HX : Hid (gd R = true) := HGD.out.2 (.inl (by omega))
                              go_wp2
                              go_ret
                              exact ⟨by rw [HX.out]; rfl, hb.out⟩
                            · have b1b : ((bb : Int) == 1) = false := by simpa using b1
                              by_cases b0 : (bb : Int) = 0
                              · by_cases bu : R.built = 0
                                · have HX : Hid (gd R = true) := HGD.out.2 (.inr ⟨by omega, bu⟩)
                                  go_wp2
                                  go_ret
                                  exact ⟨by rw [HX.out]; rfl, hb.out⟩
                                · have HX : Hid (gd R = false) := HNG.out (fun h => by omega)
                                  have bub : (R.built == 0) = false := by simpa using bu
                                  go_wp2
                                  go_ret
                                  exact ⟨by rw [HX.out]; rfl, hb.out⟩
                              · have HX : Hid (gd R = false) := HNG.out (fun h => by omega)
                                have b0b : ((bb : Int) == 0) = false := by simpa using b0
                                go_wp2
                                go_ret
                                exact ⟨by rw [HX.out]; rfl, hb.out⟩
              · have HX : Hid (¬ rOk R) := fun h => by have := hq.2 ⟨h.1.2.2.2.2.1, h.1.2.2.2.2.2.1, h.1.2.2.2.2.2.2.1, h.1.2.2.2.2.2.2.2.1, h.1.2.2.2.2.2.2.2.2.1⟩; cases this
                go_wp2
                go_ret
                exact ⟨by rw [HNO.out (HX.out)]; rfl, hB.out⟩
          · have HX : Hid (¬ rOk R) := fun h => by have := hq.2 h.1.2.2.2.1; cases this
            go_wp2
            go_ret
            exact ⟨by rw [HNO.out (HX.out)]; rfl, hB.out⟩
      · have h33b : ((R.ns : Int) != V) = true := by simpa using h33
        have HX : Hid (¬ rOk R) := fun h => h33 (by rw [← HV.out]; exact h.1.2.2.1)
        go_wp2
        go_ret
        exact ⟨by rw [HNO.out (HX.out)]; rfl, hB.out⟩
  · have HX : Hid (¬ rOk R) := fun h => hin ⟨h.1.1, h.1.2.1⟩
    have hu : mst R = 7 ∨ mst R = 8 := by unfold mst; cases R.grow <;> decide
    cases hg : R.grow
    · have hm : mst R = 8 := by unfold mst; rw [hg]; rfl
      rw [hm] at hin
      rw [hg] at d6
      by_cases k1 : R.data < 2
      · go_enter Tryd.func29, Tryd.ntmps29
        go_wp2
        go_ret
        exact ⟨by rw [HNO.out (HX.out)]; rfl, hB.out⟩
      · have k2 : (8 : Int) < R.data := by omega
        go_enter Tryd.func29, Tryd.ntmps29
        go_wp2
        go_ret
        exact ⟨by rw [HNO.out (HX.out)]; rfl, hB.out⟩
    · have hm : mst R = 7 := by unfold mst; rw [hg]; rfl
      rw [hm] at hin
      rw [hg] at d6
      by_cases k1 : R.data < 2
      · go_enter Tryd.func29, Tryd.ntmps29
        go_wp2
        go_ret
        exact ⟨by rw [HNO.out (HX.out)]; rfl, hB.out⟩
      · have k2 : (7 : Int) < R.data := by omega
        go_enter Tryd.func29, Tryd.ntmps29
        go_wp2
        go_ret
        exact ⟨by rw [HNO.out (HX.out)]; rfl, hB.out⟩
end
end Go.Proofs.YtbjmhpbelkndpaaDoor
