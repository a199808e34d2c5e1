/- The law DiskRestores, walked: short images. -/
import Derived.Test.YtmgllcmfnljfjaaDkRestL
namespace Go.Proofs.Ytmgllcmfnljfjaa
open Go.RowKit Go.PlainAid
set_option linter.unusedVariables false

set_option maxRecDepth 20000 in
set_option maxHeartbeats 4000000 in
theorem diskRestores_c (ia : Option Addr) (ilen icap : Nat) (s : Option Addr) (len cap : Nat) (W : World) (hi : TextsArg W ia ilen icap) (hs : ActsArg W s len cap) (hci : ilen ≤ 40) (hcs : 30 < len) : Calls Try.prog 4 #[.slice ia ilen icap, .slice s len cap] W fun e w' => e = .returned (.bool true) ∧ Below W.heap.size W w' := by
  have hl1 := hs.1
  have hl2 := hs.2.1
  have HS : Hid (ActsArg W s len cap) := hs
  obtain ⟨hm1, f, hf, -⟩ := hi
  have HI : Hid (TextsAt W (.slice ia ilen icap) ilen f) := hf
  have HO : Hid (∀ j, j ≤ ilen → Apartv W.heap.size W.heap.size (.slice ia j icap) ∧ ∀ N, Apartv W.heap.size N (.slice ia j icap)) := fun j hj => ⟨texts_apart hf j hj _, fun N => texts_apart hf j hj N⟩
  have hic : ilen ≤ icap := by
    obtain ⟨a', cap', e, h0, h1⟩ := hf
    cases e
    exact h0
  have hnew := h_new firm_nought (hold_nought W.heap.size W W (Nat.le_refl _) (Below.refl _ _)) 30
  clear hs hf
  have hciI : (ilen : Int) ≤ 40 := by omega
  have hcsI : (30 : Int) ≤ (len : Int) := by omega
  have hV : Hid (TextsAt W (.slice ia ilen icap) ilen f) := HI.out.cut ilen (by omega)
  have hOld : Hid (Apartv W.heap.size W.heap.size (.slice ia ilen icap) ∧ ∀ N, Apartv W.heap.size N (.slice ia ilen icap)) := HO.out ilen (by omega)
  go_enter Try.func4, Try.ntmps4
  go_wp2_with (first
    | (go_at_call 8; refine hnew.mono ?_; rintro e w1 ⟨gd, rfl, h1⟩; clear hnew; have hrn := h_rnew ((firm_dsk _ _ _ _ _).star firm_nought) h1 30; clear h1)
    | (go_at_call 9; refine hrn.mono ?_; rintro e w2 ⟨gr, rfl, h2⟩; clear hrn; rw [show newN 30 = 30 from rfl] at h2; have hx : Hid _ := sys_start h2; clear h2))
  obtain ⟨gi, hgi⟩ : ∃ gi, w2.heap.size = gi := ⟨_, rfl⟩
  rw [hgi] at hx ⊢
  clear hgi
  generalize w2.alloc (.cells #[.slice none 0 0] 27) = w3 at hx ⊢
  go_loopw [27] (fun i wr => ∃ j : Nat, j ≤ 30 ∧ i = .int .i64 (j : Int) ∧ Hid (Plays W.heap.size W wr gd gr gi 30 j false)) (fun i _ => 30 - (intOf i).toNat)
  case atStart => exact ⟨0, Nat.zero_le _, rfl, _, _, _, _, _, _, hx.out, (fun _ _ _ => rfl), Nat.le_refl _, Nat.zero_le _⟩
  case round =>
    clear hx
    obtain ⟨j, hj, rfl, hp⟩ := hrel
    have hbw : Below W.heap.size W wr := by
      obtain ⟨l, q, l', v, m, f, h1, _⟩ := hp.out
      exact Hold.low h1
    by_cases hlt : j < 30
    · have hj' : (j : Int) < (30 : Int) := by omega
      obtain ⟨sb, so, A, hsa, hA, hoA, c0, c1, c2, c3, c4, c5⟩ := acts_at HS.out hbw j (by omega)
      subst hsa
      obtain ⟨d, a, s, nn, x, kb, km, kc, kk⟩ := A
      simp only [ActD.row] at c4 hoA
      have hp1 : Hid (Plays W.heap.size W (wr.alloc (.cells #[.int .i64 d, .int .i64 a, .string s, .int .i64 nn, .slice kb km kc, .bool x] 35)) gd gr gi 30 j false) := Plays.below hp.out ((Below.refl _ _).alloc (Nat.le_refl _) (.cells #[.int .i64 d, .int .i64 a, .string s, .int .i64 nn, .slice kb km kc, .bool x] 35))
      have hact := act_any hp1.out (by omega) ⟨d, a, s, nn, x, kb, km, kc, kk⟩ hA hoA
      simp only [ActD.row] at hact
      by_cases h7 : d.tmod 8 = 7
      · have hpn : Hid (Plays W.heap.size W (wr.alloc (.cells #[.int .i64 d, .int .i64 a, .string s, .int .i64 nn, .slice kb km kc, .bool x] 35)) gd gr gi 30 (j + 1) false) := Plays.more hp1.out
        clear hact hp1 hp hbw
        go_wp2_with fail
        go_roundw
        case rel => exact ⟨j + 1, by omega, by go_num, hpn⟩
        case measure => simp [intOf]; omega
      · have h7b : (d.tmod 8 == 7) = false := by simpa using h7
        by_cases h8 : d.tmod 8 = -7
        · have hpn : Hid (Plays W.heap.size W (wr.alloc (.cells #[.int .i64 d, .int .i64 a, .string s, .int .i64 nn, .slice kb km kc, .bool x] 35)) gd gr gi 30 (j + 1) false) := Plays.more hp1.out
          clear hact hp1 hp hbw h7
          go_wp2_with fail
          go_roundw
          case rel => exact ⟨j + 1, by omega, by go_num, hpn⟩
          case measure => simp [intOf]; omega
        · have h8b : (d.tmod 8 == -7) = false := by simpa using h8
          clear hp1 hp hbw
          have H7 : Hid (d.tmod 8 ≠ 7 ∧ d.tmod 8 ≠ -7) := ⟨h7, h8⟩
          obtain ⟨r, hr⟩ : ∃ r, d.tmod 8 = r := ⟨_, rfl⟩
          rw [hr] at h7b h8b
          have h7e : (r = 7) = False := eq_false (by rw [← hr]; exact h7)
          have h8e : (r = -7) = False := eq_false (by rw [← hr]; exact h8)
          have h7n : (r != 7) = true := by rw [bne_iff_ne, ← hr]; exact h7
          have h8n : (r != -7) = true := by rw [bne_iff_ne, ← hr]; exact h8
          clear h7 h8
          go_wp2_with (go_at_call 12; refine hact.mono ?_; rintro e wz ⟨rfl, dead2, hpz, hdd⟩; clear hact; have hd2 := hdd H7.out.1 H7.out.2; subst hd2; have hpn : Hid _ := hpz; clear hpz hdd)
          go_roundw
          case rel => exact ⟨j + 1, by omega, by go_num, hpn.out⟩
          case measure => simp [intOf]; omega
    · obtain rfl : j = 30 := by omega
      obtain ⟨l, q, l', v, m, f0, hs, hr, hq, hm⟩ := hp.out
      have ho : Hid (Own W.heap.size W wr gd 30 l q false) := Hold.left hs
      have hq' : q.length ≤ 1000000 := by omega
      have hbV := hV.out.old W.heap.size (hOld.out.2 W.heap.size) hbw ho.out.1
      have hre := own_restore ho.out (Below.refl _ _) (.slice ia ilen icap) ilen f hbV (hOld.out.2 _)
      rw [show restoreL l false ilen f = restL ilen f from rfl, show flushQ q false = [] from rfl] at hre
      clear hs hr hp hbw ho hbV
      go_wp2_with (first
        | (go_at_call 18; refine hre.mono ?_; rintro e w1 ⟨rfl, h'⟩; clear hre; have ho : Hid _ := h'; clear h')
        | (go_at_call 10; refine (wakes_any _).mono ?_; rintro e w1 ⟨rfl, hbz⟩; have h' := Own.below ho.out hbz; clear ho hbz; have ho : Hid _ := h'; clear h')
        | (go_at_call 13; refine (own_waiting ho.out).mono ?_; rintro e w1 ⟨rfl, h'⟩; clear ho; have ho : Hid _ := h'; clear h'; rw [show ((([] : List Wr).length : Nat) : Int) = 0 from rfl])
        | (go_at_call 19; refine (own_crash ho.out (Below.refl _ _) _ 0 (fun _ => false) (bools_none _) (by decide) (by decide) (apart_none _ _ _ _)).mono ?_; rintro e w1 ⟨rfl, h'⟩; clear ho; have ho : Hid _ := h'; clear h'))
      have ho2 : Hid (Own W.heap.size W w1 gd 30 (restL ilen f) [] false) := ho.out
      clear ho
      go_loopw [58] (fun i wr => ∃ j : Nat, j ≤ 30 ∧ i = .int .i64 (j : Int) ∧ Hid (Own W.heap.size W wr gd 30 (restL ilen f) [] false)) (fun i _ => 30 - (intOf i).toNat)
      case atStart => exact ⟨0, Nat.zero_le _, rfl, ho2.out⟩
      case round =>
        clear ho2
        obtain ⟨j, hj, rfl, ho⟩ := hrel
        by_cases hlt : j < 30
        · have hj' : (j : Int) < 30 := by omega
          by_cases hji : j < ilen
          · have hji' : (j : Int) < (ilen : Int) := by omega
            obtain ⟨b, o, hia, hcj⟩ := hV.out.cellOf (hOld.out.2 W.heap.size) ho.out.2.1 j hji
            subst hia
            by_cases hs : (f j).size ≤ 2048
            · have hR : restL ilen f j = f j := by unfold restL; rw [if_pos ⟨hji, hs⟩]
              have hrd := own_readOk ho.out (j : Int) j (f j) rfl hlt hR
              obtain ⟨t, ht⟩ : ∃ t, f j = t := ⟨_, rfl⟩
              have HCJ : Hid (∀ z, Below W.heap.size W z → z.cell? ⟨b, o + j, none⟩ = some (.string (f j))) := hcj
              rw [ht] at hrd hs HCJ
              clear hR ht ho hcj
              go_wp2_with (go_at_call 20; refine hrd.mono ?_; rintro e w2 ⟨rfl, h'⟩; clear hrd; have ho : Hid _ := h'; clear h'; have cj := HCJ.out _ ho.out.2.1)
              go_roundw
              case rel => exact ⟨j + 1, by omega, by go_num, ho.out⟩
              case measure => simp [intOf]; omega
            · have hR : restL ilen f j = noB := by unfold restL; rw [if_neg (fun h => hs h.2)]
              have hrd := own_readOk ho.out (j : Int) j noB rfl hlt hR
              obtain ⟨t, ht⟩ : ∃ t, f j = t := ⟨_, rfl⟩
              have HCJ : Hid (∀ z, Below W.heap.size W z → z.cell? ⟨b, o + j, none⟩ = some (.string (f j))) := hcj
              rw [ht] at hs HCJ
              clear hR ht ho hcj
              go_wp2_with (go_at_call 20; refine hrd.mono ?_; rintro e w2 ⟨rfl, h'⟩; clear hrd; have ho : Hid _ := h'; clear h'; have cj := HCJ.out _ ho.out.2.1)
              go_roundw
              case rel => exact ⟨j + 1, by omega, by go_num, ho.out⟩
              case measure => simp [intOf]; omega
          · have hji' : ¬ (j : Int) < (ilen : Int) := by omega
            have hR : restL ilen f j = noB := by unfold restL; rw [if_neg (fun h => hji h.1)]
            have hrd := own_readOk ho.out (j : Int) j noB rfl hlt hR
            clear hR ho
            go_wp2_with (go_at_call 20; refine hrd.mono ?_; rintro e w2 ⟨rfl, h'⟩; clear hrd; have ho : Hid _ := h'; clear h')
            go_roundw
            case rel => exact ⟨j + 1, by omega, by go_num, ho.out⟩
            case measure => simp [intOf]; omega
        · obtain rfl : j = 30 := by omega
          rw [show ((30 : Nat) : Int) = 30 from rfl]
          go_wp2_with fail
          go_ret
          exact ⟨rfl, ho.out.2.1⟩
set_option maxRecDepth 20000 in
set_option maxHeartbeats 4000000 in
theorem diskRestores_d (ia : Option Addr) (ilen icap : Nat) (s : Option Addr) (len cap : Nat) (W : World) (hi : TextsArg W ia ilen icap) (hs : ActsArg W s len cap) (hci : ilen ≤ 40) (hcs : len ≤ 30) : Calls Try.prog 4 #[.slice ia ilen icap, .slice s len cap] W fun e w' => e = .returned (.bool true) ∧ Below W.heap.size W w' := by
  have hl1 := hs.1
  have hl2 := hs.2.1
  have HS : Hid (ActsArg W s len cap) := hs
  obtain ⟨hm1, f, hf, -⟩ := hi
  have HI : Hid (TextsAt W (.slice ia ilen icap) ilen f) := hf
  have HO : Hid (∀ j, j ≤ ilen → Apartv W.heap.size W.heap.size (.slice ia j icap) ∧ ∀ N, Apartv W.heap.size N (.slice ia j icap)) := fun j hj => ⟨texts_apart hf j hj _, fun N => texts_apart hf j hj N⟩
  have hic : ilen ≤ icap := by
    obtain ⟨a', cap', e, h0, h1⟩ := hf
    cases e
    exact h0
  have hnew := h_new firm_nought (hold_nought W.heap.size W W (Nat.le_refl _) (Below.refl _ _)) 30
  clear hs hf
  have hciI : (ilen : Int) ≤ 40 := by omega
  have hcsI : (len : Int) ≤ 30 := by omega
  have hV : Hid (TextsAt W (.slice ia ilen icap) ilen f) := HI.out.cut ilen (by omega)
  have hOld : Hid (Apartv W.heap.size W.heap.size (.slice ia ilen icap) ∧ ∀ N, Apartv W.heap.size N (.slice ia ilen icap)) := HO.out ilen (by omega)
  go_enter Try.func4, Try.ntmps4
  go_wp2_with (first
    | (go_at_call 8; refine hnew.mono ?_; rintro e w1 ⟨gd, rfl, h1⟩; clear hnew; have hrn := h_rnew ((firm_dsk _ _ _ _ _).star firm_nought) h1 30; clear h1)
    | (go_at_call 9; refine hrn.mono ?_; rintro e w2 ⟨gr, rfl, h2⟩; clear hrn; rw [show newN 30 = 30 from rfl] at h2; have hx : Hid _ := sys_start h2; clear h2))
  obtain ⟨gi, hgi⟩ : ∃ gi, w2.heap.size = gi := ⟨_, rfl⟩
  rw [hgi] at hx ⊢
  clear hgi
  generalize w2.alloc (.cells #[.slice none 0 0] 27) = w3 at hx ⊢
  go_loopw [27] (fun i wr => ∃ j : Nat, j ≤ len ∧ i = .int .i64 (j : Int) ∧ Hid (Plays W.heap.size W wr gd gr gi 30 j false)) (fun i _ => len - (intOf i).toNat)
  case atStart => exact ⟨0, Nat.zero_le _, rfl, _, _, _, _, _, _, hx.out, (fun _ _ _ => rfl), Nat.le_refl _, Nat.zero_le _⟩
  case round =>
    clear hx
    obtain ⟨j, hj, rfl, hp⟩ := hrel
    have hbw : Below W.heap.size W wr := by
      obtain ⟨l, q, l', v, m, f, h1, _⟩ := hp.out
      exact Hold.low h1
    by_cases hlt : j < len
    · have hj' : (j : Int) < (len : Int) := by omega
      obtain ⟨sb, so, A, hsa, hA, hoA, c0, c1, c2, c3, c4, c5⟩ := acts_at HS.out hbw j (by omega)
      subst hsa
      obtain ⟨d, a, s, nn, x, kb, km, kc, kk⟩ := A
      simp only [ActD.row] at c4 hoA
      have hp1 : Hid (Plays W.heap.size W (wr.alloc (.cells #[.int .i64 d, .int .i64 a, .string s, .int .i64 nn, .slice kb km kc, .bool x] 35)) gd gr gi 30 j false) := Plays.below hp.out ((Below.refl _ _).alloc (Nat.le_refl _) (.cells #[.int .i64 d, .int .i64 a, .string s, .int .i64 nn, .slice kb km kc, .bool x] 35))
      have hact := act_any hp1.out (by omega) ⟨d, a, s, nn, x, kb, km, kc, kk⟩ hA hoA
      simp only [ActD.row] at hact
      by_cases h7 : d.tmod 8 = 7
      · have hpn : Hid (Plays W.heap.size W (wr.alloc (.cells #[.int .i64 d, .int .i64 a, .string s, .int .i64 nn, .slice kb km kc, .bool x] 35)) gd gr gi 30 (j + 1) false) := Plays.more hp1.out
        clear hact hp1 hp hbw
        go_wp2_with fail
        go_roundw
        case rel => exact ⟨j + 1, by omega, by go_num, hpn⟩
        case measure => simp [intOf]; omega
      · have h7b : (d.tmod 8 == 7) = false := by simpa using h7
        by_cases h8 : d.tmod 8 = -7
        · have hpn : Hid (Plays W.heap.size W (wr.alloc (.cells #[.int .i64 d, .int .i64 a, .string s, .int .i64 nn, .slice kb km kc, .bool x] 35)) gd gr gi 30 (j + 1) false) := Plays.more hp1.out
          clear hact hp1 hp hbw h7
          go_wp2_with fail
          go_roundw
          case rel => exact ⟨j + 1, by omega, by go_num, hpn⟩
          case measure => simp [intOf]; omega
        · have h8b : (d.tmod 8 == -7) = false := by simpa using h8
          clear hp1 hp hbw
          have H7 : Hid (d.tmod 8 ≠ 7 ∧ d.tmod 8 ≠ -7) := ⟨h7, h8⟩
          obtain ⟨r, hr⟩ : ∃ r, d.tmod 8 = r := ⟨_, rfl⟩
          rw [hr] at h7b h8b
          have h7e : (r = 7) = False := eq_false (by rw [← hr]; exact h7)
          have h8e : (r = -7) = False := eq_false (by rw [← hr]; exact h8)
          have h7n : (r != 7) = true := by rw [bne_iff_ne, ← hr]; exact h7
          have h8n : (r != -7) = true := by rw [bne_iff_ne, ← hr]; exact h8
          clear h7 h8
          go_wp2_with (go_at_call 12; refine hact.mono ?_; rintro e wz ⟨rfl, dead2, hpz, hdd⟩; clear hact; have hd2 := hdd H7.out.1 H7.out.2; subst hd2; have hpn : Hid _ := hpz; clear hpz hdd)
          go_roundw
          case rel => exact ⟨j + 1, by omega, by go_num, hpn.out⟩
          case measure => simp [intOf]; omega
    · obtain rfl : j = len := by omega
      obtain ⟨l, q, l', v, m, f0, hs, hr, hq, hm⟩ := hp.out
      have ho : Hid (Own W.heap.size W wr gd 30 l q false) := Hold.left hs
      have hq' : q.length ≤ 1000000 := by omega
      have hbV := hV.out.old W.heap.size (hOld.out.2 W.heap.size) hbw ho.out.1
      have hre := own_restore ho.out (Below.refl _ _) (.slice ia ilen icap) ilen f hbV (hOld.out.2 _)
      rw [show restoreL l false ilen f = restL ilen f from rfl, show flushQ q false = [] from rfl] at hre
      clear hs hr hp hbw ho hbV
      go_wp2_with (first
        | (go_at_call 18; refine hre.mono ?_; rintro e w1 ⟨rfl, h'⟩; clear hre; have ho : Hid _ := h'; clear h')
        | (go_at_call 10; refine (wakes_any _).mono ?_; rintro e w1 ⟨rfl, hbz⟩; have h' := Own.below ho.out hbz; clear ho hbz; have ho : Hid _ := h'; clear h')
        | (go_at_call 13; refine (own_waiting ho.out).mono ?_; rintro e w1 ⟨rfl, h'⟩; clear ho; have ho : Hid _ := h'; clear h'; rw [show ((([] : List Wr).length : Nat) : Int) = 0 from rfl])
        | (go_at_call 19; refine (own_crash ho.out (Below.refl _ _) _ 0 (fun _ => false) (bools_none _) (by decide) (by decide) (apart_none _ _ _ _)).mono ?_; rintro e w1 ⟨rfl, h'⟩; clear ho; have ho : Hid _ := h'; clear h'))
      have ho2 : Hid (Own W.heap.size W w1 gd 30 (restL ilen f) [] false) := ho.out
      clear ho
      go_loopw [58] (fun i wr => ∃ j : Nat, j ≤ 30 ∧ i = .int .i64 (j : Int) ∧ Hid (Own W.heap.size W wr gd 30 (restL ilen f) [] false)) (fun i _ => 30 - (intOf i).toNat)
      case atStart => exact ⟨0, Nat.zero_le _, rfl, ho2.out⟩
      case round =>
        clear ho2
        obtain ⟨j, hj, rfl, ho⟩ := hrel
        by_cases hlt : j < 30
        · have hj' : (j : Int) < 30 := by omega
          by_cases hji : j < ilen
          · have hji' : (j : Int) < (ilen : Int) := by omega
            obtain ⟨b, o, hia, hcj⟩ := hV.out.cellOf (hOld.out.2 W.heap.size) ho.out.2.1 j hji
            subst hia
            by_cases hs : (f j).size ≤ 2048
            · have hR : restL ilen f j = f j := by unfold restL; rw [if_pos ⟨hji, hs⟩]
              have hrd := own_readOk ho.out (j : Int) j (f j) rfl hlt hR
              obtain ⟨t, ht⟩ : ∃ t, f j = t := ⟨_, rfl⟩
              have HCJ : Hid (∀ z, Below W.heap.size W z → z.cell? ⟨b, o + j, none⟩ = some (.string (f j))) := hcj
              rw [ht] at hrd hs HCJ
              clear hR ht ho hcj
              go_wp2_with (go_at_call 20; refine hrd.mono ?_; rintro e w2 ⟨rfl, h'⟩; clear hrd; have ho : Hid _ := h'; clear h'; have cj := HCJ.out _ ho.out.2.1)
              go_roundw
              case rel => exact ⟨j + 1, by omega, by go_num, ho.out⟩
              case measure => simp [intOf]; omega
            · have hR : restL ilen f j = noB := by unfold restL; rw [if_neg (fun h => hs h.2)]
              have hrd := own_readOk ho.out (j : Int) j noB rfl hlt hR
              obtain ⟨t, ht⟩ : ∃ t, f j = t := ⟨_, rfl⟩
              have HCJ : Hid (∀ z, Below W.heap.size W z → z.cell? ⟨b, o + j, none⟩ = some (.string (f j))) := hcj
              rw [ht] at hs HCJ
              clear hR ht ho hcj
              go_wp2_with (go_at_call 20; refine hrd.mono ?_; rintro e w2 ⟨rfl, h'⟩; clear hrd; have ho : Hid _ := h'; clear h'; have cj := HCJ.out _ ho.out.2.1)
              go_roundw
              case rel => exact ⟨j + 1, by omega, by go_num, ho.out⟩
              case measure => simp [intOf]; omega
          · have hji' : ¬ (j : Int) < (ilen : Int) := by omega
            have hR : restL ilen f j = noB := by unfold restL; rw [if_neg (fun h => hji h.1)]
            have hrd := own_readOk ho.out (j : Int) j noB rfl hlt hR
            clear hR ho
            go_wp2_with (go_at_call 20; refine hrd.mono ?_; rintro e w2 ⟨rfl, h'⟩; clear hrd; have ho : Hid _ := h'; clear h')
            go_roundw
            case rel => exact ⟨j + 1, by omega, by go_num, ho.out⟩
            case measure => simp [intOf]; omega
        · obtain rfl : j = 30 := by omega
          rw [show ((30 : Nat) : Int) = 30 from rfl]
          go_wp2_with fail
          go_ret
          exact ⟨rfl, ho.out.2.1⟩
end Go.Proofs.Ytmgllcmfnljfjaa
