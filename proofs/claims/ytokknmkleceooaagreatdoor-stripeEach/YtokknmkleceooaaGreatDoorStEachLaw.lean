import Derived.Test.YtokknmkleceooaaGreatDoorStTM
import Derived.Test.YtokknmkleceooaaGreatDoorStArg3
namespace Go.Proofs.YtokknmkleceooaaGreatDoor
open Go.RowKit Go.PlainAid
set_option linter.unusedVariables false
set_option maxRecDepth 20000
set_option maxHeartbeats 2000000 in
theorem stripeEach_law (x0 x1 x2 x3 : Int) (a2 : Option Addr) (len2 cap2 : Nat) (W : World) (hx0 : -9223372036854775808 ≤ x0 ∧ x0 ≤ 9223372036854775807) (hx1 : -9223372036854775808 ≤ x1 ∧ x1 ≤ 9223372036854775807) (hx2 : -9223372036854775808 ≤ x2 ∧ x2 ≤ 9223372036854775807) (hx3 : -9223372036854775808 ≤ x3 ∧ x3 ≤ 9223372036854775807) (hs : Has W a2 len2 cap2) (ht : Tabs W) :
    Calls Tryz.prog 7 #[.agg #[.int .i64 x0, .int .i64 x1, .int .i64 x2, .int .i64 x3], .slice a2 len2 cap2] W fun e w' => e = .returned (.bool true) ∧ Below W.heap.size W w' := by
  have hl1 := hs.1
  have hl2 := hs.2.1
  unfold maxLen at hl2
  have HA : Hid (Has W a2 len2 cap2) := hs
  have hba : Below W.heap.size W (W.alloc (.cells #[.int .i64 x0, .int .i64 x1, .int .i64 x2, .int .i64 x3] 34)) := (Below.refl _ _).alloc (Nat.le_refl _) _
  have hB := Blk.new W 34 #[.int .i64 x0, .int .i64 x1, .int .i64 x2, .int .i64 x3]
  have HX : Hid (∀ z, Below (W.alloc (.cells #[.int .i64 x0, .int .i64 x1, .int .i64 x2, .int .i64 x3] 34)).heap.size (W.alloc (.cells #[.int .i64 x0, .int .i64 x1, .int .i64 x2, .int .i64 x3] 34)) z → z.cell? ⟨W.heap.size, 0, none⟩ = some (.int .i64 x0) ∧ z.cell? ⟨W.heap.size, 1, none⟩ = some (.int .i64 x1) ∧ z.cell? ⟨W.heap.size, 2, none⟩ = some (.int .i64 x2) ∧ z.cell? ⟨W.heap.size, 3, none⟩ = some (.int .i64 x3)) := fun z hz => by
    have hC := hB.below hz hB.lt
    exact ⟨hC.cell (i := 0) rfl, hC.cell (i := 1) rfl, hC.cell (i := 2) rfl, hC.cell (i := 3) rfl⟩
  have HBA : Hid (Below W.heap.size W (W.alloc (.cells #[.int .i64 x0, .int .i64 x1, .int .i64 x2, .int .i64 x3] 34))) := hba
  have HT : Hid (∀ z, Below W.heap.size W z → Tabs z) := fun z hz => ht.below hz ht.lt
  obtain ⟨y, hy⟩ : ∃ y : Nat, x1.toNat = y := ⟨_, rfl⟩
  have m1 : (if 0 < x1 then x1 else 0) = (y : Int) := by split <;> omega
  have m2 : max 0 x1 = (y : Int) := by omega
  obtain ⟨e, he⟩ : ∃ e : Nat, y % 4 = e := ⟨_, rfl⟩
  have m3 : (y : Int).tmod 4 = (e : Int) := by rw [Int.tmod_eq_emod_of_nonneg (by omega)]; omega
  have he4 : (e : Int) < 4 := by omega
  have he0 : 0 ≤ (e : Int) := by omega
  have he4' : e < 4 := by omega
  obtain ⟨n, hn⟩ : ∃ n : Nat, 2 ^ (e + 1) = n := ⟨_, rfl⟩
  have m6 : wrap64 (2 * 2 ^ e) = (n : Int) := by rw [← hn]; rcases (by omega : e = 0 ∨ e = 1 ∨ e = 2 ∨ e = 3) with h | h | h | h <;> rw [h] <;> kernel_rfl
  have hn2 : 2 ≤ n ∧ n ≤ 16 := by rw [← hn]; rcases (by omega : e = 0 ∨ e = 1 ∨ e = 2 ∨ e = 3) with h | h | h | h <;> rw [h] <;> decide
  have hd : 1 ≤ e + 1 ∧ e + 1 ≤ 4 := by omega
  have m7 : ¬ (n : Int) = 0 := by omega
  obtain ⟨yy, hyy⟩ : ∃ y : Nat, x2.toNat = y := ⟨_, rfl⟩
  have m8 : (if 0 < x2 then x2 else 0) = (yy : Int) := by split <;> omega
  have m9 : max 0 x2 = (yy : Int) := by omega
  obtain ⟨sl, hsl⟩ : ∃ sl : Nat, yy % n = sl := ⟨_, rfl⟩
  have hsn : sl < n := by rw [← hsl]; exact Nat.mod_lt _ (by omega)
  have m10 : (yy : Int).tmod (n : Int) = (sl : Int) := by rw [Int.tmod_eq_emod_of_nonneg (by omega), ← hsl]; exact (Int.natCast_emod yy n).symm
  obtain ⟨q, hq⟩ : ∃ q : Nat, (x3 % 256).toNat = q := ⟨_, rfl⟩
  have hq256 : q < 256 := by omega
  have m11 : IntKind.u8.wrap x3 = (q : Int) := by rw [IntKind.wrap_u8']; omega
  obtain ⟨m, hm⟩ : ∃ m, bkN x0 = m := ⟨_, rfl⟩
  have hm2 : 2 ≤ m ∧ m ≤ 8 := by rw [← hm]; unfold bkN; omega
  obtain ⟨N, hN⟩ : ∃ N, m + 2 = N := ⟨_, rfl⟩
  have hN4 : 4 ≤ N ∧ N ≤ 10 := by omega
  have HF : Hid (∀ i, (bkF 1 (fun _ => q) i).size = 32) := fun i => bkF_size _ _ i
  have HBL : Hid (∀ z : World, Calls Tryz.prog 8 #[.int .i64 x0, .slice (some ⟨z.heap.size, 0, none⟩) 1 1] (z.alloc (.cells #[.int .u8 (q : Int)] 5)) _) := fun z => blocks_any x0 hx0.2 (some ⟨z.heap.size, 0, none⟩) 1 1 (fun _ => q) (z.alloc (.cells #[.int .u8 (q : Int)] 5)) (by decide) ⟨fun _ => hq256, .inr ⟨_, 0, rfl, fun i hi => by
    obtain rfl : i = 0 := by omega
    exact (Blk.new z 5 #[.int .u8 (q : Int)]).cell (i := 0) rfl⟩⟩
  rw [hm] at HBL
  generalize bkF 1 (fun _ => q) = F at *
  obtain ⟨C, hC1, hC2, hC3⟩ : ∃ C : Nat, (if (10 : Int) < (len2 : Int) then (10 : Int) else (len2 : Int)) = (C : Int) ∧ C ≤ 10 ∧ C ≤ len2 := ⟨min len2 10, by split <;> omega, by omega, by omega⟩
  have hC4 : C ≤ cap2 := by omega
  have hC5 : min (len2 : Int) 10 = (C : Int) := by omega
  have hC6 : (C : Int) ≤ (len2 : Int) := by omega
  have hC7 : (C : Int) ≤ (cap2 : Int) := by omega
  clear hba hB hs ht hy he hyy hsl hq hm
  go_enter Tryz.func7, Tryz.ntmps7
  go_upto_region 1 with fail
  generalize W.alloc (.cells #[.int .i64 x0, .int .i64 x1, .int .i64 x2, .int .i64 x3] 34) = Wa at *
  obtain ⟨k0, k1, k2, k3⟩ := HX.out _ (Below.refl _ _)
  go_upto_region 3 with fail
  have HWa : Hid (Below Wa.heap.size Wa (Wa.alloc (.cells #[.int .u8 (q : Int)] 5))) := (Below.refl _ _).alloc (Nat.le_refl _) _
  go_upto_region 4 with (first
    | (go_at_call 8; refine (HBL.out _).mono ?_; rintro e w2 ⟨v, rfl, hr2, hb2⟩; have HR2 : Hid (World.ownsRow w2 _ 9 1 v m (strs m F)) := hr2; have HB2 : Hid (Below Wa.heap.size Wa w2) := HWa.out.trans (hb2.mono HWa.out.size); clear hr2 hb2 HBL HWa k0 k1 k2 k3; obtain ⟨ga, ca, rfl, k1, k2, kv⟩ := own_vals HR2.out (by omega); have HB0 : Hid (Below W.heap.size W w2) := HBA.out.trans (HB2.out.mono HBA.out.size); have hly := lay_any (HT.out _ HB0.out) (some ⟨ga, 0, none⟩) m N ca F hN hm2 ⟨k1, k2⟩ kv (fun i _ => HF.out i) (n := n) (slot := sl) hn hd hsn; have HLY : Hid (Calls _ _ _ _ _) := hly; clear k1 k2 kv hly)
    | (go_at_call 13; refine HLY.out.mono ?_; rintro e w3 ⟨g, gr, b, b', vl, vm, vc, P, rfl, h3, h4⟩; have HL : Hid (Ly w2.heap.size w2 w3 g gr N b b' vl vm vc N (shS g n P) (mkC m F) nought) := h3; have HS : Hid (Hd N b b') := h4.hd; clear h3 h4 HLY))
  obtain ⟨hl, cl, rfl⟩ := own_any6 HL.out.l (by omega)
  obtain ⟨hm, cm, rfl⟩ := own_any6 HL.out.m (by omega)
  have HL3 : Hid (Lh w2.heap.size w2 w3 g gr N n hl cl hm cm b b' vc P (fun _ => true) (mkC m F) nought) := HL.out.lw
  clear HL HX HB2 HR2
  generalize mkC m F = Ck at *
  go_upto_region 6 with (go_at_call 12; refine (wakes19_any (HT.out _ (HB0.out.trans ((Lw.low HL3.out).mono HB0.out.size)))).mono ?_; rintro e w4 ⟨rfl, hb4⟩; have HL4 : Hid (Lh w2.heap.size w2 w4 g gr N n hl cl hm cm b b' vc P (fun _ => true) Ck nought) := Lw.below firm_nought HL3.out hb4; clear hb4 HL3)
  go_wp2_with fail
  go_loopw [61] (fun j wr => ∃ (k : Nat) (bq bq' : Bs) (P' : Nat → ByteArray) (u' : Nat → Bool), k ≤ C ∧ j = .int .i64 (k : Int) ∧ Hid (Lh w2.heap.size w2 wr g gr N n hl cl hm cm bq bq' vc P' u' Ck nought) ∧ Hid (Hd N bq bq')) (fun j _ => C - (intOf j).toNat)
  case atStart => exact ⟨0, b, b', P, fun _ => true, Nat.zero_le _, rfl, HL4.out, HS.out⟩
  case round =>
    clear HL4 HS
    obtain ⟨k, bq, bq', P', u', hk, rfl, HL, HS⟩ := hrel
    by_cases hlt : k < C
    · have hk' : (k : Int) < (C : Int) := by omega
      obtain ⟨sb, so, A, hsa, hA, hrow⟩ := has_at HA.out (HB0.out.trans ((Lw.low HL.out).mono HB0.out.size)) k (by omega)
      subst hsa
      obtain ⟨ad, ak, aa, ac⟩ := A
      obtain ⟨ha1, ha2, ha3, ha4⟩ := hA
      unfold maxLen at ha4
      have HROW : Hid (wr.rangeAt sb (so + k * 4) [.int .i64 ad, .int .i64 ak, .int .i64 aa, .string ac]) := hrow
      have HBX : Hid (Blk (wr.alloc (.cells #[.int .i64 ad, .int .i64 ak, .int .i64 aa, .string ac] 41)) wr.heap.size 41 [.int .i64 ad, .int .i64 ak, .int .i64 aa, .string ac]) := Blk.box wr 41 [.int .i64 ad, .int .i64 ak, .int .i64 aa, .string ac]
      have HL5 : Hid (Lh w2.heap.size w2 (wr.alloc (.cells #[.int .i64 ad, .int .i64 ak, .int .i64 aa, .string ac] 41)) g gr N n hl cl hm cm bq bq' vc P' u' Ck nought) := Lw.below firm_nought HL.out ((Below.refl _ _).alloc (Nat.le_refl _) _)
      have hhm := harm_any firm_nought HL5.out HS.out (by omega) ad ak aa ac ha1 ha2 ha3 (by omega)
      have HHM : Hid (Calls _ _ _ _ _) := hhm
      have HSZ : Hid ((Tryz.prog.info? 41).map (·.size) = some 4) := Tryz.size41
      have hz := zeroHarm
      clear hrow ha1 ha2 ha3 ha4 hhm HL
      go_upto_region 9 with (first
        | (refine wpList_load_mid rfl 41 _ rfl sb (so + k * 4) rfl [.int .i64 ad, .int .i64 ak, .int .i64 aa, .string ac] _ HROW.out Tryz.underlying41 rfl HSZ.out ?_))
      generalize hwb : wr.alloc (.cells #[.int .i64 ad, .int .i64 ak, .int .i64 aa, .string ac] 41) = wb at *
      generalize hga : wr.heap.size = gh at *
      clear hwb hga hz HROW
      go_wp2_with (first
        | (refine wpList_load_blk rfl 41 _ rfl gh rfl 41 [.int .i64 ad, .int .i64 ak, .int .i64 aa, .string ac] _ HBX.out Tryz.underlying41 rfl HSZ.out ?_)
        | (go_at_call 14; refine HHM.out.mono ?_; rintro x w5 ⟨rfl, br, br', Pr, ur, h5, h6, -⟩; have H5 : Hid (Lh w2.heap.size w2 w5 g gr N n hl cl hm cm br br' vc Pr ur Ck nought) := h5; have H6 : Hid (Hd N br br') := h6; clear h5 h6 HL5 HBX HHM))
      go_roundw
      case rel => exact ⟨k + 1, br, br', Pr, ur, by omega, by go_num, H5.out, H6.out⟩
      case measure => simp [intOf]; omega
    · obtain rfl : k = C := by omega
      have hk' : ¬ (k : Int) < (k : Int) := by omega
      have HTW : Hid (∀ z, Below w2.heap.size w2 z → Tabs z) := fun z hz => HT.out z (HB0.out.trans (hz.mono HB0.out.size))
      subst hn
      obtain ⟨E, hE⟩ : ∃ E, feE bq (e + 1) P' u' (sl : Int) = E := ⟨_, rfl⟩
      obtain ⟨T, hT⟩ : ∃ T, feT bq (e + 1) P' u' (sl : Int) = T := ⟨_, rfl⟩
      have hld := Lw.load HL.out HS.out.okn (by omega) rfl hd (HTW.out _ (Lw.low HL.out)) (sl : Int)
      rw [hE, hT] at hld
      have HLD : Hid (Calls _ _ _ _ _) := hld
      clear hld
      go_upto_region 12 with (go_at_call 17; refine HLD.out.mono ?_; rintro x w6 ⟨hb6, v1, v2, er, G, rfl, hD, hz, hv⟩; have HD : Hid (LdR N T E er G) := hD; have HZ : Hid (er ≠ 0 → v1 = .slice none 0 0 ∧ v2 = .slice none 0 0) := hz; have HV : Hid (er = 0 → World.ownsRow w6 _ 9 1 v1 N (strs N G) ∧ World.ownsRow w6 _ 3 1 v2 _ _) := hv; have H6 : Hid (Lh w2.heap.size w2 w6 g gr N (2 ^ (e + 1)) hl cl hm cm bq bq' vc P' u' Ck nought) := Lw.below firm_nought HL.out hb6; clear hb6 hD hz hv HLD HL)
      have hlo : ∃ (lo : List Nat) (av : Option Addr) (cv : Nat), (er = 0 → ∀ i, i < N → (i ∈ lo ↔ E i ≠ 0)) ∧ lo.length ≤ 10 ∧ v2 = .slice av lo.length cv ∧ Vals w6 av lo.length (fun j => .int .i64 ((lo.getD j 0 : Nat) : Int)) := by
        by_cases h0 : er = 0
        · obtain ⟨a, c, e1, _, e2⟩ := mowns_form (HV.out h0).2 (fun j => .int .i64 (((misL (fun i => decide (E i = 0)) N).getD j 0 : Nat) : Int)) (fun i hi => by unfold nmsL; simp [hi])
          refine ⟨misL (fun i => decide (E i = 0)) N, a, c, fun _ i hi => ?_, Nat.le_trans (misL_le _ _) (by omega), e1, e2⟩
          rw [misL_mem]
          simp [hi]
        · exact ⟨[], none, 0, fun h => absurd h h0, by decide, (HZ.out h0).2, .inl rfl⟩
      obtain ⟨lo, av, cv, hlo, hlen, rfl, hvl⟩ := hlo
      have HLO : Hid (er = 0 → ∀ i, i < N → (i ∈ lo ↔ E i ≠ 0)) := hlo
      have HVL := hvl.at
      clear hlo hvl
      go_wp2_with fail
      go_loopw [79] (fun j wz => ∃ i : Nat, i ≤ N ∧ j = .int .i64 (i : Int) ∧ Hid (Below w6.heap.size w6 wz)) (fun j _ => N - (intOf j).toNat)
      case atStart => exact ⟨0, Nat.zero_le _, rfl, Below.refl _ _⟩
      case round =>
        obtain ⟨i, hi, rfl, HBI⟩ := hrel
        have HI : Hid (Lh w2.heap.size w2 _ g gr N (2 ^ (e + 1)) hl cl hm cm bq bq' vc P' u' Ck nought) := Lw.below firm_nought H6.out HBI.out
        by_cases hiN : i < N
        · have hiN' : (i : Int) < (N : Int) := by omega
          have hon := Lw.one HI.out HS.out.okn (by omega) rfl hd (HTW.out _ (Lw.low HI.out)) (sl : Int) (i : Int)
          rw [hE, hT] at hon
          have HON : Hid (Calls _ _ _ _ _) := hon
          clear hon
          go_upto_region 16 with (go_at_call 19; refine HON.out.mono ?_; rintro x w7 ⟨hb7, s, f, rfl, hO⟩; have HO : Hid (OnR N T E (i : Int) s f) := hO; have HB7 : Hid (Below w6.heap.size w6 w7) := HBI.out.trans (hb7.mono HBI.out.size); have H7 : Hid (Lh w2.heap.size w2 w7 g gr N (2 ^ (e + 1)) hl cl hm cm bq bq' vc P' u' Ck nought) := Lw.below firm_nought HI.out hb7; clear hb7 hO HON HI HBI)
          go_wp2_with fail
          go_loop [19, 91] (fun gv j => ∃ q : Nat, q ≤ lo.length ∧ j = .int .i64 (q : Int) ∧ gv = .bool (decide (i ∈ lo.take q))) (fun _ j => lo.length - (intOf j).toNat)
          case atStart => exact ⟨0, Nat.zero_le _, rfl, by simp⟩
          case round =>
            obtain ⟨q, hq, rfl, rfl⟩ := hrel
            by_cases hql : q < lo.length
            · have qn : (q : Int) < (lo.length : Int) := by omega
              obtain ⟨b2, o2, rfl, ce⟩ := HVL.out w7 HB7.out q hql
              obtain ⟨x, hx⟩ : ∃ x, lo.getD q 0 = x := ⟨_, rfl⟩
              have HN : Hid (decide (i ∈ lo.take (q + 1)) = (decide (i ∈ lo.take q) || decide (x = i))) := by
                show _ = _
                have e1 : lo[q]? = some x := by rw [← hx, List.getD_eq_getElem?_getD, List.getElem?_eq_getElem hql]; rfl
                rw [List.take_add_one, e1, Bool.eq_iff_iff, decide_eq_true_iff, Bool.or_eq_true, decide_eq_true_iff, decide_eq_true_iff, List.mem_append]
                constructor
                · rintro (h | h)
                  · exact .inl h
                  · exact .inr (List.mem_singleton.1 h).symm
                · rintro (h | h)
                  · exact .inl h
                  · exact .inr (List.mem_singleton.2 h.symm)
              obtain ⟨gb, hgb⟩ : ∃ gb, decide (i ∈ lo.take q) = gb := ⟨_, rfl⟩
              have HN2 : Hid (decide (i ∈ lo.take (q + 1)) = (gb || decide (x = i))) := by rw [← hgb]; exact HN.out
              rw [hx] at ce
              rw [hgb]
              clear HN hx hgb
              cases gb with
              | true =>
                go_wp2_with fail
                go_round
                case rel => exact ⟨q + 1, by omega, by go_num, by rw [HN2.out]; rfl⟩
                case measure => simp [intOf]; omega
              | false =>
                by_cases hxi : x = i
                · subst hxi
                  go_wp2_with fail
                  go_round
                  case rel => exact ⟨q + 1, by omega, by go_num, by rw [HN2.out]; simp⟩
                  case measure => simp [intOf]; omega
                · have hne : ((x : Int) == (i : Int)) = false := by simp; omega
                  have HN3 : Hid (decide (x = i) = false) := decide_eq_false hxi
                  clear hxi
                  go_wp2_with fail
                  go_round
                  case rel => exact ⟨q + 1, by omega, by go_num, by rw [HN2.out, HN3.out]; rfl⟩
                  case measure => simp [intOf]; omega
            · obtain rfl : q = lo.length := by omega
              have qn : ¬ (lo.length : Int) < (lo.length : Int) := by omega
              rw [List.take_length]
              obtain ⟨gb, hgb⟩ : ∃ gb, decide (i ∈ lo) = gb := ⟨_, rfl⟩
              rw [hgb]
              have HZ0 : Hid (er = 0 → f = 0 ∧ (E i ≠ 0 → s = G i)) := ea_zero hN4 hiN HD.out HO.out
              have HZ24 : Hid (er = 24 → f = 0 ∨ f = 24) := ea_lost hN4 hiN HD.out HO.out
              have HHAD : Hid (E i = 0 → f = 0 ∧ s = T i) := ea_had hN4 hiN HO.out
              have HEU : Hid (u' i = true → gtE bq i (e + 1) kB19 (P' i) (sl : Int) = 0 → f = 0 ∧ s = gtT bq i (e + 1) kB19 (P' i) (sl : Int)) := fun hu hg => by
                have hEi : E i = 0 := by rw [← hE]; unfold feE; rw [if_pos hu]; exact hg
                obtain ⟨h1, h2⟩ := HHAD.out hEi
                exact ⟨h1, by rw [h2, ← hT]; unfold feT; rw [if_pos hu]⟩
              by_cases h0 : er = 0
              · subst h0
                obtain ⟨rfl, hG⟩ := HZ0.out rfl
                cases gb with
                | false =>
                  go_upto_region 24 with fail
                  have HR7 : Hid (Lh w2.heap.size w2 w7.drew g gr N (2 ^ (e + 1)) hl cl hm cm bq bq' vc P' u' Ck nought) := Lw.below firm_nought H7.out (Below.refl _ _).drew
                  have hR0 : w7.drew.rangeAt hl (i * 6) [.pointer (some ⟨g, 0, none⟩), .int .i64 (i : Int), .int .i64 ((2 ^ (e + 1) : Nat) : Int), .string kB19] ∧ w7.drew.cell? ⟨hl, i * 6 + 4, none⟩ = some (.string (P' i)) := Lh.slab HR7.out hiN
                  have HGT : Hid (Calls _ _ _ _ _) := sgetN (key := kB19) HS.out.okn hiN (by omega) hd rfl (P' i) (sl : Int) (Lw.bk HR7.out) (HTW.out _ (Lw.low HR7.out))
                  refine wp_region_noPanic ?_
                  refine wp_region_held_drew (S := fun y : World => y.rangeAt hl (i * 6) [.pointer (some ⟨g, 0, none⟩), .int .i64 (i : Int), .int .i64 ((2 ^ (e + 1) : Nat) : Int), .string kB19] ∧ y.cell? ⟨hl, i * 6 + 4, none⟩ = some (.string (P' i))) (by kernel_rfl) hR0 (fun hHeld => ?_)
                  refine tkH 0 ?_; go_simp
                  refine tkH 1 ?_; go_simp
                  refine tkH 2 ?_; go_simp
                  refine tkH 3 ?_; go_simp
                  refine wpAnyH_take (i := 4) (v := .agg #[.pointer (some ⟨g, 0, none⟩), .int .i64 (i : Int), .int .i64 ((2 ^ (e + 1) : Nat) : Int), .string kB19]) rfl (by kernel_rfl) (by kernel_rfl) (by kernel_rfl) (fun _ _ _ h => h) (yieldsIf_load_mid rfl 45 _ rfl hl (i * 6) rfl [.pointer (some ⟨g, 0, none⟩), .int .i64 (i : Int), .int .i64 ((2 ^ (e + 1) : Nat) : Int), .string kB19] _ (fun _ h => h.1) Tryz.underlying45 rfl (by kernel_rfl)) (by assumption) ?_
                  go_simp
                  refine tkH 5 ?_; go_simp
                  refine tkH 6 ?_; go_simp
                  refine tkH 7 ?_; go_simp
                  refine tkH 8 ?_; go_simp
                  refine tkH 9 ?_; go_simp
                  refine tkH 10 ?_; go_simp
                  refine rdH 11 fun K hK => ?_
                  go_simp
                  go_at_call 23
                  refine HGT.out.mono ?_
                  rintro x w8 ⟨rfl, hb8⟩
                  have H8 : Hid (Lh w2.heap.size w2 w8 g gr N (2 ^ (e + 1)) hl cl hm cm bq bq' vc P' u' Ck nought) := Lw.below firm_nought HR7.out hb8
                  have HB8 : Hid (Below w6.heap.size w6 w8) := (HB7.out.trans ((Below.refl _ _).drew.mono HB7.out.size)).trans (hb8.mono (HB7.out.trans ((Below.refl _ _).drew.mono HB7.out.size)).size)
                  clear hb8 hR0 HR7 HGT
                  refine hK.out _ _ (Lh.slab H8.out hiN) (fun hHeld => ?_)
                  clear hK K
                  refine tkH 12 ?_; go_simp
                  refine tkH 13 ?_; go_simp
                  refine tkH 14 ?_; go_simp
                  refine tkH 15 ?_; go_simp
                  refine tkH 16 ?_; go_simp
                  refine wpAnyH_done (by kernel_rfl) ?_ _
                  refine NoPanic.normal ?_
                  have cu : w8.cell? ⟨hl, i * 6 + 5, none⟩ = some (.bool (u' i)) := (Lw.cell H8.out (i := i) (j := 5) hiN rfl).1
                  generalize u' i = ub at cu HEU
                  generalize gtE bq i (e + 1) kB19 (P' i) (sl : Int) = ge at *
                  generalize gtT bq i (e + 1) kB19 (P' i) (sl : Int) = gs at *
                  cases ub with
                  | false =>
                    go_wp2_with fail
                    go_roundw
                    case rel => exact ⟨i + 1, by omega, by go_num, HB8.out⟩
                    case measure => simp [intOf]; omega
                  | true =>
                    by_cases hg0 : ge = 0
                    · subst hg0
                      obtain ⟨hf, hs⟩ := HEU.out rfl rfl
                      first
                        | exact absurd hf (by decide)
                        | (try subst hf
                           subst hs
                           go_wp2_with fail
                           go_roundw
                           case rel => exact ⟨i + 1, by omega, by go_num, HB8.out⟩
                           case measure => simp [intOf]; omega)
                    · have hg1 : (ge == 0) = false := by simp [hg0]
                      clear hg0
                      go_wp2_with fail
                      go_roundw
                      case rel => exact ⟨i + 1, by omega, by go_num, HB8.out⟩
                      case measure => simp [intOf]; omega
                | true =>
                  have hEi : E i ≠ 0 := (HLO.out rfl i hiN).1 (of_decide_eq_true hgb)
                  obtain ⟨a1, c1, rfl, -, -, v1v⟩ := own_vals (HV.out rfl).1 (by omega)
                  obtain ⟨b3, o3, e3, c3⟩ := v1v.at.out w7 HB7.out i hiN
                  cases e3
                  rw [← hG hEi, Nat.zero_add] at c3
                  clear v1v hG
                  go_upto_region 24 with fail
                  have HR7 : Hid (Lh w2.heap.size w2 w7.drew g gr N (2 ^ (e + 1)) hl cl hm cm bq bq' vc P' u' Ck nought) := Lw.below firm_nought H7.out (Below.refl _ _).drew
                  have hR0 : w7.drew.rangeAt hl (i * 6) [.pointer (some ⟨g, 0, none⟩), .int .i64 (i : Int), .int .i64 ((2 ^ (e + 1) : Nat) : Int), .string kB19] ∧ w7.drew.cell? ⟨hl, i * 6 + 4, none⟩ = some (.string (P' i)) := Lh.slab HR7.out hiN
                  have HGT : Hid (Calls _ _ _ _ _) := sgetN (key := kB19) HS.out.okn hiN (by omega) hd rfl (P' i) (sl : Int) (Lw.bk HR7.out) (HTW.out _ (Lw.low HR7.out))
                  refine wp_region_noPanic ?_
                  refine wp_region_held_drew (S := fun y : World => y.rangeAt hl (i * 6) [.pointer (some ⟨g, 0, none⟩), .int .i64 (i : Int), .int .i64 ((2 ^ (e + 1) : Nat) : Int), .string kB19] ∧ y.cell? ⟨hl, i * 6 + 4, none⟩ = some (.string (P' i))) (by kernel_rfl) hR0 (fun hHeld => ?_)
                  refine tkH 0 ?_; go_simp
                  refine tkH 1 ?_; go_simp
                  refine tkH 2 ?_; go_simp
                  refine tkH 3 ?_; go_simp
                  refine wpAnyH_take (i := 4) (v := .agg #[.pointer (some ⟨g, 0, none⟩), .int .i64 (i : Int), .int .i64 ((2 ^ (e + 1) : Nat) : Int), .string kB19]) rfl (by kernel_rfl) (by kernel_rfl) (by kernel_rfl) (fun _ _ _ h => h) (yieldsIf_load_mid rfl 45 _ rfl hl (i * 6) rfl [.pointer (some ⟨g, 0, none⟩), .int .i64 (i : Int), .int .i64 ((2 ^ (e + 1) : Nat) : Int), .string kB19] _ (fun _ h => h.1) Tryz.underlying45 rfl (by kernel_rfl)) (by assumption) ?_
                  go_simp
                  refine tkH 5 ?_; go_simp
                  refine tkH 6 ?_; go_simp
                  refine tkH 7 ?_; go_simp
                  refine tkH 8 ?_; go_simp
                  refine tkH 9 ?_; go_simp
                  refine tkH 10 ?_; go_simp
                  refine rdH 11 fun K hK => ?_
                  go_simp
                  go_at_call 23
                  refine HGT.out.mono ?_
                  rintro x w8 ⟨rfl, hb8⟩
                  have H8 : Hid (Lh w2.heap.size w2 w8 g gr N (2 ^ (e + 1)) hl cl hm cm bq bq' vc P' u' Ck nought) := Lw.below firm_nought HR7.out hb8
                  have HB8 : Hid (Below w6.heap.size w6 w8) := (HB7.out.trans ((Below.refl _ _).drew.mono HB7.out.size)).trans (hb8.mono (HB7.out.trans ((Below.refl _ _).drew.mono HB7.out.size)).size)
                  clear hb8 hR0 HR7 HGT
                  refine hK.out _ _ (Lh.slab H8.out hiN) (fun hHeld => ?_)
                  clear hK K
                  refine tkH 12 ?_; go_simp
                  refine tkH 13 ?_; go_simp
                  refine tkH 14 ?_; go_simp
                  refine tkH 15 ?_; go_simp
                  refine tkH 16 ?_; go_simp
                  refine wpAnyH_done (by kernel_rfl) ?_ _
                  refine NoPanic.normal ?_
                  have cu : w8.cell? ⟨hl, i * 6 + 5, none⟩ = some (.bool (u' i)) := (Lw.cell H8.out (i := i) (j := 5) hiN rfl).1
                  generalize u' i = ub at cu HEU
                  generalize gtE bq i (e + 1) kB19 (P' i) (sl : Int) = ge at *
                  generalize gtT bq i (e + 1) kB19 (P' i) (sl : Int) = gs at *
                  cases ub with
                  | false =>
                    go_wp2_with fail
                    go_roundw
                    case rel => exact ⟨i + 1, by omega, by go_num, HB8.out⟩
                    case measure => simp [intOf]; omega
                  | true =>
                    by_cases hg0 : ge = 0
                    · subst hg0
                      obtain ⟨hf, hs⟩ := HEU.out rfl rfl
                      first
                        | exact absurd hf (by decide)
                        | (try subst hf
                           subst hs
                           go_wp2_with fail
                           go_roundw
                           case rel => exact ⟨i + 1, by omega, by go_num, HB8.out⟩
                           case measure => simp [intOf]; omega)
                    · have hg1 : (ge == 0) = false := by simp [hg0]
                      clear hg0
                      go_wp2_with fail
                      go_roundw
                      case rel => exact ⟨i + 1, by omega, by go_num, HB8.out⟩
                      case measure => simp [intOf]; omega
              · have e0 : (er == 0) = false := by simp [h0]
                by_cases h24 : er = 24
                · subst h24
                  rcases HZ24.out rfl with rfl | rfl
                  · go_upto_region 24 with fail
                    have HR7 : Hid (Lh w2.heap.size w2 w7.drew g gr N (2 ^ (e + 1)) hl cl hm cm bq bq' vc P' u' Ck nought) := Lw.below firm_nought H7.out (Below.refl _ _).drew
                    have hR0 : w7.drew.rangeAt hl (i * 6) [.pointer (some ⟨g, 0, none⟩), .int .i64 (i : Int), .int .i64 ((2 ^ (e + 1) : Nat) : Int), .string kB19] ∧ w7.drew.cell? ⟨hl, i * 6 + 4, none⟩ = some (.string (P' i)) := Lh.slab HR7.out hiN
                    have HGT : Hid (Calls _ _ _ _ _) := sgetN (key := kB19) HS.out.okn hiN (by omega) hd rfl (P' i) (sl : Int) (Lw.bk HR7.out) (HTW.out _ (Lw.low HR7.out))
                    refine wp_region_noPanic ?_
                    refine wp_region_held_drew (S := fun y : World => y.rangeAt hl (i * 6) [.pointer (some ⟨g, 0, none⟩), .int .i64 (i : Int), .int .i64 ((2 ^ (e + 1) : Nat) : Int), .string kB19] ∧ y.cell? ⟨hl, i * 6 + 4, none⟩ = some (.string (P' i))) (by kernel_rfl) hR0 (fun hHeld => ?_)
                    refine tkH 0 ?_; go_simp
                    refine tkH 1 ?_; go_simp
                    refine tkH 2 ?_; go_simp
                    refine tkH 3 ?_; go_simp
                    refine wpAnyH_take (i := 4) (v := .agg #[.pointer (some ⟨g, 0, none⟩), .int .i64 (i : Int), .int .i64 ((2 ^ (e + 1) : Nat) : Int), .string kB19]) rfl (by kernel_rfl) (by kernel_rfl) (by kernel_rfl) (fun _ _ _ h => h) (yieldsIf_load_mid rfl 45 _ rfl hl (i * 6) rfl [.pointer (some ⟨g, 0, none⟩), .int .i64 (i : Int), .int .i64 ((2 ^ (e + 1) : Nat) : Int), .string kB19] _ (fun _ h => h.1) Tryz.underlying45 rfl (by kernel_rfl)) (by assumption) ?_
                    go_simp
                    refine tkH 5 ?_; go_simp
                    refine tkH 6 ?_; go_simp
                    refine tkH 7 ?_; go_simp
                    refine tkH 8 ?_; go_simp
                    refine tkH 9 ?_; go_simp
                    refine tkH 10 ?_; go_simp
                    refine rdH 11 fun K hK => ?_
                    go_simp
                    go_at_call 23
                    refine HGT.out.mono ?_
                    rintro x w8 ⟨rfl, hb8⟩
                    have H8 : Hid (Lh w2.heap.size w2 w8 g gr N (2 ^ (e + 1)) hl cl hm cm bq bq' vc P' u' Ck nought) := Lw.below firm_nought HR7.out hb8
                    have HB8 : Hid (Below w6.heap.size w6 w8) := (HB7.out.trans ((Below.refl _ _).drew.mono HB7.out.size)).trans (hb8.mono (HB7.out.trans ((Below.refl _ _).drew.mono HB7.out.size)).size)
                    clear hb8 hR0 HR7 HGT
                    refine hK.out _ _ (Lh.slab H8.out hiN) (fun hHeld => ?_)
                    clear hK K
                    refine tkH 12 ?_; go_simp
                    refine tkH 13 ?_; go_simp
                    refine tkH 14 ?_; go_simp
                    refine tkH 15 ?_; go_simp
                    refine tkH 16 ?_; go_simp
                    refine wpAnyH_done (by kernel_rfl) ?_ _
                    refine NoPanic.normal ?_
                    have cu : w8.cell? ⟨hl, i * 6 + 5, none⟩ = some (.bool (u' i)) := (Lw.cell H8.out (i := i) (j := 5) hiN rfl).1
                    generalize u' i = ub at cu HEU
                    generalize gtE bq i (e + 1) kB19 (P' i) (sl : Int) = ge at *
                    generalize gtT bq i (e + 1) kB19 (P' i) (sl : Int) = gs at *
                    cases ub with
                    | false =>
                      go_wp2_with fail
                      go_roundw
                      case rel => exact ⟨i + 1, by omega, by go_num, HB8.out⟩
                      case measure => simp [intOf]; omega
                    | true =>
                      by_cases hg0 : ge = 0
                      · subst hg0
                        obtain ⟨hf, hs⟩ := HEU.out rfl rfl
                        first
                          | exact absurd hf (by decide)
                          | (try subst hf
                             subst hs
                             go_wp2_with fail
                             go_roundw
                             case rel => exact ⟨i + 1, by omega, by go_num, HB8.out⟩
                             case measure => simp [intOf]; omega)
                      · have hg1 : (ge == 0) = false := by simp [hg0]
                        clear hg0
                        go_wp2_with fail
                        go_roundw
                        case rel => exact ⟨i + 1, by omega, by go_num, HB8.out⟩
                        case measure => simp [intOf]; omega
                  · go_upto_region 24 with fail
                    have HR7 : Hid (Lh w2.heap.size w2 w7.drew g gr N (2 ^ (e + 1)) hl cl hm cm bq bq' vc P' u' Ck nought) := Lw.below firm_nought H7.out (Below.refl _ _).drew
                    have hR0 : w7.drew.rangeAt hl (i * 6) [.pointer (some ⟨g, 0, none⟩), .int .i64 (i : Int), .int .i64 ((2 ^ (e + 1) : Nat) : Int), .string kB19] ∧ w7.drew.cell? ⟨hl, i * 6 + 4, none⟩ = some (.string (P' i)) := Lh.slab HR7.out hiN
                    have HGT : Hid (Calls _ _ _ _ _) := sgetN (key := kB19) HS.out.okn hiN (by omega) hd rfl (P' i) (sl : Int) (Lw.bk HR7.out) (HTW.out _ (Lw.low HR7.out))
                    refine wp_region_noPanic ?_
                    refine wp_region_held_drew (S := fun y : World => y.rangeAt hl (i * 6) [.pointer (some ⟨g, 0, none⟩), .int .i64 (i : Int), .int .i64 ((2 ^ (e + 1) : Nat) : Int), .string kB19] ∧ y.cell? ⟨hl, i * 6 + 4, none⟩ = some (.string (P' i))) (by kernel_rfl) hR0 (fun hHeld => ?_)
                    refine tkH 0 ?_; go_simp
                    refine tkH 1 ?_; go_simp
                    refine tkH 2 ?_; go_simp
                    refine tkH 3 ?_; go_simp
                    refine wpAnyH_take (i := 4) (v := .agg #[.pointer (some ⟨g, 0, none⟩), .int .i64 (i : Int), .int .i64 ((2 ^ (e + 1) : Nat) : Int), .string kB19]) rfl (by kernel_rfl) (by kernel_rfl) (by kernel_rfl) (fun _ _ _ h => h) (yieldsIf_load_mid rfl 45 _ rfl hl (i * 6) rfl [.pointer (some ⟨g, 0, none⟩), .int .i64 (i : Int), .int .i64 ((2 ^ (e + 1) : Nat) : Int), .string kB19] _ (fun _ h => h.1) Tryz.underlying45 rfl (by kernel_rfl)) (by assumption) ?_
                    go_simp
                    refine tkH 5 ?_; go_simp
                    refine tkH 6 ?_; go_simp
                    refine tkH 7 ?_; go_simp
                    refine tkH 8 ?_; go_simp
                    refine tkH 9 ?_; go_simp
                    refine tkH 10 ?_; go_simp
                    refine rdH 11 fun K hK => ?_
                    go_simp
                    go_at_call 23
                    refine HGT.out.mono ?_
                    rintro x w8 ⟨rfl, hb8⟩
                    have H8 : Hid (Lh w2.heap.size w2 w8 g gr N (2 ^ (e + 1)) hl cl hm cm bq bq' vc P' u' Ck nought) := Lw.below firm_nought HR7.out hb8
                    have HB8 : Hid (Below w6.heap.size w6 w8) := (HB7.out.trans ((Below.refl _ _).drew.mono HB7.out.size)).trans (hb8.mono (HB7.out.trans ((Below.refl _ _).drew.mono HB7.out.size)).size)
                    clear hb8 hR0 HR7 HGT
                    refine hK.out _ _ (Lh.slab H8.out hiN) (fun hHeld => ?_)
                    clear hK K
                    refine tkH 12 ?_; go_simp
                    refine tkH 13 ?_; go_simp
                    refine tkH 14 ?_; go_simp
                    refine tkH 15 ?_; go_simp
                    refine tkH 16 ?_; go_simp
                    refine wpAnyH_done (by kernel_rfl) ?_ _
                    refine NoPanic.normal ?_
                    have cu : w8.cell? ⟨hl, i * 6 + 5, none⟩ = some (.bool (u' i)) := (Lw.cell H8.out (i := i) (j := 5) hiN rfl).1
                    generalize u' i = ub at cu HEU
                    generalize gtE bq i (e + 1) kB19 (P' i) (sl : Int) = ge at *
                    generalize gtT bq i (e + 1) kB19 (P' i) (sl : Int) = gs at *
                    cases ub with
                    | false =>
                      go_wp2_with fail
                      go_roundw
                      case rel => exact ⟨i + 1, by omega, by go_num, HB8.out⟩
                      case measure => simp [intOf]; omega
                    | true =>
                      by_cases hg0 : ge = 0
                      · subst hg0
                        obtain ⟨hf, hs⟩ := HEU.out rfl rfl
                        first
                          | exact absurd hf (by decide)
                          | (try subst hf
                             subst hs
                             go_wp2_with fail
                             go_roundw
                             case rel => exact ⟨i + 1, by omega, by go_num, HB8.out⟩
                             case measure => simp [intOf]; omega)
                      · have hg1 : (ge == 0) = false := by simp [hg0]
                        clear hg0
                        go_wp2_with fail
                        go_roundw
                        case rel => exact ⟨i + 1, by omega, by go_num, HB8.out⟩
                        case measure => simp [intOf]; omega
                · have e1 : (er == 24) = false := by simp [h24]
                  clear h0 h24
                  go_upto_region 24 with fail
                  have HR7 : Hid (Lh w2.heap.size w2 w7.drew g gr N (2 ^ (e + 1)) hl cl hm cm bq bq' vc P' u' Ck nought) := Lw.below firm_nought H7.out (Below.refl _ _).drew
                  have hR0 : w7.drew.rangeAt hl (i * 6) [.pointer (some ⟨g, 0, none⟩), .int .i64 (i : Int), .int .i64 ((2 ^ (e + 1) : Nat) : Int), .string kB19] ∧ w7.drew.cell? ⟨hl, i * 6 + 4, none⟩ = some (.string (P' i)) := Lh.slab HR7.out hiN
                  have HGT : Hid (Calls _ _ _ _ _) := sgetN (key := kB19) HS.out.okn hiN (by omega) hd rfl (P' i) (sl : Int) (Lw.bk HR7.out) (HTW.out _ (Lw.low HR7.out))
                  refine wp_region_noPanic ?_
                  refine wp_region_held_drew (S := fun y : World => y.rangeAt hl (i * 6) [.pointer (some ⟨g, 0, none⟩), .int .i64 (i : Int), .int .i64 ((2 ^ (e + 1) : Nat) : Int), .string kB19] ∧ y.cell? ⟨hl, i * 6 + 4, none⟩ = some (.string (P' i))) (by kernel_rfl) hR0 (fun hHeld => ?_)
                  refine tkH 0 ?_; go_simp
                  refine tkH 1 ?_; go_simp
                  refine tkH 2 ?_; go_simp
                  refine tkH 3 ?_; go_simp
                  refine wpAnyH_take (i := 4) (v := .agg #[.pointer (some ⟨g, 0, none⟩), .int .i64 (i : Int), .int .i64 ((2 ^ (e + 1) : Nat) : Int), .string kB19]) rfl (by kernel_rfl) (by kernel_rfl) (by kernel_rfl) (fun _ _ _ h => h) (yieldsIf_load_mid rfl 45 _ rfl hl (i * 6) rfl [.pointer (some ⟨g, 0, none⟩), .int .i64 (i : Int), .int .i64 ((2 ^ (e + 1) : Nat) : Int), .string kB19] _ (fun _ h => h.1) Tryz.underlying45 rfl (by kernel_rfl)) (by assumption) ?_
                  go_simp
                  refine tkH 5 ?_; go_simp
                  refine tkH 6 ?_; go_simp
                  refine tkH 7 ?_; go_simp
                  refine tkH 8 ?_; go_simp
                  refine tkH 9 ?_; go_simp
                  refine tkH 10 ?_; go_simp
                  refine rdH 11 fun K hK => ?_
                  go_simp
                  go_at_call 23
                  refine HGT.out.mono ?_
                  rintro x w8 ⟨rfl, hb8⟩
                  have H8 : Hid (Lh w2.heap.size w2 w8 g gr N (2 ^ (e + 1)) hl cl hm cm bq bq' vc P' u' Ck nought) := Lw.below firm_nought HR7.out hb8
                  have HB8 : Hid (Below w6.heap.size w6 w8) := (HB7.out.trans ((Below.refl _ _).drew.mono HB7.out.size)).trans (hb8.mono (HB7.out.trans ((Below.refl _ _).drew.mono HB7.out.size)).size)
                  clear hb8 hR0 HR7 HGT
                  refine hK.out _ _ (Lh.slab H8.out hiN) (fun hHeld => ?_)
                  clear hK K
                  refine tkH 12 ?_; go_simp
                  refine tkH 13 ?_; go_simp
                  refine tkH 14 ?_; go_simp
                  refine tkH 15 ?_; go_simp
                  refine tkH 16 ?_; go_simp
                  refine wpAnyH_done (by kernel_rfl) ?_ _
                  refine NoPanic.normal ?_
                  have cu : w8.cell? ⟨hl, i * 6 + 5, none⟩ = some (.bool (u' i)) := (Lw.cell H8.out (i := i) (j := 5) hiN rfl).1
                  generalize u' i = ub at cu HEU
                  generalize gtE bq i (e + 1) kB19 (P' i) (sl : Int) = ge at *
                  generalize gtT bq i (e + 1) kB19 (P' i) (sl : Int) = gs at *
                  cases ub with
                  | false =>
                    go_wp2_with fail
                    go_roundw
                    case rel => exact ⟨i + 1, by omega, by go_num, HB8.out⟩
                    case measure => simp [intOf]; omega
                  | true =>
                    by_cases hg0 : ge = 0
                    · subst hg0
                      obtain ⟨hf, hs⟩ := HEU.out rfl rfl
                      first
                        | exact absurd hf (by decide)
                        | (try subst hf
                           subst hs
                           go_wp2_with fail
                           go_roundw
                           case rel => exact ⟨i + 1, by omega, by go_num, HB8.out⟩
                           case measure => simp [intOf]; omega)
                    · have hg1 : (ge == 0) = false := by simp [hg0]
                      clear hg0
                      go_wp2_with fail
                      go_roundw
                      case rel => exact ⟨i + 1, by omega, by go_num, HB8.out⟩
                      case measure => simp [intOf]; omega
        · obtain rfl : i = N := by omega
          go_wp2_with fail
          go_ret
          exact ⟨rfl, HB0.out.trans ((Lw.low HI.out).mono HB0.out.size)⟩
end Go.Proofs.YtokknmkleceooaaGreatDoor
