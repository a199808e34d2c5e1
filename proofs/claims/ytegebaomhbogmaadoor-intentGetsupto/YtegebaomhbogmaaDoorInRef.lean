/- The document's answers: how many cells a log has, its cells and digest. -/
import Derived.Test.YtegebaomhbogmaaDoorInPut
import Derived.Test.YtegebaomhbogmaaDoorInGet
namespace Go.Proofs.YtegebaomhbogmaaDoor
open Go.RowKit Go.PlainAid
set_option linter.unusedVariables false
set_option maxRecDepth 20000

theorem isN_none {s : ByteArray} (h : ∀ n : Nat, n < 96 → numB (n : Int) ≠ s) : isN s = false := by
  cases hi : isN s with
  | false => rfl
  | true => obtain ⟨n, hn, e, _⟩ := isN_num hi; exact absurd e.symm (h n hn)
set_option maxHeartbeats 1000000 in
theorem rsize15_any (s : ByteArray) (w : World) : Calls Tryd.prog 14 #[.string s] w fun e w' => e = .returned (.tuple #[.int .i64 (szV s : Int), .int .i64 (szE s)]) ∧ Below w.heap.size w w' := by
  have hnum : Hid (∀ (n : Nat), n < 96 → ∀ z, Calls Tryd.prog 23 #[.int .u64 (n : Int)] z fun e w' => e = .returned (.string (numB (n : Int))) ∧ Below z.heap.size z w') := fun n hn z => rnumF_any n (by omega) z
  have HV : Hid (∀ (n : Nat), n < 96 → numB (n : Int) = s → (szV s : Int) = (n : Int) + 1 ∧ szE s = 0) := fun n hn e => by
    subst e; rw [szV_num hn, szE_num hn]; exact ⟨by omega, rfl⟩
  have HW : Hid ((∀ n : Nat, n < 96 → numB (n : Int) ≠ s) → (szV s : Int) = 0 ∧ szE s = 4) := fun h => by
    have hi := isN_none h
    unfold szV szE; rw [hi]; exact ⟨rfl, rfl⟩
  generalize szV s = V at *
  generalize szE s = E at *
  go_enter Tryd.func14, Tryd.ntmps14
  go_wp2
  go_loopw [4] (fun i wr => ∃ k : Nat, k ≤ 96 ∧ i = .int .i64 (k : Int) ∧ Hid (∀ n : Nat, n < k → numB (n : Int) ≠ s) ∧ Hid (Below w.heap.size w wr)) (fun i _ => 96 - (intOf i).toNat)
  case atStart => exact ⟨0, by omega, rfl, fun n hn => by omega, Below.refl _ _⟩
  case round =>
    obtain ⟨k, hk, rfl, hno, hlo⟩ := hrel
    by_cases hlt : k < 96
    · have hk' : (k : Int) < 96 := by omega
      have e0 : (k : Int) % 18446744073709551616 = (k : Int) := by omega
      have hc := hnum.out k hlt wr
      by_cases he : numB (k : Int) = s
      · have hv := HV.out k hlt he
        have hq : ((numB (k : Int)).toList == s.toList) = true := by rw [eq_text]; exact decide_eq_true he
        have HV2 : Hid ((V : Int) = (k : Int) + 1 ∧ E = 0) := hv
        generalize numB (k : Int) = t at *
        clear hv he
        go_wp2_with (go_at_call 23; refine hc.mono ?_; rintro e w1 ⟨rfl, hb1⟩; have L1 : Hid (Below w.heap.size w w1) := hlo.out.trans (hb1.mono hlo.out.size); clear hb1 hc hlo)
        go_ret2
        exact ⟨by rw [HV2.out.1, HV2.out.2]; rfl, L1.out⟩
      · have hq : ((numB (k : Int)).toList == s.toList) = false := by rw [eq_text]; exact decide_eq_false he
        have HN : Hid (∀ n : Nat, n < k + 1 → numB (n : Int) ≠ s) := fun n hn => by
          by_cases e : n = k
          · rw [e]; exact he
          · exact hno.out n (by omega)
        generalize numB (k : Int) = t at *
        clear he
        go_wp2_with (go_at_call 23; refine hc.mono ?_; rintro e w1 ⟨rfl, hb1⟩; have L1 : Hid (Below w.heap.size w w1) := hlo.out.trans (hb1.mono hlo.out.size); clear hb1 hc hlo)
        go_roundw
        case rel => exact ⟨k + 1, by omega, by go_num, HN.out, L1.out⟩
        case measure => simp [intOf]; omega
    · obtain rfl : k = 96 := by omega
      have HV2 : Hid ((V : Int) = 0 ∧ E = 4) := HW.out hno.out
      go_wp2
      go_ret2
      exact ⟨by rw [HV2.out.1, HV2.out.2]; rfl, hlo.out⟩
set_option maxHeartbeats 4000000 in
theorem rput15_any {w : World} {a : Option Addr} {n cap : Nat} {A : Nat → Int} {C : Nat → ByteArray} (hL : Wx w a n A C) (hn : n ≤ 1000) (hr : RTabs w) : Calls Tryd.prog 9 #[.slice a n cap] w fun e w' => ∃ a' c', e = .returned (.tuple #[.slice a' (lgN n A C) c', .string (lgD n A C), .int .i64 (lgE n A C)]) ∧ Cs w' a' (lgN n A C) (celF n A C) ∧ Below w.heap.size w w' := by
  by_cases h95 : 95 < n
  · have hE : lgE n A C = 10 := if_pos h95
    have hN : lgN n A C = 0 := if_neg (by rw [hE]; decide)
    have hD : lgD n A C = noB := if_neg (by rw [hE]; decide)
    rw [hE, hN, hD]
    have h95' : (95 : Int) < (n : Int) := by omega
    go_enter Tryd.func9, Tryd.ntmps9
    go_wp2
    go_ret3
    exact ⟨none, 0, rfl, .inl rfl, Below.refl _ _⟩
  have h95' : ¬ (95 : Int) < (n : Int) := by omega
  have h95'' : (n : Int) ≤ 95 := by omega
  have hEE : Hid (lgE n A C = fsE A C n) := if_neg h95
  have HL : Hid (Wx w a n A C) := hL
  have HT : Hid (RTabs w) := hr
  have h2 : Hid (1 < w.heap.size) := hr.lt
  have hc0 := rnumF_any n (by omega) w
  have e0 : (n : Int) % 18446744073709551616 = (n : Int) := by omega
  have HP0 : Hid (∀ z, Below w.heap.size w z → ∃ a c w', (Builtin.append_ #[27, 27] 27 #[.slice none 0 0, .slice (some ⟨z.heap.size, 0, none⟩) 1 1]).run Tryd.prog (z.alloc (.cells #[.string (numB (n : Int))] 9)) = .ok (.slice a 1 c) w' ∧ Hold w.heap.size w w' (star (rowK 9 1 (.slice a 1 c) 1 (txs 1 (celF n A C))) nought)) := fun z hz =>
    push_txt (f := celF n A C) (k := 0) firm_nought ((hold_nought w.heap.size w z hz.size hz).mono fun F h => star_nilR h) (by omega) (numB (n : Int)) rfl 27
  clear hL hr
  generalize numB (n : Int) = N0 at *
  go_enter Tryd.func9, Tryd.ntmps9
  go_wp2_with (first
    | (go_at_call 23; refine hc0.mono ?_; rintro e w1 ⟨rfl, hb1⟩; obtain ⟨a1, c1, w2, hrun, h1⟩ := HP0.out w1 hb1; have H1 : Hid (Hold w.heap.size w _ _) := h1; clear hb1 hc0 HP0 h1)
    | (at_builtin; refine Lib.wpList_append_run _ rfl _ _ 27 27 rfl _ _ rfl rfl _ _ hrun ?_))
  clear hrun
  go_loopw [5, 7] (fun v i wr => ∃ (k c : Nat) (s : Option Addr), k ≤ n ∧ i = .int .i64 (k : Int) ∧ v = .slice s (k + 1) c ∧ Hid (fsE A C k = 0) ∧ Hid (Hold w.heap.size w wr (star (rowK 9 1 (.slice s (k + 1) c) (k + 1) (txs (k + 1) (celF n A C))) nought))) (fun _ i _ => n - (intOf i).toNat)
  case atStart => exact ⟨0, _, _, Nat.zero_le _, rfl, rfl, rfl, H1.out⟩
  case round =>
    clear H1
    obtain ⟨k, c, s, hk, rfl, rfl, hfs, hh⟩ := hrel
    by_cases hlt : k < n
    · have hk' : (k : Int) < (n : Int) := by omega
      obtain ⟨b, o, hao, hr⟩ := HL.out.at hh.out.low k hlt
      subst hao
      have r0 : wr.cell? ⟨b, o + k * 2, none⟩ = some (.int .i64 (A k)) := by have := hr 0 _ rfl; simpa using this
      have r1 : wr.cell? ⟨b, o + k * 2 + 1, none⟩ = some (.string (C k)) := hr 1 _ rfl
      have HC : Hid (∀ z, Below w.heap.size w z → z.cell? ⟨b, o + k * 2, none⟩ = some (.int .i64 (A k)) ∧ z.cell? ⟨b, o + k * 2 + 1, none⟩ = some (.string (C k))) := fun z hz => by
        obtain ⟨b', o', e', h'⟩ := HL.out.at hz k hlt
        cases e'
        exact ⟨by have := h' 0 _ rfl; simpa using this, h' 1 _ rfl⟩
      clear hr
      by_cases hw : wrE (A k) (C k) = 0
      · obtain ⟨a0, a1, a2⟩ := wrE_zero.1 hw
        have HFS : Hid (fsE A C (k + 1) = 0) := by show fsE A C (k + 1) = 0; rw [fsE_step hfs.out]; exact hw
        obtain ⟨ak, hak⟩ := Int.eq_ofNat_of_zero_le (show 0 ≤ A k by omega)
        have hnm : Hid (∀ z, Calls Tryd.prog 23 #[.int .u64 (A k)] z fun e w' => e = .returned (.string (numB (A k))) ∧ Below z.heap.size z w') := fun z => by rw [hak]; exact rnumF_any ak (by omega) z
        have htx : Hid (∀ z, Calls Tryd.prog 24 #[.string (C k)] z _) := fun z => rtextF_any (C k) (by omega) z
        have hz1 := numB_size (A k)
        have hz2 := ctxB_size (C k)
        have hza : (9223372036854775807 < (numB (A k)).size + (ctxB (C k)).size) = False := by simp; omega
        have e1 : A k % 18446744073709551616 = A k := by omega
        have b0 : ¬ A k < 100 := by omega
        have b1 : ¬ 139 < A k := by omega
        have b2 : ¬ (2032 : Int) < ((C k).size : Int) := by omega
        have HPU : Hid (∀ z, Hold w.heap.size w z (star (rowK 9 1 (.slice s (k + 1) c) (k + 1) (txs (k + 1) (celF n A C))) nought) → ∃ a' c' w', (Builtin.append_ #[27, 27] 27 #[.slice s (k + 1) c, .slice (some ⟨z.heap.size, 0, none⟩) 1 1]).run Tryd.prog (z.alloc (.cells #[.string (numB (A k) ++ ctxB (C k))] 9)) = .ok (.slice a' (k + 1 + 1) c') w' ∧ Hold w.heap.size w w' (star (rowK 9 1 (.slice a' (k + 1 + 1) c') (k + 1 + 1) (txs (k + 1 + 1) (celF n A C))) nought)) := fun z hz => push_txt firm_nought hz (by omega) _ rfl 27
        have hkb : (k : Int) ≤ 95 := by omega
        clear hw hz1 hz2 a2 hfs hak
        generalize numB (A k) = t1 at *
        generalize ctxB (C k) = t2 at *
        generalize A k = ak at *
        generalize C k = ck at *
        go_wp2_with (first
          | (go_at_call 23; refine (hnm.out _).mono ?_; rintro e w3 ⟨rfl, hb3⟩; have H3 : Hid (Hold w.heap.size w w3 _) := hh.out.below ((firm_rowK _ _ _ _ _).star firm_nought) hb3; obtain ⟨r2, r3⟩ := HC.out w3 H3.out.low; clear hb3 hnm hh)
          | (go_at_call 24; refine (htx.out _).mono ?_; rintro e w4 ⟨rfl, hb4⟩; have H4 := H3.out.below ((firm_rowK _ _ _ _ _).star firm_nought) hb4; obtain ⟨s', c', w5, hrun, h5⟩ := HPU.out w4 H4; have H5 : Hid (Hold w.heap.size w w5 _) := h5; clear hb4 htx H3 H4 h5)
          | (at_builtin; refine Lib.wpList_append_run _ rfl _ _ 27 27 rfl _ _ rfl rfl _ _ hrun ?_))
        go_roundw
        case rel => exact ⟨k + 1, c', s', by omega, by go_num, rfl, HFS.out, H5.out⟩
        case measure => simp [intOf]; omega
      · have hE : lgE n A C = wrE (A k) (C k) := by rw [hEE.out]; exact fsE_stop hfs.out hlt hw
        have hN : lgN n A C = 0 := if_neg (by rw [hE]; exact hw)
        have hD : lgD n A C = noB := if_neg (by rw [hE]; exact hw)
        have HA : Hid (lgE n A C = wrE (A k) (C k) ∧ lgN n A C = 0 ∧ lgD n A C = noB) := ⟨hE, hN, hD⟩
        clear hE hN hD
        by_cases b0 : A k < 100
        · rw [wrE_arg (.inl b0)] at HA
          generalize A k = ak at *
          generalize C k = ck at *
          clear hw
          go_wp2
          go_ret3
          first | exact ⟨none, 0, by rw [HA.out.1, HA.out.2.1, HA.out.2.2]; rfl, by rw [HA.out.2.1]; exact .inl rfl, hh.out.low⟩ | exact ⟨none, ⟨0, by rw [HA.out.1, HA.out.2.1, HA.out.2.2]; rfl⟩, by rw [HA.out.2.1]; exact .inl rfl, hh.out.low⟩
        · by_cases b1 : 139 < A k
          · rw [wrE_arg (.inr (by omega))] at HA
            generalize A k = ak at *
            generalize C k = ck at *
            clear hw
            go_wp2
            go_ret3
            first | exact ⟨none, 0, by rw [HA.out.1, HA.out.2.1, HA.out.2.2]; rfl, by rw [HA.out.2.1]; exact .inl rfl, hh.out.low⟩ | exact ⟨none, ⟨0, by rw [HA.out.1, HA.out.2.1, HA.out.2.2]; rfl⟩, by rw [HA.out.2.1]; exact .inl rfl, hh.out.low⟩
          · have b2 : 2032 < (C k).size := by
              rcases Nat.lt_or_ge 2032 (C k).size with h | h
              · exact h
              · exact absurd (wrE_zero.2 ⟨by omega, by omega, h⟩) hw
            rw [wrE_long (by omega) (by omega) b2] at HA
            have b2' : (2032 : Int) < ((C k).size : Int) := by omega
            generalize A k = ak at *
            generalize C k = ck at *
            clear hw b2
            go_wp2
            go_ret3
            first | exact ⟨none, 0, by rw [HA.out.1, HA.out.2.1, HA.out.2.2]; rfl, by rw [HA.out.2.1]; exact .inl rfl, hh.out.low⟩ | exact ⟨none, ⟨0, by rw [HA.out.1, HA.out.2.1, HA.out.2.2]; rfl⟩, by rw [HA.out.2.1]; exact .inl rfl, hh.out.low⟩
    · obtain rfl : k = n := by omega
      have hk' : ¬ (k : Int) < (k : Int) := by omega
      have hE : lgE k A C = 0 := by rw [hEE.out]; exact hfs.out
      have hN : lgN k A C = k + 1 := if_pos hE
      have hD : lgD k A C = dgT (celF k A C) (k + 1) := if_pos hE
      have hall := fsE_all hfs.out
      have hsz := cat_small (A := A) (C := C) hn (fun i hi => (wrE_zero.1 (hall i hi)).2.2)
      have HCS : Hid (Cs wr s (k + 1) (celF k A C)) := own_cs hh.out.rowK
      have hsum : Hid (Calls Tryd.prog 13 #[.slice s (k + 1) c] wr _) := rdigest15_any (cap := c) HCS.out (by omega) hsz (HT.out.below hh.out.low h2.out)
      have HA : Hid (lgE k A C = 0 ∧ lgN k A C = k + 1 ∧ lgD k A C = dgT (celF k A C) (k + 1)) := ⟨hE, hN, hD⟩
      clear hE hN hD hall hsz
      go_wp2_with (first
        | (go_at_call 13; refine hsum.out.mono ?_; rintro e w3 ⟨rfl, hb3⟩; have L3 : Hid (Below w.heap.size w w3) := hh.out.low.trans (hb3.mono hh.out.size); have C3 : Hid (Cs w3 s (k + 1) (celF k A C)) := HCS.out.below hb3; clear hb3 hsum HCS hh))
      go_ret3
      exact ⟨s, c, by rw [HA.out.1, HA.out.2.1, HA.out.2.2]; rfl, by rw [HA.out.2.1]; exact C3.out, L3.out⟩
end Go.Proofs.YtegebaomhbogmaaDoor
