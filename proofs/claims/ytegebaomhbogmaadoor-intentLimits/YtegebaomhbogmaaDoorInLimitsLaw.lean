/- What the Go function IntentLimits answers: true, for all numbers. -/
import Derived.Test.YtegebaomhbogmaaDoorInWakes
namespace Go.Proofs.YtegebaomhbogmaaDoor
open Go.RowKit Go.PlainAid
set_option linter.unusedVariables false
set_option maxRecDepth 20000

def lcB : ByteArray := ⟨#[99]⟩
/-- A cell of the write that the law lays again and again. -/
def lF : Nat → ByteArray := fun _ => numB 100 ++ ctxB lcB
theorem lF_wr : wrE 100 lcB = 0 := rfl
theorem lF_at (i : Nat) : gtA lF i = 100 ∧ gtC lF i = lcB := (okC_cel lF_wr).2
theorem lF_lg (n : Nat) : (n < 96 ∧ lgE n (gtA lF) (gtC lF) = 0 ∧ lgN n (gtA lF) (gtC lF) = n + 1) ∨ (96 ≤ n ∧ lgE n (gtA lF) (gtC lF) = 10) := by
  by_cases h : 95 < n
  · exact .inr ⟨h, if_pos h⟩
  · have e : lgE n (gtA lF) (gtC lF) = 0 := by
      unfold lgE; rw [if_neg h]
      exact fsE_of fun k hk => by rw [(lF_at k).1, (lF_at k).2]; exact lF_wr
    exact .inl ⟨by omega, e, lgN_ok e⟩
theorem lg_one (A : Nat → Int) (C : Nat → ByteArray) : lgE 1 A C = wrE (A 0) (C 0) := rfl
set_option maxHeartbeats 4000000 in
theorem intentLimits_law (a b c : Int) (W : World) (ha : -9223372036854775808 ≤ a ∧ a ≤ 9223372036854775807) (hb : -9223372036854775808 ≤ b ∧ b ≤ 9223372036854775807) (hc : -9223372036854775808 ≤ c ∧ c ≤ 9223372036854775807) (ht : Tabs W) : Calls Tryd.prog 6 #[.int .i64 a, .int .i64 b, .int .i64 c] W fun e w' => e = .returned (.bool true) ∧ Below W.heap.size W w' := by
  obtain ⟨N, hN1, hN2, hN3⟩ : ∃ N : Nat, (if (0 : Int) < a then a else 0) % 110 = (N : Int) ∧ max 0 a % 110 = (N : Int) ∧ N ≤ 109 := ⟨(max 0 a % 110).toNat, by split <;> omega, by omega, by omega⟩
  obtain ⟨S, hS1, hS2, hS3⟩ : ∃ S : Nat, (if (0 : Int) < b then b else 0) % 2100 = (S : Int) ∧ max 0 b % 2100 = (S : Int) ∧ S ≤ 2099 := ⟨(max 0 b % 2100).toNat, by split <;> omega, by omega, by omega⟩
  have HZ2 : Hid ((Tryd.prog.info? 49).map (·.size) = some 2) := Tryd.size49
  have hzw := zeroWr
  have hmk := made_wrs N (by omega) (fkA lF 0) (fkC lF 0) (fun i => rfl) (fun i => rfl) W
  have HM : Hid (Gt W (W.alloc (.cells (wrs (fkA lF 0) (fkC lF 0) N).toArray 49)) N (fkA lF 0) (fkC lF 0) nought) := by
    have := (hold_nought W.heap.size W W (Nat.le_refl _) (Below.refl _ _)).newBlk firm_nought 49 (wrs (fkA lF 0) (fkC lF 0) N).toArray
    rw [List.toList_toArray] at this
    exact this
  have HP : Hid (∀ z k, k < N → Gt W z N (fkA lF k) (fkC lF k) nought → Gt W (z.setCells W.heap.size (k * 2) [.int .i64 100, .string ⟨#[99]⟩]) N (fkA lF (k + 1)) (fkC lF (k + 1)) nought) := fun z k hk h => by
    have := h.put firm_nought hk
    rw [(lF_at k).1, (lF_at k).2] at this
    exact this
  obtain ⟨Z, hz1, hz2⟩ := zeros_at S (by omega)
  rw [show strOfNums (List.replicate S 0) = zB S from rfl] at hz2
  have hzs := zB_size S
  have HT : Hid (Tabs W) := ht
  have h2 : Hid (2 < W.heap.size) := ht.lt
  have P1 : Hid (∀ z a c, Below W.heap.size W z → Wx z a N (gtA lF) (gtC lF) → Calls Tryd.prog 8 #[.slice a N c] z fun e w' => ∃ a' c', e = .returned (.tuple #[.slice a' (lgN N (gtA lF) (gtC lF)) c', .string (lgD N (gtA lF) (gtC lF)), .int .i64 (lgE N (gtA lF) (gtC lF))]) ∧ Cs w' a' (lgN N (gtA lF) (gtC lF)) (celF N (gtA lF) (gtC lF)) ∧ Below z.heap.size z w') := fun z a c hz h => (iput_any h (by omega) (HT.out.below hz h2.out)).mono fun e w' ⟨a', c', he, h1, _, h2⟩ => ⟨a', c', he, h1, h2⟩
  have PG : ∀ (x : Int) (t : ByteArray), Hid (∀ z, Below W.heap.size W z → Calls Tryd.prog 8 #[.slice (some ⟨z.heap.size, 0, none⟩) 1 1] (z.alloc (.cells #[.int .i64 x, .string t] 49)) fun e w' => ∃ a' c', e = .returned (.tuple #[.slice a' (lgN 1 (fun _ => x) (fun _ => t)) c', .string (lgD 1 (fun _ => x) (fun _ => t)), .int .i64 (wrE x t)]) ∧ Below z.heap.size z w') := fun x t z hz => by
    have hB : Below z.heap.size z (z.alloc (.cells #[.int .i64 x, .string t] 49)) := (Below.refl _ _).alloc (Nat.le_refl _) _
    have := iput_any (w := z.alloc (.cells #[.int .i64 x, .string t] 49)) (a := some ⟨z.heap.size, 0, none⟩) (n := 1) (cap := 1) (A := fun _ => x) (C := fun _ => t) ((Blk.new z 49 #[.int .i64 x, .string t]).wx (A := fun _ => x) (C := fun _ => t) (n := 1)) (by decide) (HT.out.below (hz.trans (hB.mono hz.size)) h2.out)
    exact this.mono fun e w' ⟨a', c', he, _, _, hb⟩ => ⟨a', c', he, hB.trans (hb.mono hB.size)⟩
  have P2 := PG 120 (zB S)
  have P3 := PG c noB
  have hE := lF_lg N
  have hF : (S ≤ 2032 ∧ wrE 120 (zB S) = 0) ∨ (2032 < S ∧ wrE 120 (zB S) = 5) := by
    by_cases h : S ≤ 2032
    · exact .inl ⟨h, wrE_zero.2 ⟨by decide, by decide, by rw [hzs]; exact h⟩⟩
    · exact .inr ⟨by omega, wrE_long (by decide) (by decide) (by rw [hzs]; omega)⟩
  have hG : (c < 100 ∧ wrE c noB = 2) ∨ (100 ≤ c ∧ c < 140 ∧ wrE c noB = 0) ∨ (140 ≤ c ∧ wrE c noB = 2) := by
    by_cases h : c < 100
    · exact .inl ⟨h, wrE_arg (.inl h)⟩
    · by_cases h' : c < 140
      · exact .inr (.inl ⟨by omega, h', wrE_zero.2 ⟨by omega, h', by decide⟩⟩)
      · exact .inr (.inr ⟨by omega, wrE_arg (.inr (by omega))⟩)
  have HE : Hid ((N < 96 ∧ lgE N (gtA lF) (gtC lF) = 0 ∧ lgN N (gtA lF) (gtC lF) = N + 1) ∨ (96 ≤ N ∧ lgE N (gtA lF) (gtC lF) = 10)) := hE
  have HF : Hid ((S ≤ 2032 ∧ wrE 120 (zB S) = 0) ∨ (2032 < S ∧ wrE 120 (zB S) = 5)) := hF
  have HG : Hid ((c < 100 ∧ wrE c noB = 2) ∨ (100 ≤ c ∧ c < 140 ∧ wrE c noB = 0) ∨ (140 ≤ c ∧ wrE c noB = 2)) := hG
  have HNB : Hid (noB = ⟨#[]⟩) := rfl
  generalize wrE 120 (zB S) = EF at *
  generalize wrE c noB = EG at *
  generalize lgN 1 (fun _ => (120 : Int)) (fun _ => zB S) = NF at *
  generalize lgD 1 (fun _ => (120 : Int)) (fun _ => zB S) = DF at *
  generalize lgN 1 (fun _ => c) (fun _ => noB) = NG at *
  generalize lgD 1 (fun _ => c) (fun _ => noB) = DG at *
  generalize lgE N (gtA lF) (gtC lF) = EE at *
  generalize lgN N (gtA lF) (gtC lF) = NE at *
  generalize lgD N (gtA lF) (gtC lF) = DE at *
  generalize zB S = ZB at *
  clear hE hF hG ha hb ht PG hzs
  generalize W.alloc (.cells (wrs (fkA lF 0) (fkC lF 0) N).toArray 49) = w1 at *
  go_enter Tryd.func6, Tryd.ntmps6
  go_wp2
  clear hmk hN1 hN2 hS1 hS2
  go_loopw [28] (fun i wr => ∃ k : Nat, k ≤ N ∧ i = .int .i64 (k : Int) ∧ Hid (Gt W wr N (fkA lF k) (fkC lF k) nought)) (fun i _ => N - (intOf i).toNat)
  case atStart => exact ⟨0, Nat.zero_le _, rfl, HM.out⟩
  case round =>
    clear HM
    obtain ⟨k, hk, rfl, hh⟩ := hrel
    by_cases hlt : k < N
    · have hk' : (k : Int) < (N : Int) := by omega
      have HT3 : Hid (wr.there W.heap.size (k * 2) 2) := there2 (Hold.blk hh.out) hlt
      have H4 : Hid (Gt W (wr.setCells W.heap.size (k * 2) [.int .i64 100, .string ⟨#[99]⟩]) N (fkA lF (k + 1)) (fkC lF (k + 1)) nought) := HP.out _ k hlt hh.out
      clear hh
      go_wp2_with (first
        | (refine wpList_store_mid rfl 49 _ _ rfl W.heap.size (k * 2) #[.int .i64 100, .string ⟨#[99]⟩] rfl rfl HT3.out HZ2.out (all_oneCell_toArray (wrow_one 100 ⟨#[99]⟩)) ?_))
      go_roundw
      case rel => exact ⟨k + 1, by omega, by go_num, H4.out⟩
      case measure => simp [intOf]; omega
    · obtain rfl : k = N := by omega
      have hk' : ¬ (k : Int) < (k : Int) := by omega
      have HX : Hid (Wx wr (some ⟨W.heap.size, 0, none⟩) k (gtA lF) (gtC lF)) := by
        have := Hold.blk hh.out
        rw [fk_full] at this
        exact this.wx
      have L1 : Hid (Below W.heap.size W wr) := Hold.low hh.out
      clear hh HP
      have hcv := hz2
      go_wp2_with (first
        | (go_at_call 8; refine (P1.out _ _ _ L1.out HX.out).mono ?_; rintro e w2 ⟨a2, c2, rfl, -, hb2⟩; have L2 : Hid (Below W.heap.size W w2) := L1.out.trans (hb2.mono L1.out.size); have L3 : Hid (Below W.heap.size W (w2.alloc (.cells Z 5 (0, 0)))) := L2.out.alloc L2.out.size _; have hm2 := hz1 w2; have hc2 := hz2 w2; clear hb2 L1 HX P1 L2 hz1 hz2 hcv; generalize w2.alloc (.cells Z 5 (0, 0)) = w3 at *)
        | (go_at_call 8; refine (P2.out _ L3.out).mono ?_; rintro e w4 ⟨a4, c4, rfl, hb4⟩; have L4 : Hid (Below W.heap.size W w4) := L3.out.trans (hb4.mono L3.out.size); clear hb4 L3 P2)
        | (go_at_call 8; refine (P3.out _ L4.out).mono ?_; rintro e w5 ⟨a5, c5, rfl, hb5⟩; have L5 : Hid (Below W.heap.size W w5) := L4.out.trans (hb5.mono L4.out.size); clear hb5 L4 P3))
      refine (wakes15_any (HT.out.below L5.out h2.out)).mono ?_
      rintro e w6 ⟨rfl, hb6⟩
      have L6 : Hid (Below W.heap.size W w6) := L5.out.trans (hb6.mono L5.out.size)
      clear hb6 L5 hm2 hc2
      rcases HE.out with ⟨e1, e2, e3⟩ | ⟨e1, e2⟩
      · subst e2 e3
        have e4 : (k : Int) < 96 := by omega
        clear e1
        rcases HF.out with ⟨f1, rfl⟩ | ⟨f1, rfl⟩
        · have f2 : (S : Int) ≤ 2032 := by omega
          clear f1
          rcases HG.out with ⟨g1, rfl⟩ | ⟨g1, g2, rfl⟩ | ⟨g1, rfl⟩
          · have g3 : ¬ 100 ≤ c := by omega
            have g3' : decide (100 ≤ c) = false := decide_eq_false g3
            go_wp2
            go_ret
            exact ⟨rfl, L6.out⟩
          · skip
            go_wp2
            go_ret
            exact ⟨rfl, L6.out⟩
          · have g3 : 100 ≤ c := by omega
            have g4 : ¬ c < 140 := by omega
            have g4' : decide (c < 140) = false := decide_eq_false g4
            go_wp2
            go_ret
            exact ⟨rfl, L6.out⟩
        · have f2 : ¬ (S : Int) ≤ 2032 := by omega
          have f2' : decide ((S : Int) ≤ 2032) = false := decide_eq_false f2
          clear f1
          rcases HG.out with ⟨g1, rfl⟩ | ⟨g1, g2, rfl⟩ | ⟨g1, rfl⟩
          · have g3 : ¬ 100 ≤ c := by omega
            have g3' : decide (100 ≤ c) = false := decide_eq_false g3
            go_wp2
            go_ret
            exact ⟨rfl, L6.out⟩
          · skip
            go_wp2
            go_ret
            exact ⟨rfl, L6.out⟩
          · have g3 : 100 ≤ c := by omega
            have g4 : ¬ c < 140 := by omega
            have g4' : decide (c < 140) = false := decide_eq_false g4
            go_wp2
            go_ret
            exact ⟨rfl, L6.out⟩
      · subst e2
        have e4 : ¬ (k : Int) < 96 := by omega
        have e4' : decide ((k : Int) < 96) = false := decide_eq_false e4
        clear e1
        rcases HF.out with ⟨f1, rfl⟩ | ⟨f1, rfl⟩
        · have f2 : (S : Int) ≤ 2032 := by omega
          clear f1
          rcases HG.out with ⟨g1, rfl⟩ | ⟨g1, g2, rfl⟩ | ⟨g1, rfl⟩
          · have g3 : ¬ 100 ≤ c := by omega
            have g3' : decide (100 ≤ c) = false := decide_eq_false g3
            go_wp2
            go_ret
            exact ⟨rfl, L6.out⟩
          · skip
            go_wp2
            go_ret
            exact ⟨rfl, L6.out⟩
          · have g3 : 100 ≤ c := by omega
            have g4 : ¬ c < 140 := by omega
            have g4' : decide (c < 140) = false := decide_eq_false g4
            go_wp2
            go_ret
            exact ⟨rfl, L6.out⟩
        · have f2 : ¬ (S : Int) ≤ 2032 := by omega
          have f2' : decide ((S : Int) ≤ 2032) = false := decide_eq_false f2
          clear f1
          rcases HG.out with ⟨g1, rfl⟩ | ⟨g1, g2, rfl⟩ | ⟨g1, rfl⟩
          · have g3 : ¬ 100 ≤ c := by omega
            have g3' : decide (100 ≤ c) = false := decide_eq_false g3
            go_wp2
            go_ret
            exact ⟨rfl, L6.out⟩
          · skip
            go_wp2
            go_ret
            exact ⟨rfl, L6.out⟩
          · have g3 : 100 ≤ c := by omega
            have g4 : ¬ c < 140 := by omega
            have g4' : decide (c < 140) = false := decide_eq_false g4
            go_wp2
            go_ret
            exact ⟨rfl, L6.out⟩
end Go.Proofs.YtegebaomhbogmaaDoor
