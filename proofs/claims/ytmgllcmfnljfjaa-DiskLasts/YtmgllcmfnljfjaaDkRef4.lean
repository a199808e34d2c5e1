/- The document's Tamper and Image. -/
import Derived.Test.YtmgllcmfnljfjaaDkRef1
import Derived.Test.YtmgllcmfnljfjaaDkTamp
namespace Go.Proofs.Ytmgllcmfnljfjaa
open Go.RowKit Go.PlainAid
set_option linter.unusedVariables false

set_option maxRecDepth 20000 in
set_option maxHeartbeats 1000000 in
theorem refTamper_any {F : Nat → Prop} {g n : Nat} {l : Nat → ByteArray} {q : List Wr} {dead : Bool} {w : World} (h : RefAt w F g n l q dead) (at_ : Int) (s : ByteArray) (hq : q.length ≤ 1000000) :
    Calls Try.prog 29 #[.pointer (some ⟨g, 0, none⟩), .int .i64 at_, .string s] w fun e w' => e = .returned (.bool (tampB dead n at_ s)) ∧ Turned F w w' (fun F' => RefAt w' F' g n (tampL l dead n at_ s) (tampQ q dead n at_ s) dead) := by
  have HT0 : Hid _ := RefIn.turn h
  obtain ⟨gc, v, h⟩ := h
  have c2 := h.top.cell (i := 2) rfl
  have c0 := h.top.cell (i := 0) rfl
  have hn2 := h.high
  unfold tampB tampL tampQ
  rcases errA_cases dead n at_ with rfl | ⟨rfl, ha⟩ | ⟨rfl, k, rfl, hk⟩
  · have hW : errW true n at_ s = 20 := rfl
    rw [hW, if_neg (by decide), if_neg (by decide), decide_eq_false (by decide)]
    clear h hW
    go_enter Try.func29, Try.ntmps29
    go_wp2_with fail
    go_ret
    exact ⟨rfl, HT0.out⟩
  · have hW : errW false n at_ s = 2 := by unfold errW; rw [errA_low n at_ ha, if_neg (by decide)]
    rw [hW, if_neg (by decide), if_neg (by decide), decide_eq_false (by decide)]
    have HA : Hid (at_ < 0 ∨ (n : Int) ≤ at_) := ha
    clear h hW ha
    by_cases h0 : at_ < 0
    · go_enter Try.func29, Try.ntmps29
      go_wp2_with fail
      go_ret
      exact ⟨rfl, HT0.out⟩
    · have h1 : (n : Int) ≤ at_ := HA.out.resolve_left h0
      go_enter Try.func29, Try.ntmps29
      go_wp2_with fail
      go_ret
      exact ⟨rfl, HT0.out⟩
  · have hk' : ¬ (n : Int) ≤ (k : Int) := by omega
    have hk0 : ¬ (k : Int) < 0 := by omega
    by_cases hs : 2048 < s.size
    · have hW : errW false n (k : Int) s = 5 := by unfold errW; rw [errA_ok n k hk, if_pos rfl, if_pos hs]
      rw [hW, if_neg (by decide), if_neg (by decide), decide_eq_false (by decide)]
      clear h hW
      go_enter Try.func29, Try.ntmps29
      go_wp2_with fail
      go_ret
      exact ⟨rfl, HT0.out⟩
    · have hW : errW false n (k : Int) s = 0 := by unfold errW; rw [errA_ok n k hk, if_pos rfl, if_neg hs]
      rw [hW, if_pos rfl, if_pos rfl, decide_eq_true rfl, Int.toNat_natCast]
      have hgc := h.top.ne h.cells (by decide)
      have hvc := h.cells.owns_ne h.row (by decide)
      have hvg := h.top.owns_ne h.row (by decide)
      have c1 := h.top.cell (i := 1) rfl
      obtain ⟨av, cap, hv⟩ := h.row.form
      subst hv
      have HH : Hid _ := h
      clear h HT0 hW c1
      go_enter Try.func29, Try.ntmps29
      go_wp2_with fail
      go_loopw [7, 8] (fun vo i wr => ∃ j : Nat, j ≤ q.length ∧ i = .int .i64 (j : Int) ∧ ∃ b c, vo = .slice b (others k (q.take j)).length c ∧ Hid (Below w.heap.size w wr ∧ Waits wr 76 (.slice b (others k (q.take j)).length c) (others k (q.take j)) ∧ ∀ i, (Value.slice b (others k (q.take j)).length c).ownBlock = some i → w.heap.size ≤ i)) (fun _ i _ => q.length - (intOf i).toNat)
      case atStart => exact ⟨0, Nat.zero_le _, rfl, none, 0, by rw [List.take_zero]; rfl, Below.refl _ _, by rw [List.take_zero]; exact Waits.nil _ _, fun i hi => by cases hi⟩
      case round =>
        obtain ⟨j, hj, rfl, b, c, rfl, hrr⟩ := hrel
        have T1 := HH.out.top.below hrr.out.1 HH.out.top.lt
        have c0 := T1.cell (i := 0) rfl
        have c1 := T1.cell (i := 1) rfl
        have f1 := T1.frozen 1
        by_cases hlt : j < q.length
        · obtain ⟨p, hp⟩ : ∃ p, q[j]? = some p := ⟨_, List.getElem?_eq_getElem hlt⟩
          have W1 := HH.out.row.kept (Kept.ofBelow (F := fun _ => False) hrr.out.1) (fun _ _ h => h)
          obtain ⟨gw, cap2, hvv, ca, cb⟩ := W1.at hp
          cases hvv
          have hlen : j * 2 + 1 < q.length * 2 := by omega
          have hj' : (j : Int) < (q.length : Int) := by omega
          obtain ⟨cc, hcc⟩ : ∃ cc, (others k (q.take j)).length = cc := ⟨_, rfl⟩
          have hccj : cc ≤ j := by rw [← hcc]; exact others_le k j q
          by_cases hpk : p.1 = k
          · have hb : (((p.1 : Nat) : Int) == (k : Int)) = true := by rw [hpk]; simp
            have he := others_skip k j q p hp hpk
            rw [← he] at hrr ⊢
            clear W1 T1 hp c2 f1 hpk hcc he
            obtain ⟨pa, ps⟩ := p
            go_wp2_with fail
            go_roundw
            case rel => exact ⟨j + 1, by omega, by go_num, b, c, rfl, hrr⟩
            case measure => simp [intOf]; omega
          · have hb : (((p.1 : Nat) : Int) == (k : Int)) = false := by rw [beq_eq_false_iff_ne]; omega
            have he := others_put k j q p hp hpk
            obtain ⟨g', cap', w2, hrun, W2, hgrow, hat⟩ := waits_push 30 76 30 Try.underlying30 Try.info76 wr _ _ hrr.out.2.1 p (by rw [hcc]; omega)
            have HE : Hid ((others k (q.take (j + 1))).length = cc + 1) := by
              have e : (others k (q.take (j + 1))).length = cc + 1 := by rw [he, List.length_append, hcc]; rfl
              exact e
            rw [← he] at W2
            have HR : Hid (Below w.heap.size w w2 ∧ Waits w2 76 (.slice (some ⟨g', 0, none⟩) (cc + 1) cap') (others k (q.take (j + 1))) ∧ ∀ i, (Value.slice (some ⟨g', 0, none⟩) (cc + 1) cap').ownBlock = some i → w.heap.size ≤ i) := by
              refine ⟨(hrr.out.1.alloc hrr.out.1.size _).grown hgrow (by rw [World.size_alloc]; have := hrr.out.1.size; omega) (fun i hi => hrr.out.2.2 i hi), by rw [← hcc]; exact W2, fun i hi => ?_⟩
              cases hi
              rcases hat with e | e
              · exact hrr.out.2.2 g' e.symm
              · have := hrr.out.1.size; exact Nat.le_trans this e
            rw [hcc] at hrun ⊢
            obtain ⟨pa, ps⟩ := p
            clear W1 T1 hp c2 f1 hpk hcc he W2 hgrow hat hrr
            go_wp2_with (at_builtin; refine wpList_append_run rfl _ _ 30 30 rfl _ _ rfl rfl _ _ hrun ?_)
            go_roundw
            case rel => exact ⟨j + 1, by omega, by go_num, some ⟨g', 0, none⟩, cap', by rw [HE.out], by rw [HE.out]; exact HR⟩
            case measure => simp [intOf]; omega
        · obtain rfl : j = q.length := by omega
          rw [List.take_length] at hrr ⊢
          have C1 := HH.out.cells.below hrr.out.1 HH.out.cells.lt
          have hog := T1.owns_ne hrr.out.2.1 (by decide)
          have hoc := C1.owns_ne hrr.out.2.1 (by decide)
          have T2 := T1.setCell 1 (.slice b (others k q).length c)
          have K1 := Kept.one wr g 1 (.slice b (others k q).length c)
          have C2 := C1.kept K1 (fun e => hgc e.symm)
          have W2 := hrr.out.2.1.kept K1 (fun i hi e => hog (by rw [hi, e]))
          have d0 := T2.cell (i := 0) rfl
          have ec := C2.cell (strs_at n _ k hk)
          have fc := C2.frozen k
          have C3 := C2.setCell k (.string s)
          rw [strs_set] at C3
          have K2 := Kept.one (wr.setCell ⟨g, 1, none⟩ (.slice b (others k q).length c)) gc k (.string s)
          have T3 := T2.kept K2 hgc
          have W3 := W2.kept K2 (fun i hi e => hoc (by rw [hi, e]))
          have KK : Kept F w ((wr.setCell ⟨g, 1, none⟩ (.slice b (others k q).length c)).setCell ⟨gc, k, none⟩ (.string s)) := ((Kept.ofBelow hrr.out.1).setCell (.inl HH.out.inn.1) _ _).setCell (.inl HH.out.inn.2.1) _ _
          have HT : Hid (Turned F w ((wr.setCell ⟨g, 1, none⟩ (.slice b (others k q).length c)).setCell ⟨gc, k, none⟩ (.string s)) (fun F' => RefAt ((wr.setCell ⟨g, 1, none⟩ (.slice b (others k q).length c)).setCell ⟨gc, k, none⟩ (.string s)) F' g n (upd l (k, s)) (others k q) false)) := by
            refine ⟨fun i => F i ∨ (Value.slice b (others k q).length c).ownBlock = some i, ⟨gc, .slice b (others k q).length c, ⟨.inl HH.out.inn.1, .inl HH.out.inn.2.1, fun i hi => .inr hi⟩, HH.out.low, HH.out.high, fun p hp => HH.out.ats p (others_mem hp), T3, C3, W3, ?_⟩, KK, ?_⟩
            · rintro i (hi | hi)
              · exact Nat.lt_of_lt_of_le (HH.out.bound i hi) KK.size
              · exact W3.lt i hi
            · rintro i (hi | hi)
              · exact .inl hi
              · exact .inr (hrr.out.2.2 i hi)
          have hkn : (k : Int) < (n : Int) := by omega
          clear T1 T2 T3 C1 C2 C3 W2 W3 K1 K2 KK hrr c2
          go_wp2_with fail
          go_ret
          exact ⟨rfl, HT.out⟩
end Go.Proofs.Ytmgllcmfnljfjaa
