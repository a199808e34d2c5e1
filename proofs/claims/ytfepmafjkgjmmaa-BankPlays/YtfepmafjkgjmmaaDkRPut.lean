/- The document's Put and Read. -/
import Derived.Test.YtfepmafjkgjmmaaDkPut
namespace Go.Proofs.Ytfepmafjkgjmmaa
open Go.RowKit Go.PlainAid
set_option linter.unusedVariables false

theorem RefIn.turn {w : World} {F : Nat → Prop} {g n : Nat} {l : Nat → ByteArray} {q : List Wr} {dead : Bool} (h : RefAt w F g n l q dead) : Turned F w w (fun F' => RefAt w F' g n l q dead) := ⟨F, h, Kept.refl _ _, fun k hk => .inl hk⟩
set_option maxRecDepth 20000 in
theorem refPut_any {F : Nat → Prop} {g n : Nat} {l : Nat → ByteArray} {q : List Wr} {dead : Bool} {w : World} (h : RefAt w F g n l q dead) (at_ : Int) (s : ByteArray) (hq : q.length ≤ 1000000) :
    Calls Try.prog 51 #[.pointer (some ⟨g, 0, none⟩), .int .i64 at_, .string s] w fun e w' => e = .returned (.int .i64 (errW dead n at_ s)) ∧ Turned F w w' (fun F' => RefAt w' F' g n l (putQ q dead n at_ s) dead) := by
  have h' := h
  obtain ⟨gc, v, h⟩ := h
  have c0 := h.top.cell (i := 0) rfl
  have c1 := h.top.cell (i := 1) rfl
  have c2 := h.top.cell (i := 2) rfl
  have hn2 := h.high
  unfold putQ
  have HT0 : Hid _ := RefIn.turn h'
  clear h'
  rcases errA_cases dead n at_ with rfl | ⟨rfl, ha⟩ | ⟨rfl, k, rfl, hk⟩
  · have hW : errW true n at_ s = 20 := rfl
    rw [hW, if_neg (by decide)]
    clear h hW
    go_enter Try.func51, Try.ntmps51
    go_wp2_with fail
    go_ret
    exact ⟨rfl, HT0.out⟩
  · have hW : errW false n at_ s = 2 := by unfold errW; rw [errA_low n at_ ha, if_neg (by decide)]
    rw [hW, if_neg (by decide)]
    have HA : Hid (at_ < 0 ∨ (n : Int) ≤ at_) := ha
    clear h hW ha
    by_cases h0 : at_ < 0
    · go_enter Try.func51, Try.ntmps51
      go_wp2_with fail
      go_ret
      exact ⟨rfl, HT0.out⟩
    · have h1 : (n : Int) ≤ at_ := HA.out.resolve_left h0
      go_enter Try.func51, Try.ntmps51
      go_wp2_with fail
      go_ret
      exact ⟨rfl, HT0.out⟩
  · have hk' : ¬ (n : Int) ≤ (k : Int) := by omega
    have hk0 : ¬ (k : Int) < 0 := by omega
    by_cases hs : 2048 < s.size
    · have hW : errW false n (k : Int) s = 5 := by unfold errW; rw [errA_ok n k hk, if_pos rfl, if_pos hs]
      rw [hW, if_neg (by decide)]
      clear h hW
      go_enter Try.func51, Try.ntmps51
      go_wp2_with fail
      go_ret
      exact ⟨rfl, HT0.out⟩
    · have hW : errW false n (k : Int) s = 0 := by unfold errW; rw [errA_ok n k hk, if_pos rfl, if_neg hs]
      rw [hW, if_pos rfl, Int.toNat_natCast]
      have hgc := h.top.ne h.cells (by decide)
      have hvc := h.cells.owns_ne h.row (by decide)
      have hvg := h.top.owns_ne h.row (by decide)
      obtain ⟨g', cap', w2, hrun, W2, hgrow, hat⟩ := waits_push 42 90 42 Try.underlying42 Try.info90 _ v q h.row (k, s) hq
      have K2' : Kept (fun i => v.ownBlock = some i) w w2 := ((Kept.refl _ _).alloc _).grown hgrow (fun i hi => .inl hi)
      have T2 := h.top.kept K2' hvg
      have C2 := h.cells.kept K2' hvc
      have K2 : Kept F w w2 := K2'.mono (fun i _ hi => h.inn.2.2 i hi)
      have d2 := T2.cell (i := 1) rfl
      have f2 := T2.frozen 1
      have T3 := T2.setCell 1 (.slice (some ⟨g', 0, none⟩) (q.length + 1) cap')
      have K3' : Kept (fun i => i = g) w2 (w2.setCell ⟨g, 1, none⟩ (.slice (some ⟨g', 0, none⟩) (q.length + 1) cap')) := Kept.one _ _ _ _
      have K3 := K2.setCell (.inl h.inn.1) 1 (.slice (some ⟨g', 0, none⟩) (q.length + 1) cap')
      have C3 := C2.kept K3' (fun e => hgc e.symm)
      have W3 := W2.kept K3' (fun i hi e => by
        have := T2.owns_ne W2 (by decide)
        rw [hi, e] at this
        exact this rfl)
      have hlt := W3.lt g' rfl
      have HT : Hid (Turned F w (w2.setCell ⟨g, 1, none⟩ (.slice (some ⟨g', 0, none⟩) (q.length + 1) cap')) (fun F' => RefAt (w2.setCell ⟨g, 1, none⟩ (.slice (some ⟨g', 0, none⟩) (q.length + 1) cap')) F' g n l (q ++ [(k, s)]) false)) := by
        refine ⟨fun i => F i ∨ i = g', ⟨gc, .slice (some ⟨g', 0, none⟩) (q.length + 1) cap', ⟨.inl h.inn.1, .inl h.inn.2.1, fun i hi => .inr (by cases hi; rfl)⟩, h.low, h.high, ?_, T3, C3, W3, ?_⟩, K3, ?_⟩
        · intro p hp
          rcases List.mem_append.1 hp with hp | hp
          · exact h.ats p hp
          · rw [List.mem_singleton.1 hp]; exact hk
        · rintro i (hi | rfl)
          · exact Nat.lt_of_lt_of_le (h.bound i hi) K3.size
          · exact hlt
        · rintro i (hi | rfl)
          · exact .inl hi
          · rcases hat with e | e
            · exact .inl (h.inn.2.2 _ e.symm)
            · exact .inr e
      clear h hW W2 hgrow K2' T2 C2 K2 T3 K3' K3 C3 W3 hlt hvc hvg hgc hat
      go_enter Try.func51, Try.ntmps51
      go_wp2_with (at_builtin; refine wpList_append_run rfl _ _ 42 42 rfl _ _ rfl rfl _ _ hrun ?_)
      go_ret
      exact ⟨rfl, HT.out⟩
set_option maxRecDepth 20000 in
theorem refRead_any {F : Nat → Prop} {g n : Nat} {l : Nat → ByteArray} {q : List Wr} {dead : Bool} {w : World} (h : RefAt w F g n l q dead) (at_ : Int) (hq : q.length ≤ 1000000) :
    Calls Try.prog 39 #[.pointer (some ⟨g, 0, none⟩), .int .i64 at_] w fun e w' => e = .returned (.tuple #[.string (readB l q dead n at_), .int .i64 (errA dead n at_)]) ∧ w' = w := by
  obtain ⟨gc, v, h⟩ := h
  have c0 := h.top.cell (i := 0) rfl
  have c1 := h.top.cell (i := 1) rfl
  have c2 := h.top.cell (i := 2) rfl
  have hn2 := h.high
  unfold readB
  rcases errA_cases dead n at_ with rfl | ⟨rfl, ha⟩ | ⟨rfl, k, rfl, hk⟩
  · rw [errA_dead, if_neg (by decide)]
    clear h
    go_enter Try.func39, Try.ntmps39
    go_wp2_with fail
    go_ret2
    exact ⟨rfl, rfl⟩
  · rw [errA_low n at_ ha, if_neg (by decide)]
    have HA : Hid (at_ < 0 ∨ (n : Int) ≤ at_) := ha
    clear h ha
    by_cases h0 : at_ < 0
    · go_enter Try.func39, Try.ntmps39
      go_wp2_with fail
      go_ret2
      exact ⟨rfl, rfl⟩
    · have h1 : (n : Int) ≤ at_ := HA.out.resolve_left h0
      go_enter Try.func39, Try.ntmps39
      go_wp2_with fail
      go_ret2
      exact ⟨rfl, rfl⟩
  · have hk' : ¬ (n : Int) ≤ (k : Int) := by omega
    have hk0 : ¬ (k : Int) < 0 := by omega
    rw [errA_ok n k hk, if_pos rfl, Int.toNat_natCast]
    obtain ⟨a, cap, hv⟩ := h.row.form
    have hrow : Hid (Waits w 90 v q) := h.row
    have ck := h.cells.cell (strs_at n l k hk)
    obtain ⟨s0, hs0⟩ : ∃ s0, l k = s0 := ⟨_, rfl⟩
    obtain ⟨A, hA⟩ : ∃ A, app l q k = A := ⟨_, rfl⟩
    rw [hs0] at ck
    rw [hA]
    have HL : Hid (l k = s0) := hs0
    have HA : Hid (app l q k = A) := hA
    subst hv
    clear h hs0 hA
    go_enter Try.func39, Try.ntmps39
    go_wp2_with fail
    go_loopw [6] (fun i wr => ∃ j : Nat, j ≤ q.length ∧ i = .int .i64 ((j : Int) - 1) ∧ wr = w ∧ Hid (∀ m x, j ≤ m → q[m]? = some x → x.1 ≠ k)) (fun i _ => (intOf i + 1).toNat)
    case atStart => exact ⟨q.length, Nat.le_refl _, by go_num, rfl, fun m x hm hx => by rw [List.getElem?_eq_none hm] at hx; cases hx⟩
    case round =>
      obtain ⟨j, hj, rfl, rfl, hno⟩ := hrel
      by_cases h0 : 1 ≤ j
      · obtain ⟨p, hp⟩ : ∃ p, q[j - 1]? = some p := ⟨_, List.getElem?_eq_getElem (show j - 1 < q.length by omega)⟩
        obtain ⟨gw, cap2, hv, ca, cb⟩ := hrow.out.at hp
        cases hv
        obtain ⟨i, rfl⟩ : ∃ i, j = i + 1 := ⟨j - 1, by omega⟩
        rw [Nat.add_sub_cancel] at hp ca cb
        have e1 : (((i + 1 : Nat) : Int) - 1) = (i : Int) := by omega
        rw [e1]
        have hiq : (i : Int) < (q.length : Int) := by omega
        by_cases hpk : p.1 = k
        · have hb : (((p.1 : Nat) : Int) == (k : Int)) = true := by rw [hpk]; simp
          have hfin : A = p.2 := by rw [← HA.out]; exact app_last q k l i p hp hpk (fun m x hm hx => hno.out m x (by omega) hx)
          clear HL HA hp hno hpk e1
          go_wp2_with fail
          go_ret2
          exact ⟨by rw [hfin]; rfl, rfl⟩
        · have hb : (((p.1 : Nat) : Int) == (k : Int)) = false := by
            rw [beq_eq_false_iff_ne]; intro e; exact hpk (by omega)
          have hno2 : Hid (∀ m x, i ≤ m → q[m]? = some x → x.1 ≠ k) := fun m x hm hx => by
            by_cases e : m = i
            · subst e; rw [hp] at hx; cases hx; exact hpk
            · exact hno.out m x (by omega) hx
          clear HL HA hp hno hpk e1
          go_wp2_with fail
          go_roundw
          case rel => exact ⟨i, by omega, by go_num, trivial, hno2⟩
          case measure => simp [intOf] <;> omega
      · obtain rfl : j = 0 := by omega
        have hfin : A = s0 := by
          rw [← HA.out, ← HL.out]
          exact app_none q k l (fun x hx => by
            obtain ⟨m, hm⟩ := List.getElem?_of_mem hx
            exact hno.out m x (by omega) hm)
        clear hno HL HA
        go_wp2_with fail
        go_ret2
        exact ⟨by rw [hfin]; rfl, rfl⟩
end Go.Proofs.Ytfepmafjkgjmmaa
