/- A matrix copied, row by row. -/
import Derived.Test.YthcbnffhkbbkpaaMatApp
import Derived.Test.YthcbnffhkbbkpaaMatRef
namespace Go.Proofs.Ythcbnffhkbbkpaa
open Go.RowKit Go.PlainAid
set_option linter.unusedVariables false

theorem app_src (x : World) (ar : Option Addr) (k cr : Nat) (f : Nat → E) (h : RowAt x ar k f) (hn : ar = none → cr = 0 ∧ k = 0) (hk : k ≤ 1000) :
    ∃ v' w', (∀ ty, (Builtin.append_ #[48, 48] ty #[.slice none 0 0, .slice ar k cr]).run Try.prog x = .ok v' w') ∧ w'.ownsRow x.heap.size 5 1 v' k (bytesL k f) ∧ Below x.heap.size x w' := by
  obtain ⟨i, hi, hz0, hz1, hz2⟩ := info_parts Try.info5
  cases ar with
  | none =>
    obtain ⟨rfl, rfl⟩ := hn rfl
    exact ⟨.slice none 0 0, x, fun ty => run_append_owned_none (P := Try.prog) (w := x) x.heap.size 48 ty 5 i 1 Try.underlying48 hi _ 0 [] (World.ownsRow_nil _ _ _ _), World.ownsRow_nil _ _ _ _, Below.refl _ _⟩
  | some a =>
    have hnews : ∀ j u, (bytesL k f)[j]? = some u → x.cell? (a.add j) = some u := fun j u hu => by
      have hj : j < k := by
        rcases Nat.lt_or_ge j k with h | h
        · exact h
        · rw [List.getElem?_eq_none (by rw [bytesL_length]; exact h)] at hu; cases hu
      rcases h with h0 | ⟨b, o, e, h⟩
      · omega
      · cases e
        rw [bytesL_at k f j hj] at hu
        rw [show ((⟨b, o, none⟩ : Addr).add j) = ⟨b, o + j, none⟩ from by simp [Addr.add], h j hj]
        exact hu
    have h1 : ∀ u ∈ bytesL k f, u.oneCell' = true := fun v hv => by
      obtain ⟨i, _, rfl⟩ := List.mem_map.1 hv
      rfl
    have key : ∀ ty, ∃ v' w', (Builtin.append_ #[48, 48] ty #[.slice none 0 0, .slice (some a) k cr]).run Try.prog x = .ok v' w' ∧ w'.ownsRow x.heap.size 5 1 v' (0 + k) ([] ++ bytesL k f) ∧ x.grownBy w' none := fun ty => by
      obtain ⟨v', w', e1, e2, e3, _⟩ := run_append_own (P := Try.prog) x x.heap.size 48 ty 5 i (.int .u8 0) 1 1 Try.underlying48 hi hz0 hz1 hz2 rfl (by decide) (.slice none 0 0) 0 [] (World.ownsRow_nil _ _ _ _) a k cr (bytesL k f) (by rw [bytesL_length]; omega) hnews h1 (by unfold maxLen; omega) (by omega) (Nat.le_refl _)
      exact ⟨v', w', e1, e2, e3⟩
    obtain ⟨v', w', e1, e2, e3⟩ := key 48
    refine ⟨v', w', fun ty => ?_, by simpa using e2, (Below.refl _ _).grown e3 (Nat.le_refl _) (fun k h => by cases h)⟩
    exact e1
theorem step_append_run {ops : Array Oper} {o : Oper} {a : Act} {w : World} {K : Act → World → Prop} {Q : Exit → Act → World → Prop} {E' : Prop} (hgd : o.guard = none) (s x : Operand) (t tn : TypeId)
    (ho : o.op = .call { callee := .builtin .append, args := #[s, x], argTypes := #[t, tn] }) (vs vx : Value) (hs : a.eval s = vs) (hx : a.eval x = vx)
    (v' : Value) (w' : World) (hr : ∀ ty, (Builtin.append_ #[t, tn] ty #[vs, vx]).run Try.prog w = .ok v' w') (h : K (a.put o.dst v') w') :
    if Region.wanted o (yielded ops a.tmps) = true then Oper.wp Try.prog o a w K Q else E' := by
  have hw : Region.wanted o (yielded ops a.tmps) = true := by simp [Region.wanted, hgd]
  rw [if_pos hw]
  exact Lib.wp_append_run w s x t tn ho vs vx hs hx v' w' (hr _) h
theorem acc_empty (w : World) (base : Nat) (L : Nat → Nat) (X : Mx) (hb : base ≤ w.heap.size) : AccM (w.alloc (.cells #[] 48 (0, 0))) base (.slice (some ⟨w.heap.size, 0, none⟩) 0 0) 0 L X :=
  ⟨fun _ => undef, ⟨by simp, .inr ⟨w.heap.size, 0, #[], rfl, hb, heap_alloc_new w _, Nat.le_refl _, Nat.zero_le _, by simp, by simp⟩⟩, fun r hr => by omega⟩

set_option maxHeartbeats 1000000 in
theorem copied_any (w : World) (base n : Nat) (vm : Value) (L : Nat → Nat) (X : Mx) (hA : AccM w base vm n L X) (hn : n ≤ 16) (hL : ∀ r, r < n → L r ≤ 16) :
    Calls Try.prog 14 #[vm] w fun e w' => ∃ vo, e = .returned vo ∧ AccM w' w.heap.size vo n L X ∧ Below w.heap.size w w' := by
  obtain ⟨R, hT, hR⟩ := hA
  obtain ⟨a, ca, rfl, _, hv⟩ := owns_form hT R (fun i hi => by simp [hi])
  have HV : Hid (∀ k, k < n → ∃ b o ar cr, a = some ⟨b, o, none⟩ ∧ (∀ x, Below w.heap.size w x → x.cell? ⟨b, o + k, none⟩ = some (.slice ar (L k) cr) ∧ RowAt x ar (L k) (X k)) ∧ (ar = none → cr = 0 ∧ L k = 0)) := fun k hk => by
    rcases hv with h0 | ⟨b, o, rfl, hv⟩
    · omega
    obtain ⟨ar, cr, e, _, hr⟩ := owns_form (hR k hk) _ (fun j hj => bytesL_at _ _ j hj)
    have hc := hv k hk
    rw [e] at hc
    refine ⟨b, o, ar, cr, rfl, fun x hx => ⟨(hx.cell (p := ⟨b, o + k, none⟩) (cell_lt hc)).trans hc, hr.below hx (Nat.le_refl _)⟩, fun h => ?_⟩
    subst h
    rcases (hR k hk).2 with ⟨h1, h2⟩ | ⟨g, c, _, h1, _⟩
    · rw [e] at h1
      simp only [Value.slice.injEq] at h1
      exact ⟨h1.2.2, h2⟩
    · rw [e] at h1; simp at h1
  clear hT hR hv
  go_enter Try.func14, Try.ntmps14
  go_wp2_with fail
  go_loopw [3, 9] (fun o i wr => ∃ k : Nat, k ≤ n ∧ i = .int .i64 k ∧ Below w.heap.size w wr ∧ AccM wr w.heap.size o k L X) (fun _ i _ => (n : Nat) - (intOf i).toNat)
  case atStart => exact ⟨0, Nat.zero_le _, rfl, (Below.refl _ _).alloc (Nat.le_refl _) _, acc_empty _ _ _ _ (Nat.le_refl _)⟩
  case round =>
    obtain ⟨k, hk, rfl, hbk, hAk⟩ := hrel
    by_cases hlt : k < n
    · obtain ⟨b, o, ar, cr, rfl, hx, hno⟩ := HV.out k hlt
      obtain ⟨hc, hrow⟩ := hx wr hbk
      obtain ⟨v', w', hrun, hown, hb'⟩ := app_src wr ar (L k) cr (X k) hrow hno (by have := hL k hlt; omega)
      obtain ⟨a2, c2, e2, _, _⟩ := owns_form hown _ (fun j hj => bytesL_at _ _ j hj)
      have HL : Hid (L k ≤ 16) := hL k hlt
      have hA' := hAk.below hb'
      have hown' := owns_mono hown hbk.size
      subst e2
      clear hx hno hrow hown
      go_wp2_with (first | (at_builtin; refine Lib.wpList_append_run _ rfl _ _ 48 48 rfl _ _ rfl rfl _ _ (hrun _) ?_) | (at_builtin; refine push_row_at rfl _ _ 27 rfl Try.underlying27 w' w.heap.size _ _ k L X hA' hown' rfl _ rfl rfl (by omega) (Nat.le_trans hbk.size hb'.size) ?_))
      intro vo' w4 hA4 hb4
      go_wp2_with fail
      go_roundw
      case rel => exact ⟨k + 1, by omega, by go_num, hbk.trans ((hb'.mono hbk.size).trans hb4), hA4⟩
      case measure => simp [intOf]; omega
    · have hkn : k = n := by omega
      subst hkn
      go_wp2_with fail
      go_ret
      exact ⟨_, rfl, hAk, hbk⟩
end Go.Proofs.Ythcbnffhkbbkpaa
