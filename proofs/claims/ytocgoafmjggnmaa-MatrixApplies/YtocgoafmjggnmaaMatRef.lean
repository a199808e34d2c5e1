/- The document's unit matrix, its matrix of powers and its product. -/
import Derived.Test.YtocgoafmjggnmaaMatSame
import Derived.Test.YtocgoafmjggnmaaGfRefPow
import Derived.Test.YtocgoafmjggnmaaGfRefAdd
namespace Go.Proofs.Ytocgoafmjggnmaa
open Go.RowKit Go.PlainAid
set_option linter.unusedVariables false

section
variable {ops : Array Oper} {rest : List Oper} {o : Oper} {a : Act} {Q : Exit → Act → World → Prop}
theorem push_row_at (hgd : o.guard = none) (s x : Operand) (t : TypeId) (ho : o.op = .call { callee := .builtin .append, args := #[s, x], argTypes := #[t, t] }) (ht : Try.prog.underlying t = some (.slice 52))
    (w0 : World) (base : Nat) (vo v : Value) (k : Nat) (L : Nat → Nat) (X : Mx) (hA : AccM w0 base vo k L X) (hv : w0.ownsRow base 5 1 v (L k) (bytesL (L k) (X k))) (hs : a.eval s = vo)
    (sz : Nat) (hx : a.eval x = .slice (some ⟨sz, 0, none⟩) 1 1) (hsz : sz = w0.heap.size) (hk : k < 1000) (hbase : base ≤ w0.heap.size)
    (h : ∀ vo' w', AccM w' base vo' (k + 1) L X → Below base w0 w' → wpList Try.prog ops Q rest (a.put o.dst vo') w') :
    wpList Try.prog ops Q (o :: rest) a (w0.alloc (.cells #[v] 52 (0, 0))) := by
  subst hsz
  exact push_row hgd s x t ho ht w0 base vo v k L X hs hA hv hx hk hbase h
theorem push_byte_at (hgd : o.guard = none) (s x : Operand) (ho : o.op = .call { callee := .builtin .append, args := #[s, x], argTypes := #[52, 52] })
    (w0 : World) (base : Nat) (v : Value) (k : Nat) (f : Nat → E) (hA : w0.ownsRow base 5 1 v k (bytesL k f)) (hs : a.eval s = v) (b : Value) (hbv : b = byteV (f k))
    (sz : Nat) (hx : a.eval x = .slice (some ⟨sz, 0, none⟩) 1 1) (hsz : sz = w0.heap.size) (hk : k < 1000000000) (hbase : base ≤ w0.heap.size)
    (h : ∀ v' w', w'.ownsRow base 5 1 v' (k + 1) (bytesL (k + 1) f) → Below base w0 w' → wpList Try.prog ops Q rest (a.put o.dst v') w') :
    wpList Try.prog ops Q (o :: rest) a (w0.alloc (.cells #[b] 5 (0, 0))) := by
  subst hsz
  subst hbv
  exact push_byte hgd s x ho w0 base v k f hs hA hx hk hbase h
end
theorem id_row (n r : Nat) (hr : r < n) : (List.replicate n (Value.int .u8 0)).set r (.int .u8 1) = bytesL n (idM r) := by
  unfold bytesL
  apply List.ext_getElem
  · simp
  · intro i h1 h2
    rw [List.getElem_set]
    simp only [List.getElem_replicate, List.getElem_map, List.getElem_range, idM]
    by_cases e : r = i
    · subst e; simp [byteV, E.one_v]
    · simp [e, byteV, E.zero_v]

set_option maxHeartbeats 1000000 in
theorem refIdentity_any (n : Int) (w : World) (h0 : -9223372036854775808 ≤ n) (h1 : n ≤ 9223372036854775807) :
    Calls Try.prog 10 #[.int .i64 n] w fun e w' => Below w.heap.size w w' ∧ ((¬ (1 ≤ n ∧ n ≤ 16) ∧ e = .returned (.tuple #[.slice none 0 0, .int .i64 2])) ∨
      ∃ (k : Nat) (vo : Value), n = k ∧ 1 ≤ k ∧ k ≤ 16 ∧ e = .returned (.tuple #[vo, .int .i64 0]) ∧ AccM w' w.heap.size vo k (fun _ => k) idM) := by
  obtain ⟨i0, hi, hz0, hz1, hz2⟩ := info_parts Try.info5
  by_cases ha : 1 ≤ n
  · by_cases hb : n ≤ 16
    · obtain ⟨m, rfl⟩ : ∃ m : Nat, n = (m : Int) := ⟨n.toNat, by omega⟩
      have hm1 : 1 ≤ m := by omega
      have hm2 : m ≤ 16 := by omega
      clear h0 h1 ha hb
      go_enter Try.func10, Try.ntmps10
      go_wp2_with fail
      go_loopw [4, 5] (fun o i wr => ∃ k : Nat, k ≤ m ∧ i = .int .i64 k ∧ Below w.heap.size w wr ∧ AccM wr w.heap.size o k (fun _ => m) idM) (fun _ i _ => (m : Nat) - (intOf i).toNat)
      case atStart => exact ⟨0, Nat.zero_le _, rfl, Below.refl _ _, AccM.nil _ _ _ _⟩
      case round =>
        obtain ⟨k, hk, rfl, hbk, hA⟩ := hrel
        by_cases hlt : k < m
        · go_wp2_with (at_make; refine wpList_make_full _ rfl _ _ 52 rfl w.heap.size 5 i0 (.int .u8 0) 1 Try.underlying52 hi hz0 hz1 _ _ _ _ m rfl rfl ?c0 ?c1 ?c2 ?c3 ?c4 ?_)
          case c0 => rfl
          case c1 => rfl
          case c2 => rw [hz2]; omega
          case c3 => unfold maxLen; omega
          case c4 => exact hbk.size
          intro w2 hown2 hgrow2
          have hbel2 : Below wr.heap.size wr w2 := (Below.refl _ _).grown hgrow2 (Nat.le_refl _) (fun k h => by cases h)
          rw [toList_madeCells_one] at hown2
          have hA2 := hA.below hbel2
          obtain ⟨v1, hv1⟩ : ∃ v1, w2.cell? ⟨wr.heap.size, k, none⟩ = some v1 := by
            rw [hown2.cellAt k (by omega)]; exact ⟨_, List.getElem?_eq_getElem (by simp; exact hlt)⟩
          have hf2 := hown2.frozenAt k
          have hst2 := (hown2.stored k (.int .u8 1)).1
          rw [id_row m k hlt] at hst2
          have hb3 : Below wr.heap.size wr (w2.setCell ⟨wr.heap.size, k, none⟩ (.int .u8 1)) := hbel2.setCell (Nat.le_refl _) _
          have hA3 := hA.below hb3
          have hsz : w2.heap.size = (w2.setCell ⟨wr.heap.size, k, none⟩ (.int .u8 1)).heap.size := by simp [World.setCell]
          have HSZ : Hid (w2.heap.size = (w2.setCell ⟨wr.heap.size, k, none⟩ (.int .u8 1)).heap.size) := hsz
          have HB3 : Hid (Below wr.heap.size wr (w2.setCell ⟨wr.heap.size, k, none⟩ (.int .u8 1))) := hb3
          clear hsz hb3 hA2
          go_wp2_with (at_builtin; refine push_row_at rfl _ _ 22 rfl Try.underlying22 (w2.setCell ⟨wr.heap.size, k, none⟩ (.int .u8 1)) w.heap.size _ _ k (fun _ => m) idM hA3 hst2 rfl _ rfl HSZ.out (by omega) (Nat.le_trans hbk.size HB3.out.size) ?_)
          intro vo' w4 hA4 hb4
          go_wp2_with fail
          go_roundw
          case rel => exact ⟨k + 1, by omega, by go_num, hbk.trans ((HB3.out.mono hbk.size).trans hb4), hA4⟩
          case measure => simp [intOf]; omega
        · have hkn : k = m := by omega
          subst hkn
          go_wp2_with fail
          go_ret2
          exact ⟨hbk, .inr ⟨k, _, rfl, hm1, hm2, rfl, hA⟩⟩
    · have HB : Hid (¬ n ≤ 16) := hb
      go_enter Try.func10, Try.ntmps10
      go_wp2_with fail
      go_ret2
      refine ⟨Below.refl _ _, .inl ?_⟩
      first
        | exact ⟨by have := HB.out; omega, rfl⟩
        | rfl
  · have HA : Hid (¬ 1 ≤ n) := ha
    go_enter Try.func10, Try.ntmps10
    go_wp2_with fail
    go_ret2
    exact ⟨Below.refl _ _, .inl ⟨by have := HA.out; omega, rfl⟩⟩

theorem owns_mono {w : World} {base base' : Nat} {e : TypeId} {size : Nat} {v : Value} {n : Nat} {xs : List Value} (h : w.ownsRow base e size v n xs) (hb : base' ≤ base) : w.ownsRow base' e size v n xs := by
  refine ⟨h.1, ?_⟩
  rcases h.2 with hn | ⟨g, cap, cur, rfl, hg0, rest⟩
  · exact .inl hn
  · exact .inr ⟨g, cap, cur, rfl, Nat.le_trans hb hg0, rest⟩

set_option maxHeartbeats 1000000 in
theorem refVander_any (n m : Int) (w : World) (h0 : -9223372036854775808 ≤ n) (h1 : n ≤ 9223372036854775807) (h2 : -9223372036854775808 ≤ m) (h3 : m ≤ 9223372036854775807) :
    Calls Try.prog 12 #[.int .i64 n, .int .i64 m] w fun e w' => Below w.heap.size w w' ∧ ((¬ (1 ≤ n ∧ n ≤ 16 ∧ 1 ≤ m ∧ m ≤ 16) ∧ e = .returned (.tuple #[.slice none 0 0, .int .i64 2])) ∨
      ∃ (k l : Nat) (vo : Value), n = k ∧ m = l ∧ 1 ≤ k ∧ k ≤ 16 ∧ 1 ≤ l ∧ l ≤ 16 ∧ e = .returned (.tuple #[vo, .int .i64 0]) ∧ AccM w' w.heap.size vo k (fun _ => l) powM) := by
  by_cases hg : 1 ≤ n ∧ n ≤ 16 ∧ 1 ≤ m ∧ m ≤ 16
  · obtain ⟨N, rfl⟩ : ∃ k : Nat, n = (k : Int) := ⟨n.toNat, by omega⟩
    obtain ⟨M, rfl⟩ : ∃ k : Nat, m = (k : Int) := ⟨m.toNat, by omega⟩
    have a1 : 1 ≤ N := by omega
    have a2 : N ≤ 16 := by omega
    have a3 : 1 ≤ M := by omega
    have a4 : M ≤ 16 := by omega
    clear h0 h1 h2 h3 hg
    go_enter Try.func12, Try.ntmps12
    go_wp2_with fail
    go_loopw [6, 7] (fun o i wr => ∃ k : Nat, k ≤ N ∧ i = .int .i64 k ∧ Below w.heap.size w wr ∧ AccM wr w.heap.size o k (fun _ => M) powM) (fun _ i _ => (N : Nat) - (intOf i).toNat)
    case atStart => exact ⟨0, Nat.zero_le _, rfl, Below.refl _ _, AccM.nil _ _ _ _⟩
    case round =>
      obtain ⟨k, hk, rfl, hbk, hA⟩ := hrel
      by_cases hlt : k < N
      · go_wp2_with fail
        obtain ⟨wo, hwo⟩ : ∃ wo, wo = wr := ⟨_, rfl⟩
        have HWO : Hid (wo = wr) := hwo
        have hAo := hA
        rw [← hwo] at hAo
        have hbo : Below w.heap.size w wo := by rw [hwo]; exact hbk
        clear hwo
        go_loopw [8, 9] (fun v i wi => ∃ j : Nat, j ≤ M ∧ i = .int .i64 j ∧ Below wo.heap.size wo wi ∧ wi.ownsRow wo.heap.size 5 1 v j (bytesL j (powM k))) (fun _ i _ => (M : Nat) - (intOf i).toNat)
        case atStart => exact ⟨0, Nat.zero_le _, rfl, by rw [HWO.out]; exact Below.refl _ _, World.ownsRow_nil _ _ _ _⟩
        case round =>
          obtain ⟨j, hj, rfl, hbj, hoj⟩ := hrel
          by_cases hjm : j < M
          · have hkj : k * j ≤ 15 * 15 := Nat.mul_le_mul (by omega) (by omega)
            obtain ⟨p, hp⟩ : ∃ p : Nat, k * j = p := ⟨_, rfl⟩
            have hp' : (k : Int) * (j : Int) = (p : Int) := by rw [← hp]; simp
            have hpow := fun w => refPow_any 2 (by decide) (p : Int) (by omega) (by omega) w
            rw [gpow_nat 2 p (by decide)] at hpow
            have HE : Hid (Value.int .u8 (gp 2 p : Int) = byteV (powM k j)) := (by unfold powM byteV pw two; rw [hp] : Value.int .u8 (gp 2 p : Int) = byteV (powM k j))
            rw [hp] at hkj
            clear hp
            go_wp2_with fail
            go_at_call 30
            refine (hpow _).mono ?_
            rintro e w4 ⟨rfl, hb4⟩
            have hb5 : Below wo.heap.size wo w4 := hbj.trans (hb4.mono hbj.size)
            have ho4 := owns_below hoj hb4
            go_wp2_with (at_builtin; refine push_byte_at rfl _ _ rfl w4 wo.heap.size _ j (powM k) ho4 rfl _ HE.out _ rfl rfl (by omega) hb5.size ?_)
            intro v' w6 ho6 hb6
            go_wp2_with fail
            go_roundw
            case rel => exact ⟨j + 1, by omega, by go_num, hb5.trans hb6, ho6⟩
            case measure => simp [intOf]; omega
          · have hjm' : j = M := by omega
            subst hjm'
            obtain ⟨ar, cr, hv8, _, _⟩ := owns_form hoj _ (fun i hi => bytesL_at _ _ i hi)
            subst hv8
            have hAi := hAo.below hbj
            have hvi := owns_mono hoj hbo.size
            go_wp2_with (at_builtin; refine push_row_at rfl _ _ 22 rfl Try.underlying22 _ w.heap.size _ _ k (fun _ => j) powM hAi hvi rfl _ rfl rfl (by omega) (Nat.le_trans hbo.size hbj.size) ?_)
            intro vo' w4 hA4 hb4
            go_wp2_with fail
            go_roundw
            case rel => exact ⟨k + 1, by omega, by go_num, hbo.trans ((hbj.mono hbo.size).trans hb4), hA4⟩
            case measure => simp [intOf]; omega
      · have hkn : k = N := by omega
        subst hkn
        go_wp2_with fail
        go_ret2
        exact ⟨hbk, .inr ⟨k, M, _, rfl, rfl, a1, a2, a3, a4, rfl, hA⟩⟩
  · have HG : Hid (¬ (1 ≤ n ∧ n ≤ 16 ∧ 1 ≤ m ∧ m ≤ 16)) := hg
    have t : (decide (n < 1) || decide (16 < n) || decide (m < 1) || decide (16 < m)) = true := by
      simp only [Bool.or_eq_true, decide_eq_true_eq]
      omega
    by_cases b1 : n < 1
    · clear hg t
      go_enter Try.func12, Try.ntmps12
      go_wp2_with fail
      go_ret2
      refine ⟨Below.refl _ _, .inl ?_⟩
      first
        | exact ⟨by have := HG.out; omega, rfl⟩
        | rfl
    · by_cases b2 : 16 < n
      · clear hg t
        go_enter Try.func12, Try.ntmps12
        go_wp2_with fail
        go_ret2
        refine ⟨Below.refl _ _, .inl ?_⟩
        first
          | exact ⟨by have := HG.out; omega, rfl⟩
          | rfl
      · by_cases b3 : m < 1
        · clear hg t
          go_enter Try.func12, Try.ntmps12
          go_wp2_with fail
          go_ret2
          refine ⟨Below.refl _ _, .inl ?_⟩
          first
            | exact ⟨by have := HG.out; omega, rfl⟩
            | rfl
        · have b4 : 16 < m := by omega
          clear hg t
          go_enter Try.func12, Try.ntmps12
          go_wp2_with fail
          go_ret2
          refine ⟨Below.refl _ _, .inl ?_⟩
          first
            | exact ⟨by have := HG.out; omega, rfl⟩
            | rfl
end Go.Proofs.Ytocgoafmjggnmaa
