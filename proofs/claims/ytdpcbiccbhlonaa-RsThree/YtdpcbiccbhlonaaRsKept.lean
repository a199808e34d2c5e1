/- Those of texts, and of rows, that are there: the program's own answers. -/
import Derived.Test.YtdpcbiccbhlonaaRsMeas
import Derived.Test.YtdpcbiccbhlonaaMatRefApp
namespace Go.Proofs.Ytdpcbiccbhlonaa
open Go.RowKit Go.PlainAid
set_option linter.unusedVariables false

theorem cnt_succ_true {T : Nat → Bool} {i : Nat} (h : T i = true) : cnt T (i + 1) = cnt T i + 1 := by simp [cnt, h]
theorem cnt_succ_false {T : Nat → Bool} {i : Nat} (h : T i = false) : cnt T (i + 1) = cnt T i := by simp [cnt, h]
theorem Vals.at {w : World} {a : Option Addr} {n : Nat} {V : Nat → Value} (h : Vals w a n V) : Hid (∀ x, Below w.heap.size w x → ∀ i, i < n → ∃ b o, a = some ⟨b, o, none⟩ ∧ x.cell? ⟨b, o + i, none⟩ = some (V i)) := fun x hx i hi => by
  rcases h with h0 | ⟨b, o, e, h⟩
  · omega
  · exact ⟨b, o, e, (hx.cell (p := ⟨b, o + i, none⟩) (cell_lt (h i hi))).trans (h i hi)⟩

set_option maxHeartbeats 1000000 in
theorem keptStr_any (a b : Option Addr) (n ca cb : Nat) (F : Nat → ByteArray) (T : Nat → Bool) (w : World) (hn : n ≤ 1000) (ha : Vals w a n fun i => .string (F i)) (hb : Vals w b n fun i => .bool (T i)) :
    Calls Try.prog 32 #[.slice a n ca, .slice b n cb] w fun e w' => Below w.heap.size w w' ∧ ∃ v, e = .returned v ∧ w'.ownsRow w.heap.size 9 1 v (cnt T n) (strsL (cnt T n) fun r => F (kidx T n r)) := by
  have HA := ha.at
  have HB := hb.at
  clear ha hb
  go_enter Try.func32, Try.ntmps32
  go_wp2_with fail
  go_loopw [5, 10] (fun o i wr => ∃ k : Nat, k ≤ n ∧ i = .int .i64 k ∧ Below w.heap.size w wr ∧ wr.ownsRow w.heap.size 9 1 o (cnt T k) (strsL (cnt T k) fun r => F (kidx T n r))) (fun _ i _ => (n : Nat) - (intOf i).toNat)
  case atStart => exact ⟨0, Nat.zero_le _, rfl, Below.refl _ _, World.ownsRow_nil _ _ _ _⟩
  case round =>
    obtain ⟨k, hk, rfl, hbk, hown⟩ := hrel
    by_cases hlt : k < n
    · obtain ⟨b1, o1, rfl, e1⟩ := HA.out wr hbk k hlt
      obtain ⟨b2, o2, rfl, e2⟩ := HB.out wr hbk k hlt
      have kn : (k : Int) < (n : Int) := by omega
      have hcl := cnt_le T k
      cases hT : T k with
      | true =>
        rw [hT] at e2
        have HV : Hid (Value.string (F k) = .string (F (kidx T n (cnt T k)))) := by show _ = _; rw [kidx_cnt T hlt hT]
        have HC : Hid (cnt T (k + 1) = cnt T k + 1) := cnt_succ_true hT
        generalize F k = s at e1 HV
        generalize cnt T k = q at *
        clear hT
        go_wp2_with (at_builtin; refine push_str_at rfl _ _ rfl _ w.heap.size _ q (fun r => F (kidx T n r)) hown rfl _ HV.out _ rfl rfl (by omega) hbk.size ?_)
        intro v' w2 hown2 hb2
        go_wp2_with fail
        go_roundw
        case rel => exact ⟨k + 1, by omega, by go_num, hbk.trans hb2, by rw [HC.out]; exact hown2⟩
        case measure => simp [intOf]; omega
      | false =>
        rw [hT] at e2
        have HC : Hid (cnt T (k + 1) = cnt T k) := cnt_succ_false hT
        generalize F k = s at e1
        clear hT
        go_wp2_with fail
        go_roundw
        case rel => exact ⟨k + 1, by omega, by go_num, hbk, by rw [HC.out]; exact hown⟩
        case measure => simp [intOf]; omega
    · have hkn : n = k := by omega
      subst hkn
      go_wp2_with fail
      go_ret
      exact ⟨hbk, _, rfl, hown⟩

section
variable {ops : Array Oper} {rest : List Oper} {o : Oper} {a : Act} {Q : Exit → Act → World → Prop}
def valsL (k : Nat) (R : Nat → Value) : List Value := (List.range k).map R
theorem valsL_at (k : Nat) (R : Nat → Value) (i : Nat) (h : i < k) : (valsL k R)[i]? = some (R i) := by simp [valsL, h]
theorem valsL_succ (k : Nat) (R : Nat → Value) : valsL (k + 1) R = valsL k R ++ [R k] := by
  unfold valsL; rw [List.range_succ, List.map_append]; rfl
/-- A row's own value appended to rows. -/
theorem push_val_at (hgd : o.guard = none) (s x : Operand) (t : TypeId) (ho : o.op = .call { callee := .builtin .append, args := #[s, x], argTypes := #[t, t] }) (ht : Try.prog.underlying t = some (.slice 46))
    (w0 : World) (base : Nat) (v : Value) (k : Nat) (R : Nat → Value) (hA : w0.ownsRow base 46 1 v k (valsL k R)) (hs : a.eval s = v) (b : Value) (hbv : b = R k) (hone : b.oneCell' = true)
    (sz : Nat) (hx : a.eval x = .slice (some ⟨sz, 0, none⟩) 1 1) (hsz : sz = w0.heap.size) (hk : k < 1000000) (hbase : base ≤ w0.heap.size)
    (h : ∀ v' w', w'.ownsRow base 46 1 v' (k + 1) (valsL (k + 1) R) → Below base w0 w' → wpList Try.prog ops Q rest (a.put o.dst v') w') :
    wpList Try.prog ops Q (o :: rest) a (w0.alloc (.cells #[b] 46 (0, 0))) := by
  subst hsz
  subst hbv
  obtain ⟨i0, hi, hz0, hz1, hz2⟩ := info_parts Try.info46
  refine wpList_append_own _ hgd s x t ho base 46 i0 (.slice none 0 0) 1 24 ht hi hz0 hz1 hz2 rfl (by decide) v k _ hs (hA.alloc _) ⟨w0.heap.size, 0, none⟩ 1 1 [R k] hx rfl ?_ ?_ ?_ ?_ ?_ ?_
  · intro j u hu
    match j, hu with
    | 0, hu => simp at hu; subst hu; simp [Addr.add]
  · intro u hu; simp at hu; subst hu; exact hone
  · unfold maxLen; omega
  · omega
  · simp; omega
  · intro v' w' hown hgrow _
    have hb0 : Below w0.heap.size w0 (w0.alloc (.cells #[R k] 46 (0, 0))) := (Below.refl _ _).alloc (Nat.le_refl _) _
    refine h v' w' (by rw [valsL_succ]; exact hown) ?_
    exact (hb0.mono hbase).grown hgrow (by simp; omega) (fun g hg => (hA.lt g hg).1)
end

set_option maxHeartbeats 1000000 in
theorem keptRow_any (a b : Option Addr) (n ca cb : Nat) (AR : Nat → Option Addr) (L CR : Nat → Nat) (T : Nat → Bool) (w : World) (hn : n ≤ 1000) (ha : Vals w a n fun i => .slice (AR i) (L i) (CR i)) (hb : Vals w b n fun i => .bool (T i)) :
    Calls Try.prog 34 #[.slice a n ca, .slice b n cb] w fun e w' => Below w.heap.size w w' ∧ ∃ v, e = .returned v ∧ w'.ownsRow w.heap.size 46 1 v (cnt T n) (valsL (cnt T n) fun r => .slice (AR (kidx T n r)) (L (kidx T n r)) (CR (kidx T n r))) := by
  have HA := ha.at
  have HB := hb.at
  clear ha hb
  go_enter Try.func34, Try.ntmps34
  go_wp2_with fail
  go_loopw [5, 10] (fun o i wr => ∃ k : Nat, k ≤ n ∧ i = .int .i64 k ∧ Below w.heap.size w wr ∧ wr.ownsRow w.heap.size 46 1 o (cnt T k) (valsL (cnt T k) fun r => .slice (AR (kidx T n r)) (L (kidx T n r)) (CR (kidx T n r)))) (fun _ i _ => (n : Nat) - (intOf i).toNat)
  case atStart => exact ⟨0, Nat.zero_le _, rfl, Below.refl _ _, World.ownsRow_nil _ _ _ _⟩
  case round =>
    obtain ⟨k, hk, rfl, hbk, hown⟩ := hrel
    by_cases hlt : k < n
    · obtain ⟨b1, o1, rfl, e1⟩ := HA.out wr hbk k hlt
      obtain ⟨b2, o2, rfl, e2⟩ := HB.out wr hbk k hlt
      have kn : (k : Int) < (n : Int) := by omega
      have hcl := cnt_le T k
      cases hT : T k with
      | true =>
        rw [hT] at e2
        have HV : Hid (Value.slice (AR k) (L k) (CR k) = .slice (AR (kidx T n (cnt T k))) (L (kidx T n (cnt T k))) (CR (kidx T n (cnt T k)))) := by show _ = _; rw [kidx_cnt T hlt hT]
        have HC : Hid (cnt T (k + 1) = cnt T k + 1) := cnt_succ_true hT
        generalize AR k = ak at e1 HV
        generalize L k = lk at e1 HV
        generalize CR k = ck at e1 HV
        generalize cnt T k = q at *
        clear hT
        go_wp2_with (at_builtin; refine push_val_at rfl _ _ 49 rfl Try.underlying49 _ w.heap.size _ q (fun r => .slice (AR (kidx T n r)) (L (kidx T n r)) (CR (kidx T n r))) hown rfl _ HV.out rfl _ rfl rfl (by omega) hbk.size ?_)
        intro v' w2 hown2 hb2
        go_wp2_with fail
        go_roundw
        case rel => exact ⟨k + 1, by omega, by go_num, hbk.trans hb2, by rw [HC.out]; exact hown2⟩
        case measure => simp [intOf]; omega
      | false =>
        rw [hT] at e2
        have HC : Hid (cnt T (k + 1) = cnt T k) := cnt_succ_false hT
        generalize AR k = ak at e1
        generalize L k = lk at e1
        generalize CR k = ck at e1
        clear hT
        go_wp2_with fail
        go_roundw
        case rel => exact ⟨k + 1, by omega, by go_num, hbk, by rw [HC.out]; exact hown⟩
        case measure => simp [intOf]; omega
    · have hkn : n = k := by omega
      subst hkn
      go_wp2_with fail
      go_ret
      exact ⟨hbk, _, rfl, hown⟩
end Go.Proofs.Ytdpcbiccbhlonaa
