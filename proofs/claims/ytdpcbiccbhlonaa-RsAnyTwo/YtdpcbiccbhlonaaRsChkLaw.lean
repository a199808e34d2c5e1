/- Which chunks fit one another: the document's answer; the law's walk. -/
import Derived.Test.YtdpcbiccbhlonaaRsEncLaw
namespace Go.Proofs.Ytdpcbiccbhlonaa
open Go.RowKit Go.PlainAid
set_option linter.unusedVariables false

set_option maxHeartbeats 1000000 in
theorem refCheck_any (a : Option Addr) (n ca : Nat) (M : Nat → Nat) (Y : Mx) (w : World) (hca : n ≤ ca) (hcm : ca ≤ 9223372036854775807) (hT : TxtAt w a n M Y) :
    Calls Try.prog 19 #[.slice a n ca] w fun e w' => Below w.heap.size w w' ∧ e = .returned (.bool (chkB n M Y)) := by
  by_cases hn : 3 ≤ n
  · obtain ⟨k, rfl⟩ : ∃ k, n = k + 2 := ⟨n - 2, by omega⟩
    have henc := refEncode_any a k ca M Y w (by unfold maxLen; omega) (hT.cut (by omega))
    have hB : chkB (k + 2) M Y = decide (encE k M = 0 ∧ encS k M Y 0 = strE (M k) (Y k) ∧ encS k M Y 1 = strE (M (k + 1)) (Y (k + 1))) := by
      unfold chkB
      exact decide_eq_decide.2 ⟨fun h => h.2.2, fun h => ⟨hn, by have := (encE_zero.1 h.1).1.2; omega, h⟩⟩
    rw [hB]
    obtain ⟨b, o, rfl, hc⟩ := hT.cell (by omega)
    have HC : Hid (∀ x, Below w.heap.size w x → x.cell? ⟨b, o + k, none⟩ = some (.string (strE (M k) (Y k))) ∧ x.cell? ⟨b, o + (k + 1), none⟩ = some (.string (strE (M (k + 1)) (Y (k + 1))))) := fun x hx =>
      ⟨(hx.cell (p := ⟨b, o + k, none⟩) (cell_lt (hc k (by omega)))).trans (hc k (by omega)), (hx.cell (p := ⟨b, o + (k + 1), none⟩) (cell_lt (hc (k + 1) (by omega)))).trans (hc (k + 1) (by omega))⟩
    generalize strE (M k) (Y k) = s0 at HC ⊢
    generalize strE (M (k + 1)) (Y (k + 1)) = s1 at HC ⊢
    generalize encS k M Y 0 = p at henc ⊢
    generalize encS k M Y 1 = q at henc ⊢
    generalize encE k M = er at henc ⊢
    have kk : ((k + 2 : Nat) : Int) - 2 = (k : Int) := by omega
    have k1 : ¬ ((k : Int) < 1) := by omega
    have kca : (k : Int) ≤ (ca : Int) := by omega
    have hca' : k ≤ ca := by omega
    have q1 : (k : Int) < (k : Int) + 2 := by omega
    have q2 : (k : Int) + 1 < (k : Int) + 2 := by omega
    have q3 : IntKind.i64.wrap ((k : Int) + 1) = (k : Int) + 1 := by rw [IntKind.wrap_i64]; omega
    have q4 : ((k : Int) + 1).toNat = k + 1 := by omega
    have q5 : (0 : Int) ≤ (k : Int) + 1 := by omega
    have q6 : ¬ ((k : Int) + 1 < 0) := by omega
    have hbq := beqB q s1
    have hbp := beqB p s0
    clear hB hT hc hn
    by_cases h0 : er = 0
    · subst h0
      by_cases hp : p = s0
      · rw [decide_eq_true hp] at hbp
        by_cases hq : q = s1
        · rw [decide_eq_true hq] at hbq
          have HR : Hid (decide ((0 : Int) = 0 ∧ p = s0 ∧ q = s1) = true) := by show _ = true; simp [hp, hq]
          rw [HR.out]
          clear hp hq HR
          go_enter Try.func19, Try.ntmps19
          go_wp2_with fail
          go_at_call 11
          refine henc.mono ?_
          rintro e w2 ⟨hb2, rfl⟩
          obtain ⟨c0, c1⟩ := HC.out w2 hb2
          clear henc
          go_wp2_with fail
          go_ret
          exact ⟨hb2, rfl⟩
        · rw [decide_eq_false hq] at hbq
          have HR : Hid (decide ((0 : Int) = 0 ∧ p = s0 ∧ q = s1) = false) := by show _ = false; simp [hq]
          rw [HR.out]
          clear hp hq HR
          go_enter Try.func19, Try.ntmps19
          go_wp2_with fail
          go_at_call 11
          refine henc.mono ?_
          rintro e w2 ⟨hb2, rfl⟩
          obtain ⟨c0, c1⟩ := HC.out w2 hb2
          clear henc
          go_wp2_with fail
          go_ret
          exact ⟨hb2, rfl⟩
      · rw [decide_eq_false hp] at hbp
        have HR : Hid (decide ((0 : Int) = 0 ∧ p = s0 ∧ q = s1) = false) := by show _ = false; simp [hp]
        rw [HR.out]
        clear hp HR hbq
        go_enter Try.func19, Try.ntmps19
        go_wp2_with fail
        go_at_call 11
        refine henc.mono ?_
        rintro e w2 ⟨hb2, rfl⟩
        obtain ⟨c0, c1⟩ := HC.out w2 hb2
        clear henc
        go_wp2_with fail
        go_ret
        exact ⟨hb2, rfl⟩
    · have HR : Hid (decide (er = 0 ∧ p = s0 ∧ q = s1) = false) := by show _ = false; simp [h0]
      rw [HR.out]
      have t0 : (er == 0) = false := by simpa using h0
      clear h0 HR hbp hbq
      go_enter Try.func19, Try.ntmps19
      go_wp2_with fail
      go_at_call 11
      refine henc.mono ?_
      rintro e w2 ⟨hb2, rfl⟩
      obtain ⟨c0, c1⟩ := HC.out w2 hb2
      clear henc
      go_wp2_with fail
      go_ret
      exact ⟨hb2, rfl⟩
  · have hB : chkB n M Y = false := by
      unfold chkB
      exact decide_eq_false fun h => hn h.1
    rw [hB]
    have n9 : (n : Int) ≤ 9223372036854775807 := by omega
    have n1 : (n : Int) - 2 < 1 := by omega
    clear hB hT hn
    go_enter Try.func19, Try.ntmps19
    go_wp2_with fail
    go_ret
    exact ⟨Below.refl _ _, rfl⟩

section
variable {ops : Array Oper} {rest : List Oper} {o : Oper} {a : Act} {Q : Exit → Act → World → Prop}
/-- Two texts appended. -/
theorem push_strs_two (hgd : o.guard = none) (s x : Operand) (ho : o.op = .call { callee := .builtin .append, args := #[s, x], argTypes := #[22, 22] })
    (w0 : World) (base : Nat) (v : Value) (k : Nat) (f : Nat → ByteArray) (hA : w0.ownsRow base 9 1 v k (strsL k f)) (hs : a.eval s = v) (p q : ByteArray) (hp : p = f k) (hq : q = f (k + 1))
    (sz : Nat) (hx : a.eval x = .slice (some ⟨sz, 0, none⟩) 2 2) (hsz : sz = w0.heap.size) (hk : k < 1000000000) (hbase : base ≤ w0.heap.size)
    (h : ∀ v' w', w'.ownsRow base 9 1 v' (k + 2) (strsL (k + 2) f) → Below base w0 w' → wpList Try.prog ops Q rest (a.put o.dst v') w') :
    wpList Try.prog ops Q (o :: rest) a (w0.alloc (.cells #[.string p, .string q] 9 (0, 0))) := by
  subst hsz
  subst hp
  subst hq
  obtain ⟨i0, hi, hz0, hz1, hz2⟩ := info_parts Try.info9
  refine wpList_append_own _ hgd s x 22 ho base 9 i0 (.string ⟨#[]⟩) 1 16 Try.underlying22 hi hz0 hz1 hz2 rfl (by decide) v k _ hs (hA.alloc _) ⟨w0.heap.size, 0, none⟩ 2 2 [.string (f k), .string (f (k + 1))] hx rfl ?_ ?_ ?_ ?_ ?_ ?_
  · intro j u hu
    match j, hu with
    | 0, hu => simp at hu; subst hu; simp [Addr.add]
    | 1, hu => simp at hu; subst hu; simp [Addr.add]
  · intro u hu; simp at hu; rcases hu with rfl | rfl <;> rfl
  · unfold maxLen; omega
  · omega
  · simp; omega
  · intro v' w' hown hgrow _
    have hb0 : Below w0.heap.size w0 (w0.alloc (.cells #[.string (f k), .string (f (k + 1))] 9 (0, 0))) := (Below.refl _ _).alloc (Nat.le_refl _) _
    refine h v' w' (by rw [strsL_succ, strsL_succ, List.append_assoc]; exact hown) ?_
    exact (hb0.mono hbase).grown hgrow (by simp; omega) (fun g hg => (hA.lt g hg).1)
end
/-- A function on numbers with two values more. -/
def ext2 {α : Type} (f : Nat → α) (k : Nat) (p q : α) : Nat → α := fun i => if i = k then p else if i = k + 1 then q else f i
theorem ext2_lt {α : Type} {f : Nat → α} {k i : Nat} {p q : α} (h : i < k) : ext2 f k p q i = f i := by unfold ext2; rw [if_neg (by omega), if_neg (by omega)]
theorem ext2_k {α : Type} {f : Nat → α} {k : Nat} {p q : α} : ext2 f k p q k = p := if_pos rfl
theorem ext2_k1 {α : Type} {f : Nat → α} {k : Nat} {p q : α} : ext2 f k p q (k + 1) = q := by unfold ext2; rw [if_neg (by omega), if_pos rfl]

set_option maxHeartbeats 1000000 in
theorem checksLaw_arg (l : Option Addr) (len cap : Nat) (ev : Bool) (w : World) (hL : StrsArg w l len cap) :
    Calls Try.prog 6 #[.slice l len cap, .bool ev] w fun e w' => e = .returned (.bool true) ∧ Below w.heap.size w w' := by
  have hcut := cut_any l len cap 100 ev w hL (by decide)
  have HF : Hid (∀ (x : World) (a : Option Addr) (n c : Nat) (M : Nat → Nat) (Y : Mx), n ≤ c → c ≤ 9223372036854775807 → TxtAt x a n M Y → ∃ b : Bool, (Calls Try.prog 18 #[.slice a n c] x fun e w' => Below x.heap.size x w' ∧ e = .returned (.bool b)) ∧ ∀ y, Below x.heap.size x y → Calls Try.prog 19 #[.slice a n c] y fun e w' => Below y.heap.size y w' ∧ e = .returned (.bool b)) := fun x a n c M Y h1 h2 h3 =>
    ⟨chkB n M Y, check_any a n c M Y x h1 h2 h3, fun y hy => refCheck_any a n c M Y y h1 h2 (h3.below hy)⟩
  clear hL
  go_enter Try.func6, Try.ntmps6
  go_wp2_with fail
  go_at_call 9
  refine hcut.mono ?_
  rintro e w1 ⟨hb1, v, f, rfl, hC⟩
  have k12 : min len 12 ≤ 12 := by omega
  generalize min len 12 = k at hC k12 ⊢
  obtain ⟨a, c, rfl, hc1, hc2, hT⟩ := hC.txt (by decide)
  have href := refEncode_any a k c _ _ w1 (by unfold maxLen; omega) hT
  generalize hp : encS k (fun i => (f i).size) (fun i => teE (f i)) 0 = p at href
  generalize hq : encS k (fun i => (f i).size) (fun i => teE (f i)) 1 = q at href
  generalize her : encE k (fun i => (f i).size) = er at href
  have hz : er = 0 → p.size ≤ 65536 ∧ q.size ≤ 65536 := fun h => by
    have h0 : encE k (fun i => (f i).size) = 0 := by rw [her, h]
    rw [← hp, ← hq]
    unfold encS
    rw [if_pos h0, if_pos h0, strE_size, strE_size]
    exact ⟨(encE_zero.1 h0).2.2, (encE_zero.1 h0).2.2⟩
  clear hcut hp hq her
  have HC : Hid (CutTo w1 w.heap.size (.slice a k c) k 100 ev f) := hC
  have HT : Hid (TxtAt w1 a k (fun i => (f i).size) (fun i => teE (f i))) := hT
  clear hC hT
  go_wp2_with fail
  go_at_call 11
  refine href.mono ?_
  rintro e w2 ⟨hb2, rfl⟩
  have hb02 := hb1.trans (hb2.mono hb1.size)
  clear href
  cases ev with
  | false =>
    clear hz
    have hT2 := HT.out.below hb2
    have HT2 : Hid (TxtAt w2 a k (fun i => (f i).size) (fun i => teE (f i))) := hT2
    clear hT2
    go_wp2_with fail
    go_at_call 12
    refine (wakes_any _).mono ?_
    rintro e w4 ⟨rfl, hb4⟩
    have hb04 := hb02.trans (hb4.mono hb02.size)
    obtain ⟨bb, hchk, hrck⟩ := HF.out w4 _ _ _ _ _ hc1 hc2 (HT2.out.below hb4)
    clear HT2
    go_wp2_with fail
    go_at_call 18
    refine hchk.mono ?_
    rintro e w5 ⟨hb5, rfl⟩
    have hb05 := hb04.trans (hb5.mono hb04.size)
    have hrck5 := hrck w5 hb5
    clear hrck hchk
    go_wp2_with fail
    go_at_call 19
    refine hrck5.mono ?_
    rintro e w6 ⟨hb6, rfl⟩
    have hb06 := hb05.trans (hb6.mono hb05.size)
    clear hrck5
    go_wp2_with fail
    go_ret
    exact ⟨by simp, hb06⟩
  | true =>
    by_cases h0 : er = 0
    · subst h0
      obtain ⟨hpz, hqz⟩ := hz rfl
      have hown : w2.ownsRow w.heap.size 9 1 (.slice a k c) k (strsL k (ext2 f k p q)) := by
        rw [strsL_congr fun i hi => ext2_lt hi]; exact owns_below HC.out.1 hb2
      have hsz : ∀ i, i < k + 2 → (ext2 f k p q i).size ≤ 65536 := fun i hi => by
        by_cases h1 : i = k
        · subst h1; rw [ext2_k]; exact hpz
        · by_cases h2 : i = k + 1
          · subst h2; rw [ext2_k1]; exact hqz
          · rw [ext2_lt (by omega)]; have := HC.out.2.1 i (by omega); omega
      have HS : Hid (∀ i, i < k + 2 → (ext2 f k p q i).size ≤ 65536) := hsz
      clear hz hpz hqz hsz
      go_wp2_with (at_builtin; refine push_strs_two rfl _ _ rfl _ w.heap.size _ k (ext2 f k p q) hown rfl _ _ ext2_k.symm ext2_k1.symm _ rfl rfl (by omega) hb02.size ?_)
      intro v' w3 hown3 hb3
      obtain ⟨a3, c3, rfl, hc1, hc2, hT3⟩ := txt_of_strs hown3 HS.out
      have hb03 := hb02.trans hb3
      clear hown hown3 hb02 hb2
      have HT2 : Hid (TxtAt w3 a3 (k + 2) (fun i => (ext2 f k p q i).size) (fun i => teE (ext2 f k p q i))) := hT3
      clear hT3
      go_wp2_with fail
      go_at_call 12
      refine (wakes_any _).mono ?_
      rintro e w4 ⟨rfl, hb4⟩
      have hb04 := hb03.trans (hb4.mono hb03.size)
      obtain ⟨bb, hchk, hrck⟩ := HF.out w4 _ _ _ _ _ hc1 hc2 (HT2.out.below hb4)
      clear HT2
      go_wp2_with fail
      go_at_call 18
      refine hchk.mono ?_
      rintro e w5 ⟨hb5, rfl⟩
      have hb05 := hb04.trans (hb5.mono hb04.size)
      have hrck5 := hrck w5 hb5
      clear hrck hchk
      go_wp2_with fail
      go_at_call 19
      refine hrck5.mono ?_
      rintro e w6 ⟨hb6, rfl⟩
      have hb06 := hb05.trans (hb6.mono hb05.size)
      clear hrck5
      go_wp2_with fail
      go_ret
      exact ⟨by simp, hb06⟩
    · have t0 : (er == 0) = false := by simpa using h0
      clear hz h0
      have hT2 := HT.out.below hb2
      have HT2 : Hid (TxtAt w2 a k (fun i => (f i).size) (fun i => teE (f i))) := hT2
      clear hT2
      go_wp2_with fail
      go_at_call 12
      refine (wakes_any _).mono ?_
      rintro e w4 ⟨rfl, hb4⟩
      have hb04 := hb02.trans (hb4.mono hb02.size)
      obtain ⟨bb, hchk, hrck⟩ := HF.out w4 _ _ _ _ _ hc1 hc2 (HT2.out.below hb4)
      clear HT2
      go_wp2_with fail
      go_at_call 18
      refine hchk.mono ?_
      rintro e w5 ⟨hb5, rfl⟩
      have hb05 := hb04.trans (hb5.mono hb04.size)
      have hrck5 := hrck w5 hb5
      clear hrck hchk
      go_wp2_with fail
      go_at_call 19
      refine hrck5.mono ?_
      rintro e w6 ⟨hb6, rfl⟩
      have hb06 := hb05.trans (hb6.mono hb05.size)
      clear hrck5
      go_wp2_with fail
      go_ret
      exact ⟨by simp, hb06⟩
end Go.Proofs.Ytdpcbiccbhlonaa
