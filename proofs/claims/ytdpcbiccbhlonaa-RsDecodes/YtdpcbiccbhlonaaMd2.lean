/- 9 texts in one. -/
import Derived.Test.YtdpcbiccbhlonaaMd1
import Derived.Deep.RegionHeld3
import Derived.Deep.RegionWith
import Derived.Laws.OwnMore
import Derived.Deep.Grids
import Derived.Test.YtdpcbiccbhlonaaRows
import Derived.WalkKit
import Derived.ProofKit
import Derived.OpenShut
import Derived.ShutString
import Derived.ChangeArms
/- The parity chunks of every data chunks: the law's walk. -/
namespace Go.Proofs.Ytdpcbiccbhlonaa
open Go.RowKit Go.PlainAid
set_option linter.unusedVariables false

theorem CutTo.txt {w : World} {base : Nat} {v : Value} {k N : Nat} {ev : Bool} {f : Nat → ByteArray} (h : CutTo w base v k N ev f) (hN : N ≤ 1000) : ∃ a c, v = .slice a k c ∧ k ≤ c ∧ c ≤ 9223372036854775807 ∧ TxtAt w a k (fun i => (f i).size) (fun i => teE (f i)) :=
  txt_of_strs h.1 (fun i hi => by have := h.2.1 i hi; omega)

set_option maxHeartbeats 1000000 in
theorem encodesLaw_arg (l : Option Addr) (len cap : Nat) (ev : Bool) (w : World) (hL : StrsArg w l len cap) :
    Calls Try.prog 3 #[.slice l len cap, .bool ev] w fun e w' => e = .returned (.bool true) ∧ Below w.heap.size w w' := by
  have hcut := cut_any l len cap 200 ev w hL (by decide)
  clear hL
  go_enter Try.func3, Try.ntmps3
  go_wp2_with fail
  go_at_call 9
  refine hcut.mono ?_
  rintro e w1 ⟨hb1, v, f, rfl, hC⟩
  obtain ⟨a, c, rfl, hc1, hc2, hT⟩ := hC.txt (by decide)
  have k12 : min len 12 ≤ 12 := by omega
  generalize min len 12 = k at hc1 hT hC k12 ⊢
  have henc := encode_any a k c _ _ w1 hc1 hc2 hT
  have href := fun x (hx : Below w1.heap.size w1 x) => refEncode_any a k c _ _ x (by unfold maxLen; omega) (hT.below hx)
  generalize encS k (fun i => (f i).size) (fun i => teE (f i)) 0 = p at henc href
  generalize encS k (fun i => (f i).size) (fun i => teE (f i)) 1 = q at henc href
  generalize encE k (fun i => (f i).size) = er at henc href
  clear hcut hC hT
  go_wp2_with fail
  go_at_call 10
  refine henc.mono ?_
  rintro e w2 ⟨hb2, rfl⟩
  have hb02 := hb1.trans (hb2.mono hb1.size)
  have href2 := href w2 hb2
  clear href henc
  go_wp2_with fail
  go_at_call 11
  refine href2.mono ?_
  rintro e w3 ⟨hb3, rfl⟩
  have hb03 := hb02.trans (hb3.mono hb02.size)
  clear href2
  go_wp2_with fail
  go_at_call 12
  refine (wakes_any _).mono ?_
  rintro e w4 ⟨rfl, hb4⟩
  have hb04 := hb03.trans (hb4.mono hb03.size)
  go_wp2_with fail
  go_ret
  exact ⟨by simp, hb04⟩
end Go.Proofs.Ytdpcbiccbhlonaa
/- Which chunks fit one another: the document's answer; the law's walk. -/
namespace Go.Proofs.Ytdpcbiccbhlonaa
open Go.RowKit Go.PlainAid
set_option linter.unusedVariables false

set_option maxHeartbeats 1000000 in
theorem refCheck_any (a : Option Addr) (n ca : Nat) (M : Nat → Nat) (Y : Mx) (w : World) (hca : n ≤ ca) (hcm : ca ≤ 9223372036854775807) (hT : TxtAt w a n M Y) :
    Calls Try.prog 19 #[.slice a n ca] w fun e w' => Below w.heap.size w w' ∧ e = .returned (.bool (chkB n M Y)) := by
  by_cases hn : 3 ≤ n
  · obtain ⟨k, rfl⟩ : ∃ k, n = k + 2 := ⟨n - 2, by omega⟩
    have henc := refEncode_any a k ca M Y w (by unfold maxLen; omega) (hT.cut (by omega))
    have hB : chkB (k + 2) M Y = decide (encE k M = 0 ∧ encS k M Y 0 = strE (M k) (Y k) ∧ encS k M Y 1 = strE (M (k + 1)) (Y (k + 1))) := by
      unfold chkB
      exact decide_eq_decide.2 ⟨fun h => h.2.2, fun h => ⟨hn, by have := (encE_zero.1 h.1).1.2; omega, h⟩⟩
    rw [hB]
    obtain ⟨b, o, rfl, hc⟩ := hT.cell (by omega)
    have HC : Hid (∀ x, Below w.heap.size w x → x.cell? ⟨b, o + k, none⟩ = some (.string (strE (M k) (Y k))) ∧ x.cell? ⟨b, o + (k + 1), none⟩ = some (.string (strE (M (k + 1)) (Y (k + 1))))) := fun x hx =>
      ⟨(hx.cell (p := ⟨b, o + k, none⟩) (cell_lt (hc k (by omega)))).trans (hc k (by omega)), (hx.cell (p := ⟨b, o + (k + 1), none⟩) (cell_lt (hc (k + 1) (by omega)))).trans (hc (k + 1) (by omega))⟩
    generalize strE (M k) (Y k) = s0 at HC ⊢
    generalize strE (M (k + 1)) (Y (k + 1)) = s1 at HC ⊢
    generalize encS k M Y 0 = p at henc ⊢
    generalize encS k M Y 1 = q at henc ⊢
    generalize encE k M = er at henc ⊢
    have kk : ((k + 2 : Nat) : Int) - 2 = (k : Int) := by omega
    have k1 : ¬ ((k : Int) < 1) := by omega
    have kca : (k : Int) ≤ (ca : Int) := by omega
    have hca' : k ≤ ca := by omega
    have q1 : (k : Int) < (k : Int) + 2 := by omega
    have q2 : (k : Int) + 1 < (k : Int) + 2 := by omega
    have q3 : IntKind.i64.wrap ((k : Int) + 1) = (k : Int) + 1 := by rw [IntKind.wrap_i64]; omega
    have q4 : ((k : Int) + 1).toNat = k + 1 := by omega
    have q5 : (0 : Int) ≤ (k : Int) + 1 := by omega
    have q6 : ¬ ((k : Int) + 1 < 0) := by omega
    have hbq := beqB q s1
    have hbp := beqB p s0
    clear hB hT hc hn
    by_cases h0 : er = 0
    · subst h0
      by_cases hp : p = s0
      · rw [decide_eq_true hp] at hbp
        by_cases hq : q = s1
        · rw [decide_eq_true hq] at hbq
          have HR : Hid (decide ((0 : Int) = 0 ∧ p = s0 ∧ q = s1) = true) := by show _ = true; simp [hp, hq]
          rw [HR.out]
          clear hp hq HR
          go_enter Try.func19, Try.ntmps19
          go_wp2_with fail
          go_at_call 11
          refine henc.mono ?_
          rintro e w2 ⟨hb2, rfl⟩
          obtain ⟨c0, c1⟩ := HC.out w2 hb2
          clear henc
          go_wp2_with fail
          go_ret
          exact ⟨hb2, rfl⟩
        · rw [decide_eq_false hq] at hbq
          have HR : Hid (decide ((0 : Int) = 0 ∧ p = s0 ∧ q = s1) = false) := by show _ = false; simp [hq]
          rw [HR.out]
          clear hp hq HR
          go_enter Try.func19, Try.ntmps19
          go_wp2_with fail
          go_at_call 11
          refine henc.mono ?_
          rintro e w2 ⟨hb2, rfl⟩
          obtain ⟨c0, c1⟩ := HC.out w2 hb2
          clear henc
          go_wp2_with fail
          go_ret
          exact ⟨hb2, rfl⟩
      · rw [decide_eq_false hp] at hbp
        have HR : Hid (decide ((0 : Int) = 0 ∧ p = s0 ∧ q = s1) = false) := by show _ = false; simp [hp]
        rw [HR.out]
        clear hp HR hbq
        go_enter Try.func19, Try.ntmps19
        go_wp2_with fail
        go_at_call 11
        refine henc.mono ?_
        rintro e w2 ⟨hb2, rfl⟩
        obtain ⟨c0, c1⟩ := HC.out w2 hb2
        clear henc
        go_wp2_with fail
        go_ret
        exact ⟨hb2, rfl⟩
    · have HR : Hid (decide (er = 0 ∧ p = s0 ∧ q = s1) = false) := by show _ = false; simp [h0]
      rw [HR.out]
      have t0 : (er == 0) = false := by simpa using h0
      clear h0 HR hbp hbq
      go_enter Try.func19, Try.ntmps19
      go_wp2_with fail
      go_at_call 11
      refine henc.mono ?_
      rintro e w2 ⟨hb2, rfl⟩
      obtain ⟨c0, c1⟩ := HC.out w2 hb2
      clear henc
      go_wp2_with fail
      go_ret
      exact ⟨hb2, rfl⟩
  · have hB : chkB n M Y = false := by
      unfold chkB
      exact decide_eq_false fun h => hn h.1
    rw [hB]
    have n9 : (n : Int) ≤ 9223372036854775807 := by omega
    have n1 : (n : Int) - 2 < 1 := by omega
    clear hB hT hn
    go_enter Try.func19, Try.ntmps19
    go_wp2_with fail
    go_ret
    exact ⟨Below.refl _ _, rfl⟩

section
variable {ops : Array Oper} {rest : List Oper} {o : Oper} {a : Act} {Q : Exit → Act → World → Prop}
/-- Two texts appended. -/
theorem push_strs_two (hgd : o.guard = none) (s x : Operand) (ho : o.op = .call { callee := .builtin .append, args := #[s, x], argTypes := #[22, 22] })
    (w0 : World) (base : Nat) (v : Value) (k : Nat) (f : Nat → ByteArray) (hA : w0.ownsRow base 9 1 v k (strsL k f)) (hs : a.eval s = v) (p q : ByteArray) (hp : p = f k) (hq : q = f (k + 1))
    (sz : Nat) (hx : a.eval x = .slice (some ⟨sz, 0, none⟩) 2 2) (hsz : sz = w0.heap.size) (hk : k < 1000000000) (hbase : base ≤ w0.heap.size)
    (h : ∀ v' w', w'.ownsRow base 9 1 v' (k + 2) (strsL (k + 2) f) → Below base w0 w' → wpList Try.prog ops Q rest (a.put o.dst v') w') :
    wpList Try.prog ops Q (o :: rest) a (w0.alloc (.cells #[.string p, .string q] 9 (0, 0))) := by
  subst hsz
  subst hp
  subst hq
  obtain ⟨i0, hi, hz0, hz1, hz2⟩ := info_parts Try.info9
  refine wpList_append_own _ hgd s x 22 ho base 9 i0 (.string ⟨#[]⟩) 1 16 Try.underlying22 hi hz0 hz1 hz2 rfl (by decide) v k _ hs (hA.alloc _) ⟨w0.heap.size, 0, none⟩ 2 2 [.string (f k), .string (f (k + 1))] hx rfl ?_ ?_ ?_ ?_ ?_ ?_
  · intro j u hu
    match j, hu with
    | 0, hu => simp at hu; subst hu; simp [Addr.add]
    | 1, hu => simp at hu; subst hu; simp [Addr.add]
  · intro u hu; simp at hu; rcases hu with rfl | rfl <;> rfl
  · unfold maxLen; omega
  · omega
  · simp; omega
  · intro v' w' hown hgrow _
    have hb0 : Below w0.heap.size w0 (w0.alloc (.cells #[.string (f k), .string (f (k + 1))] 9 (0, 0))) := (Below.refl _ _).alloc (Nat.le_refl _) _
    refine h v' w' (by rw [strsL_succ, strsL_succ, List.append_assoc]; exact hown) ?_
    exact (hb0.mono hbase).grown hgrow (by simp; omega) (fun g hg => (hA.lt g hg).1)
end
/-- A function on numbers with two values more. -/
def ext2 {α : Type} (f : Nat → α) (k : Nat) (p q : α) : Nat → α := fun i => if i = k then p else if i = k + 1 then q else f i
theorem ext2_lt {α : Type} {f : Nat → α} {k i : Nat} {p q : α} (h : i < k) : ext2 f k p q i = f i := by unfold ext2; rw [if_neg (by omega), if_neg (by omega)]
theorem ext2_k {α : Type} {f : Nat → α} {k : Nat} {p q : α} : ext2 f k p q k = p := if_pos rfl
theorem ext2_k1 {α : Type} {f : Nat → α} {k : Nat} {p q : α} : ext2 f k p q (k + 1) = q := by unfold ext2; rw [if_neg (by omega), if_pos rfl]

set_option maxHeartbeats 1000000 in
theorem checksLaw_arg (l : Option Addr) (len cap : Nat) (ev : Bool) (w : World) (hL : StrsArg w l len cap) :
    Calls Try.prog 6 #[.slice l len cap, .bool ev] w fun e w' => e = .returned (.bool true) ∧ Below w.heap.size w w' := by
  have hcut := cut_any l len cap 100 ev w hL (by decide)
  have HF : Hid (∀ (x : World) (a : Option Addr) (n c : Nat) (M : Nat → Nat) (Y : Mx), n ≤ c → c ≤ 9223372036854775807 → TxtAt x a n M Y → ∃ b : Bool, (Calls Try.prog 18 #[.slice a n c] x fun e w' => Below x.heap.size x w' ∧ e = .returned (.bool b)) ∧ ∀ y, Below x.heap.size x y → Calls Try.prog 19 #[.slice a n c] y fun e w' => Below y.heap.size y w' ∧ e = .returned (.bool b)) := fun x a n c M Y h1 h2 h3 =>
    ⟨chkB n M Y, check_any a n c M Y x h1 h2 h3, fun y hy => refCheck_any a n c M Y y h1 h2 (h3.below hy)⟩
  clear hL
  go_enter Try.func6, Try.ntmps6
  go_wp2_with fail
  go_at_call 9
  refine hcut.mono ?_
  rintro e w1 ⟨hb1, v, f, rfl, hC⟩
  have k12 : min len 12 ≤ 12 := by omega
  generalize min len 12 = k at hC k12 ⊢
  obtain ⟨a, c, rfl, hc1, hc2, hT⟩ := hC.txt (by decide)
  have href := refEncode_any a k c _ _ w1 (by unfold maxLen; omega) hT
  generalize hp : encS k (fun i => (f i).size) (fun i => teE (f i)) 0 = p at href
  generalize hq : encS k (fun i => (f i).size) (fun i => teE (f i)) 1 = q at href
  generalize her : encE k (fun i => (f i).size) = er at href
  have hz : er = 0 → p.size ≤ 65536 ∧ q.size ≤ 65536 := fun h => by
    have h0 : encE k (fun i => (f i).size) = 0 := by rw [her, h]
    rw [← hp, ← hq]
    unfold encS
    rw [if_pos h0, if_pos h0, strE_size, strE_size]
    exact ⟨(encE_zero.1 h0).2.2, (encE_zero.1 h0).2.2⟩
  clear hcut hp hq her
  have HC : Hid (CutTo w1 w.heap.size (.slice a k c) k 100 ev f) := hC
  have HT : Hid (TxtAt w1 a k (fun i => (f i).size) (fun i => teE (f i))) := hT
  clear hC hT
  go_wp2_with fail
  go_at_call 11
  refine href.mono ?_
  rintro e w2 ⟨hb2, rfl⟩
  have hb02 := hb1.trans (hb2.mono hb1.size)
  clear href
  cases ev with
  | false =>
    clear hz
    have hT2 := HT.out.below hb2
    have HT2 : Hid (TxtAt w2 a k (fun i => (f i).size) (fun i => teE (f i))) := hT2
    clear hT2
    go_wp2_with fail
    go_at_call 12
    refine (wakes_any _).mono ?_
    rintro e w4 ⟨rfl, hb4⟩
    have hb04 := hb02.trans (hb4.mono hb02.size)
    obtain ⟨bb, hchk, hrck⟩ := HF.out w4 _ _ _ _ _ hc1 hc2 (HT2.out.below hb4)
    clear HT2
    go_wp2_with fail
    go_at_call 18
    refine hchk.mono ?_
    rintro e w5 ⟨hb5, rfl⟩
    have hb05 := hb04.trans (hb5.mono hb04.size)
    have hrck5 := hrck w5 hb5
    clear hrck hchk
    go_wp2_with fail
    go_at_call 19
    refine hrck5.mono ?_
    rintro e w6 ⟨hb6, rfl⟩
    have hb06 := hb05.trans (hb6.mono hb05.size)
    clear hrck5
    go_wp2_with fail
    go_ret
    exact ⟨by simp, hb06⟩
  | true =>
    by_cases h0 : er = 0
    · subst h0
      obtain ⟨hpz, hqz⟩ := hz rfl
      have hown : w2.ownsRow w.heap.size 9 1 (.slice a k c) k (strsL k (ext2 f k p q)) := by
        rw [strsL_congr fun i hi => ext2_lt hi]; exact owns_below HC.out.1 hb2
      have hsz : ∀ i, i < k + 2 → (ext2 f k p q i).size ≤ 65536 := fun i hi => by
        by_cases h1 : i = k
        · subst h1; rw [ext2_k]; exact hpz
        · by_cases h2 : i = k + 1
          · subst h2; rw [ext2_k1]; exact hqz
          · rw [ext2_lt (by omega)]; have := HC.out.2.1 i (by omega); omega
      have HS : Hid (∀ i, i < k + 2 → (ext2 f k p q i).size ≤ 65536) := hsz
      clear hz hpz hqz hsz
      go_wp2_with (at_builtin; refine push_strs_two rfl _ _ rfl _ w.heap.size _ k (ext2 f k p q) hown rfl _ _ ext2_k.symm ext2_k1.symm _ rfl rfl (by omega) hb02.size ?_)
      intro v' w3 hown3 hb3
      obtain ⟨a3, c3, rfl, hc1, hc2, hT3⟩ := txt_of_strs hown3 HS.out
      have hb03 := hb02.trans hb3
      clear hown hown3 hb02 hb2
      have HT2 : Hid (TxtAt w3 a3 (k + 2) (fun i => (ext2 f k p q i).size) (fun i => teE (ext2 f k p q i))) := hT3
      clear hT3
      go_wp2_with fail
      go_at_call 12
      refine (wakes_any _).mono ?_
      rintro e w4 ⟨rfl, hb4⟩
      have hb04 := hb03.trans (hb4.mono hb03.size)
      obtain ⟨bb, hchk, hrck⟩ := HF.out w4 _ _ _ _ _ hc1 hc2 (HT2.out.below hb4)
      clear HT2
      go_wp2_with fail
      go_at_call 18
      refine hchk.mono ?_
      rintro e w5 ⟨hb5, rfl⟩
      have hb05 := hb04.trans (hb5.mono hb04.size)
      have hrck5 := hrck w5 hb5
      clear hrck hchk
      go_wp2_with fail
      go_at_call 19
      refine hrck5.mono ?_
      rintro e w6 ⟨hb6, rfl⟩
      have hb06 := hb05.trans (hb6.mono hb05.size)
      clear hrck5
      go_wp2_with fail
      go_ret
      exact ⟨by simp, hb06⟩
    · have t0 : (er == 0) = false := by simpa using h0
      clear hz h0
      have hT2 := HT.out.below hb2
      have HT2 : Hid (TxtAt w2 a k (fun i => (f i).size) (fun i => teE (f i))) := hT2
      clear hT2
      go_wp2_with fail
      go_at_call 12
      refine (wakes_any _).mono ?_
      rintro e w4 ⟨rfl, hb4⟩
      have hb04 := hb02.trans (hb4.mono hb02.size)
      obtain ⟨bb, hchk, hrck⟩ := HF.out w4 _ _ _ _ _ hc1 hc2 (HT2.out.below hb4)
      clear HT2
      go_wp2_with fail
      go_at_call 18
      refine hchk.mono ?_
      rintro e w5 ⟨hb5, rfl⟩
      have hb05 := hb04.trans (hb5.mono hb04.size)
      have hrck5 := hrck w5 hb5
      clear hrck hchk
      go_wp2_with fail
      go_at_call 19
      refine hrck5.mono ?_
      rintro e w6 ⟨hb6, rfl⟩
      have hb06 := hb05.trans (hb6.mono hb05.size)
      clear hrck5
      go_wp2_with fail
      go_ret
      exact ⟨by simp, hb06⟩
end Go.Proofs.Ytdpcbiccbhlonaa
/- A stripe made anew of as many chunks as it has data chunks: the program's own answer. -/
namespace Go.Proofs.Ytdpcbiccbhlonaa
open Go.RowKit Go.PlainAid
set_option linter.unusedVariables false

set_option maxHeartbeats 1000000 in
theorem apply_own (a l : Option Addr) (n k ca cl : Nat) (L M : Nat → Nat) (A Y : Mx) (w : World) (hn : n ≤ maxLen) (hA : MatAt w a n L A) (hcl : k ≤ cl) (hclm : cl ≤ 9223372036854775807) (hT : TxtAt w l k M Y)
    (gA : Gd n L) (hk : k = L 0) (hM : ∀ c, c < k → M c = M 0) (h5 : M 0 ≤ 65536) :
    Calls Try.prog 21 #[.slice a n ca, .slice l k cl] w fun e w' => Below w.heap.size w w' ∧ ∃ a', e = .returned (.tuple #[.slice a' n n, .int .i64 0]) ∧ w'.ownsRow w.heap.size 9 1 (.slice a' n n) n (strsL n fun r => strE (M 0) (mulM k A Y r)) := by
  obtain ⟨i0, hi, hz0, hz1, hz2⟩ := info_parts Try.info9
  have hg := good_any a n ca L A w hn hA true (good_yes gA)
  have hal := fun x (h : Below w.heap.size w x) => alike_any l k cl M Y x (by unfold maxLen; omega) (hT.below h) true ⟨fun _ => hM, fun _ => rfl⟩
  have hT0 : ∀ x, Below w.heap.size w x → Vals x l k (fun c => .string (strE (M 0) (Y c))) := fun x hx => by
    rcases (hT.below hx).1 with h0 | ⟨b, o, rfl, h⟩
    · exact .inl h0
    · exact .inr ⟨b, o, rfl, fun i hi => by show _ = some (Value.string (strE (M 0) (Y i))); rw [← hM i hi]; exact h i hi⟩
  obtain ⟨ba, oa, rfl, hR⟩ := rows_in hA gA
  rw [← hk] at hR
  have k1 : 1 ≤ k := by rw [hk]; exact gA.2.2.1
  have k16 : k ≤ 16 := by rw [hk]; exact gA.2.2.2.1
  have n1 : 1 ≤ n := gA.1
  have n16 : n ≤ 16 := gA.2.1
  obtain ⟨bl, ol, rfl, hcl0⟩ := hT.cell k1
  obtain ⟨m, hm⟩ : ∃ m, M 0 = m := ⟨_, rfl⟩
  rw [hm] at hT0 h5 ⊢
  have HC0 : Hid (∀ x, Below w.heap.size w x → ∃ s : ByteArray, s.size = m ∧ x.cell? ⟨bl, ol, none⟩ = some (.string s)) := fun x hx => by
    have h := hcl0 0 (by omega)
    rw [Nat.add_zero] at h
    exact ⟨_, by rw [strE_size, hm], (hx.cell (p := ⟨bl, ol, none⟩) (cell_lt h)).trans h⟩
  have HC : Hid (∀ x, Below w.heap.size w x → ∀ r, r < n → ∃ b' o' cr, x.cell? ⟨ba, oa + r, none⟩ = some (.slice (some ⟨b', o', none⟩) k cr) ∧ Calls Try.prog 39 #[.slice (some ⟨b', o', none⟩) k cr, .slice (some ⟨bl, ol, none⟩) k cl] x fun e w' => e = .returned (.string (rowTxt m (A r) Y k)) ∧ Below x.heap.size x w') := fun x hx r hr => by
    obtain ⟨b', o', cr, e1, f1⟩ := hR x hx r hr
    exact ⟨b', o', cr, e1, combine_any _ _ k cr cl m (A r) Y x k1 k16 hcl hclm h5 (.inr ⟨b', o', rfl, f1⟩) (hT0 x hx)⟩
  have n0 : (0 : Int) < (n : Int) := by omega
  have n0' : 0 < n := by omega
  have k0 : (0 : Int) < (k : Int) := by omega
  have k0' : 0 < k := by omega
  have t0 : ((k : Int) != (k : Int)) = false := by simp
  clear hR gA hk hM hm hcl0 hT0 hn hA hT
  go_enter Try.func21, Try.ntmps21
  go_wp2_with fail
  go_at_call 37
  refine hg.mono ?_
  rintro e w1 ⟨rfl, hb1⟩
  obtain ⟨b', o', cr, e1, -⟩ := HC.out w1 hb1 0 n0'
  rw [Nat.add_zero] at e1
  have hal1 := hal w1 hb1
  clear hal hg
  go_wp2_with fail
  go_at_call 38
  refine hal1.mono ?_
  rintro e w2 ⟨rfl, hb2⟩
  have hb02 := hb1.trans (hb2.mono hb1.size)
  obtain ⟨s0, hs0, e2⟩ := HC0.out w2 hb02
  have hs5 : ¬ (65536 : Int) < (m : Int) := by omega
  clear hal1 e1 hb1 hb2
  go_wp2_with (at_make; refine wpList_make_full _ rfl _ _ 22 rfl w2.heap.size 9 i0 (.string ⟨#[]⟩) 1 Try.underlying22 hi hz0 hz1 _ _ _ _ n rfl rfl ?c0 ?c1 ?c2 ?c3 ?c4 ?_)
  case c0 => rfl
  case c1 => rfl
  case c2 => rw [hz2]; omega
  case c3 => unfold maxLen; omega
  case c4 => exact Nat.le_refl _
  intro w3 hown hgrow
  have hbel : Below w2.heap.size w2 w3 := (Below.refl _ _).grown hgrow (Nat.le_refl _) (fun k h => by cases h)
  rw [toList_madeCells_one, ← filled_zero n (fun r => .string (rowTxt m (A r) Y k))] at hown
  clear e2 hs0
  go_wp2_with fail
  go_loopw [34] (fun i wr => ∃ r : Nat, r ≤ n ∧ i = .int .i64 r ∧ Below w2.heap.size w2 wr ∧ wr.ownsRow w2.heap.size 9 1 (.slice (some ⟨w2.heap.size, 0, none⟩) n n) n (filled n r (fun r => .string (rowTxt m (A r) Y k)) (.string ⟨#[]⟩))) (fun i _ => (n : Nat) - (intOf i).toNat)
  case atStart => exact ⟨0, Nat.zero_le _, rfl, hbel, hown⟩
  case round =>
    obtain ⟨r, hr, rfl, hbr, hor⟩ := hrel
    by_cases hlt : r < n
    · obtain ⟨b', o', cr, e1, hcomb⟩ := HC.out wr (hb02.trans (hbr.mono hb02.size)) r hlt
      go_wp2_with fail
      go_at_call 39
      refine hcomb.mono ?_
      rintro e w4 ⟨rfl, hb4⟩
      have ho4 := owns_below hor hb4
      obtain ⟨v0, hcell⟩ : ∃ v0, w4.cell? ⟨w2.heap.size, r, none⟩ = some v0 := by
        rw [ho4.cellAt r (by omega)]; exact ⟨_, List.getElem?_eq_getElem (by simp [filled]; exact hlt)⟩
      have hfr := ho4.frozenAt r
      have hst := (ho4.stored r (.string (rowTxt m (A r) Y k))).1
      rw [filled_set n r (fun r => .string (rowTxt m (A r) Y k)) _ hlt] at hst
      have hb5 := hbr.trans (hb4.mono hbr.size)
      have rn : (r : Int) < (n : Int) := by omega
      clear hcomb e1 ho4
      go_wp2_with fail
      go_roundw
      case rel => exact ⟨r + 1, by omega, by go_num, hb5.setCell (Nat.le_refl _) _, hst⟩
      case measure => simp [intOf]; omega
    · have hrn : r = n := by omega
      subst hrn
      go_wp2_with fail
      go_ret2
      rw [filled_full] at hor
      exact ⟨hb02.trans (hbr.mono hb02.size), _, rfl, owns_mono hor hb02.size⟩

set_option maxHeartbeats 1000000 in
theorem rebuild_any (a b : Option Addr) (k ca cb m : Nat) (T : Nat → Bool) (Y : Mx) (w : World) (k1 : 1 ≤ k) (k8 : k ≤ 8) (hca : k ≤ ca) (hcm : ca ≤ 9223372036854775807) (hm : m ≤ 65536) (hT : k ≤ cnt T (k + 2))
    (hA : TxtAt w a k (fun _ => m) (fun r => Y (kidx T (k + 2) r))) (hB : MatAt w b k (fun _ => k) (fun r => stM k (kidx T (k + 2) r))) :
    Calls Try.prog 33 #[.slice a k ca, .slice b k cb] w fun e w' => Below w.heap.size w w' ∧ ∃ v D, e = .returned v ∧ Fits k T m Y D ∧ w'.ownsRow w.heap.size 9 1 v (k + 2) (strsL (k + 2) fun i => strE m (St k D i)) := by
  have hinv := invert_any b k cb (fun _ => k) (fun r => stM k (kidx T (k + 2) r)) w (by unfold maxLen; omega) hB
  have gd : Gd k (fun _ => k) := ⟨k1, by omega, k1, by show k ≤ 16; omega, fun _ _ => rfl⟩
  have hap := fun x a' U (hx : Below w.heap.size w x) (hM : MatAt x a' k (fun _ => k) (rightM k U)) => apply_own a' a k k k ca (fun _ => k) (fun _ => m) (rightM k U) (fun r => Y (kidx T (k + 2) r)) x (by unfold maxLen; omega) hM hca hcm (hA.below hx) gd rfl (fun _ _ => rfl) hm
  have HX : Hid (∀ c U, c < k → Reach k (2 * k) (wideM k fun r => stM k (kidx T (k + 2) r)) U → (∀ r, r < k → ∀ j, j < c → U r j = idM r j) → (∀ r, c ≤ r → r < k → U r c = 0) → False) := fun c U hc hR hu hz => by
    obtain ⟨v, hv, hk⟩ := reach_kernel hR (by omega) hc hu hz
    have := kept_kernel (by omega) hT (v := v) (fun r hr => by
      rw [← hk r hr]
      exact S_congr fun j hj => by simp only [wideM, if_pos hj]) c hc
    rw [hv] at this
    exact E.one_ne this
  have HD : Hid (∀ U, Reach k (2 * k) (wideM k fun r => stM k (kidx T (k + 2) r)) U → (∀ r, r < k → ∀ j, j < k → U r j = idM r j) → Fits k T m Y (mulM k (rightM k U) fun r c => Y (kidx T (k + 2) r) c)) := fun U hR hu => kept_fits (reach_done hR hu).2
  have HG : Hid (Gd k (fun _ => k)) := gd
  clear hA hB gd hT
  go_enter Try.func33, Try.ntmps33
  go_wp2_with fail
  go_at_call 46
  refine hinv.mono ?_
  rintro e w1 ⟨hb1, ⟨hno, -⟩ | ⟨-, hno, -⟩ | ⟨-, -, -, c, U, hc, hR, hu, hz⟩ | ⟨-, -, a', U, rfl, hM, hR, hu⟩⟩
  · exact absurd HG.out hno
  · exact absurd rfl hno
  · exact (HX.out c U hc hR hu hz).elim
  have HF : Hid (Fits k T m Y (mulM k (rightM k U) fun r c => Y (kidx T (k + 2) r) c)) := HD.out U hR hu
  have hap1 := hap w1 a' U hb1 hM
  clear hinv hap hR hu hM
  generalize (mulM k (rightM k U) fun r c => Y (kidx T (k + 2) r) c) = D at hap1 HF
  go_wp2_with fail
  go_at_call 21
  refine hap1.mono ?_
  rintro e w2 ⟨hb2, a2, rfl, hown⟩
  have hb02 := hb1.trans (hb2.mono hb1.size)
  have hT2 : TxtAt w2 a2 k (fun _ => m) D := by
    obtain ⟨x, y, e, h1, h2, h3⟩ := txt_of_owns hown hm
    cases e; exact h3
  have henc := encode_any a2 k k (fun _ => m) D w2 (Nat.le_refl _) (by omega) hT2
  have hz : encE k (fun _ => m) = 0 := encE_zero.2 ⟨⟨k1, k8⟩, fun _ _ => rfl, hm⟩
  have hs0 : encS k (fun _ => m) D 0 = strE m (St k D k) := by
    unfold encS; rw [if_pos hz]
    exact strE_congr fun c hc => (St_parity k 0 D c).symm
  have hs1 : encS k (fun _ => m) D 1 = strE m (St k D (k + 1)) := by
    unfold encS; rw [if_pos hz]
    exact strE_congr fun c hc => (St_parity k 1 D c).symm
  rw [hz, hs0, hs1] at henc
  have hown' : w2.ownsRow w1.heap.size 9 1 (.slice a2 k k) k (strsL k fun i => strE m (St k D i)) := by
    have : (strsL k fun i => strE m (St k D i)) = strsL k fun r => strE m (D r) := strsL_congr fun i hi => strE_congr fun c hc => St_data hi D c
    rw [this]; exact hown
  have hown'' := owns_mono hown' hb1.size
  clear hap1 hown hown' hz hs0 hs1 hT2
  have HP : Hid (strE m (St k D k) = (fun i => strE m (St k D i)) k ∧ strE m (St k D (k + 1)) = (fun i => strE m (St k D i)) (k + 1)) := ⟨rfl, rfl⟩
  generalize strE m (St k D k) = p at henc HP
  generalize strE m (St k D (k + 1)) = q at henc HP
  go_wp2_with fail
  go_at_call 10
  refine henc.mono ?_
  rintro e w3 ⟨hb3, rfl⟩
  have hb03 := hb02.trans (hb3.mono hb02.size)
  have hown3 := owns_below hown'' hb3
  clear henc hown''
  go_wp2_with (at_builtin; refine push_strs_two rfl _ _ rfl _ w.heap.size _ k (fun i => strE m (St k D i)) hown3 rfl _ _ HP.out.1 HP.out.2 _ rfl rfl (by omega) hb03.size ?_)
  intro v' w4 hown4 hb4
  go_wp2_with fail
  go_ret
  exact ⟨hb03.trans hb4, _, D, rfl, HF.out, hown4⟩
end Go.Proofs.Ytdpcbiccbhlonaa
/- All chunks, of those that are there: the program's own answer. -/
namespace Go.Proofs.Ytdpcbiccbhlonaa
open Go.RowKit Go.PlainAid
set_option linter.unusedVariables false

theorem MatAt.cut {w : World} {a : Option Addr} {n k : Nat} {L : Nat → Nat} {X : Mx} (h : MatAt w a n L X) (hk : k ≤ n) : MatAt w a k L X := by
  obtain ⟨AR, CR, h1, h2⟩ := h
  refine ⟨AR, CR, ?_, fun r hr => h2 r (by omega)⟩
  rcases h1 with h0 | ⟨b, o, e, h⟩
  · exact .inl (by omega)
  · exact .inr ⟨b, o, e, fun i hi => h i (by omega)⟩
theorem keptMat_any (a b : Option Addr) (n ca cb k : Nat) (X : Mx) (T : Nat → Bool) (w : World) (hn : n ≤ 1000) (ha : MatAt w a n (fun _ => k) X) (hb : Vals w b n fun i => .bool (T i)) :
    Calls Try.prog 34 #[.slice a n ca, .slice b n cb] w fun e w' => Below w.heap.size w w' ∧ ∃ a' c', e = .returned (.slice a' (cnt T n) c') ∧ cnt T n ≤ c' ∧ c' ≤ 9223372036854775807 ∧ MatAt w' a' (cnt T n) (fun _ => k) (fun r => X (kidx T n r)) := by
  obtain ⟨AR, CR, h1, h2⟩ := ha
  refine (keptRow_any a b n ca cb AR (fun _ => k) CR T w hn h1 hb).mono ?_
  rintro e w' ⟨hbel, v, rfl, hown⟩
  obtain ⟨a', c', rfl, -, hv⟩ := owns_form hown _ (fun i hi => valsL_at _ _ i hi)
  refine ⟨hbel, a', c', rfl, ?_, ?_, fun r => AR (kidx T n r), fun r => CR (kidx T n r), hv, fun r hr => ?_⟩
  · rcases hown.2 with ⟨h0, h3⟩ | ⟨g, cap, cur, e, _, _, h3, _⟩
    · omega
    · cases e; exact h3
  · rcases hown.2 with ⟨h0, h3⟩ | ⟨g, cap, cur, e, _, _, _, h3, _⟩
    · injection h0 with _ _ h4; omega
    · cases e; unfold maxLen at h3; omega
  · have hs := kidx_spec T hr
    exact ⟨(h2 _ hs.1).1, (h2 _ hs.1).2.below hbel (Nat.le_refl _)⟩

/-- What Decode answers. -/
def DecPost (n nb : Nat) (T : Nat → Bool) (M : Nat → Nat) (Y : Mx) (v : Value) (er : Int) (w' : World) (base : Nat) : Prop :=
  (¬ (3 ≤ n ∧ n ≤ 10 ∧ nb = n) ∧ v = .slice none 0 0 ∧ er = 2) ∨
  ((3 ≤ n ∧ n ≤ 10 ∧ nb = n) ∧ cnt T n < n - 2 ∧ v = .slice none 0 0 ∧ er = 24) ∨
  ((3 ≤ n ∧ n ≤ 10 ∧ nb = n) ∧ n - 2 ≤ cnt T n ∧ meaE (cnt T n) (fun r => M (kidx T n r)) ≠ 0 ∧ v = .slice none 0 0 ∧ er = meaE (cnt T n) (fun r => M (kidx T n r))) ∨
  ((3 ≤ n ∧ n ≤ 10 ∧ nb = n) ∧ n - 2 ≤ cnt T n ∧ meaE (cnt T n) (fun r => M (kidx T n r)) = 0 ∧ er = 0 ∧ ∃ D, Fits (n - 2) T (M (kidx T n 0)) Y D ∧ w'.ownsRow base 9 1 v n (strsL n fun i => strE (M (kidx T n 0)) (St (n - 2) D i)))

set_option maxHeartbeats 2000000 in
theorem decode_ok (a b : Option Addr) (k ca cb : Nat) (M : Nat → Nat) (Y : Mx) (T : Nat → Bool) (w : World) (k1 : 1 ≤ k) (k8 : k ≤ 8) (hT : TxtAt w a (k + 2) M Y) (hB : Vals w b (k + 2) fun i => .bool (T i)) :
    Calls Try.prog 15 #[.slice a (k + 2) ca, .slice b (k + 2) cb] w fun e w' => Below w.heap.size w w' ∧ ∃ v er, e = .returned (.tuple #[v, .int .i64 er]) ∧ DecPost (k + 2) (k + 2) T M Y v er w' w.heap.size := by
  have hin := fun x => inData_any (k : Int) true ⟨fun _ => by omega, fun _ => rfl⟩ x
  have hks := keptStr_any a b (k + 2) ca cb (fun i => strE (M i) (Y i)) T w (by omega) hT.1 hB
  have hst := fun x => stripeRows_any k k1 k8 x
  have HB : Hid (∀ x, Below w.heap.size w x → Vals x b (k + 2) fun i => .bool (T i)) := fun x hx => hB.below hx (Nat.le_refl _)
  have hcl := cnt_le T (k + 2)
  have HS : Hid (∀ r, r < cnt T (k + 2) → M (kidx T (k + 2) r) ≤ 9223372036854775807) := fun r hr => hT.2 _ (kidx_spec T hr).1
  obtain ⟨q, hq⟩ : ∃ q, cnt T (k + 2) = q := ⟨_, rfl⟩
  have HQ : Hid (cnt T (k + 2) = q) := hq
  rw [hq] at hks hcl
  have kk : ((k + 2 : Nat) : Int) - 2 = (k : Int) := by omega
  have t0 : (((k + 2 : Nat) : Int) != ((k + 2 : Nat) : Int)) = false := by simp
  have t1 : (((k : Int) + 2) != ((k : Int) + 2)) = false := by simp
  have HN : Hid (3 ≤ k + 2 ∧ k + 2 ≤ 10) := ⟨by omega, by omega⟩
  clear hT hB hq
  by_cases hlost : q < k
  · have hl : (q : Int) < (k : Int) := by omega
    go_enter Try.func15, Try.ntmps15
    go_wp2_with fail
    go_at_call 20
    refine (hin _).mono ?_
    rintro e w' ⟨rfl, rfl⟩
    go_wp2_with fail
    go_at_call 32
    refine hks.mono ?_
    rintro e w1 ⟨hb1, v, rfl, hown⟩
    obtain ⟨a1, c1, rfl, -, -⟩ := owns_form hown _ (fun i hi => strsL_at _ _ i hi)
    clear hks hown
    go_wp2_with fail
    go_ret2
    exact ⟨hb1, _, _, rfl, .inr (.inl ⟨⟨HN.out.1, HN.out.2, rfl⟩, by rw [HQ.out]; omega, rfl, rfl⟩)⟩
  · have hl : ¬ (q : Int) < (k : Int) := by omega
    have hkq : (k : Int) ≤ (q : Int) := by omega
    go_enter Try.func15, Try.ntmps15
    go_wp2_with fail
    go_at_call 20
    refine (hin _).mono ?_
    rintro e w' ⟨rfl, rfl⟩
    go_wp2_with fail
    go_at_call 32
    refine hks.mono ?_
    rintro e w1 ⟨hb1, v, rfl, hown⟩
    have hT1 : ∃ a1 c1, v = .slice a1 q c1 ∧ q ≤ c1 ∧ c1 ≤ 9223372036854775807 ∧ TxtAt w1 a1 q (fun r => M (kidx T (k + 2) r)) (fun r => Y (kidx T (k + 2) r)) := by
      obtain ⟨a1, c1, rfl, -, hv⟩ := owns_form hown _ (fun i hi => strsL_at _ _ i hi)
      refine ⟨a1, c1, rfl, ?_, ?_, hv, fun r hr => HS.out r (by rw [HQ.out]; exact hr)⟩
      · rcases hown.2 with ⟨h0, h3⟩ | ⟨g, cap, cur, e, _, _, h3, _⟩
        · omega
        · cases e; exact h3
      · rcases hown.2 with ⟨h0, h3⟩ | ⟨g, cap, cur, e, _, _, _, h3, _⟩
        · injection h0 with _ _ h4; omega
        · cases e; unfold maxLen at h3; omega
    obtain ⟨a1, c1, rfl, hc1, hc2, hT1⟩ := hT1
    have hmea := measure_any a1 q c1 _ _ w1 (by omega) (by unfold maxLen; omega) hT1
    have HT1 : Hid (TxtAt w1 a1 q (fun r => M (kidx T (k + 2) r)) (fun r => Y (kidx T (k + 2) r))) := hT1
    obtain ⟨er, her⟩ : ∃ er, meaE q (fun r => M (kidx T (k + 2) r)) = er := ⟨_, rfl⟩
    have HER : Hid (meaE q (fun r => M (kidx T (k + 2) r)) = er) := her
    rw [her] at hmea
    clear hks hown hT1 her
    by_cases h0 : er = 0
    · subst h0
      obtain ⟨hall, h5⟩ := mea_zero.1 HER.out
      obtain ⟨m, hm⟩ : ∃ m, M (kidx T (k + 2) 0) = m := ⟨_, rfl⟩
      have HM : Hid (M (kidx T (k + 2) 0) = m) := hm
      have hTk : TxtAt w1 a1 k (fun _ => m) (fun r => Y (kidx T (k + 2) r)) := by
        refine ⟨?_, fun c hc => by show m ≤ _; have : M (kidx T (k + 2) 0) ≤ 65536 := h5; omega⟩
        rcases HT1.out.1 with h0 | ⟨x, y, e, h⟩
        · omega
        · refine .inr ⟨x, y, e, fun i hi => ?_⟩
          have e1 : M (kidx T (k + 2) i) = m := by rw [← hm]; exact hall i (by omega)
          show _ = some (Value.string (strE m (Y (kidx T (k + 2) i))))
          rw [← e1]
          exact h i (by omega)
      have HTK : Hid (∀ x, Below w1.heap.size w1 x → TxtAt x a1 k (fun _ => m) (fun r => Y (kidx T (k + 2) r))) := fun x hx => hTk.below hx
      have hm5 : m ≤ 65536 := by have : M (kidx T (k + 2) 0) ≤ 65536 := h5; omega
      have kc1 : (k : Int) ≤ (c1 : Int) := by omega
      have kc1' : k ≤ c1 := by omega
      have hqT : k ≤ cnt T (k + 2) := by rw [HQ.out]; omega
      have hreb := fun x a6 c6 (hx : Below w1.heap.size w1 x) hM => rebuild_any a1 a6 k c1 c6 m T Y x k1 k8 kc1' hc2 hm5 hqT (HTK.out x hx) hM
      have HREB : Hid (∀ (x : World) (a6 : Option Addr) (c6 : Nat), Below w1.heap.size w1 x → MatAt x a6 k (fun _ => k) (fun r => stM k (kidx T (k + 2) r)) → Calls Try.prog 33 #[.slice a1 k c1, .slice a6 k c6] x fun e w' => Below x.heap.size x w' ∧ ∃ v D, e = .returned v ∧ Fits k T m Y D ∧ w'.ownsRow x.heap.size 9 1 v (k + 2) (strsL (k + 2) fun i => strE m (St k D i))) := hreb
      clear hall h5 hTk hm hreb hqT
      go_wp2_with fail
      go_at_call 25
      refine hmea.mono ?_
      rintro e w2 ⟨hb2, rfl⟩
      have hd2 : Below w1.heap.size w1 w2.drew := hb2.drew
      clear hmea
      go_wp2_with fail
      go_region_held3 (fun _ => True) (first | trivial) (first | (go_at_call 35; refine (hst _).mono ?_; rintro e w3 ⟨hb3, a3, c3, rfl, hM3⟩; have hx3 : Below w1.heap.size w1 w3 := hd2.trans (hb3.mono hd2.size)) | (go_at_call 34; refine (keptMat_any _ _ (k + 2) _ _ k (stM k) T w3 (by omega) hM3 (HB.out w3 (hb1.trans (hx3.mono hb1.size)))).mono ?_; rw [HQ.out]; rintro e w4 ⟨hb4, a4, c4, rfl, hc41, hc42, hM4⟩; have hx4 : Below w1.heap.size w1 w4 := hx3.trans (hb4.mono hx3.size); have kc4 : (k : Int) ≤ (c4 : Int) := by omega) | (go_at_call 33; refine (HREB.out w4 _ _ hx4 (hM4.cut (by omega))).mono ?_; rintro e w5 ⟨hb5, v5, D, rfl, hF, hown5⟩))
      have hx5 : Below w1.heap.size w1 w5 := hx4.trans (hb5.mono hx4.size)
      have hb05 := hb1.trans (hx5.mono hb1.size)
      have hs4 := Nat.le_trans hb1.size hx4.size
      clear hb5 hb4 hb3 hM3 hM4
      go_wp2_with fail
      go_ret2
      refine ⟨hb05, _, _, rfl, .inr (.inr (.inr ⟨⟨HN.out.1, HN.out.2, rfl⟩, by rw [HQ.out]; omega, by rw [HQ.out]; exact HER.out, rfl, D, ?_, ?_⟩))⟩
      · rw [HM.out]; exact hF
      · rw [HM.out]; exact owns_mono hown5 hs4
    · have t2 : (er != 0) = true := by simpa using h0
      have HE0 : Hid (er ≠ 0) := h0
      clear h0
      go_wp2_with fail
      go_at_call 25
      refine hmea.mono ?_
      rintro e w2 ⟨hb2, rfl⟩
      have hb02 := hb1.trans (hb2.mono hb1.size)
      clear hmea
      go_wp2_with fail
      go_ret2
      exact ⟨hb02, _, _, rfl, .inr (.inr (.inl ⟨⟨HN.out.1, HN.out.2, rfl⟩, by rw [HQ.out]; omega, by rw [HQ.out, HER.out]; exact HE0.out, rfl, by rw [HQ.out, HER.out]⟩))⟩

set_option maxHeartbeats 1000000 in
theorem decode_any (a b : Option Addr) (n nb ca cb : Nat) (M : Nat → Nat) (Y : Mx) (T : Nat → Bool) (w : World) (hnm : n ≤ 9223372036854775807) (hbm : nb ≤ 9223372036854775807) (hT : TxtAt w a n M Y) (hB : Vals w b nb fun i => .bool (T i)) :
    Calls Try.prog 15 #[.slice a n ca, .slice b nb cb] w fun e w' => Below w.heap.size w w' ∧ ∃ v er, e = .returned (.tuple #[v, .int .i64 er]) ∧ DecPost n nb T M Y v er w' w.heap.size := by
  by_cases hn : 3 ≤ n ∧ n ≤ 10
  · by_cases hnb : nb = n
    · obtain ⟨k, rfl⟩ : ∃ k, n = k + 2 := ⟨n - 2, by omega⟩
      subst hnb
      exact decode_ok a b k ca cb M Y T w (by omega) (by omega) hT hB
    · have hin := fun x => inData_any ((n : Int) - 2) true ⟨fun _ => by omega, fun _ => rfl⟩ x
      have t0 : ((nb : Int) != (n : Int)) = true := by simp; omega
      have HN : Hid (¬ (3 ≤ n ∧ n ≤ 10 ∧ nb = n)) := fun h => hnb h.2.2
      clear hT hB hn hnb
      go_enter Try.func15, Try.ntmps15
      go_wp2_with fail
      go_at_call 20
      refine (hin _).mono ?_
      rintro e w' ⟨rfl, rfl⟩
      go_wp2_with fail
      go_ret2
      exact ⟨Below.refl _ _, _, _, rfl, .inl ⟨HN.out, rfl, rfl⟩⟩
  · have hin := fun x => inData_any ((n : Int) - 2) false ⟨fun h => Bool.noConfusion h, fun h => absurd (by omega) hn⟩ x
    have HN : Hid (¬ (3 ≤ n ∧ n ≤ 10 ∧ nb = n)) := fun h => hn ⟨h.1, h.2.1⟩
    clear hT hB hn
    go_enter Try.func15, Try.ntmps15
    go_wp2_with fail
    go_at_call 20
    refine (hin _).mono ?_
    rintro e w' ⟨rfl, rfl⟩
    go_wp2_with fail
    go_ret2
    exact ⟨Below.refl _ _, _, _, rfl, .inl ⟨HN.out, rfl, rfl⟩⟩
end Go.Proofs.Ytdpcbiccbhlonaa
/- A stripe's own chunks are told back; two lists of the same texts are equal. -/
namespace Go.Proofs.Ytdpcbiccbhlonaa
open Go.RowKit Go.PlainAid
set_option linter.unusedVariables false

theorem decode_back (a b : Option Addr) (k m ca cb : Nat) (M : Nat → Nat) (Y D : Mx) (T : Nat → Bool) (w : World) (k1 : 1 ≤ k) (k8 : k ≤ 8) (hm : m ≤ 65536) (hT : TxtAt w a (k + 2) M Y) (hB : Vals w b (k + 2) fun i => .bool (T i))
    (hcnt : k ≤ cnt T (k + 2)) (hfit : ∀ i, i < k + 2 → T i = true → M i = m ∧ ∀ c, c < m → Y i c = St k D i c) :
    Calls Try.prog 15 #[.slice a (k + 2) ca, .slice b (k + 2) cb] w fun e w' => Below w.heap.size w w' ∧ ∃ v, e = .returned (.tuple #[v, .int .i64 0]) ∧ w'.ownsRow w.heap.size 9 1 v (k + 2) (strsL (k + 2) fun i => strE m (St k D i)) := by
  have hM : ∀ r, r < cnt T (k + 2) → M (kidx T (k + 2) r) = m := fun r hr => by
    have hs := kidx_spec T hr
    exact (hfit _ hs.1 hs.2.1).1
  have hz : meaE (cnt T (k + 2)) (fun r => M (kidx T (k + 2) r)) = 0 := by
    refine mea_zero.2 ⟨fun c hc => ?_, ?_⟩
    · show M _ = M _; rw [hM c hc, hM 0 (by omega)]
    · show M _ ≤ _; rw [hM 0 (by omega)]; exact hm
  refine (decode_any a b (k + 2) (k + 2) ca cb M Y T w (by omega) (by omega) hT hB).mono ?_
  rintro e w' ⟨hb, v, er, rfl, ⟨hno, -, -⟩ | ⟨-, hno, -, -⟩ | ⟨-, -, hno, -, -⟩ | ⟨-, -, -, rfl, D', hF, hown⟩⟩
  · exact absurd ⟨by omega, by omega, rfl⟩ hno
  · omega
  · exact absurd hz hno
  · refine ⟨hb, v, rfl, ?_⟩
    rw [hM 0 (by omega), Nat.add_sub_cancel] at hown
    rw [hM 0 (by omega), Nat.add_sub_cancel] at hF
    have hF' : Fits k T m Y D := fun i hi hu c hc => by
      have hu' : T i = true ∧ cnt T i < k := by simpa [used] using hu
      exact ((hfit i hi hu'.1).2 c hc).symm
    have e : (strsL (k + 2) fun i => strE m (St k D i)) = strsL (k + 2) fun i => strE m (St k D' i) := strsL_congr fun i hi => strE_congr fun c hc => fits_all (by omega) hcnt hF' hF i c hc
    rw [e]
    exact hown
theorem decode_lost (a b : Option Addr) (k ca cb : Nat) (M : Nat → Nat) (Y : Mx) (T : Nat → Bool) (w : World) (k1 : 1 ≤ k) (k8 : k ≤ 8) (hT : TxtAt w a (k + 2) M Y) (hB : Vals w b (k + 2) fun i => .bool (T i)) (hcnt : cnt T (k + 2) < k) :
    Calls Try.prog 15 #[.slice a (k + 2) ca, .slice b (k + 2) cb] w fun e w' => Below w.heap.size w w' ∧ e = .returned (.tuple #[.slice none 0 0, .int .i64 24]) := by
  refine (decode_any a b (k + 2) (k + 2) ca cb M Y T w (by omega) (by omega) hT hB).mono ?_
  rintro e w' ⟨hb, v, er, rfl, ⟨hno, -, -⟩ | ⟨-, -, rfl, rfl⟩ | ⟨-, hno, -, -, -⟩ | ⟨-, hno, -, -, -⟩⟩
  · exact absurd ⟨by omega, by omega, rfl⟩ hno
  · exact ⟨hb, rfl⟩
  · omega
  · omega

set_option maxHeartbeats 1000000 in
theorem equal_yes (a b : Option Addr) (n ca cb : Nat) (F : Nat → ByteArray) (w : World) (hn : n ≤ 1000) (ha : Vals w a n fun i => .string (F i)) (hb : Vals w b n fun i => .string (F i)) :
    Calls Try.prog 17 #[.slice a n ca, .slice b n cb] w fun e w' => e = .returned (.bool true) ∧ Below w.heap.size w w' := by
  have HA := ha.at
  have HB := hb.at
  have t0 : ((n : Int) != (n : Int)) = false := by simp
  clear ha hb
  go_enter Try.func17, Try.ntmps17
  go_wp2_with fail
  go_loopw [13] (fun i wr => ∃ k : Nat, k ≤ n ∧ i = .int .i64 k ∧ Below w.heap.size w wr) (fun i _ => (n : Nat) - (intOf i).toNat)
  case atStart => exact ⟨0, Nat.zero_le _, rfl, Below.refl _ _⟩
  case round =>
    obtain ⟨k, hk, rfl, hbk⟩ := hrel
    by_cases hlt : k < n
    · obtain ⟨b1, o1, rfl, e1⟩ := HA.out wr hbk k hlt
      obtain ⟨b2, o2, rfl, e2⟩ := HB.out wr hbk k hlt
      have kn : (k : Int) < (n : Int) := by omega
      generalize F k = s at e1 e2
      go_wp2_with fail
      go_quiet (fail)
      go_wp2_with fail
      go_roundw
      case rel => exact ⟨k + 1, by omega, by go_num, below_drewN hbk _⟩
      case measure => simp [intOf]; omega
    · have hkn : n = k := by omega
      subst hkn
      go_wp2_with fail
      go_ret
      exact ⟨rfl, hbk⟩
end Go.Proofs.Ytdpcbiccbhlonaa
/- All chunks, of those that are there: the document's answer. -/
namespace Go.Proofs.Ytdpcbiccbhlonaa
open Go.RowKit Go.PlainAid
set_option linter.unusedVariables false

theorem Try.info4 : (Try.prog.info? 4).map (fun i => (i.zero, i.size, i.bytes)) = some (some (.bool false), 1, 1) := by kernel_rfl
/-- What is used, as far as was looked. -/
def usedTo (T : Nat → Bool) (k i j : Nat) : Bool := decide (j < i) && used T k j
theorem usedTo_next {T : Nat → Bool} {k i : Nat} (hT : T i = true) : (fun j => if j = i then decide (cnt T i < k) else usedTo T k i j) = usedTo T k (i + 1) := by
  funext j
  by_cases h : j = i
  · subst h; simp [usedTo, used, hT]
  · simp only [if_neg h, usedTo]
    by_cases e : j < i
    · simp [e, show j < i + 1 by omega]
    · simp [e, show ¬ j < i + 1 by omega]
theorem usedTo_same {T : Nat → Bool} {k i : Nat} (hT : T i = false) : usedTo T k (i + 1) = usedTo T k i := by
  funext j
  by_cases h : j = i
  · subst h; simp [usedTo, used, hT]
  · simp only [usedTo]
    by_cases e : j < i
    · simp [e, show j < i + 1 by omega]
    · simp [e, show ¬ j < i + 1 by omega]

section
variable {ops : Array Oper} {rest : List Oper} {o : Oper} {a : Act} {Q : Exit → Act → World → Prop}
/-- A text appended, rows of other kinds staying as they are. -/
theorem push_str_keep (hgd : o.guard = none) (s x : Operand) (ho : o.op = .call { callee := .builtin .append, args := #[s, x], argTypes := #[22, 22] })
    (w0 : World) (base : Nat) (v : Value) (k : Nat) (f : Nat → ByteArray) (hA : w0.ownsRow base 9 1 v k (strsL k f)) (hs : a.eval s = v) (b : Value) (hbv : b = .string (f k))
    (sz : Nat) (hx : a.eval x = .slice (some ⟨sz, 0, none⟩) 1 1) (hsz : sz = w0.heap.size) (hk : k < 1000000000) (hbase : base ≤ w0.heap.size)
    (h : ∀ v' w', w'.ownsRow base 9 1 v' (k + 1) (strsL (k + 1) f) → (∀ u e n xs, e ≠ 9 → w0.ownsRow base e 1 u n xs → w'.ownsRow base e 1 u n xs) → Below base w0 w' → wpList Try.prog ops Q rest (a.put o.dst v') w') :
    wpList Try.prog ops Q (o :: rest) a (w0.alloc (.cells #[b] 9 (0, 0))) := by
  subst hsz
  subst hbv
  obtain ⟨i0, hi, hz0, hz1, hz2⟩ := info_parts Try.info9
  refine wpList_append_own _ hgd s x 22 ho base 9 i0 (.string ⟨#[]⟩) 1 16 Try.underlying22 hi hz0 hz1 hz2 rfl (by decide) v k _ hs (hA.alloc _) ⟨w0.heap.size, 0, none⟩ 1 1 [.string (f k)] hx rfl ?_ ?_ ?_ ?_ ?_ ?_
  · intro j u hu
    match j, hu with
    | 0, hu => simp at hu; subst hu; simp [Addr.add]
  · intro u hu; simp at hu; subst hu; rfl
  · unfold maxLen; omega
  · omega
  · simp; omega
  · intro v' w' hown hgrow _
    have hb0 : Below w0.heap.size w0 (w0.alloc (.cells #[.string (f k)] 9 (0, 0))) := (Below.refl _ _).alloc (Nat.le_refl _) _
    refine h v' w' (by rw [strsL_succ]; exact hown) (fun u e n xs he hu => (hu.alloc _).kept hgrow (owns_apart hA hu (fun h => he h.symm))) ?_
    exact (hb0.mono hbase).grown hgrow (by simp; omega) (fun g hg => (hA.lt g hg).1)
end
set_option maxRecDepth 20000 in
set_option maxHeartbeats 8000000 in
theorem refDecode_ok (a b : Option Addr) (k ca cb : Nat) (M : Nat → Nat) (Y : Mx) (T : Nat → Bool) (w : World) (k1 : 1 ≤ k) (k8 : k ≤ 8) (hT : TxtAt w a (k + 2) M Y) (hB : Vals w b (k + 2) fun i => .bool (T i)) :
    Calls Try.prog 16 #[.slice a (k + 2) ca, .slice b (k + 2) cb] w fun e w' => Below w.heap.size w w' ∧ ∃ v er, e = .returned (.tuple #[v, .int .i64 er]) ∧ DecPost (k + 2) (k + 2) T M Y v er w' w.heap.size := by
  obtain ⟨i0, hi, hz0, hz1, hz2⟩ := info_parts Try.info4
  obtain ⟨j0, hj, hy0, hy1, hy2⟩ := info_parts Try.info46
  obtain ⟨bl, ol, rfl, hTx⟩ := hT.txts (by omega)
  have HTX : Hid (∀ x, Below w.heap.size w x → Txts x bl ol (k + 2) M Y) := fun x hx => hTx.below hx
  have HTV : Hid (∀ x, Below w.heap.size w x → ∀ i, i < k + 2 → x.cell? ⟨bl, ol + i, none⟩ = some (.string (strE (M i) (Y i)))) := fun x hx i hi => by
    rcases (hT.below hx).1 with h0 | ⟨b', o', e, h⟩
    · omega
    · cases e; exact h i hi
  have HM : Hid (∀ i, i < k + 2 → M i ≤ 9223372036854775807) := hT.2
  have HB := hB.at
  have kk : ((k + 2 : Nat) : Int) - 2 = (k : Int) := by omega
  have t0 : ¬ (k : Int) < 1 := by omega
  have t1 : ¬ (8 : Int) < (k : Int) := by omega
  have t2 : (((k : Int) + 2) != ((k : Int) + 2)) = false := by simp
  have hcm := cnt_le T (k + 2)
  clear hT hTx hB
  go_enter Try.func16, Try.ntmps16
  go_wp2_with (at_make; refine wpList_make_full _ rfl _ _ 35 rfl w.heap.size 4 i0 (.bool false) 1 Try.underlying35 hi hz0 hz1 _ _ _ _ (k + 2) rfl rfl ?c0 ?c1 ?c2 ?c3 ?c4 ?_)
  case c2 => first | omega | (rw [hz2]; omega)
  case c3 => first | omega | (unfold maxLen; omega)
  intro w1 hown1 hgrow1
  have hb1 : Below w.heap.size w w1 := (Below.refl _ _).grown hgrow1 (Nat.le_refl _) (fun k h => by cases h)
  have hu1 : w1.ownsRow w.heap.size 4 1 (.slice (some ⟨w.heap.size, 0, none⟩) (k + 2) (k + 2)) (k + 2) (valsL (k + 2) fun j => .bool (usedTo T k 0 j)) := by
    rw [toList_madeCells_one] at hown1
    have : List.replicate (k + 2) (Value.bool false) = valsL (k + 2) fun j => .bool (usedTo T k 0 j) := by
      apply List.ext_getElem
      · simp [valsL]
      · intro j h1 h2; simp [valsL, usedTo]
    rw [← this]; exact hown1
  clear hown1 hgrow1
  go_wp2_with fail
  go_loopw [7, 9] (fun l i wr => ∃ r : Nat, r ≤ k + 2 ∧ i = .int .i64 r ∧ wr.ownsRow w.heap.size 9 1 l (cnt T r) (strsL (cnt T r) fun q => strE (M (kidx T (k + 2) q)) (Y (kidx T (k + 2) q))) ∧ wr.ownsRow w.heap.size 4 1 (.slice (some ⟨w.heap.size, 0, none⟩) (k + 2) (k + 2)) (k + 2) (valsL (k + 2) fun j => .bool (usedTo T k r j)) ∧ Below w.heap.size w wr) (fun _ i _ => (k + 2 : Nat) - (intOf i).toNat)
  case atStart => exact ⟨0, Nat.zero_le _, rfl, World.ownsRow_nil _ _ _ _, hu1, hb1⟩
  case round =>
    obtain ⟨r, hr, rfl, hl, hu, hbr⟩ := hrel
    clear hb1 hu1
    by_cases hlt : r < k + 2
    · obtain ⟨b1, o1, rfl, e1⟩ := HB.out wr hbr r hlt
      have rk : (r : Int) < (k : Int) + 2 := by omega
      have hcl := cnt_le T r
      cases hTr : T r with
      | true =>
        rw [hTr] at e1
        have e2 := HTV.out wr hbr r hlt
        obtain ⟨v0, hcell⟩ : ∃ v0, wr.cell? ⟨w.heap.size, r, none⟩ = some v0 := ⟨_, by rw [hu.cellAt r (by omega)]; exact valsL_at _ _ r hlt⟩
        have hfr := hu.frozenAt r
        obtain ⟨n, hn⟩ : ∃ n, cnt T r = n := ⟨_, rfl⟩
        have hst := hu.stored r (.bool (decide (n < k)))
        have hl2 := hl.kept hst.2 (owns_apart hu hl (by decide))
        have hu2 := hst.1
        rw [valsL_set _ _ r _ hlt, show (fun j => if j = r then Value.bool (decide (n < k)) else .bool (usedTo T k r j)) = fun j => .bool (usedTo T k (r + 1) j) from by
          rw [← usedTo_next hTr, hn]; funext j; by_cases h : j = r <;> simp [h]] at hu2
        have HC : Hid (cnt T (r + 1) = n + 1) := by show _ = _; rw [cnt_succ_true hTr, hn]
        have HV : Hid (Value.string (strE (M r) (Y r)) = .string (strE (M (kidx T (k + 2) n)) (Y (kidx T (k + 2) n)))) := by
          show _ = _
          rw [← hn, kidx_cnt T hlt hTr]
        have hb2 : Below w.heap.size w (wr.setCell ⟨w.heap.size, r, none⟩ (.bool (decide (n < k)))) := hbr.setCell (p := ⟨w.heap.size, r, none⟩) (Nat.le_refl _) _
        have e2' : (wr.setCell ⟨w.heap.size, r, none⟩ (.bool (decide (n < k)))).cell? ⟨bl, ol + r, none⟩ = some (.string (strE (M r) (Y r))) := HTV.out _ hb2 r hlt
        rw [hn] at hl hl2 hcl
        obtain ⟨al, cal, rfl, -, -⟩ := owns_form hl _ (fun i hi => strsL_at _ _ i hi)
        generalize strE (M r) (Y r) = s at HV e2 e2'
        clear hst hl hu hTr hn
        go_wp2_with (at_builtin; refine push_str_keep rfl _ _ rfl _ w.heap.size _ n (fun q => strE (M (kidx T (k + 2) q)) (Y (kidx T (k + 2) q))) hl2 rfl _ HV.out _ rfl (by simp) (by omega) hb2.size ?_)
        intro v' w2 hl3 hkeep hb3
        have hu3 := hkeep _ _ _ _ (by decide) hu2
        clear hkeep
        go_wp2_with fail
        go_roundw
        case rel => exact ⟨r + 1, by omega, by go_num, by rw [HC.out]; exact hl3, hu3, hb2.trans hb3⟩
        case measure => simp [intOf]; omega
      | false =>
        rw [hTr] at e1
        have HC : Hid (cnt T (r + 1) = cnt T r ∧ usedTo T k (r + 1) = usedTo T k r) := ⟨cnt_succ_false hTr, usedTo_same hTr⟩
        clear hTr
        go_wp2_with fail
        go_roundw
        case rel => exact ⟨r + 1, by omega, by go_num, by rw [HC.out.1]; exact hl, by rw [HC.out.2]; exact hu, hbr⟩
        case measure => simp [intOf]; omega
    · have hrk : r = k + 2 := by omega
      subst hrk
      have hus : (valsL (k + 2) fun j => Value.bool (usedTo T k (k + 2) j)) = valsL (k + 2) fun j => .bool (used T k j) := List.map_congr_left fun j hj => by
        have := List.mem_range.1 hj
        simp [usedTo, this]
      rw [hus] at hu
      obtain ⟨q, hq⟩ : ∃ q, cnt T (k + 2) = q := ⟨_, rfl⟩
      have HQ : Hid (cnt T (k + 2) = q) := hq
      have HN : Hid (3 ≤ k + 2 ∧ k + 2 ≤ 10) := ⟨by omega, by omega⟩
      rw [hq] at hl hcm
      clear hus hq
      by_cases hlost : q < k
      · obtain ⟨al, cal, rfl, -, -⟩ := owns_form hl _ (fun i hi => strsL_at _ _ i hi)
        have hl' : (q : Int) < (k : Int) := by omega
        clear hl hu
        go_wp2_with fail
        go_ret2
        exact ⟨hbr, _, _, rfl, .inr (.inl ⟨⟨HN.out.1, HN.out.2, rfl⟩, by rw [HQ.out]; omega, rfl, rfl⟩)⟩
      · rcases hl.2 with ⟨-, h1⟩ | ⟨gl, cal, cur, egl, -⟩
        · omega
        subst egl
        have hl' : ¬ (q : Int) < (k : Int) := by omega
        have hTl : TxtAt wr (some ⟨gl, 0, none⟩) q (fun r => M (kidx T (k + 2) r)) (fun r => Y (kidx T (k + 2) r)) := by
          refine ⟨.inr ⟨gl, 0, rfl, fun i hi => ?_⟩, fun c hc => HM.out _ (kidx_spec T (by rw [HQ.out]; exact hc)).1⟩
          rw [Nat.zero_add, hl.cellAt i (by omega)]; exact strsL_at _ _ i hi
        have hsh := refShape_any (some ⟨gl, 0, none⟩) q cal _ _ wr (by omega) (by unfold maxLen; omega) hTl
        obtain ⟨er, her⟩ : ∃ er, meaE q (fun r => M (kidx T (k + 2) r)) = er := ⟨_, rfl⟩
        have HER : Hid (meaE q (fun r => M (kidx T (k + 2) r)) = er) := her
        rw [her] at hsh
        clear hTl her
        by_cases h0 : er = 0
        · subst h0
          obtain ⟨hall, h5⟩ := mea_zero.1 HER.out
          obtain ⟨m, hm⟩ : ∃ m, M (kidx T (k + 2) 0) = m := ⟨_, rfl⟩
          have HM0 : Hid (M (kidx T (k + 2) 0) = m) := hm
          have hm5 : m ≤ 65536 := by have : M (kidx T (k + 2) 0) ≤ 65536 := h5; omega
          have HMU : Hid (∀ i, i < k + 2 → used T k i = true → M i = m) := fun i hi hu => by
            have hu' : T i = true ∧ cnt T i < k := by simpa [used] using hu
            have := hall (cnt T i) (by omega)
            rw [kidx_cnt T hi hu'.1, hm] at this
            exact this
          have HL2 : Hid (cnt (fun i => !used T k i) (k + 2) = 2) := lost_two (by rw [HQ.out]; omega)
          clear hall h5 hm
          go_wp2_with fail
          go_at_call 23
          refine hsh.mono ?_
          rintro e w2 ⟨hb2, rfl⟩
          have hl2 := owns_below hl hb2
          have hu2 := owns_below hu hb2
          have hb02 := hbr.trans (hb2.mono hbr.size)
          clear hsh hl hu hbr hb2
          go_wp2_with (at_make; refine wpList_make_full _ rfl _ _ 49 rfl w2.heap.size 46 j0 (.slice none 0 0) 1 Try.underlying49 hj hy0 hy1 _ _ _ _ k rfl rfl ?d0 ?d1 ?d2 ?d3 ?d4 ?_)
          case d0 => first | rfl | omega
          case d1 => first | rfl | omega
          case d2 => first | omega | (rw [hy2]; omega)
          case d3 => first | omega | (unfold maxLen; omega)
          case d4 => exact Nat.le_refl _
          intro w3 hown3 hgrow3
          have hb3 : Below w2.heap.size w2 w3 := (Below.refl _ _).grown hgrow3 (Nat.le_refl _) (fun k h => by cases h)
          have hG3 : RowsG w3 w2.heap.size w2.heap.size k (fun _ => .slice none 0 0) (fun _ => 0) (fun _ _ => 0) := by
            refine ⟨?_, fun r hr => World.ownsRow_nil _ _ _ _, fun i j _ _ _ => apart_nil _⟩
            rw [toList_madeCells_one] at hown3
            have : List.replicate k (Value.slice none 0 0) = valsL k fun _ => .slice none 0 0 := by
              apply List.ext_getElem
              · simp [valsL]
              · intro j h1 h2; simp [valsL]
            rw [← this]; exact hown3
          have HL0 : Hid (∀ z, Below w2.heap.size w2 z → ∃ s : ByteArray, s.size = m ∧ z.cell? ⟨gl, 0, none⟩ = some (.string s)) := fun z hz => by
            have h := owns_below hl2 hz
            exact ⟨strE (M (kidx T (k + 2) 0)) (Y (kidx T (k + 2) 0)), by rw [strE_size, HM0.out], by rw [h.cellAt 0 (by omega)]; exact strsL_at _ _ 0 (by omega)⟩
          have HU2 : Hid (∀ z, Below w2.heap.size w2 z → Vals z (some ⟨w.heap.size, 0, none⟩) (k + 2) fun i => .bool (used T k i)) := fun z hz => by
            obtain ⟨x4, y4, e4, -, hv⟩ := owns_form (owns_below hu2 hz) _ (fun i hi => valsL_at _ _ i hi)
            cases e4; exact hv
          have hq0 : (0 : Int) < (q : Int) := by omega
          clear hown3 hgrow3 hl2 hu2
          go_wp2_with fail
          go_loopw [12] (fun i wr => ∃ (c : Nat) (R : Nat → Value) (D : Mx), c ≤ m ∧ i = .int .i64 c ∧ RowsG wr w2.heap.size w2.heap.size k R (fun _ => c) D ∧ (∀ c', c' < c → ColOk k (used T k) Y c' (fun j => D j c')) ∧ Below w2.heap.size w2 wr) (fun i _ => (m : Nat) - (intOf i).toNat)
          case atStart => exact ⟨0, _, _, Nat.zero_le _, rfl, hG3, fun c' hc' => by omega, hb3⟩
          case round =>
            clear hb3 hG3
            obtain ⟨c, R, D, hc, rfl, hG, hcol, hbc⟩ := hrel
            have HCOL : Hid (∀ c', c' < c → ColOk k (used T k) Y c' (fun j => D j c')) := hcol
            have hb0c := hb02.trans (hbc.mono hb02.size)
            obtain ⟨s0, hs0, e0⟩ := HL0.out wr hbc
            clear hcol
            by_cases hlt : c < m
            · have hsol := fun cu => refSolve_any bl ol (some ⟨w.heap.size, 0, none⟩) k ca cu c M Y (used T k) wr k1 k8 (HTX.out wr hb0c) (HU2.out wr hbc) (fun i hi hu => by rw [HMU.out i hi hu]; exact hlt) (by omega) HL2.out
              have cm : (c : Int) < (m : Int) := by omega
              go_wp2_with fail
              go_at_call 36
              refine (hsol _).mono ?_
              rintro e w4 ⟨hb4, rfl, d, hd4, hok⟩
              obtain ⟨D', hD'⟩ : ∃ D' : Mx, D' = fun j c' => if c' = c then d j else D j c' := ⟨_, rfl⟩
              have hG4 : RowsG w4 w2.heap.size w2.heap.size k R (fun r => if r < 0 then c + 1 else c) D' :=
                (hG.below hb4).congr (fun r hr => by rw [if_neg (by omega)]) (fun r hr c' hc' => by rw [hD']; exact (if_neg (by omega)).symm)
              have hap4 : ∀ r, 0 ≤ r → r < k → Apart (R r) (.slice (some ⟨wr.heap.size, 0, none⟩) k k) := fun r _ hr => .inr fun e => by
                have := ((hG.2.1 r hr).lt wr.heap.size e).2
                omega
              have HDD : Hid (∀ j, D' j c = d j) := fun j => by rw [hD']; exact if_pos rfl
              have HC' : Hid (∀ c', c' < c + 1 → ColOk k (used T k) Y c' (fun j => D' j c')) := fun c' hc' => by
                by_cases e : c' = c
                · subst e
                  have : (fun j => D' j c') = d := funext fun j => HDD.out j
                  rw [this]; exact hok
                · have : (fun j => D' j c') = fun j => D j c' := funext fun j => by rw [hD']; exact if_neg e
                  rw [this]; exact HCOL.out c' (by omega)
              have hb24 := hbc.trans (hb4.mono hbc.size)
              obtain ⟨gd, hgd⟩ : ∃ gd, wr.heap.size = gd := ⟨_, rfl⟩
              rw [hgd] at hd4 hap4 ⊢
              clear hsol hG hok hb4 hD' hbc hb0c hgd
              go_wp2_with fail
              go_loopw [14] (fun i wi => ∃ (r : Nat) (R : Nat → Value), r ≤ k ∧ i = .int .i64 r ∧ RowsG wi w2.heap.size w2.heap.size k R (fun q => if q < r then c + 1 else c) D' ∧ wi.ownsRow gd 5 1 (.slice (some ⟨gd, 0, none⟩) k k) k (bytesL k d) ∧ (∀ q, r ≤ q → q < k → Apart (R q) (.slice (some ⟨gd, 0, none⟩) k k)) ∧ Below w2.heap.size w2 wi) (fun i _ => (k : Nat) - (intOf i).toNat)
              case atStart => exact ⟨0, R, Nat.zero_le _, rfl, hG4, hd4, hap4, hb24⟩
              case round =>
                clear hG4 hd4 hap4 hb24
                obtain ⟨r, R, hr, rfl, hG, hd, hap, hbi⟩ := hrel
                by_cases hrl : r < k
                · have rk : (r : Int) < (k : Int) := by omega
                  obtain ⟨v', w', hrun, hcell, hfr, ⟨m', c', a', hv'⟩, hG', hb', hkeep⟩ := hG.push hbi.size r hrl (by rw [if_neg (by omega)]; omega) (d r) (by rw [if_neg (by omega)]; exact (HDD.out r).symm)
                  have hd' := hkeep _ _ _ _ hd (hap r (Nat.le_refl _) hrl)
                  have e1 : wr.cell? ⟨w2.heap.size, r, none⟩ = some (R r) := by rw [hG.1.cellAt r (by omega)]; exact valsL_at _ _ r hrl
                  have e2 : wr.cell? ⟨gd, r, none⟩ = some (.int .u8 ((d r).v : Int)) := by rw [hd.cellAt r (by omega)]; exact bytesL_at _ _ r hrl
                  have hbA : Below wr.heap.size wr (wr.alloc (.cells #[.int .u8 ((d r).v : Int)] 5 (0, 0))) := (Below.refl _ _).alloc (Nat.le_refl _) _
                  have e3 : (wr.alloc (.cells #[.int .u8 ((d r).v : Int)] 5 (0, 0))).cell? ⟨w2.heap.size, r, none⟩ = some (R r) := (hbA.cell (p := ⟨w2.heap.size, r, none⟩) (cell_lt e1)).trans e1
                  have HG : Hid (RowsG (w'.setCell ⟨w2.heap.size, r, none⟩ v') w2.heap.size w2.heap.size k (fun q => if q = r then v' else R q) (fun q => if q < r + 1 then c + 1 else c) D') := hG'.congr (fun q hq => by
                    by_cases e : q = r
                    · subst e; rw [if_pos rfl, if_neg (by omega), if_pos (by omega)]
                    · rw [if_neg e]
                      by_cases e' : q < r
                      · rw [if_pos e', if_pos (by omega)]
                      · rw [if_neg e', if_neg (by omega)]) (fun q hq c' hc' => rfl)
                  have HAP : Hid (∀ q, r + 1 ≤ q → q < k → Apart ((fun q => if q = r then v' else R q) q) (.slice (some ⟨gd, 0, none⟩) k k)) := fun q h1 h2 => by
                    simp only [if_neg (show ¬ q = r by omega)]
                    exact hap q (by omega) h2
                  have hb2' := hbi.trans hb'
                  obtain ⟨Rr, hRr⟩ : ∃ z, R r = z := ⟨_, rfl⟩
                  rw [hRr] at e1 e3 hrun hcell
                  subst hv'
                  obtain ⟨x, hxd⟩ : ∃ x, (d r).v = x := ⟨_, rfl⟩
                  rw [hxd] at e2 e3 hrun
                  have eA : (wr.alloc (.cells #[.int .u8 (x : Int)] 5 (0, 0))).drew.cell? ⟨gd, r, none⟩ = some (.int .u8 (x : Int)) := (((Below.refl wr.heap.size wr).alloc (Nat.le_refl _) (.cells #[.int .u8 (x : Int)] 5 (0, 0))).cell (p := ⟨gd, r, none⟩) (cell_lt e2)).trans e2
                  have hne : gd ≠ w2.heap.size := fun e => by
                    rcases owns_apart hG.1 hd (by decide) with h | h
                    · cases h
                    · exact h (by simp [Value.ownBlock, e])
                  have eF : (w'.setCell ⟨w2.heap.size, r, none⟩ (.slice a' m' c')).cell? ⟨gd, r, none⟩ = some (.int .u8 (x : Int)) := by
                    rw [hd'.cellAt r (by omega), ← hxd]; exact bytesL_at _ _ r hrl
                  have eW : w'.cell? ⟨gd, r, none⟩ = some (.int .u8 (x : Int)) := by
                    rw [← eF]
                    exact (World.cell?_setCell_other (w := w') (a := ⟨w2.heap.size, r, none⟩) (b := ⟨gd, r, none⟩) (v := .slice a' m' c') (fun e => by injection e with e1; exact hne e1.symm)).symm
                  clear hG hd hap hkeep hG' hb' hbA hRr hxd
                  go_wp2_with fail
                  refine wp_region_noPanic ?_
                  refine wp_region_held_drew (S := fun z => z.cell? ⟨gd, r, none⟩ = some (.int .u8 (x : Int))) (by kernel_rfl) e2 (fun hHeld => ?_)
                  refine wpAnyH_take (i := 0) (v := ?_) rfl (by kernel_rfl) (by kernel_rfl) (by kernel_rfl) (fun _ _ _ h => h) (Or.inl ⟨by rfl, ?_⟩) (by assumption) ?_
                  rotate_left
                  · intro w hSw; go_simp; try with_reducible rfl
                  go_simp
                  refine wpAnyH_take (i := 1) (v := ?_) rfl (by kernel_rfl) (by kernel_rfl) (by kernel_rfl) (fun _ _ _ h => h) (Or.inl ⟨by rfl, ?_⟩) (by assumption) ?_
                  rotate_left
                  · intro w hSw; go_simp; try with_reducible rfl
                  go_simp
                  refine wpAnyH_take (i := 2) (v := ?_) rfl (by kernel_rfl) (by kernel_rfl) (by kernel_rfl) (fun _ _ _ h => h) (Or.inl ⟨by rfl, ?_⟩) (by assumption) ?_
                  rotate_left
                  · intro w hSw; go_simp; try with_reducible rfl
                  go_simp
                  refine wpAnyH_take (i := 3) (v := ?_) rfl (by kernel_rfl) (by kernel_rfl) (by kernel_rfl) (fun _ _ _ h => h) (Or.inl ⟨by rfl, ?_⟩) (by assumption) ?_
                  rotate_left
                  · intro w hSw; go_simp; try with_reducible rfl
                  go_simp
                  refine wpAnyH_take (i := 4) (v := ?_) rfl (by kernel_rfl) (by kernel_rfl) (by kernel_rfl) (fun _ _ _ h => h) (Or.inl ⟨by rfl, ?_⟩) (by assumption) ?_
                  rotate_left
                  · intro w hSw; go_simp; try with_reducible rfl
                  go_simp
                  refine wpAnyH_take (i := 6) (v := ?_) rfl (by kernel_rfl) (by kernel_rfl) (by kernel_rfl) (fun _ _ _ h => h) (Or.inl ⟨by rfl, ?_⟩) (by assumption) ?_
                  rotate_left
                  · intro w hSw; go_simp; try with_reducible rfl
                  go_simp
                  refine wpAnyH_take (i := 7) (v := ?_) rfl (by kernel_rfl) (by kernel_rfl) (by kernel_rfl) (fun _ _ _ h => h) (Or.inl ⟨by rfl, ?_⟩) (by assumption) ?_
                  rotate_left
                  · intro w hSw; go_simp; try with_reducible rfl
                  go_simp
                  refine wpAnyH_take (i := 8) (v := ?_) rfl (by kernel_rfl) (by kernel_rfl) (by kernel_rfl) (fun _ _ _ h => h) (Or.inl ⟨by rfl, ?_⟩) (by assumption) ?_
                  rotate_left
                  · intro w hSw; go_simp; try with_reducible rfl
                  go_simp
                  refine wpAnyH_take (i := 9) (v := ?_) rfl (by kernel_rfl) (by kernel_rfl) (by kernel_rfl) (fun _ _ _ h => h) (Or.inl ⟨by rfl, ?_⟩) (by assumption) ?_
                  rotate_left
                  · intro w hSw; go_simp; try with_reducible rfl
                  go_simp
                  refine wpAnyH_ready (rs := [5, 10]) (by kernel_rfl) (by simp) (AllReadyH.cons rfl (fun K hK => ?_) (AllReadyH.cons rfl (fun K hK => ?_) AllReadyH.nil))
                  · go_simp
                    refine hK.out _ _ e2 (fun hHeld => ?_)
                    clear hK K
                    refine wpAnyH_ready (rs := [10]) (by kernel_rfl) (by simp) (AllReadyH.cons rfl (fun K hK => ?_) AllReadyH.nil)
                    go_simp
                    refine hK.out _ _ eA (fun hHeld => ?_)
                    clear hK K
                    refine wpAnyH_ready (rs := [11]) (by kernel_rfl) (by simp) (AllReadyH.cons rfl (fun K hK => ?_) AllReadyH.nil)
                    refine step_append_run rfl _ _ 46 46 rfl _ _ rfl rfl _ _ hrun ?_
                    refine hK.out _ _ eW (fun hHeld => ?_)
                    clear hK K
                    refine wpAnyH_take (i := 12) (v := ?_) rfl (by kernel_rfl) (by kernel_rfl) (by kernel_rfl) (fun _ _ _ h => h) (Or.inl ⟨by rfl, ?_⟩) (by assumption) ?_
                    rotate_left
                    · intro w hSw; go_simp; try with_reducible rfl
                    go_simp
                    refine wpAnyH_ready (rs := [13]) (by kernel_rfl) (by simp) (AllReadyH.cons rfl (fun K hK => ?_) AllReadyH.nil)
                    go_simp
                    refine hK.out _ _ eF (fun hHeld => ?_)
                    clear hK K
                    refine wpAnyH_done (by kernel_rfl) ?_ _
                    refine NoPanic.normal ?_
                    go_wp2_with fail
                    go_roundw
                    case rel => exact ⟨r + 1, _, by omega, by go_num, HG.out, hd', HAP.out, hb2'⟩
                    case measure => simp [intOf]; omega
                  · go_simp
                    refine hK.out _ _ eA (fun hHeld => ?_)
                    clear hK K
                    refine wpAnyH_ready (rs := [5]) (by kernel_rfl) (by simp) (AllReadyH.cons rfl (fun K hK => ?_) AllReadyH.nil)
                    go_simp
                    refine hK.out _ _ eA (fun hHeld => ?_)
                    clear hK K
                    refine wpAnyH_ready (rs := [11]) (by kernel_rfl) (by simp) (AllReadyH.cons rfl (fun K hK => ?_) AllReadyH.nil)
                    refine step_append_run rfl _ _ 46 46 rfl _ _ rfl rfl _ _ hrun ?_
                    refine hK.out _ _ eW (fun hHeld => ?_)
                    clear hK K
                    refine wpAnyH_take (i := 12) (v := ?_) rfl (by kernel_rfl) (by kernel_rfl) (by kernel_rfl) (fun _ _ _ h => h) (Or.inl ⟨by rfl, ?_⟩) (by assumption) ?_
                    rotate_left
                    · intro w hSw; go_simp; try with_reducible rfl
                    go_simp
                    refine wpAnyH_ready (rs := [13]) (by kernel_rfl) (by simp) (AllReadyH.cons rfl (fun K hK => ?_) AllReadyH.nil)
                    go_simp
                    refine hK.out _ _ eF (fun hHeld => ?_)
                    clear hK K
                    refine wpAnyH_done (by kernel_rfl) ?_ _
                    refine NoPanic.normal ?_
                    go_wp2_with fail
                    go_roundw
                    case rel => exact ⟨r + 1, _, by omega, by go_num, HG.out, hd', HAP.out, hb2'⟩
                    case measure => simp [intOf]; omega
                · have hrk : r = k := by omega
                  subst hrk
                  go_wp2_with fail
                  go_roundw
                  case rel => exact ⟨c + 1, R, D', by omega, by go_num, hG.congr (fun q hq => by rw [if_pos hq]) (fun q hq c' hc' => rfl), HC'.out, hbi⟩
                  case measure => simp [intOf]; omega
            · have hcm' : m = c := by omega
              subst hcm'
              obtain ⟨f, hf⟩ : ∃ f : Nat → ByteArray, f = fun i => strE m (St k D i) := ⟨_, rfl⟩
              have HFD : Hid (∀ i, i < k → f i = strE m (D i)) := fun i hi => by rw [hf]; exact strE_congr fun c hc => St_data hi D c
              have HFT : Hid (Fits k T m Y D) := fun i hi hu c' hc' => HCOL.out c' hc' i hi hu
              have HPQ : Hid (encE k (fun _ => m) = 0 ∧ encS k (fun _ => m) D 0 = f k ∧ encS k (fun _ => m) D 1 = f (k + 1)) := by
                have hz : encE k (fun _ => m) = 0 := encE_zero.2 ⟨⟨k1, k8⟩, fun _ _ => rfl, hm5⟩
                refine ⟨hz, ?_, ?_⟩
                · rw [hf]; unfold encS; rw [if_pos hz]; exact strE_congr fun c hc => (St_parity k 0 D c).symm
                · rw [hf]; unfold encS; rw [if_pos hz]; exact strE_congr fun c hc => (St_parity k 1 D c).symm
              have HF : Hid (f = fun i => strE m (St k D i)) := hf
              clear hf
              go_wp2_with fail
              go_loopw [15, 16] (fun o i wo => ∃ r : Nat, r ≤ k ∧ i = .int .i64 r ∧ wo.ownsRow w2.heap.size 9 1 o r (strsL r f) ∧ RowsG wo w2.heap.size w2.heap.size k R (fun _ => m) D ∧ Below w2.heap.size w2 wo) (fun _ i _ => (k : Nat) - (intOf i).toNat)
              case atStart => exact ⟨0, Nat.zero_le _, rfl, World.ownsRow_nil _ _ _ _, hG, hbc⟩
              case round =>
                clear hG hbc hb0c hs0 e0
                obtain ⟨r, hr, rfl, ho, hG, hbo⟩ := hrel
                by_cases hrl : r < k
                · have rk : (r : Int) < (k : Int) := by omega
                  obtain ⟨ar, cr, hRr, -, hrow⟩ := owns_form (hG.2.1 r hrl) _ (fun i hi => bytesL_at _ _ i hi)
                  have e1 : wr.cell? ⟨w2.heap.size, r, none⟩ = some (R r) := by rw [hG.1.cellAt r (by omega)]; exact valsL_at _ _ r hrl
                  rw [hRr] at e1
                  have hconv := conv_at (w := wr) (cap := cr) hrow
                  have HV : Hid (Value.string (strE m (D r)) = .string (f r)) := by show _ = _; rw [HFD.out r hrl]
                  generalize strE m (D r) = s at HV hconv
                  have HG : Hid (RowsG wr w2.heap.size w2.heap.size k R (fun _ => m) D) := hG
                  clear hG hRr hrow
                  go_wp2_with (at_builtin; refine push_str_keep rfl _ _ rfl _ w2.heap.size _ r f ho rfl _ HV.out _ rfl rfl (by omega) hbo.size ?_)
                  intro v' w5 ho5 hkeep hb5
                  have HG5 : Hid (RowsG w5 w2.heap.size w2.heap.size k R (fun _ => m) D) := ⟨hkeep _ _ _ _ (by decide) HG.out.1, fun q hq => hkeep _ _ _ _ (by decide) (HG.out.2.1 q hq), HG.out.2.2⟩
                  clear hkeep
                  go_wp2_with fail
                  go_roundw
                  case rel => exact ⟨r + 1, by omega, by go_num, ho5, HG5.out, hbo.trans hb5⟩
                  case measure => simp [intOf]; omega
                · have hrk : r = k := by omega
                  subst hrk
                  have hoD := ho
                  rw [strsL_congr fun i hi => HFD.out i hi] at hoD
                  obtain ⟨ao, co, rfl, hco1, hco2, hTo⟩ := txt_of_owns hoD hm5
                  have henc := refEncode_any ao r co (fun _ => m) D wr (by unfold maxLen; omega) hTo
                  rw [HPQ.out.1, HPQ.out.2.1, HPQ.out.2.2] at henc
                  obtain ⟨P, hP⟩ : ∃ P, f r = P := ⟨_, rfl⟩
                  obtain ⟨Q, hQ⟩ : ∃ Q, f (r + 1) = Q := ⟨_, rfl⟩
                  have HV : Hid (Value.string P = .string (f r) ∧ Value.string Q = .string (f (r + 1))) := ⟨by rw [hP], by rw [hQ]⟩
                  rw [hP, hQ] at henc
                  clear hoD hTo hG hP hQ
                  go_wp2_with fail
                  go_at_call 11
                  refine henc.mono ?_
                  rintro e w5 ⟨hb5, rfl⟩
                  have ho5 := owns_below ho hb5
                  have hbo5 := hbo.trans (hb5.mono hbo.size)
                  clear henc ho
                  go_wp2_with (at_builtin; refine push_str_at rfl _ _ rfl _ w2.heap.size _ r f ho5 rfl _ HV.out.1 _ rfl rfl (by omega) hbo5.size ?_)
                  intro v6 w6 ho6 hb6
                  have hbo6 := hbo5.trans hb6
                  clear ho5
                  go_wp2_with (at_builtin; refine push_str_at rfl _ _ rfl _ w2.heap.size _ (r + 1) f ho6 rfl _ HV.out.2 _ rfl rfl (by omega) hbo6.size ?_)
                  intro v7 w7 ho7 hb7
                  have hb07 := hb02.trans ((hbo6.trans hb7).mono hb02.size)
                  go_wp2_with fail
                  go_ret2
                  refine ⟨hb07, _, _, rfl, .inr (.inr (.inr ⟨⟨HN.out.1, HN.out.2, rfl⟩, by rw [HQ.out]; omega, by rw [HQ.out]; exact HER.out, rfl, D, ?_, ?_⟩))⟩
                  · rw [HM0.out]; exact HFT.out
                  · rw [HM0.out]
                    have := owns_mono ho7 hb02.size
                    rw [HF.out] at this
                    exact this
        · have t3 : (er != 0) = true := by simpa using h0
          have HE0 : Hid (er ≠ 0) := h0
          clear h0 hl hu
          go_wp2_with fail
          go_at_call 23
          refine hsh.mono ?_
          rintro e w2 ⟨hb2, rfl⟩
          have hb02 := hbr.trans (hb2.mono hbr.size)
          clear hsh
          go_wp2_with fail
          go_ret2
          exact ⟨hb02, _, _, rfl, .inr (.inr (.inl ⟨⟨HN.out.1, HN.out.2, rfl⟩, by rw [HQ.out]; omega, by rw [HQ.out, HER.out]; exact HE0.out, rfl, by rw [HQ.out, HER.out]⟩))⟩

set_option maxHeartbeats 1000000 in
theorem refDecode_any (a b : Option Addr) (n nb ca cb : Nat) (M : Nat → Nat) (Y : Mx) (T : Nat → Bool) (w : World) (hnm : n ≤ 9223372036854775807) (hbm : nb ≤ 9223372036854775807) (hT : TxtAt w a n M Y) (hB : Vals w b nb fun i => .bool (T i)) :
    Calls Try.prog 16 #[.slice a n ca, .slice b nb cb] w fun e w' => Below w.heap.size w w' ∧ ∃ v er, e = .returned (.tuple #[v, .int .i64 er]) ∧ DecPost n nb T M Y v er w' w.heap.size := by
  by_cases hn : 3 ≤ n ∧ n ≤ 10
  · by_cases hnb : nb = n
    · obtain ⟨k, rfl⟩ : ∃ k, n = k + 2 := ⟨n - 2, by omega⟩
      subst hnb
      exact refDecode_ok a b k ca cb M Y T w (by omega) (by omega) hT hB
    · have t0 : ((nb : Int) != (n : Int)) = true := by simp; omega
      have t1 : ¬ ((n : Int) - 2 < 1) := by omega
      have t2 : ¬ (8 : Int) < (n : Int) - 2 := by omega
      have HN : Hid (¬ (3 ≤ n ∧ n ≤ 10 ∧ nb = n)) := fun h => hnb h.2.2
      clear hT hB hn hnb
      go_enter Try.func16, Try.ntmps16
      go_wp2_with fail
      go_ret2
      exact ⟨Below.refl _ _, _, _, rfl, .inl ⟨HN.out, rfl, rfl⟩⟩
  · have HN : Hid (¬ (3 ≤ n ∧ n ≤ 10 ∧ nb = n)) := fun h => hn ⟨h.1, h.2.1⟩
    by_cases h1 : n < 3
    · have t1 : (n : Int) - 2 < 1 := by omega
      clear hT hB hn h1
      go_enter Try.func16, Try.ntmps16
      go_wp2_with fail
      go_ret2
      exact ⟨Below.refl _ _, _, _, rfl, .inl ⟨HN.out, rfl, rfl⟩⟩
    · have t1 : ¬ ((n : Int) - 2 < 1) := by omega
      have t2 : (8 : Int) < (n : Int) - 2 := by omega
      clear hT hB hn h1
      go_enter Try.func16, Try.ntmps16
      go_wp2_with fail
      go_ret2
      exact ⟨Below.refl _ _, _, _, rfl, .inl ⟨HN.out, rfl, rfl⟩⟩
end Go.Proofs.Ytdpcbiccbhlonaa
/- A stripe's chunks, as the laws make them. -/
namespace Go.Proofs.Ytdpcbiccbhlonaa
open Go.RowKit Go.PlainAid
set_option linter.unusedVariables false

theorem txt_of_any {w : World} {base n : Nat} {v : Value} {f : Nat → ByteArray} (h : w.ownsRow base 9 1 v n (strsL n f)) (hs : ∀ i, i < n → (f i).size ≤ 9223372036854775807) : ∃ a c, v = .slice a n c ∧ n ≤ c ∧ c ≤ 9223372036854775807 ∧ TxtAt w a n (fun i => (f i).size) (fun i => teE (f i)) := by
  obtain ⟨a, c, rfl, _, hv⟩ := owns_form h _ (fun i hi => strsL_at _ _ i hi)
  refine ⟨a, c, rfl, ?_, ?_, ?_, fun i hi => hs i hi⟩
  · rcases h.2 with ⟨h0, h1⟩ | ⟨g, cap, cur, e, _, _, h1, _⟩
    · omega
    · cases e; exact h1
  · rcases h.2 with ⟨h0, h1⟩ | ⟨g, cap, cur, e, _, _, _, h1, _⟩
    · injection h0 with _ _ h4; omega
    · cases e; unfold maxLen at h1; omega
  · rcases hv with h0 | ⟨b, o, e, hv⟩
    · exact .inl h0
    · exact .inr ⟨b, o, e, fun i hi => by show _ = some (Value.string (strE (f i).size (teE (f i)))); rw [strE_te]; exact hv i hi⟩
theorem teE_strE (m : Nat) (g : Nat → E) (c : Nat) (hc : c < m) : teE (strE m g) c = g c := by
  apply E.same
  show (bt (strE m g) c).toNat % 256 = _
  rw [bt_strE m g c hc, Int.toNat_natCast, Nat.mod_eq_of_lt (g c).h]
theorem chk_stripe {k m : Nat} (k1 : 1 ≤ k) (k8 : k ≤ 8) (hm : m ≤ 65536) (D : Mx) : chkB (k + 2) (fun _ => m) (St k D) = true := by
  have hz : encE k (fun _ => m) = 0 := encE_zero.2 ⟨⟨k1, k8⟩, fun _ _ => rfl, hm⟩
  have hs : ∀ r, encS k (fun _ => m) (St k D) r = strE m (St k D (k + r)) := fun r => by
    unfold encS
    rw [if_pos hz]
    refine strE_congr fun c hc => ?_
    rw [St_parity]
    exact S_congr fun j hj => by rw [St_data hj]
  unfold chkB
  exact decide_eq_true ⟨by omega, by omega, hz, hs 0, hs 1⟩
/-- The texts of an even cut, as elements. -/
theorem CutTo.elems {w : World} {base : Nat} {v : Value} {k N : Nat} {f : Nat → ByteArray} (h : CutTo w base v k N true f) (hN : N ≤ 1000) (k1 : 1 ≤ k) (k8 : k ≤ 8) : ∃ (m : Nat) (D : Mx), m ≤ N ∧ m ≤ 65536 ∧ encE k (fun i => (f i).size) = 0 ∧ (∀ i, i < k → f i = strE m (St k D i)) ∧
    encS k (fun i => (f i).size) (fun i => teE (f i)) 0 = strE m (St k D k) ∧ encS k (fun i => (f i).size) (fun i => teE (f i)) 1 = strE m (St k D (k + 1)) ∧ (f 0).size = m := by
  have hs := h.2.2 rfl
  have h0 := h.2.1 0 (by omega)
  have hz : encE k (fun i => (f i).size) = 0 := encE_zero.2 ⟨⟨k1, k8⟩, fun c hc => hs c hc, by show (f 0).size ≤ _; omega⟩
  refine ⟨(f 0).size, fun i => teE (f i), h0, by omega, hz, fun i hi => ?_, ?_, ?_, rfl⟩
  · rw [strE_congr (g := teE (f i)) fun c hc => St_data hi _ c, ← hs i hi, strE_te]
  · unfold encS; rw [if_pos hz]; exact strE_congr fun c hc => (St_parity k 0 _ c).symm
  · unfold encS; rw [if_pos hz]; exact strE_congr fun c hc => (St_parity k 1 _ c).symm
theorem cnt_or (p q r : Nat → Bool) (n : Nat) (h : ∀ i, i < n → r i = true → p i = true ∨ q i = true) : cnt r n ≤ cnt p n + cnt q n := by
  induction n with
  | zero => exact Nat.le_refl _
  | succ n ih =>
    have := ih fun i hi => h i (by omega)
    have h' := h n (by omega)
    simp only [cnt]
    by_cases h1 : r n = true
    · rcases h' h1 with h2 | h2 <;> simp [h1, h2] <;> omega
    · simp [h1]; omega
theorem cnt_eq_le (i n : Nat) : cnt (fun x => decide (x = i)) n ≤ if i < n then 1 else 0 := by
  induction n with
  | zero => simp [cnt]
  | succ n ih =>
    simp only [cnt]
    by_cases h : n = i
    · subst h; simp at ih ⊢; omega
    · simp only [decide_eq_false h]
      have : (if i < n + 1 then 1 else 0) = (if i < n then 1 else 0) := by
        by_cases h1 : i < n
        · rw [if_pos h1, if_pos (by omega)]
        · rw [if_neg h1, if_neg (by omega)]
      rw [this]
      simpa using ih
theorem cnt_but_two (T : Nat → Bool) (i j n : Nat) (hT : ∀ x, x < n → T x = false → x = i ∨ x = j) : n - 2 ≤ cnt T n := by
  have h1 := cnt_not T n
  have h2 := cnt_or (fun x => decide (x = i)) (fun x => decide (x = j)) (fun x => !T x) n (fun x hx h => by
    rcases hT x hx (by simpa using h) with h | h
    · exact .inl (decide_eq_true h)
    · exact .inr (decide_eq_true h))
  have h3 := cnt_eq_le i n
  have h4 := cnt_eq_le j n
  split at h3 <;> split at h4 <;> omega
end Go.Proofs.Ytdpcbiccbhlonaa
/- Of every chunks, whichever of them are there, all: the law's walk. -/
namespace Go.Proofs.Ytdpcbiccbhlonaa
open Go.ChangeShapes Go.WideShapes Go.RowKit Go.PlainAid
set_option linter.unusedVariables false

theorem Try.cells4 : Try.prog.cellsOf 4 = 1 := by kernel_rfl
/-- What is told of bools that came in. -/
def BoolsArg (W : World) (a : Option Addr) (len cap : Nat) : Prop := ∃ T : Nat → Bool, len ≤ cap ∧ cap ≤ maxLen ∧ Vals W a len (fun i => .bool (T i))
theorem bools_arg {H : Type} {enc : TypeId × Value → H} {W : World} {a : Option Addr} {len cap : Nat} {d : DataW H} {p : List MemPlace}
    (h : DataW.Trod enc Try.prog W 0 (fun _ => true) true 35 (.slice a len cap) d p) : BoolsArg W a len cap := by
  obtain ⟨fuel, hf⟩ := h
  rcases Go.Deep.open_bools Try.underlying35 Try.underlying4 Try.cells4 hf with ⟨hcs, _⟩ | ⟨x, l, c, bs, hcs, _, hl, hm, _, hcell⟩
  · simp [Value.cells] at hcs
    obtain ⟨rfl, rfl, rfl⟩ := hcs
    exact ⟨fun _ => false, Nat.le_refl _, Nat.zero_le _, .inl rfl⟩
  · simp [Value.cells] at hcs
    obtain ⟨rfl, rfl, rfl⟩ := hcs
    refine ⟨bs, hl, hm, ?_⟩
    by_cases h0 : len = 0
    · exact .inl h0
    · obtain ⟨b, off, spot⟩ := x
      have hspot : spot = none := by simpa [Addr.add] using World.cell?_spot (hcell 0 (by omega))
      subst hspot
      exact .inr ⟨b, off, rfl, fun r hr => by rw [← Go.WideShapes.add_plain]; exact hcell r (by omega)⟩
theorem BoolsArg.below {w w' : World} {a : Option Addr} {len cap : Nat} (h : BoolsArg w a len cap) (hb : Below w.heap.size w w') : BoolsArg w' a len cap := by
  obtain ⟨T, h1, h2, h3⟩ := h
  exact ⟨T, h1, h2, h3.below hb (Nat.le_refl _)⟩
/-- Two answers that are alike. -/
def SameAns (w : World) (v v' : Value) : Prop := ∃ (n : Nat) (a : Option Addr) (c : Nat) (a' : Option Addr) (c' : Nat) (F : Nat → ByteArray), n ≤ 1000 ∧ v = .slice a n c ∧ v' = .slice a' n c' ∧ (Vals w a n fun i => .string (F i)) ∧ (Vals w a' n fun i => .string (F i))
theorem dec_same {n nb : Nat} {T : Nat → Bool} {M : Nat → Nat} {Y : Mx} {v v' : Value} {er er' : Int} {w1 w2 w3 : World} {B B' : Nat} (h : DecPost n nb T M Y v er w1 B) (h' : DecPost n nb T M Y v' er' w3 B') (h12 : Below w1.heap.size w1 w2) (h23 : Below w2.heap.size w2 w3) : er = er' ∧ SameAns w3 v v' := by
  have nil : SameAns w3 (.slice none 0 0) (.slice none 0 0) := ⟨0, none, 0, none, 0, fun _ => ⟨#[]⟩, by decide, rfl, rfl, .inl rfl, .inl rfl⟩
  rcases h with ⟨a1, rfl, rfl⟩ | ⟨a1, a2, rfl, rfl⟩ | ⟨a1, a2, a3, rfl, rfl⟩ | ⟨a1, a2, a3, rfl, D, hF, ho⟩ <;> rcases h' with ⟨b1, rfl, rfl⟩ | ⟨b1, b2, rfl, rfl⟩ | ⟨b1, b2, b3, rfl, rfl⟩ | ⟨b1, b2, b3, rfl, D', hF', ho'⟩
  all_goals first
    | exact ⟨rfl, nil⟩
    | exact absurd b1 a1
    | exact absurd a1 b1
    | (exfalso; omega)
    | exact absurd b3 a3
    | exact absurd a3 b3
    | skip
  refine ⟨rfl, ?_⟩
  have e : (strsL n fun i => strE (M (kidx T n 0)) (St (n - 2) D i)) = strsL n fun i => strE (M (kidx T n 0)) (St (n - 2) D' i) := strsL_congr fun i hi => strE_congr fun c hc => by
    obtain ⟨k, rfl⟩ : ∃ k, n = k + 2 := ⟨n - 2, by omega⟩
    exact fits_all (by omega) a2 hF hF' i c hc
  rw [e] at ho
  obtain ⟨a, c, rfl, -, hv⟩ := owns_form ho _ (fun i hi => strsL_at _ _ i hi)
  obtain ⟨a', c', rfl, -, hv'⟩ := owns_form ho' _ (fun i hi => strsL_at _ _ i hi)
  exact ⟨n, a, c, a', c', _, by omega, rfl, rfl, (hv.below h12 (Nat.le_refl _)).below h23 (Nat.le_refl _), hv'⟩

set_option maxHeartbeats 1000000 in
theorem decodesLaw_arg (l : Option Addr) (len cap : Nat) (th : Option Addr) (tlen tcap : Nat) (ev : Bool) (w : World) (hL : StrsArg w l len cap) (hB : BoolsArg w th tlen tcap) :
    Calls Try.prog 5 #[.slice l len cap, .slice th tlen tcap, .bool ev] w fun e w' => e = .returned (.bool true) ∧ Below w.heap.size w w' := by
  have hcut := cut_any l len cap 100 ev w hL (by decide)
  obtain ⟨T, hb1', hb2', hBv⟩ := hB
  unfold maxLen at hb2'
  clear hL
  go_enter Try.func5, Try.ntmps5
  go_wp2_with fail
  go_at_call 9
  refine hcut.mono ?_
  rintro e w1 ⟨hb1, v, f, rfl, hC⟩
  obtain ⟨a, c, rfl, hc1, hc2, hT⟩ := hC.txt (by decide)
  have k12 : min len 12 ≤ 12 := by omega
  generalize min len 12 = k at hc1 hT hC k12 ⊢
  have hB1 := hBv.below hb1 (Nat.le_refl _)
  have hdec := decode_any a th k tlen c tcap _ _ T w1 (by omega) (by omega) hT hB1
  have href := fun x (hx : Below w1.heap.size w1 x) => refDecode_any a th k tlen c tcap _ _ T x (by omega) (by omega) (hT.below hx) (hB1.below hx (Nat.le_refl _))
  clear hcut hC hT hB1 hBv
  go_wp2_with fail
  go_at_call 15
  refine hdec.mono ?_
  rintro e w2 ⟨hb2, v2, er, rfl, hp2⟩
  have hb02 := hb1.trans (hb2.mono hb1.size)
  have href2 := href w2 hb2
  have HP : Hid (∀ v' er' w3, DecPost k tlen T (fun i => (f i).size) (fun i => teE (f i)) v' er' w3 w2.heap.size → Below w2.heap.size w2 w3 → er = er' ∧ SameAns w3 v2 v') := fun v' er' w3 h hb => dec_same hp2 h (Below.refl _ _) hb
  clear href hdec hp2
  go_wp2_with fail
  go_at_call 16
  refine href2.mono ?_
  rintro e w3 ⟨hb3, v3, er3, rfl, hp3⟩
  have hb03 := hb02.trans (hb3.mono hb02.size)
  obtain ⟨rfl, hsame⟩ := HP.out v3 er3 w3 hp3 hb3
  obtain ⟨n, a2, c2, a3, c3, F, hn, rfl, rfl, hv2, hv3⟩ := hsame
  clear href2 hp3
  go_wp2_with fail
  go_at_call 12
  refine (wakes_any _).mono ?_
  rintro e w4 ⟨rfl, hb4⟩
  have heq := equal_yes a2 a3 n c2 c3 F w4 hn (hv2.below hb4 (Nat.le_refl _)) (hv3.below hb4 (Nat.le_refl _))
  have hb04 := hb03.trans (hb4.mono hb03.size)
  clear hv2 hv3
  go_wp2_with fail
  go_at_call 17
  refine heq.mono ?_
  rintro e w5 ⟨rfl, hb5⟩
  have hb05 := hb04.trans (hb5.mono hb04.size)
  go_wp2_with fail
  go_ret
  exact ⟨by simp, hb05⟩
end Go.Proofs.Ytdpcbiccbhlonaa
/- Arrays that came in, read. -/
namespace Go.Proofs.Ytdpcbiccbhlonaa
open Go.ChangeShapes Go.WideShapes Go.RowKit
set_option linter.unusedVariables false

theorem okWide_agg {W : World} {b0 n : Nat} {t e : TypeId} {v : Value} (hu : Try.prog.underlying t = some (.array n e)) (h : Value.okWide Try.prog W .any b0 t v) : ∃ xs : Array Value, v = .agg xs := by
  simp only [Value.okWide, hu] at h
  obtain ⟨cs, h1, _⟩ := h
  exact ⟨cs, h1⟩
theorem mapM_range {β : Type} {g : Nat → Option β} : ∀ (L : List Nat) (ys : List β), L.mapM g = some ys → ∀ i ∈ L, ∃ y, g i = some y
  | [], ys, h => fun i hi => by cases hi
  | a :: L, ys, h => fun i hi => by
    rw [List.mapM_cons] at h
    simp only [bind, Option.bind_eq_some_iff, pure, Option.some.injEq] at h
    obtain ⟨y, hy, zs, hz, rfl⟩ := h
    cases hi with
    | head => exact ⟨y, hy⟩
    | tail _ hi => exact mapM_range L zs hz i hi
theorem arr_at {H : Type} {enc : TypeId × Value → H} {W : World} {t e : TypeId} {n : Nat} {xs : Array Value} {d : DataW H} {p : List MemPlace} (hu : Try.prog.underlying t = some (.array n e)) (hc : Try.prog.cellsOf e = 1) (hct : Try.prog.cellsOf t = n)
    (h : DataW.Trod enc Try.prog W 0 (fun _ => true) true t (.agg xs) d p) : xs.size = n ∧ ∀ i, i < n → ∃ fuel y v, DataW.trod enc Try.prog W 0 (fun _ => true) true fuel e [v] = some y ∧ xs[i]? = some v := by
  obtain ⟨fuel, hf⟩ := h
  cases fuel with
  | zero => simp [DataW.trod] at hf
  | succ m =>
    rw [DataW.trod_step] at hf
    unfold DataW.trodStep at hf
    simp only [hu, Value.cells, hc, hct] at hf
    by_cases hn : xs.toList.length = n
    · rw [if_pos hn] at hf
      simp only [Option.map_eq_some_iff] at hf
      obtain ⟨ys, hy, -⟩ := hf
      have hn' : xs.size = n := by simpa using hn
      refine ⟨hn', fun i hi => ?_⟩
      obtain ⟨y, hy⟩ := mapM_range _ _ hy i (List.mem_range.2 hi)
      have e1 : (xs.toList.drop (i * 1)).take 1 = [xs[i]'(by omega)] := by
        rw [Nat.mul_one, List.drop_eq_getElem_cons (by rw [Array.length_toList]; omega)]
        simp
      rw [e1] at hy
      exact ⟨m, y, _, hy, Array.getElem?_eq_getElem _⟩
    · rw [if_neg hn] at hf; cases hf
theorem strs4_arg {H : Type} {enc : TypeId × Value → H} {W : World} {xs : Array Value} {d : DataW H} {p : List MemPlace} (h : DataW.Trod enc Try.prog W 0 (fun _ => true) true 31 (.agg xs) d p) :
    ∃ s0 s1 s2 s3 : ByteArray, xs = #[.string s0, .string s1, .string s2, .string s3] ∧ s0.size ≤ maxLen ∧ s1.size ≤ maxLen ∧ s2.size ≤ maxLen ∧ s3.size ≤ maxLen := by
  obtain ⟨hn, hx⟩ := arr_at Try.underlying31 (by kernel_rfl) (by kernel_rfl) h
  have hs : ∀ i, i < 4 → ∃ s : ByteArray, xs[i]? = some (.string s) ∧ s.size ≤ maxLen := fun i hi => by
    obtain ⟨fuel, y, v, h1, h2⟩ := hx i hi
    obtain ⟨s, h3, -, h4⟩ := DataW.trod_string Try.underlying9 h1
    simp at h3
    exact ⟨s, by rw [h2, h3], h4⟩
  obtain ⟨s0, a0, b0⟩ := hs 0 (by decide)
  obtain ⟨s1, a1, b1⟩ := hs 1 (by decide)
  obtain ⟨s2, a2, b2⟩ := hs 2 (by decide)
  obtain ⟨s3, a3, b3⟩ := hs 3 (by decide)
  refine ⟨s0, s1, s2, s3, ?_, b0, b1, b2, b3⟩
  apply Array.ext_getElem?
  intro i
  match i with
  | 0 => exact a0
  | 1 => exact a1
  | 2 => exact a2
  | 3 => exact a3
  | i + 4 => rw [Array.getElem?_eq_none (by omega), Array.getElem?_eq_none (by simp)]
theorem ints3_arg {H : Type} {enc : TypeId × Value → H} {W : World} {xs : Array Value} {d : DataW H} {p : List MemPlace} (h : DataW.Trod enc Try.prog W 0 (fun _ => true) true 44 (.agg xs) d p) :
    ∃ x : Nat → Int, xs = #[.int .i64 (x 0), .int .i64 (x 1), .int .i64 (x 2)] ∧ ∀ i, i < 3 → -9223372036854775808 ≤ x i ∧ x i ≤ 9223372036854775807 := by
  obtain ⟨hn, hx⟩ := arr_at Try.underlying44 (by kernel_rfl) (by kernel_rfl) h
  have hs : ∀ i, i < 3 → ∃ n : Int, xs[i]? = some (.int .i64 n) ∧ -9223372036854775808 ≤ n ∧ n ≤ 9223372036854775807 := fun i hi => by
    obtain ⟨fuel, y, v, h1, h2⟩ := hx i hi
    obtain ⟨s, h3, -, h4⟩ := DataW.trod_int Try.underlying3 h1
    simp at h3
    exact ⟨s, by rw [h2, h3], bounds_i64 h4⟩
  obtain ⟨s0, a0, b0⟩ := hs 0 (by decide)
  obtain ⟨s1, a1, b1⟩ := hs 1 (by decide)
  obtain ⟨s2, a2, b2⟩ := hs 2 (by decide)
  refine ⟨fun i => match i with | 0 => s0 | 1 => s1 | _ => s2, ?_, fun i hi => ?_⟩
  · apply Array.ext_getElem?
    intro i
    match i with
    | 0 => exact a0
    | 1 => exact a1
    | 2 => exact a2
    | i + 3 => rw [Array.getElem?_eq_none (by omega), Array.getElem?_eq_none (by simp)]
  · match i, hi with
    | 0, _ => exact b0
    | 1, _ => exact b1
    | 2, _ => exact b2
end Go.Proofs.Ytdpcbiccbhlonaa
