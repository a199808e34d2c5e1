/- Which texts the program takes for the same, and the statement PolyEqual, walked. -/
import Derived.Test.YtnpebabffnjmmaaPoRow
import Derived.Test.YtnpebabffnjmmaaPoText
namespace Go.Proofs.Ytnpebabffnjmmaa
open Go.RowKit Go.PlainAid
set_option linter.unusedVariables false

set_option maxRecDepth 20000 in
theorem str_ix (s : ByteArray) (i : Nat) (h : i < s.size) (w : World) : (Instr.index 9 (.string s) (.int .i64 (i : Int))).run Try.prog w = .ok (.int .u8 ((bn s i : Nat) : Int)) w := by
  rw [run_index_string w 9 s .i64 (i : Int) Try.underlying9, dif_pos ⟨by omega, by omega⟩, bn_int]
  unfold bt
  rw [dif_pos h]
  simp
set_option maxRecDepth 20000 in
theorem xor_zero_iff (p q : Nat) : p ^^^ q = 0 ↔ p = q := by
  constructor
  · intro h
    have h2 : (p ^^^ q) ^^^ q = 0 ^^^ q := by rw [h]
    rw [Nat.xor_assoc, Nat.xor_self, Nat.xor_zero, Nat.zero_xor] at h2
    exact h2
  · rintro rfl; exact Nat.xor_self p
set_option maxRecDepth 20000 in
theorem or_zero_iff (p q : Nat) : p ||| q = 0 ↔ p = 0 ∧ q = 0 := by
  constructor
  · intro h
    have h1 := Nat.left_le_or (n := p) (m := q)
    have h2 := Nat.right_le_or (n := p) (m := q)
    omega
  · rintro ⟨rfl, rfl⟩; rfl

set_option maxRecDepth 20000 in
set_option maxHeartbeats 1000000 in
theorem equal_any (a b : ByteArray) (ha : a.size ≤ 9007199254740992) (hb : b.size ≤ 9007199254740992) (w : World) :
    Calls Try.prog 23 #[.string a, .string b] w fun e w' => e = .returned (.bool (decide (a = b))) ∧ Below w.heap.size w w' := by
  by_cases hs : a.size = b.size
  · have hI : (((a.size : Nat) : Int) != ((b.size : Nat) : Int)) = false := by simp; omega
    have HS : Hid (a.size = b.size) := hs
    have hab : a.size ≤ b.size := by omega
    clear hs
    go_enter Try.func23, Try.ntmps23
    go_wp2_with fail
    go_loopw [5, 14] (fun u v wr => ∃ k x : Nat, k ≤ a.size ∧ v = .int .i64 k ∧ u = .int .u8 (x : Int) ∧ x < 256 ∧ (x = 0 ↔ ∀ i, i < k → bn a i = bn b i) ∧ Below w.heap.size w wr) (fun _ v _ => (a.size - intOf v).toNat)
    case atStart => exact ⟨0, 0, by omega, rfl, rfl, by decide, ⟨fun _ i hi => by omega, fun _ => rfl⟩, Below.refl _ _⟩
    case round =>
      obtain ⟨k, x, hk, rfl, rfl, hx, hxi, hl⟩ := hrel
      by_cases hlt : k < a.size
      · have hlt' : (k : Int) < ((a.size : Nat) : Int) := by omega
        have ia := str_ix a k hlt
        have ib := str_ix b k (by omega)
        have b0 := bn_lt a k
        have b1 := bn_lt b k
        rw [show (2 : Nat) ^ 8 = 256 from rfl] at b0 b1
        have hxor := u8_xor_nat (bn a k) (bn b k) b0 b1
        have hxl : bn a k ^^^ bn b k < 256 := Nat.xor_lt_two_pow (n := 8) b0 b1
        have hor := u8_or_nat x (bn a k ^^^ bn b k) hx hxl
        have hol : x ||| (bn a k ^^^ bn b k) < 256 := Nat.or_lt_two_pow (n := 8) hx hxl
        have HN : Hid (x ||| (bn a k ^^^ bn b k) = 0 ↔ ∀ i, i < k + 1 → bn a i = bn b i) := by
          show _ ↔ _
          rw [or_zero_iff, xor_zero_iff, hxi]
          constructor
          · rintro ⟨h1, h2⟩ i hi
            by_cases e : i = k
            · rw [e]; exact h2
            · exact h1 i (by omega)
          · intro h
            exact ⟨fun i hi => h i (by omega), h k (by omega)⟩
        have Hl : Hid (Below w.heap.size w wr) := hl
        clear hxi hl
        generalize x ||| (bn a k ^^^ bn b k) = z at *
        generalize bn a k ^^^ bn b k = y at *
        generalize bn a k = p at *
        generalize bn b k = q at *
        go_wp2_with fail
        go_quiet (fail)
        go_wp2_with fail
        exact ⟨⟨k + 1, z, by omega, by go_num, rfl, hol, HN.out, ⟨Hl.out.os, Hl.out.tape, Hl.out.output, Hl.out.size, Hl.out.block⟩⟩, by simp [intOf]; omega⟩
      · have hke : k = a.size := by omega
        subst hke
        have hD : decide (a = b) = decide ((x : Int) = 0) := by
          apply decide_eq_decide.2
          constructor
          · intro e
            have : x = 0 := hxi.2 (fun i _ => by rw [e])
            omega
          · intro e
            apply bt_ext HS.out
            intro i hi
            rw [← bn_int, ← bn_int, hxi.1 (by omega) i hi]
        have HD : Hid (decide (a = b) = ((x : Int) == 0)) := by rw [hD]; exact rfl
        clear hxi hD
        go_wp2_with fail
        go_ret
        exact ⟨by rw [HD.out]; rfl, hl⟩
  · have hI : (((a.size : Nat) : Int) != ((b.size : Nat) : Int)) = true := by simp; omega
    have HD : Hid (decide (a = b) = false) := decide_eq_false (fun e => hs (by rw [e]))
    clear hs
    go_enter Try.func23, Try.ntmps23
    go_wp2_with fail
    go_ret
    exact ⟨by rw [HD.out]; rfl, Below.refl _ _⟩

set_option maxRecDepth 20000 in
theorem toList_eq (a b : ByteArray) : (a.toList == b.toList) = decide (a = b) := by
  by_cases h : a = b
  · subst h; simp
  · rw [decide_eq_false h]
    apply beq_eq_false_iff_ne.2
    intro e
    apply h
    rw [ByteArray.toList_eq, ByteArray.toList_eq] at e
    exact ByteArray.ext (Array.toList_inj.1 e)

end Go.Proofs.Ytnpebabffnjmmaa
