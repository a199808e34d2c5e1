/- What the document's own combination of two texts answers, for every two texts: bit by bit it is the exclusive or of the bytes. -/
import Derived.Test.YtnpebabffnjmmaaXor
import Derived.Deep.QuietTactic
import Derived.BigQuiet
namespace Go.Proofs.Ytnpebabffnjmmaa
open Go.RowKit Go.PlainAid
set_option linter.unusedVariables false

/-- What has been gathered behind k rounds. -/
def ulN (a b : Int) : Nat → Int
  | 0 => 0
  | k + 1 => if (a / 2 ^ k) % 2 = (b / 2 ^ k) % 2 then ulN a b k else (ulN a b k + 2 ^ k % 256) % 256

theorem ulN_nat (A B k : Nat) (hk : k ≤ 8) : ulN (A : Int) (B : Int) k = (((A ^^^ B) % 2 ^ k : Nat) : Int) := by
  induction k with
  | zero => simp [ulN, Nat.mod_one]
  | succ k ih =>
    have ih := ih (by omega)
    have hlt : (A ^^^ B) % 2 ^ k < 2 ^ k := Nat.mod_lt _ (Nat.pow_pos (by omega))
    have hz := Nat.mod_pow_succ (x := A ^^^ B) (b := 2) (k := k)
    have hx : (A ^^^ B) / 2 ^ k % 2 = (A / 2 ^ k + B / 2 ^ k) % 2 := by
      rw [Nat.xor_div_two_pow]
      have := Nat.xor_mod_two_eq_one (a := A / 2 ^ k) (b := B / 2 ^ k)
      omega
    have hp : 2 ^ k ≤ 128 := Nat.pow_le_pow_right (n := 2) (by omega) (show k ≤ 7 by omega)
    have e1 : ((A : Int) / 2 ^ k) % 2 = ((A / 2 ^ k % 2 : Nat) : Int) := by simp
    have e2 : ((B : Int) / 2 ^ k) % 2 = ((B / 2 ^ k % 2 : Nat) : Int) := by simp
    have e3 : (2 : Int) ^ k = ((2 ^ k : Nat) : Int) := by simp
    unfold ulN
    rw [ih, e1, e2, e3, hz, hx]
    split
    · rename_i h
      have : (A / 2 ^ k + B / 2 ^ k) % 2 = 0 := by omega
      rw [this]; simp
    · rename_i h
      have : (A / 2 ^ k + B / 2 ^ k) % 2 = 1 := by omega
      rw [this]; omega

theorem ulN_range (a b : Int) (k : Nat) : 0 ≤ ulN a b k ∧ ulN a b k ≤ 255 := by
  induction k with
  | zero => simp [ulN]
  | succ k ih => unfold ulN; split <;> omega

theorem ulN_xor (a b : Int) (h1 : 0 ≤ a) (h2 : a ≤ 255) (h3 : 0 ≤ b) (h4 : b ≤ 255) : ulN a b 8 = bits .xor .u8 a b := by
  rw [u8_xor a b h1 (by omega) h3 (by omega)]
  obtain ⟨A, rfl⟩ := Int.eq_ofNat_of_zero_le h1
  obtain ⟨B, rfl⟩ := Int.eq_ofNat_of_zero_le h3
  rw [ulN_nat A B 8 (by omega)]
  have hx : A ^^^ B < 2 ^ 8 := Nat.xor_lt_two_pow (by omega) (by omega)
  rw [Nat.mod_eq_of_lt hx]
  simp

theorem half_on (a : Int) (k : Nat) : a / 2 ^ k / 2 = a / 2 ^ (k + 1) := by
  rw [Int.ediv_ediv_of_nonneg (by exact Int.pow_nonneg (by omega)), ← Int.pow_succ]
theorem pow_on (k : Nat) : 2 * ((2 : Int) ^ k % 256) % 256 = 2 ^ (k + 1) % 256 := by
  rw [Int.pow_succ]; omega
theorem pow_range (k : Nat) : 0 ≤ (2 : Int) ^ k % 256 ∧ (2 : Int) ^ k % 256 ≤ 255 := by omega
theorem div_range (a : Int) (k : Nat) (h1 : 0 ≤ a) (h2 : a ≤ 255) : 0 ≤ a / 2 ^ k ∧ a / 2 ^ k ≤ 255 := by
  obtain ⟨A, rfl⟩ := Int.eq_ofNat_of_zero_le h1
  have e1 : ((A : Int) / 2 ^ k) = ((A / 2 ^ k : Nat) : Int) := by simp
  have : A / 2 ^ k ≤ A := Nat.div_le_self _ _
  rw [e1]
  generalize A / 2 ^ k = q at this
  omega

theorem unlike_any (a b : Int) (h1 : 0 ≤ a) (h2 : a ≤ 255) (h3 : 0 ≤ b) (h4 : b ≤ 255) (w : World) :
    Calls Try.prog 51 #[.int .u8 a, .int .u8 b] w fun e w' => e = .returned (.int .u8 (bits .xor .u8 a b)) ∧ w' = w := by
  go_enter Try.func51, Try.ntmps51
  go_wp2
  go_loop [0, 1, 5, 6, 7] (fun x y n p i => ∃ k : Nat, k ≤ 8 ∧ i = .int .i64 k ∧ x = .int .u8 (a / 2 ^ k) ∧ y = .int .u8 (b / 2 ^ k) ∧ n = .int .u8 (ulN a b k) ∧ p = .int .u8 (2 ^ k % 256)) (fun _ _ _ _ i => 8 - (intOf i).toNat)
  case atStart => exact ⟨0, by omega, rfl, by simp, by simp, rfl, by simp⟩
  case round =>
    obtain ⟨k, hk, rfl, rfl, rfl, rfl, rfl⟩ := hrel
    have da := div_range a k h1 h2
    have db := div_range b k h3 h4
    have dp := pow_range k
    have dn := ulN_range a b k
    have HA : Hid (a / 2 ^ k / 2 = a / 2 ^ (k + 1)) := half_on a k
    have HB : Hid (b / 2 ^ k / 2 = b / 2 ^ (k + 1)) := half_on b k
    have HP : Hid (2 * ((2 : Int) ^ k % 256) % 256 = 2 ^ (k + 1) % 256) := pow_on k
    have HN : Hid (ulN a b (k + 1) = if (a / 2 ^ k) % 2 = (b / 2 ^ k) % 2 then ulN a b k else (ulN a b k + 2 ^ k % 256) % 256) := rfl
    obtain ⟨P, hP⟩ : ∃ P, P = (2 : Int) ^ k % 256 := ⟨_, rfl⟩
    rw [← hP] at dp HP HN ⊢
    clear hP
    generalize a / 2 ^ k = X at da HA HN ⊢
    generalize b / 2 ^ k = Y at db HB HN ⊢
    by_cases hlt : k < 8
    · go_wp2
      · have ht : (X % 2 != Y % 2) = true := by assumption
        have ht' : ¬ X % 2 = Y % 2 := by simpa using ht
        go_round
        case rel => exact ⟨k + 1, by omega, by go_num, by rw [HA.out], by rw [HB.out], by rw [HN.out, if_neg ht'], by rw [HP.out]⟩
        case measure => simp [intOf]; omega
      · have ht : (X % 2 != Y % 2) = false := by assumption
        have ht' : X % 2 = Y % 2 := by simpa using ht
        go_round
        case rel => exact ⟨k + 1, by omega, by go_num, by rw [HA.out], by rw [HB.out], by rw [HN.out, if_pos ht'], by rw [HP.out]⟩
        case measure => simp [intOf]; omega
    · have hk8 : k = 8 := by omega
      subst hk8
      go_wp2
      go_ret
      exact ⟨ret_int (ulN_xor a b h1 h2 h3 h4), rfl⟩
/-- Bytes that the call itself gathered, as a text. -/
theorem convert_owned {w : World} {base : Nat} {v : Value} {n : Nat} {xs : List Int} (h : w.ownsRow base 5 1 v n (xs.map (Value.int .u8))) (hn : xs.length = n) :
    (convert 36 9 v).run Try.prog w = .ok (.string (strOfNums xs)) w := by
  have hc := h
  rcases h.2 with ⟨rfl, h0⟩ | ⟨g, cap, cur, rfl, hb, hg, _⟩
  · have : xs = [] := List.eq_nil_of_length_eq_zero (by omega)
    subst this
    rw [run_convert_bytes_nil w 36 5 Try.underlying36 Try.underlying5 0 0 9 Try.underlying9]
    rfl
  · refine run_convert_bytes_arg w 36 5 Try.underlying36 Try.underlying5 g 0 n cap xs hn (fun i hi => ?_) 9 Try.underlying9
    rw [Nat.zero_add, hc.cellAt i (by omega)]
    have : i < xs.length := by omega
    simp [List.getD, this]

def xorF (a b : ByteArray) (k : Nat) : List Int := (List.range k).map fun i => bits .xor .u8 (bt a i) (bt b i)
theorem xorF_succ (a b : ByteArray) (k : Nat) : xorF a b (k + 1) = xorF a b k ++ [bits .xor .u8 (bt a k) (bt b k)] := by
  unfold xorF; rw [List.range_succ, List.map_append]; rfl
theorem xorF_length (a b : ByteArray) (k : Nat) : (xorF a b k).length = k := by simp [xorF]

set_option maxRecDepth 20000 in
set_option maxHeartbeats 400000 in
theorem refXor_any (a b : ByteArray) (w : World) (ha : a.size ≤ 4000) (hb : b.size ≤ 4000) :
    Calls Try.prog 33 #[.string a, .string b] w fun e w' => e = .returned (.string (xorB a b)) ∧ Below w.heap.size w w' := by
  obtain ⟨i0, hi, hz0, hz1, hz2⟩ := info_parts Try.info5
  obtain ⟨n, hn⟩ : ∃ n : Nat, min a.size b.size = n := ⟨_, rfl⟩
  have hna : n ≤ a.size := by omega
  have hnb : n ≤ b.size := by omega
  have HN : Hid (min a.size b.size = n) := hn
  have hba := get_bt a
  have hbb := get_bt b
  clear hn
  go_enter Try.func33, Try.ntmps33
  go_wp2
  go_loopw [5, 6] (fun v i wr => ∃ k : Nat, k ≤ n ∧ i = .int .i64 k ∧ wr.ownsRow w.heap.size 5 1 v k ((xorF a b k).map (Value.int .u8)) ∧ Below w.heap.size w wr) (fun _ i _ => n - (intOf i).toNat)
  case atStart => exact ⟨0, Nat.zero_le _, rfl, World.ownsRow_nil _ _ _ _, Below.refl _ _⟩
  case round =>
    obtain ⟨k, hk, rfl, hown, hbel⟩ := hrel
    by_cases hlt : k < n
    · have ra := bt_nonneg a k
      have ra' := bt_le a k
      have rb := bt_nonneg b k
      have rb' := bt_le b k
      have hka : k < a.size := by omega
      have hkb : k < b.size := by omega
      go_wp2_with fail
      go_quiet ((go_at_call 51; exact Calls.quiet_of_same (unlike_any _ _ ra ra' rb rb' _)))
      go_wp2_with (at_builtin; refine wpList_append_own _ rfl _ _ 36 rfl w.heap.size 5 i0 (.int .u8 0) 1 1 Try.underlying36 hi hz0 hz1 hz2 rfl (by decide) _ _ _ rfl (World.ownsRow.alloc (w := wr.drewN nq) hown _) ⟨wr.heap.size, 0, none⟩ 1 1 [.int .u8 (bits .xor .u8 (bt a k) (bt b k))] rfl rfl ?c1 ?c2 ?c3 ?c4 ?c5 ?_)
      case c1 =>
        intro j u hj
        match j, hj with
        | 0, hj => simp at hj; subst hj; simp [Addr.add, World.drewN]
      case c2 => intro u hu; simp at hu; subst hu; rfl
      case c3 => unfold maxLen; omega
      case c4 => omega
      case c5 => have := hbel.size; simp [World.drewN]; omega
      · intro v' w1 hown' hgrow _
        have hbel' : Below w.heap.size w w1 := by
          refine Below.grown ((below_drewN hbel nq).alloc (by simp [World.drewN]; exact hbel.size) _) hgrow ?_ ?_
          · have := hbel.size; simp [World.drewN]; omega
          · intro g hg; exact (hown.lt g hg).1
        have R : w1.ownsRow w.heap.size 5 1 v' (k + 1) ((xorF a b (k + 1)).map (Value.int .u8)) := by
          rw [xorF_succ, List.map_append]; exact hown'
        clear hown' hgrow hown hbel
        go_wp2
        go_roundw
        case rel => exact ⟨k + 1, by omega, by go_num, R, hbel'⟩
        case measure => simp [intOf]; omega
    · have hkn : k = n := by omega
      subst hkn
      have hconv := convert_owned hown (xorF_length a b k)
      have hres : strOfNums (xorF a b k) = xorB a b := by unfold xorB xorL xorF; rw [HN.out]
      rw [hres] at hconv
      have hend : (a.size : Int) ≤ (k : Int) ∨ (b.size : Int) ≤ (k : Int) := by have := HN.out; omega
      clear hres
      by_cases hka : k < a.size
      · have hkb : ¬ k < b.size := by omega
        go_wp2
        go_ret
        exact ⟨rfl, hbel⟩
      · go_wp2
        go_ret
        exact ⟨rfl, hbel⟩
end Go.Proofs.Ytnpebabffnjmmaa
