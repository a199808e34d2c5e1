import Derived.WalkKit
import Derived.Test.YtokknmkleceooaaGreatDoorTk
import Derived.Laws.BitsAllLaws
import Derived.PlainAid
import Derived.Laws.BytesArg
import Derived.Test.YtokknmkleceooaaGreatDoorRows
import Derived.ProofKit
import Derived.OpenShut
import Derived.WalkLawsBesides
import Derived.WalkSpells
import Derived.Deep.QuietTactic
import Derived.BigQuiet
import Derived.Deep.RegionWith
import Derived.Deep.RegionHeld3
import Derived.Laws.CopyOwn
import Derived.BigRegion
import Derived.Deep.MidRow
import Derived.Maps.AppendAt
import Derived.Lib.SliceRun
import Derived.ShutString
import Derived.ChangeOld
import Derived.ChangeArms
import Derived.Deep.Matrix
import Derived.Lib.AppendZeros
import Derived.Maps.OwnSet
import Derived.StringKeys
namespace Go.Proofs.YtokknmkleceooaaGreatDoor
set_option maxRecDepth 20000
open Go.RowKit
theorem ret_int {k : IntKind} {a b : Int} (h : a = b) : Ending.returned (.int k a) = .returned (.int k b) := by rw [h]
def stepL (x : Int) : Int := (x * 2 + x / 2147483648) % 4294967296
def turn : Nat → Int → Int
  | 0, x => x
  | s + 1, x => stepL (turn s x)
def rotl (x : Int) (s : Nat) : Int := (x * 2 ^ s) % 4294967296 + x / 2 ^ (32 - s)
theorem turn_add (a b : Nat) (x : Int) : turn a (turn b x) = turn (a + b) x := by
  induction a with
  | zero => simp [turn]
  | succ a ih => rw [show a + 1 + b = (a + b) + 1 by omega]; simp only [turn, ih]
theorem rot_nat (X P M : Nat) (hP : P * M = 2147483648) (hX : X < 4294967296) (hM : 0 < M) :
    ((P * (X % (2 * M)) + X / (2 * M)) * 2 + (P * (X % (2 * M)) + X / (2 * M)) / 2147483648) % 4294967296 = 2 * P * (X % M) + X / M := by
  obtain ⟨q, hq⟩ : ∃ q, q = X / (2 * M) := ⟨_, rfl⟩
  obtain ⟨t, ht⟩ : ∃ t, t = X % (2 * M) / M := ⟨_, rfl⟩
  obtain ⟨u, hu⟩ : ∃ u, u = X % M := ⟨_, rfl⟩
  have hr : X % (2 * M) = M * t + u := by
    have h1 := Nat.div_add_mod (X % (2 * M)) M
    rw [Nat.mod_mul_left_mod, ← hu, ← ht] at h1
    exact h1.symm
  have ht2 : t < 2 := by
    rw [ht, Nat.div_lt_iff_lt_mul hM]; exact Nat.mod_lt _ (by omega)
  have huM : u < M := by rw [hu]; exact Nat.mod_lt _ hM
  have hx := Nat.div_add_mod X (2 * M)
  rw [← hq, hr] at hx
  have hqP : q < P := by
    rw [hq, Nat.div_lt_iff_lt_mul (by omega)]
    have : P * (2 * M) = 2 * (P * M) := by rw [Nat.mul_left_comm]
    omega
  have hd : X / M = 2 * q + t := by
    rw [← hx, show 2 * M * q + (M * t + u) = u + M * (2 * q + t) by rw [Nat.mul_add, ← Nat.mul_assoc, Nat.mul_comm M 2]; omega, Nat.add_mul_div_left _ _ hM, Nat.div_eq_of_lt huM]
    omega
  have hA : P * u + P ≤ 2147483648 := by
    rw [← hP, ← Nat.mul_succ]; exact Nat.mul_le_mul_left P huM
  have hB : P * (M * t + u) = 2147483648 * t + P * u := by rw [Nat.mul_add, ← Nat.mul_assoc, hP]
  have hC : 2 * P * u = 2 * (P * u) := Nat.mul_assoc _ _ _
  rw [hr, hB, ← hq, ← hu, hd, hC]
  obtain ⟨A, hAe⟩ : ∃ A, A = P * u := ⟨_, rfl⟩
  rw [← hAe] at hA ⊢
  clear hx hd hB hC hr ht hu hAe
  have h31 : (2147483648 * t + A + q) / 2147483648 = t := by omega
  rw [h31]
  omega
theorem rotl_nat (X s : Nat) (hs : s ≤ 31) : rotl (X : Int) s = ((2 ^ s * (X % 2 ^ (32 - s)) + X / 2 ^ (32 - s) : Nat) : Int) := by
  have hps : 2 ^ s * 2 ^ (32 - s) = 4294967296 := by rw [← Nat.pow_add, show s + (32 - s) = 32 by omega]
  have e3 : X * 2 ^ s % 4294967296 = 2 ^ s * (X % 2 ^ (32 - s)) := by
    rw [← hps, Nat.mul_comm X, Nat.mul_mod_mul_left]
  unfold rotl
  rw [← e3]
  simp
theorem rotl_step (x : Int) (h0 : 0 ≤ x) (h1 : x < 4294967296) (s : Nat) (hs : s < 31) : stepL (rotl x s) = rotl x (s + 1) := by
  obtain ⟨X, rfl⟩ := Int.eq_ofNat_of_zero_le h0
  rw [rotl_nat X s (by omega), rotl_nat X (s + 1) (by omega)]
  have e1 : (32 - (s + 1)) = 31 - s := by omega
  have e2 : 2 ^ (32 - s) = 2 * 2 ^ (31 - s) := by rw [show 32 - s = (31 - s) + 1 by omega, Nat.pow_succ, Nat.mul_comm]
  have e3 : 2 ^ (s + 1) = 2 * 2 ^ s := by rw [Nat.pow_succ, Nat.mul_comm]
  have hP : 2 ^ s * 2 ^ (31 - s) = 2147483648 := by rw [← Nat.pow_add, show s + (31 - s) = 31 by omega]
  have h := rot_nat X (2 ^ s) (2 ^ (31 - s)) hP (by omega) (Nat.pow_pos (by omega))
  rw [e1, e2, e3, ← h]
  unfold stepL
  omega
theorem turn_rotl (x : Int) (h0 : 0 ≤ x) (h1 : x < 4294967296) (s : Nat) (hs : s ≤ 31) : turn s x = rotl x s := by
  induction s with
  | zero => simp only [turn, rotl]; omega
  | succ s ih => rw [turn, ih (by omega), rotl_step x h0 h1 s (by omega)]
theorem turn_32 (x : Int) (h0 : 0 ≤ x) (h1 : x < 4294967296) : turn 32 x = x := by
  show stepL (turn 31 x) = x
  rw [turn_rotl x h0 h1 31 (by omega)]
  obtain ⟨X, rfl⟩ := Int.eq_ofNat_of_zero_le h0
  rw [rotl_nat X 31 (by omega)]
  unfold stepL
  simp only [show 32 - 31 = 1 from rfl, Nat.pow_one]
  obtain ⟨q, hq⟩ : ∃ q, q = X / 2 := ⟨_, rfl⟩
  obtain ⟨t, ht⟩ : ∃ t, t = X % 2 := ⟨_, rfl⟩
  have hX : X = 2 * q + t := by omega
  have ht2 : t < 2 := by omega
  rw [← hq, ← ht]
  clear hq ht
  subst hX
  have h31 : ((2 ^ 31 * t + q : Nat) : Int) / 2147483648 = (t : Int) := by omega
  rw [h31]
  omega
theorem turn_mod (s : Nat) (x : Int) (h0 : 0 ≤ x) (h1 : x < 4294967296) : turn (s % 32) x = turn s x := by
  have g : ∀ q r, turn (32 * q + r) x = turn r x := by
    intro q
    induction q with
    | zero => intro r; simp
    | succ q ih =>
      intro r
      rw [show 32 * (q + 1) + r = (32 * q + r) + 32 by omega, ← turn_add, turn_32 x h0 h1, ih]
  conv => rhs; rw [show s = 32 * (s / 32) + s % 32 by omega]
  rw [g]
theorem rot_or (x : Int) (s : Nat) (hs : s ≤ 31) (h0 : 0 ≤ x) (h1 : x < 4294967296) :
    bits .or .u32 (IntKind.u32.wrap (x * 2 ^ s)) (x / 2 ^ (32 - s)) = rotl x s := by
  obtain ⟨X, rfl⟩ := Int.eq_ofNat_of_zero_le h0
  have hX : X < 4294967296 := by omega
  have e1 : IntKind.u32.wrap ((X : Int) * 2 ^ s) = ((X * 2 ^ s % 4294967296 : Nat) : Int) := by
    rw [IntKind.wrap_u32']; simp
  have e2 : (X : Int) / 2 ^ (32 - s) = ((X / 2 ^ (32 - s) : Nat) : Int) := by simp
  have hp : 0 < 2 ^ (32 - s) := Nat.pow_pos (by omega)
  have hps : 2 ^ s * 2 ^ (32 - s) = 4294967296 := by rw [← Nat.pow_add, show s + (32 - s) = 32 by omega]
  have hlt : X / 2 ^ (32 - s) < 2 ^ s := by
    rw [Nat.div_lt_iff_lt_mul hp, hps]; exact hX
  have e3 : X * 2 ^ s % 4294967296 = 2 ^ s * (X % 2 ^ (32 - s)) := by
    rw [← hps, Nat.mul_comm X, Nat.mul_mod_mul_left]
  have hlt2 : X / 2 ^ (32 - s) < 4294967296 := Nat.lt_of_le_of_lt (Nat.div_le_self _ _) hX
  rw [e1, e2, u32_or_nat _ _ (Nat.mod_lt _ (by omega)) hlt2]
  unfold rotl
  rw [e2, show (X : Int) * 2 ^ s % 4294967296 = ((X * 2 ^ s % 4294967296 : Nat) : Int) by simp, e3, ← Nat.two_pow_add_eq_or_of_lt hlt]
  simp
theorem and31_i64 (n : Int) : bits .and .i64 n 31 = n % 32 := by
  have h : (BitVec.ofInt 64 n &&& BitVec.ofInt 64 31).toNat = (n % 32).toNat := by
    rw [BitVec.toNat_and, BitVec.toNat_ofInt, show (BitVec.ofInt 64 31).toNat = 2 ^ 5 - 1 from rfl, Nat.and_two_pow_sub_one_eq_mod]
    omega
  show IntKind.i64.wrap ((BitVec.ofInt 64 n &&& BitVec.ofInt 64 31).toNat : Int) = _
  rw [h, IntWalk.i64_in _ ⟨by omega, by omega⟩]
  omega
theorem and31_u64 (n : Int) : bits .and .u64 (IntKind.u64.wrap n) 31 = n % 32 := by
  have h : (BitVec.ofInt 64 (IntKind.u64.wrap n) &&& BitVec.ofInt 64 31).toNat = (n % 32).toNat := by
    rw [BitVec.toNat_and, BitVec.toNat_ofInt, show (BitVec.ofInt 64 31).toNat = 2 ^ 5 - 1 from rfl, Nat.and_two_pow_sub_one_eq_mod, IntKind.wrap_u64]
    omega
  show IntKind.u64.wrap ((BitVec.ofInt 64 (IntKind.u64.wrap n) &&& BitVec.ofInt 64 31).toNat : Int) = _
  rw [h, IntWalk.u64_in _ ⟨by omega, by omega⟩]
  omega
open Go.RowKit Go.PlainAid
def xorL (a b : ByteArray) : List Int := (List.range (min a.size b.size)).map fun i => bits .xor .u8 (bt a i) (bt b i)
def xorB (a b : ByteArray) : ByteArray := strOfNums (xorL a b)
theorem bt_ext {a b : ByteArray} (hs : a.size = b.size) (h : ∀ i, i < a.size → bt a i = bt b i) : a = b := by
  apply ByteArray.ext
  apply Array.ext
  · exact hs
  · intro i h1 h2
    have := h i h1
    unfold bt at this
    rw [dif_pos (show i < a.size from h1), dif_pos (show i < b.size from h2)] at this
    exact UInt8.toNat_inj.1 (Int.ofNat.inj this)
theorem bt_str (l : List Int) (hl : ∀ x ∈ l, 0 ≤ x ∧ x ≤ 255) (i : Nat) (h : i < l.length) : bt (strOfNums l) i = l[i] := by
  have hs : i < (strOfNums l).size := by rw [strOfNums_size]; exact h
  unfold bt
  rw [dif_pos hs]
  have e : (strOfNums l)[i] = UInt8.ofNat (l[i]).toNat := by
    show (strOfNums l).data[i] = _
    simp [strOfNums]
  rw [e]
  have hb := hl l[i] (List.getElem_mem h)
  rw [UInt8.toNat_ofNat']
  omega
theorem xor8_range (x y : Int) (h1 : 0 ≤ x) (h2 : x ≤ 255) (h3 : 0 ≤ y) (h4 : y ≤ 255) : 0 ≤ bits .xor .u8 x y ∧ bits .xor .u8 x y ≤ 255 := by
  rw [u8_xor x y h1 (by omega) h3 (by omega)]
  have hx : x.toNat ^^^ y.toNat < 2 ^ 8 := Nat.xor_lt_two_pow (by omega) (by omega)
  omega
theorem xorL_range (a b : ByteArray) : ∀ x ∈ xorL a b, 0 ≤ x ∧ x ≤ 255 := by
  intro x hx
  obtain ⟨i, _, rfl⟩ := List.mem_map.1 hx
  exact xor8_range _ _ (bt_nonneg a i) (bt_le a i) (bt_nonneg b i) (bt_le b i)
theorem xorB_size (a b : ByteArray) : (xorB a b).size = min a.size b.size := by
  unfold xorB; rw [strOfNums_size]; simp [xorL]
theorem bt_xorB (a b : ByteArray) (i : Nat) (h : i < min a.size b.size) : bt (xorB a b) i = ((bt a i).toNat ^^^ (bt b i).toNat : Nat) := by
  unfold xorB
  rw [bt_str _ (xorL_range a b) i (by simpa [xorL] using h)]
  unfold xorL
  rw [List.getElem_map, List.getElem_range]
  have h1 := bt_nonneg a i
  have h2 := bt_le a i
  have h3 := bt_nonneg b i
  have h4 := bt_le b i
  rw [u8_xor _ _ h1 (by omega) h3 (by omega)]
set_option linter.unusedVariables false
def filled (n k : Nat) (f : Nat → Value) (z : Value) : List Value := (List.range n).map fun i => if i < k then f i else z
theorem filled_zero (n : Nat) (f : Nat → Value) (z : Value) : filled n 0 f z = List.replicate n z := by
  unfold filled; simp; exact List.eq_replicate_iff.2 ⟨by simp, by simp⟩
theorem filled_full (n : Nat) (f : Nat → Value) (z : Value) : filled n n f z = (List.range n).map f := by
  unfold filled
  apply List.map_congr_left
  intro i hi
  rw [if_pos (by simpa using hi)]
theorem filled_set (n k : Nat) (f : Nat → Value) (z : Value) (h : k < n) : (filled n k f z).set k (f k) = filled n (k + 1) f z := by
  unfold filled
  apply List.ext_getElem
  · simp
  · intro i h1 h2
    simp only [List.length_set, List.length_map, List.length_range] at h1
    rw [List.getElem_set]
    by_cases e : k = i
    · subst e; simp
    · rw [if_neg e]
      simp
      by_cases hi : i < k
      · rw [if_pos hi, if_pos (by omega)]
      · rw [if_neg hi, if_neg (by omega)]
theorem Tryz.info5 : (Tryz.prog.info? 5).map (fun i => (i.zero, i.size, i.bytes)) = some (some (.int .u8 0), 1, 1) := by kernel_rfl
set_option maxHeartbeats 400000 in
theorem xor_any (a b : ByteArray) (w : World) (ha : a.size ≤ maxLen) (hb : b.size ≤ maxLen) (ha' : a.size ≤ 281474976710656) :
    Calls Tryz.prog 160 #[.string a, .string b] w fun e w' => e = .returned (.string (xorB a b)) ∧ Below w.heap.size w w' := by
  obtain ⟨i0, hi, hz0, hz1, hz2⟩ := info_parts Tryz.info5
  unfold maxLen at ha hb
  obtain ⟨n, hn⟩ : ∃ n : Nat, min a.size b.size = n := ⟨_, rfl⟩
  have hna : n ≤ a.size := by omega
  have hnb : n ≤ b.size := by omega
  have hmin : (min (a.size : Int) (b.size : Int)) = (n : Int) := by omega
  have HN : Hid (min a.size b.size = n) := hn
  clear hn
  go_enter Tryz.func160, Tryz.ntmps160
  go_wp2_with (at_make; refine wpList_make_full _ rfl _ _ 22 rfl w.heap.size 5 i0 (.int .u8 0) 1 Tryz.underlying22 hi hz0 hz1 _ _ _ _ n rfl rfl ?c0 ?c1 ?c2 ?c3 ?c4 ?_)
  case c0.inl => omega
  case c0.inr => omega
  case c1.inl => omega
  case c1.inr => omega
  case c2 => rw [hz2]; omega
  case c3 => unfold maxLen; omega
  case c4 => exact Nat.le_refl _
  all_goals
    intro w1 hown hgrow
    have hbel : Below w.heap.size w w1 := (Below.refl _ _).grown hgrow (Nat.le_refl _) (fun k h => by cases h)
    rw [toList_madeCells_one, ← filled_zero n (fun i => .int .u8 (bits .xor .u8 (bt a i) (bt b i)))] at hown
    have hba := get_bt a
    have hbb := get_bt b
    go_wp2
    go_loopw [15] (fun i wr => ∃ k : Nat, k ≤ n ∧ i = .int .i64 k ∧ wr.ownsRow w.heap.size 5 1 (.slice (some ⟨w.heap.size, 0, none⟩) n n) n (filled n k (fun i => .int .u8 (bits .xor .u8 (bt a i) (bt b i))) (.int .u8 0)) ∧ Below w.heap.size w wr) (fun i _ => n - (intOf i).toNat)
    case atStart => exact ⟨0, Nat.zero_le _, rfl, hown, hbel⟩
    case round =>
      obtain ⟨k, hk, rfl, hown', hbel'⟩ := hrel
      by_cases hlt : k < n
      · have hcell := hown'.cellAt k (by omega)
        have hfr := hown'.frozenAt k
        have hst := hown'.stored k (.int .u8 (bits .xor .u8 (bt a k) (bt b k)))
        rw [filled_set n k (fun i => .int .u8 (bits .xor .u8 (bt a i) (bt b i))) _ hlt] at hst
        obtain ⟨v0, hv0⟩ : ∃ v0, wr.cell? ⟨w.heap.size, k, none⟩ = some v0 := by
          rw [hcell]; exact ⟨_, List.getElem?_eq_getElem (by simp [filled]; exact hlt)⟩
        clear hcell
        go_wp2
        go_region
        all_goals
          go_wp2
          go_roundw
          case rel => exact ⟨k + 1, by omega, by go_num, hst.1.drew, (hbel'.setCell (Nat.le_refl _) _).drew⟩
          case measure => simp [intOf]; omega
      · have hkn : k = n := by omega
        subst hkn
        rw [filled_full] at hown'
        have hconv := run_convert_bytes_arg (P := Tryz.prog) wr 22 5 Tryz.underlying22 Tryz.underlying5 w.heap.size 0 k k (xorL a b) (by simp [xorL, HN.out]) (fun i hi => by
          rw [Nat.zero_add, hown'.cellAt i (by omega)]
          simp [xorL, HN.out, List.getD, hi]) 9 Tryz.underlying9
        go_wp2
        go_ret
        exact ⟨rfl, hbel'⟩
theorem places_any (n : Int) (w : World) :
    Calls Tryz.prog 262 #[.int .i64 n] w fun e w' => e = .returned (.int .i64 (n % 32)) ∧ w' = w := by
  have h := and31_i64 n
  go_enter Tryz.func262, Tryz.ntmps262
  go_wp2
  go_ret
  exact ⟨rfl, rfl⟩
theorem rotate_any (x n : Int) (h0 : 0 ≤ x) (h1 : x < 4294967296) (w : World) :
    Calls Tryz.prog 261 #[.int .u32 x, .int .i64 n] w fun e w' => e = .returned (.int .u32 (turn (n % 32).toNat x)) ∧ w' = w := by
  have h := and31_u64 n
  obtain ⟨s, hs⟩ : ∃ s : Nat, n % 32 = (s : Int) := ⟨(n % 32).toNat, by omega⟩
  have hs31 : s ≤ 31 := by omega
  have fin := rot_or x s hs31 h0 h1
  rw [← turn_rotl x h0 h1 s hs31] at fin
  have e32 : ((32 : Int) - (s : Int)).toNat = 32 - s := by omega
  rw [hs] at h
  have HF : Hid (bits .or .u32 (IntKind.u32.wrap (x * 2 ^ s)) (x / 2 ^ (32 - s)) = turn s x) := fin
  have HS : Hid (n % 32 = (s : Int)) := hs
  clear fin hs
  go_enter Tryz.func261, Tryz.ntmps261
  go_wp2
  go_ret
  refine ⟨ret_int ?_, rfl⟩
  rw [HS.out, Int.toNat_natCast, ← HF.out, IntKind.wrap_u32']
theorem left_any (x n : Int) (h0 : 0 ≤ x) (h1 : x < 4294967296) (w : World) :
    Calls Tryz.prog 263 #[.int .u32 x, .int .i64 n] w fun e w' => e = .returned (.int .u32 (turn (n % 32).toNat x)) ∧ w' = w := by
  go_enter Tryz.func263, Tryz.ntmps263
  go_wp2_with (first | (go_at_call 262; refine (places_any _ _).mono ?_; rintro e w' ⟨rfl, rfl⟩) | (go_at_call 261; refine (rotate_any _ _ h0 h1 _).mono ?_; rintro e w' ⟨rfl, rfl⟩))
  go_ret
  exact ⟨rfl, rfl⟩
theorem right_any (x n : Int) (h0 : 0 ≤ x) (h1 : x < 4294967296) (w : World) :
    Calls Tryz.prog 245 #[.int .u32 x, .int .i64 n] w fun e w' => e = .returned (.int .u32 (turn (32 - (n % 32).toNat) x)) ∧ w' = w := by
  go_enter Tryz.func245, Tryz.ntmps245
  go_wp2_with (first | (go_at_call 262; refine (places_any _ _).mono ?_; rintro e w' ⟨rfl, rfl⟩) | (go_at_call 261; refine (rotate_any _ _ h0 h1 _).mono ?_; rintro e w' ⟨rfl, rfl⟩))
  go_ret
  refine ⟨ret_int ?_, rfl⟩
  rw [← turn_mod (32 - (n % 32).toNat) x h0 h1]
  congr 1
  omega
theorem convert_owned {w : World} {base : Nat} {v : Value} {n : Nat} {xs : List Int} (h : w.ownsRow base 5 1 v n (xs.map (Value.int .u8))) (hn : xs.length = n) :
    (convert 22 9 v).run Tryz.prog w = .ok (.string (strOfNums xs)) w := by
  have hc := h
  rcases h.2 with ⟨rfl, h0⟩ | ⟨g, cap, cur, rfl, hb, hg, _⟩
  · have : xs = [] := List.eq_nil_of_length_eq_zero (by omega)
    subst this
    rw [run_convert_bytes_nil w 22 5 Tryz.underlying22 Tryz.underlying5 0 0 9 Tryz.underlying9]
    rfl
  · refine run_convert_bytes_arg w 22 5 Tryz.underlying22 Tryz.underlying5 g 0 n cap xs hn (fun i hi => ?_) 9 Tryz.underlying9
    rw [Nat.zero_add, hc.cellAt i (by omega)]
    have : i < xs.length := by omega
    simp [List.getD, this]
def le4 (a b c d : Int) : Int := a + 256 * b + 65536 * c + 16777216 * d
def be4 (a b c d : Int) : Int := le4 d c b a
theorem or_high (k : Nat) (K lo m : Int) (hK : K = 2 ^ k) (h0 : 0 ≤ lo) (h1 : lo < K) (h2 : 0 ≤ m) (h3 : m * K + lo < 4294967296) :
    bits .or .u32 lo (m * K) = lo + m * K := by
  obtain ⟨L, rfl⟩ := Int.eq_ofNat_of_zero_le h0
  obtain ⟨M, rfl⟩ := Int.eq_ofNat_of_zero_le h2
  have e : (M : Int) * K = ((2 ^ k * M : Nat) : Int) := by rw [hK]; simp [Int.mul_comm]
  have hL : L < 2 ^ k := by
    have : (L : Int) < ((2 ^ k : Nat) : Int) := by rw [hK] at h1; simpa using h1
    omega
  rw [e] at h3 ⊢
  rw [u32_or_nat L (2 ^ k * M) (by omega) (by omega), Nat.or_comm, ← Nat.two_pow_add_eq_or_of_lt hL]
  omega
theorem or_low (k : Nat) (K lo m : Int) (hK : K = 2 ^ k) (h0 : 0 ≤ lo) (h1 : lo < K) (h2 : 0 ≤ m) (h3 : m * K + lo < 4294967296) :
    bits .or .u32 (m * K) lo = lo + m * K := by
  obtain ⟨L, rfl⟩ := Int.eq_ofNat_of_zero_le h0
  obtain ⟨M, rfl⟩ := Int.eq_ofNat_of_zero_le h2
  have e : (M : Int) * K = ((2 ^ k * M : Nat) : Int) := by rw [hK]; simp [Int.mul_comm]
  have hL : L < 2 ^ k := by
    have : (L : Int) < ((2 ^ k : Nat) : Int) := by rw [hK] at h1; simpa using h1
    omega
  rw [e] at h3 ⊢
  rw [u32_or_nat (2 ^ k * M) L (by omega) (by omega), ← Nat.two_pow_add_eq_or_of_lt hL]
  omega
theorem le4_or (a b c d : Int) (ha : 0 ≤ a ∧ a ≤ 255) (hb : 0 ≤ b ∧ b ≤ 255) (hc : 0 ≤ c ∧ c ≤ 255) (hd : 0 ≤ d ∧ d ≤ 255) :
    bits .or .u32 (bits .or .u32 (bits .or .u32 a (b * 256)) (c * 65536)) (d * 16777216) = le4 a b c d := by
  rw [or_high 8 256 a b (by decide) (by omega) (by omega) (by omega) (by omega),
    or_high 16 65536 _ c (by decide) (by omega) (by omega) (by omega) (by omega),
    or_high 24 16777216 _ d (by decide) (by omega) (by omega) (by omega) (by omega)]
  unfold le4; omega
theorem be4_or (a b c d : Int) (ha : 0 ≤ a ∧ a ≤ 255) (hb : 0 ≤ b ∧ b ≤ 255) (hc : 0 ≤ c ∧ c ≤ 255) (hd : 0 ≤ d ∧ d ≤ 255) :
    bits .or .u32 (bits .or .u32 (bits .or .u32 (a * 16777216) (b * 65536)) (c * 256)) d = be4 a b c d := by
  have e1 : bits .or .u32 (a * 16777216) (b * 65536) = (a * 256 + b) * 65536 := by
    rw [or_low 24 16777216 _ a (by decide) (by omega) (by omega) (by omega) (by omega)]; omega
  have e2 : bits .or .u32 ((a * 256 + b) * 65536) (c * 256) = (a * 65536 + b * 256 + c) * 256 := by
    rw [or_low 16 65536 _ _ (by decide) (by omega) (by omega) (by omega) (by omega)]; omega
  rw [e1, e2, or_low 8 256 _ _ (by decide) (by omega) (by omega) (by omega) (by omega)]
  unfold be4 le4; omega
theorem little1_any (a b c d : Int) (ha : 0 ≤ a ∧ a ≤ 255) (hb : 0 ≤ b ∧ b ≤ 255) (hc : 0 ≤ c ∧ c ≤ 255) (hd : 0 ≤ d ∧ d ≤ 255) (w : World) :
    Calls Tryz.prog 234 #[.agg #[.int .u8 a, .int .u8 b, .int .u8 c, .int .u8 d]] w fun e w' => e = .returned (.int .u32 (le4 a b c d)) ∧ Below w.heap.size w w' := by
  go_enter Tryz.func234, Tryz.ntmps234
  go_wp2
  go_ret
  exact ⟨ret_int (le4_or a b c d ha hb hc hd), (Below.refl _ _).alloc (Nat.le_refl _) _⟩
theorem big1_any (a b c d : Int) (ha : 0 ≤ a ∧ a ≤ 255) (hb : 0 ≤ b ∧ b ≤ 255) (hc : 0 ≤ c ∧ c ≤ 255) (hd : 0 ≤ d ∧ d ≤ 255) (w : World) :
    Calls Tryz.prog 260 #[.agg #[.int .u8 a, .int .u8 b, .int .u8 c, .int .u8 d]] w fun e w' => e = .returned (.int .u32 (be4 a b c d)) ∧ Below w.heap.size w w' := by
  go_enter Tryz.func260, Tryz.ntmps260
  go_wp2
  go_ret
  exact ⟨ret_int (be4_or a b c d ha hb hc hd), (Below.refl _ _).alloc (Nat.le_refl _) _⟩
theorem bt_range (s : ByteArray) (i : Nat) : 0 ≤ bt s i ∧ bt s i ≤ 255 := ⟨bt_nonneg s i, bt_le s i⟩
theorem owns_below {w w' : World} {base : Nat} {e : TypeId} {size : Nat} {v : Value} {n : Nat} {xs : List Value} (h : w.ownsRow base e size v n xs) (hb : Below w.heap.size w w') : w'.ownsRow base e size v n xs :=
  h.kept (row := none) ⟨hb.os, hb.tape, hb.output, hb.size, fun k hk _ => hb.block k hk⟩ (by
    cases hv : v.ownBlock with
    | none => exact .inl rfl
    | some g => exact .inr (by simp))
def wordsL (f : Int → Int → Int → Int → Int) (s : ByteArray) (i : Nat) : Int := f (bt s (i * 4)) (bt s (i * 4 + 1)) (bt s (i * 4 + 2)) (bt s (i * 4 + 3))
theorem Tryz.info195 : (Tryz.prog.info? 195).map (fun i => (i.zero, i.size, i.bytes)) = some (some (.int .u32 0), 1, 4) := by kernel_rfl
set_option maxHeartbeats 800000 in
theorem split_little (s : ByteArray) (w : World) (hs : s.size ≤ 281474976710656) (h4 : s.size % 4 = 0) :
    Calls Tryz.prog 233 #[.string s, .func (.func 234) #[] #[]] w fun e w' => e = .returned (.tuple #[.slice (some ⟨w.heap.size, 0, none⟩) (s.size / 4) (s.size / 4), .int .i64 0]) ∧
      w'.ownsRow w.heap.size 195 1 (.slice (some ⟨w.heap.size, 0, none⟩) (s.size / 4) (s.size / 4)) (s.size / 4) ((List.range (s.size / 4)).map fun i => .int .u32 (wordsL le4 s i)) ∧ Below w.heap.size w w' := by
  obtain ⟨i0, hi, hz0, hz1, hz2⟩ := info_parts Tryz.info195
  obtain ⟨n, hn⟩ : ∃ n : Nat, s.size = 4 * n := ⟨s.size / 4, by omega⟩
  have ht : (((s.size : Int) % 4) != 0) = false := by simp; omega
  have hq : (s.size : Int) / 4 = (n : Int) := by omega
  have hq' : s.size / 4 = n := by omega
  rw [hq']
  have hns : 4 * n ≤ s.size := by omega
  have HN : Hid (s.size = 4 * n) := hn
  clear hn hq' h4
  have hbs := get_bt s
  go_enter Tryz.func233, Tryz.ntmps233
  go_wp2_with (at_make; refine wpList_make_full _ rfl _ _ 254 rfl w.heap.size 195 i0 (.int .u32 0) 1 Tryz.underlying254 hi hz0 hz1 _ _ _ _ n rfl rfl ?c0 ?c1 ?c2 ?c3 ?c4 ?_)
  case c0 => rfl
  case c1 => rfl
  case c2 => rw [hz2]; omega
  case c3 => unfold maxLen; omega
  case c4 => exact Nat.le_refl _
  intro w1 hown hgrow
  have hbel : Below w.heap.size w w1 := (Below.refl _ _).grown hgrow (Nat.le_refl _) (fun k h => by cases h)
  rw [toList_madeCells_one, ← filled_zero n (fun i => .int .u32 (wordsL le4 s i))] at hown
  go_wp2
  go_loopw [19] (fun i wr => ∃ k : Nat, k ≤ n ∧ i = .int .i64 k ∧ wr.ownsRow w.heap.size 195 1 (.slice (some ⟨w.heap.size, 0, none⟩) n n) n (filled n k (fun i => .int .u32 (wordsL le4 s i)) (.int .u32 0)) ∧ Below w.heap.size w wr) (fun i _ => n - (intOf i).toNat)
  case atStart => exact ⟨0, Nat.zero_le _, rfl, hown, hbel⟩
  case round =>
    obtain ⟨k, hk, rfl, hown', hbel'⟩ := hrel
    by_cases hlt : k < n
    · have r0 := bt_range s (k * 4)
      have r1 := bt_range s (k * 4 + 1)
      have r2 := bt_range s (k * 4 + 2)
      have r3 := bt_range s (k * 4 + 3)
      have p0 : (0 : Int) ≤ (k : Int) * 4 := by omega
      have q0 : (k : Int) * 4 < (s.size : Int) := by omega
      have p1 : (0 : Int) ≤ (k : Int) * 4 + 1 := by omega
      have q1 : (k : Int) * 4 + 1 < (s.size : Int) := by omega
      have p2 : (0 : Int) ≤ (k : Int) * 4 + 2 := by omega
      have q2 : (k : Int) * 4 + 2 < (s.size : Int) := by omega
      have p3 : (0 : Int) ≤ (k : Int) * 4 + 3 := by omega
      have q3 : (k : Int) * 4 + 3 < (s.size : Int) := by omega
      have t0 : ((k : Int) * 4).toNat = k * 4 := by omega
      have t1 : ((k : Int) * 4 + 1).toNat = k * 4 + 1 := by omega
      have t2 : ((k : Int) * 4 + 2).toNat = k * 4 + 2 := by omega
      have t3 : ((k : Int) * 4 + 3).toNat = k * 4 + 3 := by omega
      have z1 : IntKind.i64.wrap ((k : Int) * 4 + 1) = (k : Int) * 4 + 1 := IntWalk.i64_in _ ⟨by omega, by omega⟩
      have z2 : IntKind.i64.wrap ((k : Int) * 4 + 2) = (k : Int) * 4 + 2 := IntWalk.i64_in _ ⟨by omega, by omega⟩
      have z3 : IntKind.i64.wrap ((k : Int) * 4 + 3) = (k : Int) * 4 + 3 := IntWalk.i64_in _ ⟨by omega, by omega⟩
      have fr : ∀ wx, Below wr.drew.heap.size wr.drew wx → (∃ v0, wx.cell? ⟨w.heap.size, k, none⟩ = some v0) ∧ wx.frozen? ⟨w.heap.size, k, none⟩ = false := by
        intro wx hx
        have ho := owns_below (hown'.drew) hx
        refine ⟨?_, ho.frozenAt k⟩
        rw [ho.cellAt k (by omega)]; exact ⟨_, List.getElem?_eq_getElem (by simp [filled]; exact hlt)⟩
      go_wp2
      refine wp_region_noPanic ?_
      refine wp_region_held_drew (S := fun _ => True) (by kernel_rfl) trivial (fun hHeld => ?_)
      refine tkH 0 ?_; go_simp
      refine tkH 1 ?_; go_simp
      refine tkH 2 ?_; go_simp
      refine tkH 3 ?_; go_simp
      refine tkH 4 ?_; go_simp
      refine tkH 5 ?_; go_simp
      refine tkH 6 ?_; go_simp
      refine tkH 7 ?_; go_simp
      refine tkH 8 ?_; go_simp
      refine tkH 9 ?_; go_simp
      refine tkH 10 ?_; go_simp
      refine tkH 11 ?_; go_simp
      refine tkH 12 ?_; go_simp
      refine tkH 13 ?_; go_simp
      refine tkH 14 ?_; go_simp
      refine tkH 15 ?_; go_simp
      refine tkH 16 ?_; go_simp
      refine tkH 17 ?_; go_simp
      refine tkH 18 ?_; go_simp
      refine rdH 19 fun K hK => ?_
      go_simp
      go_at_call 234
      refine (little1_any _ _ _ _ r0 r1 r2 r3 _).mono ?_
      rintro e wx ⟨rfl, hx⟩
      obtain ⟨⟨v0, hv0⟩, hf0⟩ := fr wx hx
      refine hK.out _ _ trivial (fun hHeld => ?_)
      clear hK K
      refine tkH 20 ?_; go_simp
      refine rdH 21 fun K hK => ?_
      go_simp
      refine hK.out _ _ trivial (fun hHeld => ?_)
      clear hK K
      refine wpAnyH_done (by kernel_rfl) ?_ _
      refine NoPanic.normal ?_
      have hst := ((owns_below hown'.drew hx).stored k (.int .u32 (wordsL le4 s k))).1
      rw [filled_set n k (fun i => .int .u32 (wordsL le4 s i)) _ hlt] at hst
      have hbel2 : Below w.heap.size w (wx.setCell ⟨w.heap.size, k, none⟩ (.int .u32 (wordsL le4 s k))) := (hbel'.drew.trans (hx.mono hbel'.size)).setCell (Nat.le_refl _) _
      clear fr hx hv0 hf0 hown' hbel'
      go_wp2
      go_roundw
      case rel => exact ⟨k + 1, by omega, by go_num, hst, hbel2⟩
      case measure => simp [intOf]; omega
    · have hkn : k = n := by omega
      subst hkn
      rw [filled_full] at hown'
      go_wp2
      go_ret2
      exact ⟨rfl, hown', hbel'⟩
set_option maxHeartbeats 800000 in
theorem split_big (s : ByteArray) (w : World) (hs : s.size ≤ 281474976710656) (h4 : s.size % 4 = 0) :
    Calls Tryz.prog 233 #[.string s, .func (.func 260) #[] #[]] w fun e w' => e = .returned (.tuple #[.slice (some ⟨w.heap.size, 0, none⟩) (s.size / 4) (s.size / 4), .int .i64 0]) ∧
      w'.ownsRow w.heap.size 195 1 (.slice (some ⟨w.heap.size, 0, none⟩) (s.size / 4) (s.size / 4)) (s.size / 4) ((List.range (s.size / 4)).map fun i => .int .u32 (wordsL be4 s i)) ∧ Below w.heap.size w w' := by
  obtain ⟨i0, hi, hz0, hz1, hz2⟩ := info_parts Tryz.info195
  obtain ⟨n, hn⟩ : ∃ n : Nat, s.size = 4 * n := ⟨s.size / 4, by omega⟩
  have ht : (((s.size : Int) % 4) != 0) = false := by simp; omega
  have hq : (s.size : Int) / 4 = (n : Int) := by omega
  have hq' : s.size / 4 = n := by omega
  rw [hq']
  have hns : 4 * n ≤ s.size := by omega
  have HN : Hid (s.size = 4 * n) := hn
  clear hn hq' h4
  have hbs := get_bt s
  go_enter Tryz.func233, Tryz.ntmps233
  go_wp2_with (at_make; refine wpList_make_full _ rfl _ _ 254 rfl w.heap.size 195 i0 (.int .u32 0) 1 Tryz.underlying254 hi hz0 hz1 _ _ _ _ n rfl rfl ?c0 ?c1 ?c2 ?c3 ?c4 ?_)
  case c0 => rfl
  case c1 => rfl
  case c2 => rw [hz2]; omega
  case c3 => unfold maxLen; omega
  case c4 => exact Nat.le_refl _
  intro w1 hown hgrow
  have hbel : Below w.heap.size w w1 := (Below.refl _ _).grown hgrow (Nat.le_refl _) (fun k h => by cases h)
  rw [toList_madeCells_one, ← filled_zero n (fun i => .int .u32 (wordsL be4 s i))] at hown
  go_wp2
  go_loopw [19] (fun i wr => ∃ k : Nat, k ≤ n ∧ i = .int .i64 k ∧ wr.ownsRow w.heap.size 195 1 (.slice (some ⟨w.heap.size, 0, none⟩) n n) n (filled n k (fun i => .int .u32 (wordsL be4 s i)) (.int .u32 0)) ∧ Below w.heap.size w wr) (fun i _ => n - (intOf i).toNat)
  case atStart => exact ⟨0, Nat.zero_le _, rfl, hown, hbel⟩
  case round =>
    obtain ⟨k, hk, rfl, hown', hbel'⟩ := hrel
    by_cases hlt : k < n
    · have r0 := bt_range s (k * 4)
      have r1 := bt_range s (k * 4 + 1)
      have r2 := bt_range s (k * 4 + 2)
      have r3 := bt_range s (k * 4 + 3)
      have p0 : (0 : Int) ≤ (k : Int) * 4 := by omega
      have q0 : (k : Int) * 4 < (s.size : Int) := by omega
      have p1 : (0 : Int) ≤ (k : Int) * 4 + 1 := by omega
      have q1 : (k : Int) * 4 + 1 < (s.size : Int) := by omega
      have p2 : (0 : Int) ≤ (k : Int) * 4 + 2 := by omega
      have q2 : (k : Int) * 4 + 2 < (s.size : Int) := by omega
      have p3 : (0 : Int) ≤ (k : Int) * 4 + 3 := by omega
      have q3 : (k : Int) * 4 + 3 < (s.size : Int) := by omega
      have t0 : ((k : Int) * 4).toNat = k * 4 := by omega
      have t1 : ((k : Int) * 4 + 1).toNat = k * 4 + 1 := by omega
      have t2 : ((k : Int) * 4 + 2).toNat = k * 4 + 2 := by omega
      have t3 : ((k : Int) * 4 + 3).toNat = k * 4 + 3 := by omega
      have z1 : IntKind.i64.wrap ((k : Int) * 4 + 1) = (k : Int) * 4 + 1 := IntWalk.i64_in _ ⟨by omega, by omega⟩
      have z2 : IntKind.i64.wrap ((k : Int) * 4 + 2) = (k : Int) * 4 + 2 := IntWalk.i64_in _ ⟨by omega, by omega⟩
      have z3 : IntKind.i64.wrap ((k : Int) * 4 + 3) = (k : Int) * 4 + 3 := IntWalk.i64_in _ ⟨by omega, by omega⟩
      have fr : ∀ wx, Below wr.drew.heap.size wr.drew wx → (∃ v0, wx.cell? ⟨w.heap.size, k, none⟩ = some v0) ∧ wx.frozen? ⟨w.heap.size, k, none⟩ = false := by
        intro wx hx
        have ho := owns_below (hown'.drew) hx
        refine ⟨?_, ho.frozenAt k⟩
        rw [ho.cellAt k (by omega)]; exact ⟨_, List.getElem?_eq_getElem (by simp [filled]; exact hlt)⟩
      go_wp2
      refine wp_region_noPanic ?_
      refine wp_region_held_drew (S := fun _ => True) (by kernel_rfl) trivial (fun hHeld => ?_)
      refine tkH 0 ?_; go_simp
      refine tkH 1 ?_; go_simp
      refine tkH 2 ?_; go_simp
      refine tkH 3 ?_; go_simp
      refine tkH 4 ?_; go_simp
      refine tkH 5 ?_; go_simp
      refine tkH 6 ?_; go_simp
      refine tkH 7 ?_; go_simp
      refine tkH 8 ?_; go_simp
      refine tkH 9 ?_; go_simp
      refine tkH 10 ?_; go_simp
      refine tkH 11 ?_; go_simp
      refine tkH 12 ?_; go_simp
      refine tkH 13 ?_; go_simp
      refine tkH 14 ?_; go_simp
      refine tkH 15 ?_; go_simp
      refine tkH 16 ?_; go_simp
      refine tkH 17 ?_; go_simp
      refine tkH 18 ?_; go_simp
      refine rdH 19 fun K hK => ?_
      go_simp
      go_at_call 260
      refine (big1_any _ _ _ _ r0 r1 r2 r3 _).mono ?_
      rintro e wx ⟨rfl, hx⟩
      obtain ⟨⟨v0, hv0⟩, hf0⟩ := fr wx hx
      refine hK.out _ _ trivial (fun hHeld => ?_)
      clear hK K
      refine tkH 20 ?_; go_simp
      refine rdH 21 fun K hK => ?_
      go_simp
      refine hK.out _ _ trivial (fun hHeld => ?_)
      clear hK K
      refine wpAnyH_done (by kernel_rfl) ?_ _
      refine NoPanic.normal ?_
      have hst := ((owns_below hown'.drew hx).stored k (.int .u32 (wordsL be4 s k))).1
      rw [filled_set n k (fun i => .int .u32 (wordsL be4 s i)) _ hlt] at hst
      have hbel2 : Below w.heap.size w (wx.setCell ⟨w.heap.size, k, none⟩ (.int .u32 (wordsL be4 s k))) := (hbel'.drew.trans (hx.mono hbel'.size)).setCell (Nat.le_refl _) _
      clear fr hx hv0 hf0 hown' hbel'
      go_wp2
      go_roundw
      case rel => exact ⟨k + 1, by omega, by go_num, hst, hbel2⟩
      case measure => simp [intOf]; omega
    · have hkn : k = n := by omega
      subst hkn
      rw [filled_full] at hown'
      go_wp2
      go_ret2
      exact ⟨rfl, hown', hbel'⟩
theorem little_even (s : ByteArray) (w : World) (hs : s.size ≤ 281474976710656) (h4 : s.size % 4 = 0) :
    Calls Tryz.prog 202 #[.string s] w fun e w' => e = .returned (.tuple #[.slice (some ⟨w.heap.size, 0, none⟩) (s.size / 4) (s.size / 4), .int .i64 0]) ∧
      w'.ownsRow w.heap.size 195 1 (.slice (some ⟨w.heap.size, 0, none⟩) (s.size / 4) (s.size / 4)) (s.size / 4) ((List.range (s.size / 4)).map fun i => .int .u32 (wordsL le4 s i)) ∧ Below w.heap.size w w' := by
  go_enter Tryz.func202, Tryz.ntmps202
  go_wp2_with (go_at_call 233; refine (split_little _ _ hs h4).mono ?_; rintro e w' ⟨rfl, ho, hb⟩)
  go_ret2
  exact ⟨rfl, ho, hb⟩
theorem big_even (s : ByteArray) (w : World) (hs : s.size ≤ 281474976710656) (h4 : s.size % 4 = 0) :
    Calls Tryz.prog 244 #[.string s] w fun e w' => e = .returned (.tuple #[.slice (some ⟨w.heap.size, 0, none⟩) (s.size / 4) (s.size / 4), .int .i64 0]) ∧
      w'.ownsRow w.heap.size 195 1 (.slice (some ⟨w.heap.size, 0, none⟩) (s.size / 4) (s.size / 4)) (s.size / 4) ((List.range (s.size / 4)).map fun i => .int .u32 (wordsL be4 s i)) ∧ Below w.heap.size w w' := by
  go_enter Tryz.func244, Tryz.ntmps244
  go_wp2_with (go_at_call 233; refine (split_big _ _ hs h4).mono ?_; rintro e w' ⟨rfl, ho, hb⟩)
  go_ret2
  exact ⟨rfl, ho, hb⟩
def At (w : World) (a : Option Addr) (n : Nat) (f : Nat → Int) : Prop :=
  n = 0 ∨ ∃ b o, a = some ⟨b, o, none⟩ ∧ ∀ i, i < n → w.cell? ⟨b, o + i, none⟩ = some (.int .u32 (f i))
theorem At_owns {w : World} {base : Nat} {v : Value} {n : Nat} {f : Nat → Int} (h : w.ownsRow base 195 1 v n ((List.range n).map fun i => .int .u32 (f i))) :
    ∃ a cap, v = .slice a n cap ∧ At w a n f := by
  have hc := h
  rcases h.2 with ⟨rfl, h0⟩ | ⟨g, cap, cur, rfl, hb, hg, _⟩
  · subst h0; exact ⟨none, 0, rfl, .inl rfl⟩
  · refine ⟨_, cap, rfl, .inr ⟨g, 0, rfl, fun i hi => ?_⟩⟩
    rw [Nat.zero_add, hc.cellAt i (by omega)]
    simp [hi]
def four (x : Int) : List Int := [x % 256, x / 256 % 256, x / 65536 % 256, x / 16777216]
def fourB (x : Int) : List Int := [x / 16777216, x / 65536 % 256, x / 256 % 256, x % 256]
theorem fromLittle1_any (x : Int) (h0 : 0 ≤ x) (h1 : x < 4294967296) (w : World) :
    Calls Tryz.prog 235 #[.int .u32 x] w fun e w' => e = .returned (.agg #[.int .u8 (x % 256), .int .u8 (x / 256 % 256), .int .u8 (x / 65536 % 256), .int .u8 (x / 16777216)]) ∧ Below w.heap.size w w' := by
  go_enter Tryz.func235, Tryz.ntmps235
  go_wp2
  exact bodyPost_ret (v := .agg #[.int .u8 (x % 256), .int .u8 (x / 256 % 256), .int .u8 (x / 65536 % 256), .int .u8 (x / 16777216)]) (by simp [results, Tryz.results235, go_sem]) rfl ⟨rfl, (Below.refl _ _).alloc (Nat.le_refl _) _⟩
theorem fromBig1_any (x : Int) (h0 : 0 ≤ x) (h1 : x < 4294967296) (w : World) :
    Calls Tryz.prog 212 #[.int .u32 x] w fun e w' => e = .returned (.agg #[.int .u8 (x / 16777216), .int .u8 (x / 65536 % 256), .int .u8 (x / 256 % 256), .int .u8 (x % 256)]) ∧ Below w.heap.size w w' := by
  go_enter Tryz.func212, Tryz.ntmps212
  go_wp2
  exact bodyPost_ret (v := .agg #[.int .u8 (x / 16777216), .int .u8 (x / 65536 % 256), .int .u8 (x / 256 % 256), .int .u8 (x % 256)]) (by simp [results, Tryz.results212, go_sem]) rfl ⟨rfl, (Below.refl _ _).alloc (Nat.le_refl _) _⟩
def joinF (g : Int → List Int) (f : Nat → Int) (k : Nat) : List Int := (List.range k).flatMap fun i => g (f i)
theorem joinF_succ (g : Int → List Int) (f : Nat → Int) (k : Nat) : joinF g f (k + 1) = joinF g f k ++ g (f k) := by
  unfold joinF; rw [List.range_succ, List.flatMap_append]; simp
theorem joinF_length (g : Int → List Int) (hg : ∀ x, (g x).length = 4) (f : Nat → Int) (k : Nat) : (joinF g f k).length = 4 * k := by
  induction k with
  | zero => rfl
  | succ k ih => rw [joinF_succ, List.length_append, ih, hg]; omega
theorem cell_lt {w : World} {b o : Nat} {v : Value} (h : w.cell? ⟨b, o, none⟩ = some v) : b < w.heap.size := by
  rcases Nat.lt_or_ge b w.heap.size with h' | h'
  · exact h'
  · simp [World.cell?, Array.getElem?_eq_none h'] at h
set_option maxHeartbeats 800000 in
theorem join_little (a : Option Addr) (ca n : Nat) (f : Nat → Int) (w : World) (hn : n ≤ 1000000) (ha : At w a n f) (hf : ∀ i, i < n → 0 ≤ f i ∧ f i < 4294967296) :
    Calls Tryz.prog 211 #[.slice a n ca, .func (.func 235) #[] #[]] w fun e w' => e = .returned (.string (strOfNums (joinF four f n))) ∧ Below w.heap.size w w' := by
  obtain ⟨i0, hi, hz0, hz1, hz2⟩ := info_parts Tryz.info5
  go_enter Tryz.func211, Tryz.ntmps211
  go_wp2_with (at_make; refine wpList_make_own _ rfl _ _ 22 rfl w.heap.size 5 i0 (.int .u8 0) 1 Tryz.underlying22 hi hz0 hz1 _ _ _ (4 * n) rfl rfl ?c0 ?c2 ?c3 ?c4 ?_)
  case c0 => omega
  case c2 => rw [hz2]; omega
  case c3 => unfold maxLen; omega
  case c4 => exact Nat.le_refl _
  intro w1 hown hgrow
  have hbel : Below w.heap.size w w1 := (Below.refl _ _).grown hgrow (Nat.le_refl _) (fun k h => by cases h)
  go_wp2
  go_loopw [5, 15] (fun v i wr => ∃ k : Nat, k ≤ n ∧ i = .int .i64 k ∧ v = .slice (some ⟨w.heap.size, 0, none⟩) (4 * k) (4 * n) ∧ wr.ownsRow w.heap.size 5 1 (.slice (some ⟨w.heap.size, 0, none⟩) (4 * k) (4 * n)) (4 * k) ((joinF four f k).map (Value.int .u8)) ∧ Below w.heap.size w wr) (fun _ i _ => n - (intOf i).toNat)
  case atStart => exact ⟨0, Nat.zero_le _, rfl, rfl, hown, hbel⟩
  case round =>
    obtain ⟨k, hk, rfl, rfl, hown', hbel'⟩ := hrel
    by_cases hlt : k < n
    · rcases ha with h0 | ⟨ba, oa, rfl, ha⟩
      · omega
      have hcw := ha k hlt
      have hc1 : wr.cell? ⟨ba, oa + k, none⟩ = some (.int .u32 (f k)) := (hbel'.cell (p := ⟨ba, oa + k, none⟩) (cell_lt hcw)).trans hcw
      obtain ⟨f0, f1⟩ := hf k hlt
      have hlt' : (k : Int) < (n : Int) := by omega
      clear hcw
      go_wp2_with (first | (go_at_call 235; refine (fromLittle1_any _ f0 f1 _).mono ?_; rintro e wx ⟨rfl, hx⟩) | (at_builtin; refine wpList_append_fits _ rfl _ _ 22 rfl w.heap.size 5 i0 1 Tryz.underlying22 hi hz1 w.heap.size (4 * k) (4 * n) _ rfl (((owns_below hown' hx).alloc _).alloc _) ⟨wx.heap.size + 1, 0, none⟩ 4 4 ((four (f k)).map (Value.int .u8)) rfl rfl ?c1 ?c2 ?c3 ?_))
      case c1 =>
        intro j u hj
        match j, hj with
        | 0, hj => simp [four] at hj; subst hj; simp [Addr.add]
        | 1, hj => simp [four] at hj; subst hj; simp [Addr.add]
        | 2, hj => simp [four] at hj; subst hj; simp [Addr.add]
        | 3, hj => simp [four] at hj; subst hj; simp [Addr.add]
        | j + 4, hj => simp [four] at hj
      case c2 => exact ints_oneCell _ _
      case c3 => omega
      · intro w2 hown2 hgrow2
        have hwx : Below w.heap.size w wx := hbel'.trans (hx.mono hbel'.size)
        have hbel2 : Below w.heap.size w w2 := by
          refine Below.grown ((hwx.alloc hwx.size _).alloc (by have := hwx.size; simp; omega) _) hgrow2 (by have := hwx.size; simp; omega) ?_
          intro g hg; cases hg; exact Nat.le_refl _
        have R : w2.ownsRow w.heap.size 5 1 (.slice (some ⟨w.heap.size, 0, none⟩) (4 * (k + 1)) (4 * n)) (4 * (k + 1)) ((joinF four f (k + 1)).map (Value.int .u8)) := by
          rw [joinF_succ, List.map_append]; exact hown2
        clear hown2 hgrow2 hown' hbel' hwx hx
        go_wp2
        go_roundw
        case rel => exact ⟨k + 1, by omega, by go_num, rfl, R, hbel2⟩
        case measure => simp [intOf]; omega
    · have hkn : k = n := by omega
      subst hkn
      have hconv := convert_owned hown' (joinF_length four (fun _ => rfl) f k)
      go_wp2
      go_ret
      exact ⟨rfl, hbel'⟩
set_option maxHeartbeats 800000 in
theorem join_big (a : Option Addr) (ca n : Nat) (f : Nat → Int) (w : World) (hn : n ≤ 1000000) (ha : At w a n f) (hf : ∀ i, i < n → 0 ≤ f i ∧ f i < 4294967296) :
    Calls Tryz.prog 211 #[.slice a n ca, .func (.func 212) #[] #[]] w fun e w' => e = .returned (.string (strOfNums (joinF fourB f n))) ∧ Below w.heap.size w w' := by
  obtain ⟨i0, hi, hz0, hz1, hz2⟩ := info_parts Tryz.info5
  go_enter Tryz.func211, Tryz.ntmps211
  go_wp2_with (at_make; refine wpList_make_own _ rfl _ _ 22 rfl w.heap.size 5 i0 (.int .u8 0) 1 Tryz.underlying22 hi hz0 hz1 _ _ _ (4 * n) rfl rfl ?c0 ?c2 ?c3 ?c4 ?_)
  case c0 => omega
  case c2 => rw [hz2]; omega
  case c3 => unfold maxLen; omega
  case c4 => exact Nat.le_refl _
  intro w1 hown hgrow
  have hbel : Below w.heap.size w w1 := (Below.refl _ _).grown hgrow (Nat.le_refl _) (fun k h => by cases h)
  go_wp2
  go_loopw [5, 15] (fun v i wr => ∃ k : Nat, k ≤ n ∧ i = .int .i64 k ∧ v = .slice (some ⟨w.heap.size, 0, none⟩) (4 * k) (4 * n) ∧ wr.ownsRow w.heap.size 5 1 (.slice (some ⟨w.heap.size, 0, none⟩) (4 * k) (4 * n)) (4 * k) ((joinF fourB f k).map (Value.int .u8)) ∧ Below w.heap.size w wr) (fun _ i _ => n - (intOf i).toNat)
  case atStart => exact ⟨0, Nat.zero_le _, rfl, rfl, hown, hbel⟩
  case round =>
    obtain ⟨k, hk, rfl, rfl, hown', hbel'⟩ := hrel
    by_cases hlt : k < n
    · rcases ha with h0 | ⟨ba, oa, rfl, ha⟩
      · omega
      have hcw := ha k hlt
      have hc1 : wr.cell? ⟨ba, oa + k, none⟩ = some (.int .u32 (f k)) := (hbel'.cell (p := ⟨ba, oa + k, none⟩) (cell_lt hcw)).trans hcw
      obtain ⟨f0, f1⟩ := hf k hlt
      have hlt' : (k : Int) < (n : Int) := by omega
      clear hcw
      go_wp2_with (first | (go_at_call 212; refine (fromBig1_any _ f0 f1 _).mono ?_; rintro e wx ⟨rfl, hx⟩) | (at_builtin; refine wpList_append_fits _ rfl _ _ 22 rfl w.heap.size 5 i0 1 Tryz.underlying22 hi hz1 w.heap.size (4 * k) (4 * n) _ rfl (((owns_below hown' hx).alloc _).alloc _) ⟨wx.heap.size + 1, 0, none⟩ 4 4 ((fourB (f k)).map (Value.int .u8)) rfl rfl ?c1 ?c2 ?c3 ?_))
      case c1 =>
        intro j u hj
        match j, hj with
        | 0, hj => simp [fourB] at hj; subst hj; simp [Addr.add]
        | 1, hj => simp [fourB] at hj; subst hj; simp [Addr.add]
        | 2, hj => simp [fourB] at hj; subst hj; simp [Addr.add]
        | 3, hj => simp [fourB] at hj; subst hj; simp [Addr.add]
        | j + 4, hj => simp [fourB] at hj
      case c2 => exact ints_oneCell _ _
      case c3 => omega
      · intro w2 hown2 hgrow2
        have hwx : Below w.heap.size w wx := hbel'.trans (hx.mono hbel'.size)
        have hbel2 : Below w.heap.size w w2 := by
          refine Below.grown ((hwx.alloc hwx.size _).alloc (by have := hwx.size; simp; omega) _) hgrow2 (by have := hwx.size; simp; omega) ?_
          intro g hg; cases hg; exact Nat.le_refl _
        have R : w2.ownsRow w.heap.size 5 1 (.slice (some ⟨w.heap.size, 0, none⟩) (4 * (k + 1)) (4 * n)) (4 * (k + 1)) ((joinF fourB f (k + 1)).map (Value.int .u8)) := by
          rw [joinF_succ, List.map_append]; exact hown2
        clear hown2 hgrow2 hown' hbel' hwx hx
        go_wp2
        go_roundw
        case rel => exact ⟨k + 1, by omega, by go_num, rfl, R, hbel2⟩
        case measure => simp [intOf]; omega
    · have hkn : k = n := by omega
      subst hkn
      have hconv := convert_owned hown' (joinF_length fourB (fun _ => rfl) f k)
      go_wp2
      go_ret
      exact ⟨rfl, hbel'⟩
theorem fromLittle_any (a : Option Addr) (ca n : Nat) (f : Nat → Int) (w : World) (hn : n ≤ 1000000) (ha : At w a n f) (hf : ∀ i, i < n → 0 ≤ f i ∧ f i < 4294967296) :
    Calls Tryz.prog 203 #[.slice a n ca] w fun e w' => e = .returned (.string (strOfNums (joinF four f n))) ∧ Below w.heap.size w w' := by
  go_enter Tryz.func203, Tryz.ntmps203
  go_wp2_with (go_at_call 211; refine (join_little _ _ _ f _ hn ha hf).mono ?_; rintro e w' ⟨rfl, hb⟩)
  go_ret
  exact ⟨rfl, hb⟩
theorem fromBig_any (a : Option Addr) (ca n : Nat) (f : Nat → Int) (w : World) (hn : n ≤ 1000000) (ha : At w a n f) (hf : ∀ i, i < n → 0 ≤ f i ∧ f i < 4294967296) :
    Calls Tryz.prog 173 #[.slice a n ca] w fun e w' => e = .returned (.string (strOfNums (joinF fourB f n))) ∧ Below w.heap.size w w' := by
  go_enter Tryz.func173, Tryz.ntmps173
  go_wp2_with (go_at_call 211; refine (join_big _ _ _ f _ hn ha hf).mono ?_; rintro e w' ⟨rfl, hb⟩)
  go_ret
  exact ⟨rfl, hb⟩
theorem xor_lo (a b : Int) : 0 ≤ bits .xor .u32 a b ∧ bits .xor .u32 a b < 4294967296 := by
  show 0 ≤ IntKind.u32.wrap _ ∧ IntKind.u32.wrap _ < 4294967296
  rw [IntKind.wrap_u32']; omega
theorem bt_left (a b : ByteArray) (i : Nat) (h : i < a.size) : bt (a ++ b) i = bt a i := by
  unfold bt
  rw [dif_pos (by rw [ByteArray.size_append]; omega), dif_pos h, ByteArray.getElem_append_left h]
theorem bt_right (a b : ByteArray) (i : Nat) (h : a.size ≤ i) : bt (a ++ b) i = bt b (i - a.size) := by
  unfold bt
  by_cases h2 : i - a.size < b.size
  · rw [dif_pos (by rw [ByteArray.size_append]; omega), dif_pos h2, ByteArray.getElem_append_right h]
  · rw [dif_neg (by rw [ByteArray.size_append]; omega), dif_neg h2]
theorem bt_cut (s : ByteArray) (p q i : Nat) (hq : q ≤ s.size) (h : p + i < q) : bt (s.extract p q) i = bt s (p + i) := by
  unfold bt
  have hs : i < (s.extract p q).size := by rw [ByteArray.size_extract]; omega
  rw [dif_pos hs, dif_pos (by omega), ByteArray.getElem_extract]
theorem cut_all (s : ByteArray) : s.extract 0 s.size = s := by
  apply bt_ext
  · rw [ByteArray.size_extract]; omega
  · intro i hi
    rw [ByteArray.size_extract] at hi
    rw [bt_cut s 0 s.size i (Nat.le_refl _) (by omega), Nat.zero_add]
theorem cut_cut (s : ByteArray) (p k : Nat) (hp : p + k ≤ s.size) : (s.extract p s.size).extract k (s.extract p s.size).size = s.extract (p + k) s.size := by
  apply bt_ext
  · simp only [ByteArray.size_extract]; omega
  · intro i hi
    simp only [ByteArray.size_extract] at hi
    rw [bt_cut _ k _ i (Nat.le_refl _) (by simp only [ByteArray.size_extract]; omega), bt_cut s p s.size _ (Nat.le_refl _) (by omega), bt_cut s (p + k) s.size i (Nat.le_refl _) (by omega), Nat.add_assoc]
theorem cut_join (s : ByteArray) (p q : Nat) (hpq : p ≤ q) (hq : q ≤ s.size) : s.extract 0 p ++ s.extract p q = s.extract 0 q := by
  apply bt_ext
  · rw [ByteArray.size_append]; simp only [ByteArray.size_extract]; omega
  · intro i hi
    rw [ByteArray.size_append] at hi
    simp only [ByteArray.size_extract] at hi
    rw [bt_cut s 0 q i hq (by omega)]
    by_cases h : i < p
    · rw [bt_left _ _ _ (by simp only [ByteArray.size_extract]; omega), bt_cut s 0 p i (by omega) (by omega)]
    · rw [bt_right _ _ _ (by simp only [ByteArray.size_extract]; omega), bt_cut s p q _ hq (by simp only [ByteArray.size_extract]; omega)]
      simp only [ByteArray.size_extract]
      congr 1
      omega
theorem join_assoc (a b c : ByteArray) : a ++ b ++ c = a ++ (b ++ c) := by
  apply ByteArray.ext
  simp [ByteArray.data_append, Array.append_assoc]
theorem bt_take (s : ByteArray) (q i : Nat) (h1 : i < q) (h2 : i < s.size) : bt (s.extract 0 q) i = bt s i := by
  rcases Nat.le_total q s.size with h | h
  · rw [bt_cut s 0 q i h (by omega), Nat.zero_add]
  · have e : s.extract 0 q = s := by
      apply bt_ext
      · rw [ByteArray.size_extract]; omega
      · intro j hj
        rw [ByteArray.size_extract] at hj
        unfold bt
        rw [dif_pos (by rw [ByteArray.size_extract]; omega), dif_pos (by omega), ByteArray.getElem_extract]
        simp
    rw [e]
theorem take_all (s : ByteArray) (q : Nat) (h : s.size ≤ q) : s.extract 0 q = s := by
  apply bt_ext
  · rw [ByteArray.size_extract]; omega
  · intro i hi
    rw [ByteArray.size_extract] at hi
    exact bt_take s q i (by omega) (by omega)
def fz {α : Type} (n : Nat) (k : Nat → α) : α := match n with
  | 0 => k 0
  | m + 1 => k (m + 1)
def strLen : Value → Nat
  | .string s => s.size
  | _ => 0
def Blk (w : World) (g : Nat) (T : TypeId) (L : List Value) : Prop := w.heap[g]? = some (.cells L.toArray T (0, 0))
def Only (g : Nat) (w w' : World) : Prop := w.grownBy w' (some g)
theorem Blk.lt {w : World} {g : Nat} {T : TypeId} {L : List Value} (h : Blk w g T L) : g < w.heap.size := by
  rcases Nat.lt_or_ge g w.heap.size with h' | h'
  · exact h'
  · unfold Blk at h; rw [Array.getElem?_eq_none h'] at h; cases h
theorem Blk.cell {w : World} {g : Nat} {T : TypeId} {L : List Value} (h : Blk w g T L) {i : Nat} {v : Value} (hi : L[i]? = some v) : w.cell? ⟨g, i, none⟩ = some v := by
  unfold Blk at h
  simp [World.cell?, h, hi]
theorem Blk.frozen {w : World} {g : Nat} {T : TypeId} {L : List Value} (h : Blk w g T L) (i : Nat) : w.frozen? ⟨g, i, none⟩ = false := by
  unfold Blk at h
  simp [World.frozen?, h]
theorem Blk.drew {w : World} {g : Nat} {T : TypeId} {L : List Value} (h : Blk w g T L) : Blk w.drew g T L := h
theorem Blk.drewN {w : World} {g : Nat} {T : TypeId} {L : List Value} (h : Blk w g T L) (n : Nat) : Blk (w.drewN n) g T L := h
theorem Blk.setCell {w : World} {g : Nat} {T : TypeId} {L : List Value} (h : Blk w g T L) (i : Nat) (v : Value) : Blk (w.setCell ⟨g, i, none⟩ v) g T (L.set i v) := by
  unfold Blk at h ⊢
  rw [setCell_eq_setRow w g i _ T (0, 0) v h, setRow_heap w g _ _ T (0, 0) h]
  simp
theorem Blk.setOther {w : World} {g k : Nat} {T : TypeId} {L : List Value} (h : Blk w g T L) (hk : g ≠ k) (i : Nat) (v : Value) : Blk (w.setCell ⟨k, i, none⟩ v) g T L := by
  unfold Blk at h ⊢
  rw [Below.heap_setCell w ⟨k, i, none⟩ v g hk]; exact h
theorem Blk.alloc {w : World} {g : Nat} {T : TypeId} {L : List Value} (h : Blk w g T L) (o : Obj) : Blk (w.alloc o) g T L := by
  have := h.lt
  unfold Blk at h ⊢
  rw [Below.heap_alloc w o g this]; exact h
theorem Blk.new (w : World) (T : TypeId) (L : Array Value) : Blk (w.alloc (.cells L T)) w.heap.size T L.toList := by
  unfold Blk
  rw [Array.toArray_toList]; exact Array.getElem?_push_size
theorem Blk.below {w w' : World} {g B : Nat} {T : TypeId} {L : List Value} (h : Blk w g T L) (hb : Below B w w') (hB : g < B) : Blk w' g T L := by
  unfold Blk at h ⊢
  rw [hb.block g hB]; exact h
theorem Blk.only {w w' : World} {g k : Nat} {T : TypeId} {L : List Value} (h : Blk w g T L) (ho : Only k w w') (hk : g ≠ k) : Blk w' g T L := by
  have hl := h.lt
  unfold Blk at h ⊢
  rw [ho.block g hl (fun e => hk (Option.some.inj e))]; exact h
theorem Only.refl (g : Nat) (w : World) : Only g w w := ⟨rfl, rfl, rfl, Nat.le_refl _, fun _ _ _ => rfl⟩
theorem Only.trans {g : Nat} {a b c : World} (h : Only g a b) (k : Only g b c) : Only g a c :=
  ⟨k.os.trans h.os, k.tape.trans h.tape, k.output.trans h.output, Nat.le_trans h.size k.size, fun i hi hne => (k.block i (Nat.lt_of_lt_of_le hi h.size) hne).trans (h.block i hi hne)⟩
theorem Only.drew {g : Nat} {a w : World} (h : Only g a w) : Only g a w.drew := ⟨h.os, h.tape, h.output, h.size, h.block⟩
theorem Only.drewN {g : Nat} {a w : World} (h : Only g a w) (n : Nat) : Only g a (w.drewN n) := ⟨h.os, h.tape, h.output, h.size, h.block⟩
theorem Only.setCell {g : Nat} {a w : World} (h : Only g a w) (i : Nat) (v : Value) : Only g a (w.setCell ⟨g, i, none⟩ v) :=
  h.trans ⟨rfl, rfl, rfl, by simp, fun k hk hne => Below.heap_setCell w ⟨g, i, none⟩ v k (fun e => hne (by rw [e]))⟩
theorem Only.setRow {g : Nat} {a w : World} (h : Only g a w) (cs : Array Value) : Only g a (w.setRow g cs) :=
  h.trans ⟨rfl, rfl, rfl, by simp [World.setRow], fun k _ hne => setRow_other w g k cs fun e => hne (by rw [e])⟩
theorem Only.alloc {g : Nat} {a w : World} (h : Only g a w) (o : Obj) : Only g a (w.alloc o) :=
  h.trans ⟨rfl, rfl, rfl, by simp, fun k hk _ => Below.heap_alloc w o k hk⟩
theorem Only.ofBelow {g : Nat} {w w' : World} (h : Below w.heap.size w w') : Only g w w' := ⟨h.os, h.tape, h.output, h.size, fun k hk _ => h.block k hk⟩
theorem Only.thenBelow {g : Nat} {a w w' : World} (h : Only g a w) (k : Below w.heap.size w w') : Only g a w' := h.trans (.ofBelow k)
theorem Below.only {B g : Nat} {a w w' : World} (h : Below B a w) (ho : Only g w w') (hB : B ≤ w.heap.size) (hg : B ≤ g) : Below B a w' :=
  Below.grown h ho hB (fun k e => by cases e; exact hg)
def ws (n : Nat) (S : Nat → Int) : List Value := (List.range n).map fun i => .int .u32 (S i)
theorem ws_length (n : Nat) (S : Nat → Int) : (ws n S).length = n := by simp [ws]
theorem ws_at (n : Nat) (S : Nat → Int) (i : Nat) (h : i < n) : (ws n S)[i]? = some (.int .u32 (S i)) := by simp [ws, h]
theorem ws_congr (n : Nat) (S R : Nat → Int) (h : ∀ i, i < n → S i = R i) : ws n S = ws n R := by
  unfold ws; exact List.map_congr_left fun i hi => by rw [h i (List.mem_range.1 hi)]
theorem ws_set (n : Nat) (S : Nat → Int) (k : Nat) (x : Int) : (ws n S).set k (.int .u32 x) = ws n (fun i => if i = k then x else S i) := by
  apply List.ext_getElem
  · simp [ws]
  · intro j h1 h2
    rw [List.getElem_set]
    simp only [ws, List.getElem_map, List.getElem_range]
    by_cases e : k = j
    · rw [if_pos e, if_pos e.symm]
    · rw [if_neg e, if_neg (fun h => e h.symm)]
theorem ws_one (n : Nat) (S : Nat → Int) : ∀ v ∈ ws n S, v.oneCell' = true := by
  intro v hv
  obtain ⟨i, _, rfl⟩ := List.mem_map.1 hv
  rfl
theorem Tryz.size195 : (Tryz.prog.info? 195).map (·.size) = some 1 := by kernel_rfl
theorem Blk.setRow {w : World} {g : Nat} {T : TypeId} {L M : List Value} (h : Blk w g T L) : Blk (w.setRow g M.toArray) g T M := setRow_heap w g _ _ T _ h
theorem Blk.setRowOther {w : World} {g k : Nat} {T : TypeId} {L : List Value} (h : Blk w g T L) (hk : g ≠ k) (cs : Array Value) : Blk (w.setRow k cs) g T L := by
  unfold Blk at h ⊢
  rw [setRow_other w k g cs hk]; exact h
theorem Blk.hasCell {w : World} {g : Nat} {T : TypeId} {L : List Value} (h : Blk w g T L) (i : Nat) (hi : i < L.length) : ∃ v, w.cell? ⟨g, i, none⟩ = some v := ⟨L[i], h.cell (List.getElem?_eq_getElem hi)⟩
theorem wpList_load_blk {P : Program} {ops : Array Oper} {rest : List Oper} {o : Oper} {a : Act} {w : World} {Q : Exit → Act → World → Prop} (hgd : o.guard = none) (ty : TypeId) (x : Operand) (ho : o.op = .load ty x)
    (g : Nat) (hx : a.eval x = .pointer (some ⟨g, 0, none⟩)) (t : TypeId) (L : List Value) (d : TypeDesc) (hg : Blk w g t L)
    (hu : P.underlying ty = some d) (hd : (match d with | .struct _ | .array _ _ => true | _ => false) = true) (hi : (P.info? ty).map (·.size) = some L.length)
    (h : wpList P ops Q rest (a.put o.dst (.agg L.toArray)) w) : wpList P ops Q (o :: rest) a w :=
  wpList_plain hgd fun _ hK => wp_load_row ty x ho g hx t L.toArray (0, 0) d hg hu hd (by simpa using hi) (hK _ _ h)
theorem wpList_store_blk {P : Program} {ops : Array Oper} {rest : List Oper} {o : Oper} {a : Act} {w : World} {Q : Exit → Act → World → Prop} (hgd : o.guard = none) (ty : TypeId) (x y : Operand) (ho : o.op = .store ty x y)
    (g : Nat) (L M : List Value) (hx : a.eval x = .pointer (some ⟨g, 0, none⟩)) (hy : a.eval y = .agg M.toArray) (t : TypeId) (hg : Blk w g t L)
    (hi : (P.info? ty).map (·.size) = some M.length) (hl : L.length = M.length) (h1 : ∀ v ∈ M, v.oneCell' = true)
    (h : wpList P ops Q rest (a.put o.dst undef) (w.setRow g M.toArray)) : wpList P ops Q (o :: rest) a w :=
  wpList_plain hgd fun _ hK => wp_store_row ty x y ho g M.toArray hx hy t L.toArray hg (by simpa using hi) (by simpa using hl) (all_oneCell_toArray h1) (hK _ _ h)
theorem step_load_blk {P : Program} {ops : Array Oper} {o : Oper} {a : Act} {w : World} {K : Act → World → Prop} {Q : Exit → Act → World → Prop} {E : Prop} (hgd : o.guard = none) (ty : TypeId) (x : Operand) (ho : o.op = .load ty x)
    (g : Nat) (hx : a.eval x = .pointer (some ⟨g, 0, none⟩)) (t : TypeId) (L : List Value) (d : TypeDesc) (hg : Blk w g t L)
    (hu : P.underlying ty = some d) (hd : (match d with | .struct _ | .array _ _ => true | _ => false) = true) (hi : (P.info? ty).map (·.size) = some L.length)
    (h : K (a.put o.dst (.agg L.toArray)) w) : if Region.wanted o (yielded ops a.tmps) = true then Oper.wp P o a w K Q else E := by
  rw [if_pos (by simp [Region.wanted, hgd])]
  exact wp_load_row ty x ho g hx t L.toArray (0, 0) d hg hu hd (by simpa using hi) h
theorem step_store_blk {P : Program} {ops : Array Oper} {o : Oper} {a : Act} {w : World} {K : Act → World → Prop} {Q : Exit → Act → World → Prop} {E : Prop} (hgd : o.guard = none) (ty : TypeId) (x y : Operand) (ho : o.op = .store ty x y)
    (g : Nat) (L M : List Value) (hx : a.eval x = .pointer (some ⟨g, 0, none⟩)) (hy : a.eval y = .agg M.toArray) (t : TypeId) (hg : Blk w g t L)
    (hi : (P.info? ty).map (·.size) = some M.length) (hl : L.length = M.length) (h1 : ∀ v ∈ M, v.oneCell' = true)
    (h : K (a.put o.dst undef) (w.setRow g M.toArray)) :
    if Region.wanted o (yielded ops a.tmps) = true then Oper.wp P o a w K Q else E := by
  rw [if_pos (by simp [Region.wanted, hgd])]
  exact wp_store_row ty x y ho g M.toArray hx hy t L.toArray hg (by simpa using hi) (by simpa using hl) (all_oneCell_toArray h1) h
theorem step_copy_run {P : Program} {ops : Array Oper} {o : Oper} {a : Act} {w : World} {K : Act → World → Prop} {Q : Exit → Act → World → Prop} {E : Prop} (hgd : o.guard = none) (d s : Operand) (dT sT : TypeId)
    (ho : o.op = .call { callee := .builtin .copy, args := #[d, s], argTypes := #[dT, sT] }) (vd vs : Value) (hd : a.eval d = vd) (hs : a.eval s = vs) (r : Value) (w' : World)
    (hrun : (Builtin.copy_ #[dT, sT] o.type #[vd, vs]).run P w = .ok r w') (h : K (a.put o.dst r) w') :
    if Region.wanted o (yielded ops a.tmps) = true then Oper.wp P o a w K Q else E := by
  have hw : Region.wanted o (yielded ops a.tmps) = true := by simp [Region.wanted, hgd]
  rw [if_pos hw]
  unfold Oper.wp
  simp [execOp, ho, resolve, invoke, builtin, hd, hs, hrun, Result.andThen]
  exact h
theorem results_cell {P : Program} {fn : Func} {tmps : Array Value} {w : World} {v : Value} (slot : Nat) (t : TypeId) (a : Addr) (h : fn.results = #[.cell slot t]) (ht : tmps.getD slot undef = .pointer (some a)) (hl : (loadVar t a).run P w = .ok v w) : (results fn tmps).run P w = .ok v w := by
  have e : (asAddr (tmps.getD slot undef)).run P w = .ok a w := by rw [ht]; rfl
  unfold results
  rw [h]
  simp [e, hl, -Array.getD_eq_getD_getElem?]
theorem results_cell_tmp {P : Program} {fn : Func} {tmps : Array Value} {w : World} {v u : Value} (slot s2 : Nat) (t : TypeId) (a : Addr) (h : fn.results = #[.cell slot t, .tmp s2]) (ht : tmps.getD slot undef = .pointer (some a)) (hl : (loadVar t a).run P w = .ok v w) (hu : tmps.getD s2 undef = u) : (results fn tmps).run P w = .ok (.tuple #[v, u]) w := by
  have e : (asAddr (tmps.getD slot undef)).run P w = .ok a w := by rw [ht]; rfl
  unfold results
  rw [h]
  simp [e, hl, hu, -Array.getD_eq_getD_getElem?]
section
variable {P : Program} {ops : Array Oper} {Q : Exit → Act → World → Prop} {md : Region.Mode} {S S' : World → Prop}
theorem wpAnyH_weaken (h : ∀ w, S' w → S w) : ∀ (fuel : Nat) (listed : Array Bool) (a : Act) (w : World), wpAnyH P md ops Q S' fuel listed a w → wpAnyH P md ops Q S fuel listed a w
  | 0, _, _, _, h0 => h0
  | fuel + 1, _, _, _, h0 => ⟨h0.1, fun i hi => wpOp_mono (fun a' w' h' => ⟨h _ h'.1, wpAnyH_weaken h fuel _ a' w' h'.2⟩) (h0.2 i hi)⟩
end
section
variable {P : Program} {ops : Array Oper} {Q : Exit → Act → World → Prop} {md : Region.Mode} {S S0 : World → Prop} {c i j : Nat} {L : Array Bool}
def Till (S : World → Prop) (c : Nat) (L : Array Bool) (w : World) : Prop := L.getD c true = false → S w
def wpAnyC (P : Program) (md : Region.Mode) (ops : Array Oper) (Q : Exit → Act → World → Prop) (S : World → Prop) (c : Nat) : Nat → Array Bool → Act → World → Prop
  | 0, L, a, w => Region.ready md ops L = [] ∧ Q .normal a w
  | n + 1, L, a, w => (Region.ready md ops L = [] → Q .normal a w) ∧
      ∀ k ∈ Region.ready md ops L, wpOp P ops Q k (fun b z => Till S c (L.setIfInBounds k true) z ∧ wpAnyC P md ops Q S c n (L.setIfInBounds k true) b z) a w
theorem wpAnyC_plain (n : Nat) : ∀ (L : Array Bool) (a : Act) (w : World), wpAnyC P md ops Q S c n L a w → wpAny P md ops Q n L a w := by
  induction n with
  | zero => exact fun _ _ _ h => h
  | succ n ih => exact fun _ _ _ h => ⟨h.1, fun k hk => wpOp_mono (fun b z hb => ih _ b z hb.2) (h.2 k hk)⟩
theorem Till.step {w : World} (h : Till S c L w) (hk : i ≠ c) : Till S c (L.setIfInBounds i true) w := fun e => h (by rwa [getD_set_ne true hk] at e)
theorem Till.back {w : World} (h : Till S c (L.setIfInBounds i true) w) (hk : i ≠ c) : Till S c L w := fun e => h (by rw [getD_set_ne true hk]; exact e)
theorem unlisted (hr : i ∈ Region.ready md ops L) (d : Bool) : L.getD i d = false := by
  have h0 := (mem_ready.1 hr).1
  rw [Array.getD_eq_getD_getElem?] at h0 ⊢
  cases hx : L[i]? with
  | none => rw [hx] at h0; cases h0
  | some v => rw [hx] at h0; exact h0
theorem no_wait {oj : Oper} (hr : i ∈ Region.ready md ops L) (hj : j ∈ Region.ready md ops L) (ho : ops[j]? = some oj) : ∀ e ∈ oj.after, Region.binds md e = true → e.on ≠ i := by
  intro e he hb hon
  obtain ⟨-, o, ho', hall⟩ := mem_ready.1 hj
  obtain rfl : o = oj := Option.some.inj (ho'.symm.trans ho)
  have := hall e he hb
  rw [hon, unlisted hr false] at this
  cases this
def Clear (md : Region.Mode) (ops : Array Oper) (i : Nat) (oi : Oper) (L : Array Bool) : Prop :=
  ∀ k ok, ops[k]? = some ok → k ≠ i → L.getD k true = false → (∀ e ∈ ok.after, Region.binds md e = true → e.on ≠ i) → oi.apart ops ok = true
theorem Clear.step {oi : Oper} (h : Clear md ops i oi L) (hj : L.getD j true = false) : Clear md ops i oi (L.setIfInBounds j true) := by
  intro k ok hk hki hun hno
  refine h k ok hk hki ?_ hno
  rcases Nat.decEq j k with hne | rfl
  · rwa [getD_set_ne true hne] at hun
  · exact hj
theorem wpAnyC_ahead {oi : Oper} {v : Value} (J : Array Bool → Prop) (hi : ops[i]? = some oi) (hsel : ∀ (k : Nat) (o : Oper) cs b, ops[k]? = some o → o.op ≠ .select cs b)
    (hQ : ∀ x a w, Q (.panic x) (a.put oi.dst v) w → Q (.panic x) a w) (hic : i ≠ c)
    (hJ : ∀ (L : Array Bool) k, J L → i ∈ Region.ready md ops L → k ∈ Region.ready md ops L → k ≠ i → J (L.setIfInBounds k true)) (hS : ∀ (L : Array Bool) w, J L → Till S c L w → S0 w) (n : Nat) :
    ∀ (L : Array Bool) (a : Act) (w : World), Clear md ops i oi L → i ∈ Region.ready md ops L → J L → YieldsIf P ops S0 oi v a → Till S c L w →
      wpAnyC P md ops Q S c n (L.setIfInBounds i true) (a.put oi.dst v) w → wpAnyC P md ops Q S c (n + 1) L a w := by
  have start : ∀ (m : Nat) (L : Array Bool) (a : Act) (w : World), i ∈ Region.ready md ops L → J L → YieldsIf P ops S0 oi v a → Till S c L w → wpAnyC P md ops Q S c m (L.setIfInBounds i true) (a.put oi.dst v) w →
      (∀ k ∈ Region.ready md ops L, k ≠ i → wpOp P ops Q k (fun b z => Till S c (L.setIfInBounds k true) z ∧ wpAnyC P md ops Q S c m (L.setIfInBounds k true) b z) a w) → wpAnyC P md ops Q S c (m + 1) L a w := by
    intro m L a w hr hj hy hw H rest
    refine ⟨fun e => absurd hr (by rw [e]; exact List.not_mem_nil), fun k hk => ?_⟩
    rcases Nat.decEq k i with hne | rfl
    · exact rest k hk hne
    · exact hy.wpOp hi (hS L w hj hw) ⟨hw.step hic, H⟩
  induction n with
  | zero =>
    intro L a w _ hr hj hy hw H
    exact start 0 L a w hr hj hy hw H fun k hk hne => absurd (ready_mono hk hne) (by rw [H.1]; exact List.not_mem_nil)
  | succ n ih =>
    intro L a w hcl hr hj hy hw H
    refine start (n + 1) L a w hr hj hy hw H fun k hk hne => ?_
    obtain ⟨hun, ok, hok, -⟩ := mem_ready.1 hk
    refine wpOp_mono (fun b z hb => ?_) (wpOp_putIf hok (hcl k ok hok hne hun (no_wait hr hk hok)) (fun cs b => hsel i oi cs b hi) (fun cs b => hsel k ok cs b hok) hQ hy (H.2 k (ready_mono hk hne)))
    obtain ⟨hy', ht, hrest⟩ := hb
    rw [Array.setIfInBounds_comm _ _ (Ne.symm hne)] at ht hrest
    have ht' := ht.back hic
    exact ⟨ht', ih _ b z (hcl.step hun) (ready_mono hr (Ne.symm hne)) (hJ L k hj hr hk hne) hy' ht' hrest⟩
def waitsB (md : Region.Mode) (ops : Array Oper) (c i : Nat) : Bool := match ops[c]? with
  | some o => o.after.any fun e => Region.binds md e && e.on == i
  | none => false
theorem wpAnyC_take {oi : Oper} {v : Value} {n : Nat} {a : Act} {w : World} (hi : ops[i]? = some oi)
    (hs : Region.noSelect ops = true) (hf : Region.free md ops L i = true) (hr : (Region.ready md ops L).contains i = true)
    (hci : (c != i && waitsB md ops c i && (L.getD c true == false)) = true)
    (hQ : ∀ x a w, Q (.panic x) (a.put oi.dst v) w → Q (.panic x) a w) (hy : YieldsIf P ops S oi v a) (hS : S w)
    (h : wpAnyC P md ops Q S c n (L.setIfInBounds i true) (a.put oi.dst v) w) : wpAnyC P md ops Q S c (n + 1) L a w := by
  simp only [Bool.and_eq_true, bne_iff_ne, beq_iff_eq] at hci
  obtain ⟨⟨h1, h2⟩, h3⟩ := hci
  unfold waitsB at h2
  split at h2
  · rename_i oc hoc
    rw [Array.any_eq_true'] at h2
    obtain ⟨e, he, hb⟩ := h2
    simp only [Bool.and_eq_true, beq_iff_eq] at hb
    refine wpAnyC_ahead (fun L => L.getD c true = false) hi (Region.noSelect_spec hs) hQ (Ne.symm h1) (fun L k hj hri hrk hne => ?_) (fun L w hj ht => ht hj) n L a w (Region.free_spec hi hf) (by simpa using hr) h3 hy (fun _ => hS) h
    have hkc : k ≠ c := fun hkc => by
      subst hkc
      exact no_wait hri hrk hoc e he hb.1 hb.2
    rw [getD_set_ne true hkc]; exact hj
  · cases h2
theorem wpAnyC_takeT {oi : Oper} {v : Value} {n : Nat} {a : Act} {w : World} (hi : ops[i]? = some oi)
    (hs : Region.noSelect ops = true) (hf : Region.free md ops L i = true) (hr : (Region.ready md ops L).contains i = true)
    (hci : (i != c) = true)
    (hQ : ∀ x a w, Q (.panic x) (a.put oi.dst v) w → Q (.panic x) a w) (hy : YieldsIf P ops (fun _ => True) oi v a) (hS : L.getD c true = false → S w)
    (h : wpAnyC P md ops Q S c n (L.setIfInBounds i true) (a.put oi.dst v) w) : wpAnyC P md ops Q S c (n + 1) L a w :=
  wpAnyC_ahead (fun _ => True) hi (Region.noSelect_spec hs) hQ (by simpa using hci) (fun _ _ _ _ _ _ => trivial) (fun _ _ _ _ => trivial) n L a w (Region.free_spec hi hf) (by simpa using hr) trivial hy hS h
theorem wpAnyC_done {a : Act} {w : World} (hr : Region.ready md ops L = []) (h : Q .normal a w) (n : Nat) : wpAnyC P md ops Q S c n L a w := by
  cases n with
  | zero => exact ⟨hr, h⟩
  | succ n => exact ⟨fun _ => h, by rw [hr]; simp⟩
theorem wpAnyC_one {o : Oper} {n : Nat} {a : Act} {w : World} (hr : Region.ready md ops L = [i]) (ho : ops[i]? = some o)
    (h : ∀ K : Act → World → Prop, Shut (∀ b z, ((L.setIfInBounds i true).getD c true = false → S z) → wpAnyC P md ops Q S c n (L.setIfInBounds i true) b z → K b z) → if Region.wanted o (yielded ops a.tmps) = true then Oper.wp P o a w K Q else K (a.put o.dst undef) w) :
    wpAnyC P md ops Q S c (n + 1) L a w := by
  refine ⟨fun e => (by rw [hr] at e; cases e), fun k hk => ?_⟩
  rw [hr, List.mem_singleton] at hk
  subst hk
  exact wpOp_step ho (fun K hK => h K (fun b z ht hz => hK b z ⟨ht, hz⟩))
theorem wp_region_C {id : Nat} {a : Act} {w : World} (hm : P.follows .mixedOrders = true)
    (h : wpAnyC P .any ops Q S c ops.size (Array.replicate ops.size false) a w.drew) : (Code.region id ops true).wp P Q a w :=
  wp_region_any hm (wpAnyC_plain _ _ _ _ h)
end
structure Kept (F : Nat → Prop) (w w' : World) : Prop where
  os : w'.os = w.os
  tape : w'.tape = w.tape
  output : w'.output = w.output
  size : w.heap.size ≤ w'.heap.size
  block : ∀ k, k < w.heap.size → ¬ F k → w'.heap[k]? = w.heap[k]?
theorem Kept.refl (F : Nat → Prop) (w : World) : Kept F w w := ⟨rfl, rfl, rfl, Nat.le_refl _, fun _ _ _ => rfl⟩
theorem Kept.trans {F G : Nat → Prop} {a b c : World} (h : Kept F a b) (k : Kept G b c) (hG : ∀ i, G i → F i ∨ a.heap.size ≤ i) : Kept F a c :=
  ⟨k.os.trans h.os, k.tape.trans h.tape, k.output.trans h.output, Nat.le_trans h.size k.size, fun i hi hne => (k.block i (Nat.lt_of_lt_of_le hi h.size) (fun hg => (hG i hg).elim hne (fun h' => by omega))).trans (h.block i hi hne)⟩
theorem Kept.mono {F G : Nat → Prop} {a b : World} (h : Kept F a b) (hG : ∀ i, i < a.heap.size → F i → G i) : Kept G a b :=
  ⟨h.os, h.tape, h.output, h.size, fun i hi hne => h.block i hi (fun hf => hne (hG i hi hf))⟩
theorem Kept.drew {F : Nat → Prop} {a w : World} (h : Kept F a w) : Kept F a w.drew := ⟨h.os, h.tape, h.output, h.size, h.block⟩
theorem Kept.drewN {F : Nat → Prop} {a w : World} (h : Kept F a w) (n : Nat) : Kept F a (w.drewN n) := ⟨h.os, h.tape, h.output, h.size, h.block⟩
theorem Kept.ofDrew {F : Nat → Prop} {a w : World} (h : Kept F a.drew w) : Kept F a w := ⟨h.os, h.tape, h.output, h.size, h.block⟩
theorem Kept.alloc {F : Nat → Prop} {a w : World} (h : Kept F a w) (o : Obj) : Kept F a (w.alloc o) :=
  h.trans (G := fun _ => False) ⟨rfl, rfl, rfl, by simp, fun k hk _ => Below.heap_alloc w o k hk⟩ (fun _ h => h.elim)
theorem Kept.setCell {F : Nat → Prop} {a w : World} (h : Kept F a w) {g : Nat} (hg : F g ∨ a.heap.size ≤ g) (i : Nat) (v : Value) : Kept F a (w.setCell ⟨g, i, none⟩ v) :=
  h.trans (G := fun k => k = g) ⟨rfl, rfl, rfl, by simp, fun k _ hne => Below.heap_setCell w ⟨g, i, none⟩ v k hne⟩ (fun i e => e ▸ hg)
theorem Kept.one (w : World) (g i : Nat) (v : Value) : Kept (fun k => k = g) w (w.setCell ⟨g, i, none⟩ v) :=
  ⟨rfl, rfl, rfl, by simp, fun k _ hne => Below.heap_setCell w ⟨g, i, none⟩ v k hne⟩
theorem Kept.oneRow (w : World) (g : Nat) (cs : Array Value) : Kept (fun k => k = g) w (w.setRow g cs) :=
  ⟨rfl, rfl, rfl, by simp [World.setRow], fun k _ hne => setRow_other w g k cs hne⟩
theorem Kept.setRow {F : Nat → Prop} {a w : World} (h : Kept F a w) {g : Nat} (hg : F g ∨ a.heap.size ≤ g) (cs : Array Value) : Kept F a (w.setRow g cs) :=
  h.trans (G := fun k => k = g) ⟨rfl, rfl, rfl, by simp [World.setRow], fun k _ hne => setRow_other w g k cs hne⟩ (fun i e => e ▸ hg)
theorem Kept.grown {F : Nat → Prop} {a w w' : World} (h : Kept F a w) {row : Option Nat} (hg : w.grownBy w' row) (hr : ∀ k, row = some k → F k ∨ a.heap.size ≤ k) : Kept F a w' :=
  h.trans (G := fun k => row = some k) ⟨hg.os, hg.tape, hg.output, hg.size, fun k hk hne => hg.block k hk (fun e => hne e.symm)⟩ hr
theorem Kept.ofBelow {F : Nat → Prop} {w w' : World} (h : Below w.heap.size w w') : Kept F w w' := ⟨h.os, h.tape, h.output, h.size, fun k hk _ => h.block k hk⟩
theorem Kept.thenBelow {F : Nat → Prop} {a w w' : World} (h : Kept F a w) (k : Below w.heap.size w w') : Kept F a w' := h.trans (G := fun _ => False) (Kept.ofBelow k) (fun _ h => h.elim)
theorem Kept.below {F : Nat → Prop} {B : Nat} {w0 w w' : World} (hb : Below B w0 w) (h : Kept F w w') (hB : B ≤ w.heap.size) (hF : ∀ k, F k → B ≤ k) : Below B w0 w' :=
  hb.trans ⟨h.os, h.tape, h.output, h.size, fun k hk => h.block k (by omega) (fun hf => by have := hF k hf; omega)⟩
theorem Kept.cell {F : Nat → Prop} {w w' : World} (h : Kept F w w') {p : Addr} (hp : p.block < w.heap.size) (hn : ¬ F p.block) : w'.cell? p = w.cell? p := World.cell?_of_block (w := w) (h.block p.block hp hn)
theorem Blk.kept {F : Nat → Prop} {w w' : World} {g : Nat} {T : TypeId} {L : List Value} (h : Blk w g T L) (ho : Kept F w w') (hk : ¬ F g) : Blk w' g T L := by
  have hl := h.lt
  unfold Blk at h ⊢
  rw [ho.block g hl hk]; exact h
theorem owns_kept {F : Nat → Prop} {w w' : World} {base : Nat} {e : TypeId} {size : Nat} {v : Value} {n : Nat} {xs : List Value} (h : w.ownsRow base e size v n xs) (ho : Kept F w w') (hk : ∀ k, v.ownBlock = some k → ¬ F k) : w'.ownsRow base e size v n xs := by
  refine ⟨h.1, ?_⟩
  rcases h.2 with hn | ⟨g, cap, cur, rfl, hb, hgg, rest⟩
  · exact .inl hn
  · exact .inr ⟨g, cap, cur, rfl, hb, by rw [ho.block g (Array.getElem?_eq_some_iff.1 hgg).1 (hk g rfl)]; exact hgg, rest⟩
theorem Blk.ne {w : World} {g k : Nat} {T U : TypeId} {L M : List Value} (h : Blk w g T L) (h' : Blk w k U M) (hT : T ≠ U) : g ≠ k := by
  rintro rfl
  unfold Blk at h h'
  rw [h] at h'
  cases h'
  exact hT rfl
theorem Blk.owns_ne {w : World} {g : Nat} {T : TypeId} {L : List Value} (h : Blk w g T L) {base : Nat} {e : TypeId} {size : Nat} {v : Value} {n : Nat} {xs : List Value} (ho : w.ownsRow base e size v n xs) (hT : T ≠ e) : v.ownBlock ≠ some g := by
  intro hv
  rcases ho.2 with ⟨rfl, _⟩ | ⟨g', cap, cur, rfl, hb, hgg, _⟩
  · cases hv
  · cases hv
    unfold Blk at h
    rw [h] at hgg
    cases hgg
    exact hT rfl
abbrev noB : ByteArray := { data := #[] }
def Turned (F : Nat → Prop) (w w' : World) (A : (Nat → Prop) → Prop) : Prop := ∃ F', A F' ∧ Kept F w w' ∧ ∀ k, F' k → F k ∨ w.heap.size ≤ k
theorem Turned.mono {F : Nat → Prop} {w w' : World} {A B : (Nat → Prop) → Prop} (h : Turned F w w' A) (hAB : ∀ F', A F' → B F') : Turned F w w' B := by
  obtain ⟨F', h1, h2, h3⟩ := h; exact ⟨F', hAB _ h1, h2, h3⟩
abbrev Asn := World → (Nat → Prop) → Prop
structure Firm (P : Asn) : Prop where
  kept : ∀ {w w' : World} {F G : Nat → Prop}, P w F → Kept G w w' → (∀ k, F k → ¬ G k) → P w' F
  bound : ∀ {w : World} {F : Nat → Prop}, P w F → ∀ k, F k → k < w.heap.size
def star (P Q : Asn) : Asn := fun w F => ∃ G H, P w G ∧ Q w H ∧ (∀ k, G k → ¬ H k) ∧ ∀ k, F k ↔ G k ∨ H k
theorem Firm.star {P Q : Asn} (hP : Firm P) (hQ : Firm Q) : Firm (star P Q) :=
  ⟨fun ⟨G, H, h1, h2, h3, h4⟩ hk hd => ⟨G, H, hP.kept h1 hk (fun k hg => hd k ((h4 k).2 (.inl hg))), hQ.kept h2 hk (fun k hh => hd k ((h4 k).2 (.inr hh))), h3, h4⟩,
   fun ⟨G, H, h1, h2, h3, h4⟩ k hk => ((h4 k).1 hk).elim (hP.bound h1 k) (hQ.bound h2 k)⟩
def Hold (B : Nat) (w0 w : World) (P : Asn) : Prop := B ≤ w.heap.size ∧ Below B w0 w ∧ ∃ F, P w F ∧ ∀ k, F k → B ≤ k
theorem Hold.size {B : Nat} {w0 w : World} {P : Asn} (h : Hold B w0 w P) : B ≤ w.heap.size := h.1
theorem Hold.low {B : Nat} {w0 w : World} {P : Asn} (h : Hold B w0 w P) : Below B w0 w := h.2.1
theorem Hold.mono {B : Nat} {w0 w : World} {P Q : Asn} (h : Hold B w0 w P) (hPQ : ∀ F, P w F → Q w F) : Hold B w0 w Q := by
  obtain ⟨h1, h2, F, h3, h4⟩ := h; exact ⟨h1, h2, F, hPQ F h3, h4⟩
theorem Hold.below {B : Nat} {w0 w w' : World} {P : Asn} (h : Hold B w0 w P) (hP : Firm P) (hb : Below w.heap.size w w') : Hold B w0 w' P := by
  obtain ⟨h1, h2, F, h3, h4⟩ := h
  exact ⟨Nat.le_trans h1 hb.size, h2.trans (hb.mono h1), F, hP.kept h3 (Kept.ofBelow (F := fun _ => False) hb) (fun _ _ h => h), h4⟩
theorem star_swap {P Q R : Asn} {w : World} {F : Nat → Prop} (h : star P (star Q R) w F) : star Q (star P R) w F := by
  obtain ⟨G, H, h1, ⟨I, J, h2, h3, h4, h5⟩, h6, h7⟩ := h
  refine ⟨I, fun k => G k ∨ J k, h2, ⟨G, J, h1, h3, fun k hg hj => h6 k hg ((h5 k).2 (.inr hj)), fun k => Iff.rfl⟩, ?_, ?_⟩
  · rintro k hi (hg | hj)
    · exact h6 k hg ((h5 k).2 (.inl hi))
    · exact h4 k hi hj
  · intro k
    rw [h7 k, h5 k]
    constructor
    · rintro (h | h | h)
      · exact .inr (.inl h)
      · exact .inl h
      · exact .inr (.inr h)
    · rintro (h | h | h)
      · exact .inr (.inl h)
      · exact .inl h
      · exact .inr (.inr h)
theorem star_comm {P Q : Asn} {w : World} {F : Nat → Prop} (h : star P Q w F) : star Q P w F := by
  obtain ⟨G, H, h1, h2, h3, h4⟩ := h
  exact ⟨H, G, h2, h1, fun k hh hg => h3 k hg hh, fun k => (h4 k).trans Or.comm⟩
theorem Hold.swap {B : Nat} {w0 w : World} {P Q R : Asn} (h : Hold B w0 w (star P (star Q R))) : Hold B w0 w (star Q (star P R)) := h.mono (fun _ => star_swap)
theorem Hold.comm {B : Nat} {w0 w : World} {P Q : Asn} (h : Hold B w0 w (star P Q)) : Hold B w0 w (star Q P) := h.mono (fun _ => star_comm)
theorem Hold.left {B : Nat} {w0 w : World} {P Q : Asn} (h : Hold B w0 w (star P Q)) : Hold B w0 w P := by
  obtain ⟨h1, h2, F, ⟨G, H, h3, h4, h5, h6⟩, h7⟩ := h
  exact ⟨h1, h2, G, h3, fun k hk => h7 k ((h6 k).2 (.inl hk))⟩
theorem Hold.monoL {B : Nat} {w0 w : World} {P P' Q : Asn} (h : Hold B w0 w (star P Q)) (hP : ∀ F, P w F → P' w F) : Hold B w0 w (star P' Q) :=
  h.mono (fun F ⟨G, H, h3, h4⟩ => ⟨G, H, hP G h3, h4⟩)
theorem Hold.monoR {B : Nat} {w0 w : World} {P Q Q' : Asn} (h : Hold B w0 w (star P Q)) (hQ : ∀ F, Q w F → Q' w F) : Hold B w0 w (star P Q') :=
  h.mono (fun F ⟨G, H, h3, h4, h5⟩ => ⟨G, H, h3, hQ H h4, h5⟩)
theorem Hold.turned {B : Nat} {w0 w w' : World} {P' R : Asn} (hR : Firm R) {G H : Nat → Prop} (hB : B ≤ w.heap.size) (hb : Below B w0 w) (hr : R w H) (hd : ∀ k, G k → ¬ H k) (hF : ∀ k, G k ∨ H k → B ≤ k) (hT : Turned G w w' (fun G' => P' w' G')) : Hold B w0 w' (star P' R) := by
  obtain ⟨G', h1, h2, h3⟩ := hT
  refine ⟨Nat.le_trans hB h2.size, h2.below hb hB (fun k hk => hF k (.inl hk)), fun k => G' k ∨ H k, ⟨G', H, h1, hR.kept hr h2 (fun k hh hg => hd k hg hh), ?_, fun k => Iff.rfl⟩, ?_⟩
  · intro k hk hh
    rcases h3 k hk with h | h
    · exact hd k h hh
    · have := hR.bound hr k hh; omega
  · rintro k (hk | hk)
    · rcases h3 k hk with h | h
      · exact hF k (.inl h)
      · exact Nat.le_trans hB h
    · exact hF k (.inr hk)
theorem Hold.call {B : Nat} {w0 w : World} {P P' R : Asn} (hR : Firm R) {f : Nat} {args : Array Value} {E : Ending → Prop} (h : Hold B w0 w (star P R)) (hc : ∀ G, P w G → (∀ k, G k → B ≤ k) → Calls Tryz.prog f args w fun e w' => E e ∧ Turned G w w' (fun G' => P' w' G')) :
    Calls Tryz.prog f args w fun e w' => E e ∧ Hold B w0 w' (star P' R) := by
  obtain ⟨h1, h2, F, ⟨G, H, h3, h4, h5, h6⟩, h7⟩ := h
  refine (hc G h3 (fun k hk => h7 k ((h6 k).2 (.inl hk)))).mono ?_
  rintro e w' ⟨he, hT⟩
  exact ⟨he, Hold.turned hR h1 h2 h4 h5 (fun k hk => h7 k ((h6 k).2 hk)) hT⟩
theorem Hold.new {B : Nat} {w0 w w' : World} {P R : Asn} (hR : Firm R) (h : Hold B w0 w R) (hb : Below w.heap.size w w') {G : Nat → Prop} (hP : P w' G) (hG : ∀ k, G k → w.heap.size ≤ k) : Hold B w0 w' (star P R) := by
  obtain ⟨h1, h2, F, h3, h4⟩ := h
  refine ⟨Nat.le_trans h1 hb.size, h2.trans (hb.mono h1), fun k => G k ∨ F k, ⟨G, F, hP, hR.kept h3 (Kept.ofBelow (F := fun _ => False) hb) (fun _ _ h => h), ?_, fun k => Iff.rfl⟩, ?_⟩
  · intro k hk hf
    have := hG k hk
    have := hR.bound h3 k hf
    omega
  · rintro k (hk | hk)
    · exact Nat.le_trans h1 (hG k hk)
    · exact h4 k hk
def nought : Asn := fun w F => ∀ k, ¬ F k
theorem firm_nought : Firm nought := ⟨fun h _ _ => h, fun h k hk => absurd hk (h k)⟩
theorem hold_nought (B : Nat) (w0 w : World) (hB : B ≤ w.heap.size) (hb : Below B w0 w) : Hold B w0 w nought := ⟨hB, hb, fun _ => False, fun _ h => h, fun _ h => h.elim⟩
def blkA (g : Nat) (T : TypeId) (L : List Value) : Asn := fun w F => Blk w g T L ∧ ∀ k, F k ↔ k = g
theorem firm_blk (g : Nat) (T : TypeId) (L : List Value) : Firm (blkA g T L) := ⟨fun h hk hd => ⟨h.1.kept hk (hd g ((h.2 g).2 rfl)), h.2⟩, fun h k hk => by rw [(h.2 k).1 hk]; exact h.1.lt⟩
theorem Hold.blk {B : Nat} {w0 w : World} {g : Nat} {T : TypeId} {L : List Value} {R : Asn} (h : Hold B w0 w (star (blkA g T L) R)) : Blk w g T L := by
  obtain ⟨h1, h2, F, ⟨G, H, h3, h4⟩, h7⟩ := h; exact h3.1
theorem star_left {P Q : Asn} {w : World} {F : Nat → Prop} (h : star P Q w F) : ∃ G, P w G ∧ ∀ k, G k → F k := by
  obtain ⟨G, H, h1, h2, h3, h4⟩ := h
  exact ⟨G, h1, fun k hk => (h4 k).2 (.inl hk)⟩
theorem star_right {P Q : Asn} {w : World} {F : Nat → Prop} (h : star P Q w F) : ∃ G, Q w G ∧ ∀ k, G k → F k := by
  obtain ⟨G, H, h1, h2, h3, h4⟩ := h
  exact ⟨H, h2, fun k hk => (h4 k).2 (.inr hk)⟩
theorem Hold.right {B : Nat} {w0 w : World} {P Q : Asn} (h : Hold B w0 w (star P Q)) : Hold B w0 w Q := h.comm.left
def each (S : Nat → Prop) (P : Nat → Asn) : Asn := fun w F => ∃ H : Nat → Nat → Prop, (∀ i, S i → P i w (H i)) ∧ (∀ i j, S i → S j → i ≠ j → ∀ k, H i k → ¬ H j k) ∧ ∀ k, F k ↔ ∃ i, S i ∧ H i k
theorem firm_each {S : Nat → Prop} {P : Nat → Asn} (h : ∀ i, Firm (P i)) : Firm (each S P) :=
  ⟨fun ⟨H, h1, h2, h3⟩ hk hd => ⟨H, fun i hi => (h i).kept (h1 i hi) hk (fun k hh => hd k ((h3 k).2 ⟨i, hi, hh⟩)), h2, h3⟩,
   fun ⟨H, h1, h2, h3⟩ k hk => by obtain ⟨i, hi, hh⟩ := (h3 k).1 hk; exact (h i).bound (h1 i hi) k hh⟩
theorem each_take {S : Nat → Prop} {P : Nat → Asn} {w : World} {F : Nat → Prop} (i : Nat) (hi : S i) (h : each S P w F) : star (P i) (each (fun j => S j ∧ j ≠ i) P) w F := by
  obtain ⟨H, h1, h2, h3⟩ := h
  refine ⟨H i, fun k => ∃ j, (S j ∧ j ≠ i) ∧ H j k, h1 i hi, ⟨H, fun j hj => h1 j hj.1, fun a b ha hb => h2 a b ha.1 hb.1, fun k => Iff.rfl⟩, fun k hk ⟨j, hj, hjk⟩ => h2 i j hi hj.1 (Ne.symm hj.2) k hk hjk, fun k => ?_⟩
  rw [h3 k]
  constructor
  · rintro ⟨j, hj, hjk⟩
    by_cases e : j = i
    · exact .inl (e ▸ hjk)
    · exact .inr ⟨j, ⟨hj, e⟩, hjk⟩
  · rintro (hk | ⟨j, hj, hjk⟩)
    · exact ⟨i, hi, hk⟩
    · exact ⟨j, hj.1, hjk⟩
theorem each_put {S : Nat → Prop} {P P' : Nat → Asn} {w : World} {F : Nat → Prop} (i : Nat) (hi : S i) (hP : ∀ j, S j → j ≠ i → P j = P' j) (h : star (P' i) (each (fun j => S j ∧ j ≠ i) P) w F) : each S P' w F := by
  obtain ⟨G, K, g1, ⟨H, h1, h2, h3⟩, g3, g4⟩ := h
  refine ⟨fun j => if j = i then G else H j, fun j hj => ?_, fun a b ha hb hab k hk hk' => ?_, fun k => ?_⟩
  · show P' j w (if j = i then G else H j)
    by_cases e : j = i
    · rw [if_pos e, e]; exact g1
    · rw [if_neg e, ← hP j hj e]; exact h1 j ⟨hj, e⟩
  · have hk : (if a = i then G else H a) k := hk
    have hk' : (if b = i then G else H b) k := hk'
    by_cases ea : a = i
    · rw [if_pos ea] at hk
      rw [if_neg (fun e => hab (ea.trans e.symm))] at hk'
      exact g3 k hk ((h3 k).2 ⟨b, ⟨hb, fun e => hab (ea.trans e.symm)⟩, hk'⟩)
    · rw [if_neg ea] at hk
      by_cases eb : b = i
      · rw [if_pos eb] at hk'
        exact g3 k hk' ((h3 k).2 ⟨a, ⟨ha, ea⟩, hk⟩)
      · rw [if_neg eb] at hk'
        exact h2 a b ⟨ha, ea⟩ ⟨hb, eb⟩ hab k hk hk'
  · rw [g4 k, h3 k]
    constructor
    · rintro (hk | ⟨j, hj, hjk⟩)
      · exact ⟨i, hi, by show (if i = i then G else H i) k; rw [if_pos rfl]; exact hk⟩
      · exact ⟨j, hj.1, by show (if j = i then G else H j) k; rw [if_neg hj.2]; exact hjk⟩
    · rintro ⟨j, hj, hjk⟩
      have hjk : (if j = i then G else H j) k := hjk
      by_cases e : j = i
      · rw [if_pos e] at hjk; exact .inl hjk
      · rw [if_neg e] at hjk; exact .inr ⟨j, ⟨hj, e⟩, hjk⟩
theorem each_congr {S S' : Nat → Prop} {P P' : Nat → Asn} {w : World} {F : Nat → Prop} (hS : ∀ i, S i ↔ S' i) (hP : ∀ i, S i → P i = P' i) (h : each S P w F) : each S' P' w F := by
  obtain ⟨H, h1, h2, h3⟩ := h
  refine ⟨H, fun i hi => ?_, fun a b ha hb => h2 a b ((hS a).2 ha) ((hS b).2 hb), fun k => ?_⟩
  · rw [← hP i ((hS i).2 hi)]; exact h1 i ((hS i).2 hi)
  · rw [h3 k]; exact ⟨fun ⟨i, hi, hk⟩ => ⟨i, (hS i).1 hi, hk⟩, fun ⟨i, hi, hk⟩ => ⟨i, (hS i).2 hi, hk⟩⟩
theorem each_none {S : Nat → Prop} {P : Nat → Asn} {w : World} {F : Nat → Prop} (hS : ∀ i, ¬ S i) (h : nought w F) : each S P w F :=
  ⟨fun _ _ => False, fun i hi => absurd hi (hS i), fun i _ hi => absurd hi (hS i), fun k => ⟨fun hk => absurd hk (h k), fun ⟨i, hi, _⟩ => absurd hi (hS i)⟩⟩
theorem each_more {P P' : Nat → Asn} {w : World} {F : Nat → Prop} (n : Nat) (hP : ∀ j, j < n → P j = P' j) (h : star (P' n) (each (fun j => j < n) P) w F) : each (fun j => j < n + 1) P' w F :=
  each_put (P := P) n (by omega) (fun j hj e => hP j (by omega)) (by
    obtain ⟨G, K, g1, g2, g3⟩ := h
    exact ⟨G, K, g1, each_congr (fun j => ⟨fun hj => ⟨by omega, by omega⟩, fun hj => by omega⟩) (fun _ _ => rfl) g2, g3⟩)
def rowA (T : TypeId) (v : Value) (m : Nat) (xs : List Value) : Asn := fun w F => w.ownsRow 0 T 1 v m xs ∧ ∀ k, F k ↔ v.ownBlock = some k
theorem firm_row (T : TypeId) (v : Value) (m : Nat) (xs : List Value) : Firm (rowA T v m xs) :=
  ⟨fun h hk hd => ⟨owns_kept h.1 hk (fun k e => hd k ((h.2 k).2 e)), h.2⟩, fun h k hk => (World.ownsRow.lt h.1 k ((h.2 k).1 hk)).2⟩
theorem star_assoc {P Q R : Asn} {w : World} {F : Nat → Prop} (h : star (star P Q) R w F) : star P (star Q R) w F := by
  obtain ⟨G, H, ⟨I, J, h1, h2, h3, h4⟩, h5, h6, h7⟩ := h
  refine ⟨I, fun k => J k ∨ H k, h1, ⟨J, H, h2, h5, fun k hj hh => h6 k ((h4 k).2 (.inr hj)) hh, fun k => Iff.rfl⟩, ?_, fun k => ?_⟩
  · rintro k hi (hj | hh)
    · exact h3 k hi hj
    · exact h6 k ((h4 k).2 (.inl hi)) hh
  · rw [h7 k, h4 k, or_assoc]
theorem star_unassoc {P Q R : Asn} {w : World} {F : Nat → Prop} (h : star P (star Q R) w F) : star (star P Q) R w F := star_comm (by
  have h1 : star P (star R Q) w F := by
    obtain ⟨G, H, g1, g2, g3⟩ := h
    exact ⟨G, H, g1, star_comm g2, g3⟩
  have h2 := star_swap h1
  exact h2)
theorem star_monoL {P P' Q : Asn} {w : World} {F : Nat → Prop} (h : star P Q w F) (hP : ∀ F, P w F → P' w F) : star P' Q w F := by
  obtain ⟨G, H, h1, h2, h3⟩ := h; exact ⟨G, H, hP G h1, h2, h3⟩
theorem star_monoR {P Q Q' : Asn} {w : World} {F : Nat → Prop} (h : star P Q w F) (hQ : ∀ F, Q w F → Q' w F) : star P Q' w F := by
  obtain ⟨G, H, h1, h2, h3⟩ := h; exact ⟨G, H, h1, hQ H h2, h3⟩
theorem Hold.assoc {B : Nat} {w0 w : World} {P Q R : Asn} (h : Hold B w0 w (star (star P Q) R)) : Hold B w0 w (star P (star Q R)) := h.mono (fun _ => star_assoc)
theorem Hold.unassoc {B : Nat} {w0 w : World} {P Q R : Asn} (h : Hold B w0 w (star P (star Q R))) : Hold B w0 w (star (star P Q) R) := h.mono (fun _ => star_unassoc)
theorem Hold.setBlk {B : Nat} {w0 w : World} {g : Nat} {T : TypeId} {L : List Value} {R : Asn} (hR : Firm R) (h : Hold B w0 w (star (blkA g T L) R)) (i : Nat) (v : Value) : Hold B w0 (w.setCell ⟨g, i, none⟩ v) (star (blkA g T (L.set i v)) R) := by
  obtain ⟨h1, h2, F, ⟨G, H, h3, h4, h5, h6⟩, h7⟩ := h
  exact Hold.turned hR h1 h2 h4 h5 (fun k hk => h7 k ((h6 k).2 hk)) ⟨G, ⟨h3.1.setCell i v, h3.2⟩, (Kept.one w g i v).mono (fun k _ e => (h3.2 k).2 e), fun k hk => .inl hk⟩
theorem Hold.drew {B : Nat} {w0 w : World} {P : Asn} (hP : Firm P) (h : Hold B w0 w P) : Hold B w0 w.drew P := h.below hP (Below.refl _ _).drew
theorem Hold.row {B : Nat} {w0 w : World} {T : TypeId} {v : Value} {m : Nat} {xs : List Value} {R : Asn} (h : Hold B w0 w (star (rowA T v m xs) R)) : w.ownsRow 0 T 1 v m xs := by
  obtain ⟨h1, h2, F, ⟨G, H, h3, h4⟩, h7⟩ := h; exact h3.1
theorem row_push {B : Nat} {w0 w : World} {R : Asn} (hR : Firm R) (sl T ty : TypeId) (z : Value) (by_ : Nat) (hu : Tryz.prog.underlying sl = some (.slice T)) (hT : (Tryz.prog.info? T).map (fun i => (i.zero, i.size, i.bytes)) = some (some z, 1, by_)) (hz : z.cells.size = 1) (hby : by_ ≤ 24)
    {v : Value} {m : Nat} {xs : List Value} (h : Hold B w0 w (star (rowA T v m xs) R)) (x : Value) (hx : x.oneCell' = true) (hm : m ≤ 1000000) :
    ∃ g' cap' w', (Builtin.append_ #[sl, sl] ty #[v, .slice (some ⟨w.heap.size, 0, none⟩) 1 1]).run Tryz.prog (w.alloc (.cells #[x] T)) = .ok (.slice (some ⟨g', 0, none⟩) (m + 1) cap') w' ∧
      Hold B w0 w' (star (rowA T (.slice (some ⟨g', 0, none⟩) (m + 1) cap') (m + 1) (xs ++ [x])) R) := by
  obtain ⟨i0, hi, hz0, hz1, hz2⟩ := info_parts hT
  have hnews : ∀ (i : Nat) u, [x][i]? = some u → (w.alloc (.cells #[x] T)).cell? ((⟨w.heap.size, 0, none⟩ : Addr).add i) = some u := fun i u hi => by
    match i, hi with
    | 0, hi => simp at hi; subst hi; simp only [Addr.add]; exact (Blk.new w T #[x]).cell rfl
  have hb : (m + 1) * by_ ≤ 140737488355328 := Nat.le_trans (Nat.mul_le_mul (by omega : m + 1 ≤ 1000001) hby) (by decide)
  obtain ⟨v', w', hrun, hown, hgrow, _, hat⟩ := run_append_own_at (P := Tryz.prog) (w.alloc (.cells #[x] T)) 0 sl ty T i0 z 1 by_ hu hi hz0 hz1 hz2 hz (by decide) v m xs (World.ownsRow.alloc h.row _)
    ⟨w.heap.size, 0, none⟩ 1 1 [x] rfl hnews (fun u hu => by simp at hu; subst hu; exact hx) (by unfold maxLen; omega) hb (Nat.zero_le _)
  have hown' := hown
  rcases hown.2 with ⟨_, h0⟩ | ⟨g', cap', cur, rfl, _⟩
  · omega
  · refine ⟨g', cap', w', hrun, ?_⟩
    obtain ⟨h1, h2, F, ⟨G, H, h3, h4, h5, h6⟩, h7⟩ := h
    refine Hold.turned hR h1 h2 h4 h5 (fun k hk => h7 k ((h6 k).2 hk)) ⟨fun k => k = g', ⟨hown', fun k => ⟨fun e => by rw [e]; rfl, fun e => (Option.some.inj e).symm⟩⟩, ?_, ?_⟩
    · exact ((Kept.refl G w).alloc _).grown hgrow (fun k e => .inl ((h3.2 k).2 e))
    · rintro k rfl
      rcases hat with e | e
      · exact .inl ((h3.2 k).2 e.symm)
      · have h2 : k = (w.alloc (.cells #[x] T)).heap.size := Option.some.inj e
        rw [World.size_alloc] at h2
        exact .inr (by omega)
theorem Hold.addNought {B : Nat} {w0 w : World} {R : Asn} (h : Hold B w0 w R) : Hold B w0 w (star nought R) := h.mono (fun F h => ⟨fun _ => False, F, fun _ h => h, h, fun _ h => h.elim, fun k => ⟨.inr, fun h => h.elim (fun h => h.elim) id⟩⟩)
theorem Hold.newBlk {B : Nat} {w0 w : World} {R : Asn} (hR : Firm R) (h : Hold B w0 w R) (T : TypeId) (A : Array Value) : Hold B w0 (w.alloc (.cells A T)) (star (blkA w.heap.size T A.toList) R) :=
  Hold.new hR h ((Below.refl _ _).alloc (Nat.le_refl _) _) (G := fun k => k = w.heap.size) ⟨Blk.new w T A, fun k => Iff.rfl⟩ (fun k hk => by rw [hk]; exact Nat.le_refl _)
theorem Hold.setRowBlk {B : Nat} {w0 w : World} {g : Nat} {T : TypeId} {L : List Value} {R : Asn} (hR : Firm R) (h : Hold B w0 w (star (blkA g T L) R)) (M : List Value) : Hold B w0 (w.setRow g M.toArray) (star (blkA g T M) R) := by
  obtain ⟨h1, h2, F, ⟨G, H, h3, h4, h5, h6⟩, h7⟩ := h
  exact Hold.turned hR h1 h2 h4 h5 (fun k hk => h7 k ((h6 k).2 hk)) ⟨G, ⟨h3.1.setRow, h3.2⟩, (Kept.oneRow w g M.toArray).mono (fun k _ e => (h3.2 k).2 e), fun k hk => .inl hk⟩
open Go.ChangeShapes Go.WideShapes Go.ChangeAt Go.RowKit Go.PlainAid
def nr (κ : IntKind) (n : Nat) (S : Nat → Nat) : List Value := (List.range n).map fun i => .int κ ((S i : Nat) : Int)
theorem nr_length (κ : IntKind) (n : Nat) (S : Nat → Nat) : (nr κ n S).length = n := by simp [nr]
theorem nr_at (κ : IntKind) (n : Nat) (S : Nat → Nat) (i : Nat) (h : i < n) : (nr κ n S)[i]? = some (.int κ ((S i : Nat) : Int)) := by simp [nr, h]
theorem nr_congr (κ : IntKind) (n : Nat) (S R : Nat → Nat) (h : ∀ i, i < n → S i = R i) : nr κ n S = nr κ n R := by
  unfold nr; exact List.map_congr_left fun i hi => by rw [h i (List.mem_range.1 hi)]
theorem nr_set (κ : IntKind) (n : Nat) (S : Nat → Nat) (k x : Nat) : (nr κ n S).set k (.int κ (x : Int)) = nr κ n (fun i => if i = k then x else S i) := by
  apply List.ext_getElem
  · simp [nr]
  · intro j h1 h2
    rw [List.getElem_set]
    simp only [nr, List.getElem_map, List.getElem_range]
    by_cases e : k = j
    · rw [if_pos e, if_pos e.symm]
    · rw [if_neg e, if_neg (fun h => e h.symm)]
theorem nr_one (κ : IntKind) (n : Nat) (S : Nat → Nat) : ∀ v ∈ nr κ n S, v.oneCell' = true := by
  intro v hv
  obtain ⟨i, _, rfl⟩ := List.mem_map.1 hv
  rfl
theorem run_index_agg {P : Program} (w : World) (t e : TypeId) (n : Nat) (L : List Value) (i : Nat) (v : Value) (h : P.underlying t = some (.array n e)) (hi : i < n) (hv : L[i]? = some v)
    (ha : ∀ w, (isAgg e).run P w = .ok false w) (hs : ∀ w, (sizeOf e).run P w = .ok 1 w) : (Instr.index t (.agg L.toArray) (.int .i64 (i : Int))).run P w = .ok v w := by
  have hn : (0 : Int) ≤ (i : Int) ∧ (i : Int) < (n : Int) := by omega
  simp [Instr.index, run_underlying h, asIntOf, hn, hs, ha, part, hv, go_sem]
  intro h; omega
theorem Blk.box (w : World) (T : TypeId) (L : List Value) : Blk (w.alloc (.cells L.toArray T)) w.heap.size T L := by
  have := Blk.new w T L.toArray
  simpa using this
theorem yields_row {P : Program} {ops : Array Oper} {S : World → Prop} {o : Oper} {a : Act} (hgd : o.guard = none) (ty : TypeId) (x : Operand) (ho : o.op = .load ty x)
    (g : Nat) (hx : a.eval x = .pointer (some ⟨g, 0, none⟩)) (t : TypeId) (L : List Value) (d : TypeDesc) (hg : ∀ w, S w → Blk w g t L)
    (hu : P.underlying ty = some d) (hd : (match d with | .struct _ | .array _ _ => true | _ => false) = true) (hi : (P.info? ty).map (·.size) = some L.length) : YieldsIf P ops S o (.agg L.toArray) a :=
  Or.inl ⟨by simp [Region.wanted, hgd], fun w hS => by
    unfold execOp
    simp only [ho, hx, Instr.loadAt, Instr.sureAddr, Sem.run_bind, Sem.run_pure, Result.andThen_ok, run_loadVar_row w g t ty L.toArray (0, 0) d (hg w hS) hu hd (by simpa using hi)]⟩
def tx (n : Nat) (f : Nat → Nat) : ByteArray := strOfNums ((List.range n).map fun i => ((f i : Nat) : Int))
theorem tx_size (n : Nat) (f : Nat → Nat) : (tx n f).size = n := by unfold tx; rw [strOfNums_size]; simp
theorem conv_blk {w : World} {g T n : Nat} {f : Nat → Nat} (h : Blk w g T (nr .u8 n f)) (m c : Nat) (hm : m ≤ n) : (convert 22 9 (.slice (some ⟨g, 0, none⟩) m c)).run Tryz.prog w = .ok (.string (tx m f)) w :=
  run_convert_bytes_arg (P := Tryz.prog) w 22 5 Tryz.underlying22 Tryz.underlying5 g 0 m c _ (by simp) (fun i hi => by
    rw [Nat.zero_add, h.cell (nr_at .u8 n f i (by omega))]
    simp [hi]) 9 Tryz.underlying9
theorem Tryz.info5w : (Tryz.prog.info? 5).map (fun i => (i.zero, i.size, i.bytes)) = some (some (.int .u8 0), 1, 1) := by kernel_rfl
def PZ (G n : Nat) (z : World) : Prop := ∀ i, i < n → z.cell? ⟨G, i, none⟩ = some (.int .u8 0)
theorem PZ.below {G n B : Nat} {z z' : World} (h : PZ G n z) (hb : Below B z z') (hG : G < B) : PZ G n z' := fun i hi => (hb.cell (p := ⟨G, i, none⟩) hG).trans (h i hi)
def zB (n : Nat) : ByteArray := strOfNums (List.replicate n 0)
theorem zB_size (n : Nat) : (zB n).size = n := by unfold zB; rw [strOfNums_size, List.length_replicate]
theorem cell_blk_lt {W : World} {b o : Nat} {v : Value} (h : W.cell? ⟨b, o, none⟩ = some v) : b < W.heap.size := World.block_lt_of_cell? W ⟨b, o, none⟩ h
def Came {α : Type} (Ok : α → Prop) (row : α → List Value) (K : Nat) (W : World) (a : Option Addr) (len cap : Nat) : Prop := len ≤ cap ∧ cap ≤ maxLen ∧ ∃ A : Nat → α, (∀ i, i < len → Ok (A i)) ∧ (len = 0 ∨ ∃ b o, a = some ⟨b, o, none⟩ ∧ b < W.heap.size ∧ ∀ i, i < len → W.rangeAt b (o + i * K) (row (A i)))
theorem came_arg {H : Type} {enc : TypeId × Value → H} {W : World} {α : Type} (z : α) (Ok : α → Prop) (row : α → List Value) (K : Nat) (hK : ∀ a, (row a).length = K) (hK0 : 0 < K) {t e : TypeId} (hu : Tryz.prog.underlying t = some (.slice e)) (hcs : Tryz.prog.cellsOf e = K)
    (hin : ∀ (fuel : Nat) (cs : List Value) (x : DataW H × List MemPlace), DataW.trod enc Tryz.prog W 0 (fun _ => true) true fuel e cs = some x → ∃ a, Ok a ∧ cs = row a)
    {a : Option Addr} {len cap : Nat} {d : DataW H} {p : List MemPlace} (h : DataW.Trod enc Tryz.prog W 0 (fun _ => true) true t (.slice a len cap) d p) : Came Ok row K W a len cap := by
  obtain ⟨fuel, hf⟩ := h
  rcases DataW.trod_slice hu hf with ⟨hq, _⟩ | ⟨x, l, c, elems, rest, n, _, hq, _, hb, hl, hm, hel, hc, _⟩
  · simp [Value.cells] at hq
    obtain ⟨rfl, rfl, rfl⟩ := hq
    exact ⟨Nat.le_refl _, Nat.zero_le _, fun _ => z, fun i hi => by omega, .inl rfl⟩
  · simp [Value.cells] at hq
    obtain ⟨rfl, rfl, rfl⟩ := hq
    have hact : ∀ i, i < len → ∃ A : α, Ok A ∧ W.cells? 0 (x.add (i * K)) K = some (row A) := fun i hi => by
      have h1 := hc i hi
      rw [hcs, List.getElem?_eq_getElem (by omega), Option.bind_eq_some_iff] at h1
      obtain ⟨cs, h2, h3⟩ := h1
      obtain ⟨A, hA, rfl⟩ := hin _ _ _ h3
      exact ⟨A, hA, h2⟩
    obtain ⟨A, hA⟩ : ∃ A : Nat → α, ∀ i, i < len → Ok (A i) ∧ W.cells? 0 (x.add (i * K)) K = some (row (A i)) :=
      ⟨fun i => if h : i < len then (hact i h).choose else z, fun i hi => by simp only [dif_pos hi]; exact (hact i hi).choose_spec⟩
    refine ⟨hl, hm, A, fun i hi => (hA i hi).1, ?_⟩
    by_cases h0 : len = 0
    · exact .inl h0
    · have hcell : ∀ i, i < len → ∀ j u, (row (A i))[j]? = some u → W.cell? ((x.add (i * K)).add j) = some u := by
        intro i hi j u hu
        have h1 := (hA i hi).2
        unfold World.cells? at h1
        rw [if_pos (Nat.zero_le _)] at h1
        have hj : j < K := by
          rcases Nat.lt_or_ge j K with h | h
          · exact h
          · rw [List.getElem?_eq_none (by rw [hK]; exact h)] at hu; cases hu
        have h2 := Go.mapM_some_get h1 j j (by simp [hj])
        rw [h2, hu]
      obtain ⟨b, off, spot⟩ := x
      have hv0 : (row (A 0))[0]? = some ((row (A 0))[0]'(by rw [hK]; exact hK0)) := List.getElem?_eq_getElem _
      have hspot : spot = none := by
        have := World.cell?_spot (hcell 0 (by omega) 0 _ hv0)
        simpa [Addr.add] using this
      subst hspot
      have hc0 := hcell 0 (by omega) 0 _ hv0
      rw [Go.WideShapes.add_plain, Go.WideShapes.add_plain] at hc0
      refine .inr ⟨b, off, rfl, cell_blk_lt hc0, fun i hi j u hu => ?_⟩
      have := hcell i hi j u hu
      rw [Go.WideShapes.add_plain, Go.WideShapes.add_plain] at this
      exact this
theorem rangeAt_below {B : Nat} {w w' : World} {b o : Nat} {cs : List Value} (h : w.rangeAt b o cs) (hb : Below B w w') (hB : b < B) : w'.rangeAt b o cs := fun j v hv => (hb.cell (p := ⟨b, o + j, none⟩) hB).trans (h j v hv)
def rowK (T : TypeId) (K : Nat) (v : Value) (m : Nat) (xs : List Value) : Asn := fun w F => w.ownsRow 0 T K v m xs ∧ ∀ k, F k ↔ v.ownBlock = some k
theorem firm_rowK (T : TypeId) (K : Nat) (v : Value) (m : Nat) (xs : List Value) : Firm (rowK T K v m xs) :=
  ⟨fun h hk hd => ⟨owns_kept h.1 hk (fun k e => hd k ((h.2 k).2 e)), h.2⟩, fun h k hk => (World.ownsRow.lt h.1 k ((h.2 k).1 hk)).2⟩
theorem Hold.rowK {B : Nat} {w0 w : World} {T : TypeId} {K : Nat} {v : Value} {m : Nat} {xs : List Value} {R : Asn} (h : Hold B w0 w (star (rowK T K v m xs) R)) : w.ownsRow 0 T K v m xs := by
  obtain ⟨h1, h2, F, ⟨G, H, h3, h4⟩, h7⟩ := h; exact h3.1
theorem rowK_app {B : Nat} {w0 w : World} {R : Asn} (hR : Firm R) (sl T ty : TypeId) (z : Value) (K by_ : Nat) (hu : Tryz.prog.underlying sl = some (.slice T)) (hT : (Tryz.prog.info? T).map (fun i => (i.zero, i.size, i.bytes)) = some (some z, K, by_)) (hz : z.cells.size = K) (hK : 0 < K) (hby : by_ ≤ 40)
    {v : Value} {m : Nat} {xs : List Value} (h : Hold B w0 w (star (rowK T K v m xs) R)) (ad : Addr) (n c : Nat) (news : List Value) (hl : news.length = n * K) (hnews : ∀ j u, news[j]? = some u → w.cell? (ad.add j) = some u) (h1 : ∀ u ∈ news, u.oneCell' = true) (hm : m + n ≤ 1000000) :
    ∃ v' w', (Builtin.append_ #[sl, sl] ty #[v, .slice (some ad) n c]).run Tryz.prog w = .ok v' w' ∧ Hold B w0 w' (star (rowK T K v' (m + n) (xs ++ news)) R) := by
  obtain ⟨i0, hi, hz0, hz1, hz2⟩ := info_parts hT
  have hb : (m + n) * by_ ≤ 140737488355328 := Nat.le_trans (Nat.mul_le_mul hm hby) (by decide)
  obtain ⟨v', w', hrun, hown, hgrow, _, hat⟩ := run_append_own_at (P := Tryz.prog) w 0 sl ty T i0 z K by_ hu hi hz0 hz1 hz2 hz hK v m xs h.rowK ad n c news hl hnews h1 (by unfold maxLen; omega) hb (Nat.zero_le _)
  refine ⟨v', w', hrun, ?_⟩
  obtain ⟨g1, g2, F, ⟨G, H, h3, h4, h5, h6⟩, h7⟩ := h
  refine Hold.turned hR g1 g2 h4 h5 (fun k hk => h7 k ((h6 k).2 hk)) ⟨fun k => v'.ownBlock = some k, ⟨hown, fun k => Iff.rfl⟩, (Kept.refl G w).grown hgrow (fun k e => .inl ((h3.2 k).2 e)), fun k hk => ?_⟩
  rcases hat with e | e
  · exact .inl ((h3.2 k).2 (by rw [← e]; exact hk))
  · rw [e] at hk; cases hk; exact .inr (Nat.le_refl _)
theorem own_form {w : World} {T : TypeId} {K : Nat} {v : Value} {m : Nat} {xs : List Value} (h : w.ownsRow 0 T K v m xs) : ∃ a c, v = .slice a m c := by
  rcases h.2 with ⟨rfl, rfl⟩ | ⟨g, cap, cur, rfl, _⟩
  · exact ⟨_, _, rfl⟩
  · exact ⟨_, _, rfl⟩
theorem own_cap {w : World} {T : TypeId} {K : Nat} {a : Option Addr} {m c : Nat} {xs : List Value} (h : w.ownsRow 0 T K (.slice a m c) m xs) : m ≤ c := by
  rcases h.2 with ⟨h1, h2⟩ | ⟨g, cap, cur, h1, _, _, hnc, _⟩
  · omega
  · cases h1; exact hnc
theorem wpList_load_blkG {P : Program} {ops : Array Oper} {rest : List Oper} {o : Oper} {a : Act} {w : World} {Q : Exit → Act → World → Prop} (hgd : Region.wanted o (yielded ops a.tmps) = true) (ty : TypeId) (x : Operand) (ho : o.op = .load ty x)
    (g : Nat) (hx : a.eval x = .pointer (some ⟨g, 0, none⟩)) (t : TypeId) (L : List Value) (d : TypeDesc) (hg : Blk w g t L)
    (hu : P.underlying ty = some d) (hd : (match d with | .struct _ | .array _ _ => true | _ => false) = true) (hi : (P.info? ty).map (·.size) = some L.length)
    (h : wpList P ops Q rest (a.put o.dst (.agg L.toArray)) w) : wpList P ops Q (o :: rest) a w :=
  wpList_step fun K hK => by simp only [hgd, if_true]; exact wp_load_row ty x ho g hx t L.toArray (0, 0) d hg hu hd (by simpa using hi) (hK _ _ h)
theorem Below.boxed (w : World) (T : TypeId) (Z L : List Value) : Below w.heap.size w ((w.alloc (.cells Z.toArray T)).setRow w.heap.size L.toArray) :=
  Kept.below (F := fun k => k = w.heap.size) (w := w.alloc (.cells Z.toArray T)) ((Below.refl _ _).alloc (Nat.le_refl _) _) (Kept.oneRow _ _ _) (by simp) (fun k hk => by rw [hk]; exact Nat.le_refl _)
theorem Blk.boxed (w : World) (T : TypeId) (Z L : List Value) : Blk ((w.alloc (.cells Z.toArray T)).setRow w.heap.size L.toArray) w.heap.size T L := (Blk.box w T Z).setRow
theorem step_append_ty {ops : Array Oper} {o : Oper} {a : Act} {w : World} {K : Act → World → Prop} {Q : Exit → Act → World → Prop} {E' : Prop} (hgd : o.guard = none) (s x : Operand) (t tn : TypeId)
    (ho : o.op = .call { callee := .builtin .append, args := #[s, x], argTypes := #[t, tn] }) (vs vx : Value) (hs : a.eval s = vs) (hx : a.eval x = vx)
    (v' : Value) (w' : World) (hr : (Builtin.append_ #[t, tn] o.type #[vs, vx]).run Tryz.prog w = .ok v' w') (h : K (a.put o.dst v') w') :
    if Region.wanted o (yielded ops a.tmps) = true then Oper.wp Tryz.prog o a w K Q else E' := by
  have hw : Region.wanted o (yielded ops a.tmps) = true := by simp [Region.wanted, hgd]
  rw [if_pos hw]
  exact Lib.wp_append_run w s x t tn ho vs vx hs hx v' w' hr h
open Go.Maps (Keyed IsMap)
def MapB (T : TypeId) (w : World) (b n : Nat) (I : Lit → Prop) : Prop := ∃ D : DataW Unit, w.ownsMap Tryz.prog T (plainElem Tryz.prog 4) b n D ∧ IsMap D ∧ ∀ x : Lit, (I x → D.atKey x (.lit (.bool false)) = .lit (.bool true)) ∧ (¬ I x → D.atKey x (.lit (.bool false)) = .lit (.bool false))
section
variable {T M : TypeId} {w w' : World} {b n : Nat} {I J : Lit → Prop}
theorem MapB.lt (h : MapB T w b n I) : b < w.heap.size := by obtain ⟨D, h1, _⟩ := h; exact h1.lt
theorem MapB.kept {F : Nat → Prop} (h : MapB T w b n I) (hk : Kept F w w') (hb : ¬ F b) : MapB T w' b n I := by
  have hl := h.lt
  obtain ⟨D, ⟨es, clock, h1, h2⟩, h3⟩ := h
  exact ⟨D, ⟨es, clock, (hk.block b hl hb).trans h1, h2⟩, h3⟩
theorem MapB.look (K : Keyed Tryz.prog T) (ht : Tryz.prog.underlying M = some (.map T 4)) (h : MapB T w b n I) {key : Value} {x : Lit} (hkey : keyOf Tryz.prog T key = some x) :
    (I x → (Instr.lookup M (.map (some b)) key false).run Tryz.prog w = .ok (.bool true) w) ∧ (¬ I x → (Instr.lookup M (.map (some b)) key false).run Tryz.prog w = .ok (.bool false) w) := by
  obtain ⟨D, h1, h2, h3⟩ := h
  obtain ⟨v, ps, hrun, hv⟩ := h1.lookup K ht (z := .bool false) (by
    obtain ⟨i0, hi, hz0, hz1, hz2⟩ := info_parts (show (Tryz.prog.info? 4).map (fun i => (i.zero, i.size, i.bytes)) = some (some (.bool false), 1, 1) by kernel_rfl)
    simp [zeroValue, typeInfo, hi, hz0]) (plainElem_bool Tryz.underlying4 false) hkey
  have hb : ∀ c, D.atKey x (.lit (.bool false)) = .lit (.bool c) → v = .bool c := fun c hc => by
    rw [hc] at hv
    unfold plainElem at hv
    rw [Tryz.underlying4] at hv
    cases v <;> simp at hv ⊢
    exact hv.1
  exact ⟨fun hI => by rw [← hb true ((h3 x).1 hI)]; exact hrun, fun hI => by rw [← hb false ((h3 x).2 hI)]; exact hrun⟩
theorem MapB.put (K : Keyed Tryz.prog T) (ht : Tryz.prog.underlying M = some (.map T 4)) (h : MapB T w b n I) (hn : n ≤ 1000000) {key : Value} {x : Lit} (hkey : keyOf Tryz.prog T key = some x) (hx : WideAt.IsKeyLit x) :
    ∃ w', (Instr.mapUpdate M (.map (some b)) key (.bool true)).run Tryz.prog w = .ok () w' ∧ MapB T w' b (n + 1) (fun y => I y ∨ y = x) ∧ Kept (fun k => k = b) w w' := by
  obtain ⟨D, h1, ⟨es, rfl⟩, h3⟩ := h
  obtain ⟨w', hrun, h4, h5⟩ := h1.update K ht (by unfold maxLen; omega) hkey (plainElem_bool Tryz.underlying4 true)
  refine ⟨w', hrun, ⟨_, h4, ⟨_, rfl⟩, fun y => ?_⟩, ⟨h5.os, h5.tape, h5.output, h5.size, fun k hk hne => h5.block k hk (fun e => hne (Option.some.inj e))⟩⟩
  by_cases e : y = x
  · subst e
    exact ⟨fun _ => Go.Maps.atKey_put_same ⟨es, rfl⟩ hx _ _, fun h => (h (.inr rfl)).elim⟩
  · rw [Go.Maps.atKey_put_other e]
    exact ⟨fun h => (h3 y).1 (h.resolve_right e), fun h => (h3 y).2 (fun h' => h (.inl h'))⟩
end
end Go.Proofs.YtokknmkleceooaaGreatDoor
