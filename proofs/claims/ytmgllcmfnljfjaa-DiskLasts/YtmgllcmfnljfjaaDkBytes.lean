/- The bytes of an act. -/
import Derived.Test.YtmgllcmfnljfjaaDkImg
namespace Go.Proofs.Ytmgllcmfnljfjaa
open Go.RowKit Go.PlainAid
set_option linter.unusedVariables false

/-- A text, and so many times more of it. -/
def rep (s : ByteArray) : Nat → ByteArray
  | 0 => s
  | k + 1 => rep s k ++ s
theorem rep_size (s : ByteArray) (k : Nat) : (rep s k).size = s.size * (k + 1) := by
  induction k with
  | zero => simp [rep]
  | succ k ih => simp only [rep, ByteArray.size_append, ih, Nat.mul_add, Nat.mul_one]
def cut100 (s : ByteArray) : ByteArray := s.extract 0 (min s.size 100)
theorem cut100_size (s : ByteArray) : (cut100 s).size ≤ 100 := by unfold cut100; rw [ByteArray.size_extract]; omega
/-- How many times more. -/
def more (n : Int) : Nat := (max 0 n % 30).toNat
theorem more_lt (n : Int) : more n < 30 := by unfold more; omega
def bytesB (s : ByteArray) (n : Int) : ByteArray := rep (cut100 s) (more n)
theorem bytesB_size (s : ByteArray) (n : Int) : (bytesB s n).size ≤ 3000 := by
  unfold bytesB
  rw [rep_size]
  have h1 := cut100_size s
  have h2 := more_lt n
  calc (cut100 s).size * (more n + 1) ≤ 100 * 30 := Nat.mul_le_mul h1 (by omega)
    _ = 3000 := rfl
/-- An act. -/
abbrev actV (d a : Int) (s : ByteArray) (n : Int) (k : Value) (x : Bool) : Value := .agg #[.int .i64 d, .int .i64 a, .string s, .int .i64 n, k, .bool x]
set_option maxRecDepth 20000 in
set_option maxHeartbeats 1000000 in
theorem bytes_any (d a : Int) (s : ByteArray) (n : Int) (b : Option Addr) (m c : Nat) (x : Bool) (w : World) :
    Calls Try.prog 23 #[actV d a s n (.slice b m c) x] w fun e w' => e = .returned (.string (bytesB s n)) ∧ Below w.heap.size w w' := by
  have HB : Hid (Below w.heap.size w (w.alloc (.cells #[.int .i64 d, .int .i64 a, .string s, .int .i64 n, .slice b m c, .bool x] 35))) := (Below.refl _ _).alloc (Nat.le_refl _) _
  obtain ⟨t, ht⟩ : ∃ t, cut100 s = t := ⟨_, rfl⟩
  obtain ⟨K, hK⟩ : ∃ K, more n = K := ⟨_, rfl⟩
  have ht1 : t.size ≤ 100 := by rw [← ht]; exact cut100_size s
  have hK1 : K < 30 := by rw [← hK]; exact more_lt n
  have hb : bytesB s n = rep t K := by unfold bytesB; rw [ht, hK]
  rw [hb]
  have hsz : ∀ j, j < 30 → (rep t j).size ≤ 3000 := fun j hj => by
    rw [rep_size]
    calc t.size * (j + 1) ≤ 100 * 30 := Nat.mul_le_mul ht1 (by omega)
      _ = 3000 := rfl
  have HZ : Hid _ := hsz
  have hext : s.extract 0 (min s.size 100) = t := ht
  clear hsz hb ht
  have hK0 : (K : Int) < 30 := by omega
  have HX : Hid (s.extract 0 (min s.size 100) = t) := hext
  have HK : Hid (more n = K) := hK
  clear hext hK
  by_cases hs : 100 < s.size
  · have hext := HX.out
    rw [Nat.min_eq_right (by omega)] at hext
    have hsI : (100 : Int) ≤ (s.size : Int) := by omega
    by_cases hn : 0 < n
    · have hmod : n % 30 = (K : Int) := by have := HK.out; unfold more at this; omega
      go_enter Try.func23, Try.ntmps23
      go_wp2_with fail
      go_loopw [4, 17] (fun tv i wr => ∃ j : Nat, j ≤ K ∧ i = .int .i64 (j : Int) ∧ tv = .string (rep t j) ∧ Hid (Below w.heap.size w wr)) (fun _ i _ => K - (intOf i).toNat)
      case atStart => exact ⟨0, Nat.zero_le _, rfl, rfl, HB⟩
      case round =>
        obtain ⟨j, hj, rfl, rfl, hrr⟩ := hrel
        obtain ⟨u, hu⟩ : ∃ u, rep t j = u := ⟨_, rfl⟩
        have hu1 : u.size ≤ 3000 := by rw [← hu]; exact HZ.out j (by omega)
        have HU : Hid (rep t j = u) := hu
        rw [hu]
        clear hu
        by_cases hlt : j < K
        · have hj' : (j : Int) < (K : Int) := by omega
          go_wp2_with fail
          go_roundw
          case rel => exact ⟨j + 1, by omega, by go_num, by rw [rep, HU.out], hrr⟩
          case measure => simp [intOf]; omega
        · obtain rfl : j = K := by omega
          go_wp2_with fail
          go_ret
          exact ⟨by rw [HU.out]; rfl, hrr.out⟩
    · have hK00 : K = 0 := by have := HK.out; unfold more at this; omega
      subst hK00
      clear hK0 hK1 HK
      rw [show rep t 0 = t from rfl]
      go_enter Try.func23, Try.ntmps23
      go_wp2_with fail
      go_loopw [4, 17] (fun tv i wr => i = .int .i64 0 ∧ tv = .string t ∧ Hid (Below w.heap.size w wr)) (fun _ _ _ => 0)
      case atStart => exact ⟨rfl, rfl, HB⟩
      case round =>
        obtain ⟨rfl, rfl, hrr⟩ := hrel
        go_wp2_with fail
        go_ret
        exact ⟨rfl, hrr.out⟩
  · have hext := HX.out
    rw [Nat.min_eq_left (by omega)] at hext
    have hsI : (s.size : Int) ≤ 100 := by omega
    by_cases hn : 0 < n
    · have hmod : n % 30 = (K : Int) := by have := HK.out; unfold more at this; omega
      go_enter Try.func23, Try.ntmps23
      go_wp2_with fail
      go_loopw [4, 17] (fun tv i wr => ∃ j : Nat, j ≤ K ∧ i = .int .i64 (j : Int) ∧ tv = .string (rep t j) ∧ Hid (Below w.heap.size w wr)) (fun _ i _ => K - (intOf i).toNat)
      case atStart => exact ⟨0, Nat.zero_le _, rfl, rfl, HB⟩
      case round =>
        obtain ⟨j, hj, rfl, rfl, hrr⟩ := hrel
        obtain ⟨u, hu⟩ : ∃ u, rep t j = u := ⟨_, rfl⟩
        have hu1 : u.size ≤ 3000 := by rw [← hu]; exact HZ.out j (by omega)
        have HU : Hid (rep t j = u) := hu
        rw [hu]
        clear hu
        by_cases hlt : j < K
        · have hj' : (j : Int) < (K : Int) := by omega
          go_wp2_with fail
          go_roundw
          case rel => exact ⟨j + 1, by omega, by go_num, by rw [rep, HU.out], hrr⟩
          case measure => simp [intOf]; omega
        · obtain rfl : j = K := by omega
          go_wp2_with fail
          go_ret
          exact ⟨by rw [HU.out]; rfl, hrr.out⟩
    · have hK00 : K = 0 := by have := HK.out; unfold more at this; omega
      subst hK00
      clear hK0 hK1 HK
      rw [show rep t 0 = t from rfl]
      go_enter Try.func23, Try.ntmps23
      go_wp2_with fail
      go_loopw [4, 17] (fun tv i wr => i = .int .i64 0 ∧ tv = .string t ∧ Hid (Below w.heap.size w wr)) (fun _ _ _ => 0)
      case atStart => exact ⟨rfl, rfl, HB⟩
      case round =>
        obtain ⟨rfl, rfl, hrr⟩ := hrel
        go_wp2_with fail
        go_ret
        exact ⟨rfl, hrr.out⟩
end Go.Proofs.Ytmgllcmfnljfjaa
