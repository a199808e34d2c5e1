/- Plain facts on texts as bytes, and on two texts combined: the way and the order do not matter, and twice is nothing; no Go text is named here. -/
import Derived.Test.YtikhhijbabllfaaPlain
import Derived.WalkKit
import Derived.PlainAid
import Derived.Laws.BytesArg
import Derived.Laws.BitsAllLaws
namespace Go.Proofs.Ytikhhijbabllfaa
open Go.RowKit Go.PlainAid

/-- The bytes of two texts combined. -/
def xorL (a b : ByteArray) : List Int := (List.range (min a.size b.size)).map fun i => bits .xor .u8 (bt a i) (bt b i)
def xorB (a b : ByteArray) : ByteArray := strOfNums (xorL a b)

theorem bt_ext {a b : ByteArray} (hs : a.size = b.size) (h : ∀ i, i < a.size → bt a i = bt b i) : a = b := by
  apply ByteArray.ext
  apply Array.ext
  · exact hs
  · intro i h1 h2
    have := h i h1
    unfold bt at this
    rw [dif_pos (show i < a.size from h1), dif_pos (show i < b.size from h2)] at this
    exact UInt8.toNat_inj.1 (Int.ofNat.inj this)

theorem bt_str (l : List Int) (hl : ∀ x ∈ l, 0 ≤ x ∧ x ≤ 255) (i : Nat) (h : i < l.length) : bt (strOfNums l) i = l[i] := by
  have hs : i < (strOfNums l).size := by rw [strOfNums_size]; exact h
  unfold bt
  rw [dif_pos hs]
  have e : (strOfNums l)[i] = UInt8.ofNat (l[i]).toNat := by
    show (strOfNums l).data[i] = _
    simp [strOfNums]
  rw [e]
  have hb := hl l[i] (List.getElem_mem h)
  rw [UInt8.toNat_ofNat']
  omega

theorem str_bts (s : ByteArray) : strOfNums ((List.range s.size).map (bt s)) = s := by
  apply bt_ext
  · rw [strOfNums_size]; simp
  · intro i h
    rw [strOfNums_size] at h
    rw [bt_str _ _ i h]
    · simp
    · intro x hx
      obtain ⟨j, _, rfl⟩ := List.mem_map.1 hx
      exact ⟨bt_nonneg s j, bt_le s j⟩

theorem xor8_range (x y : Int) (h1 : 0 ≤ x) (h2 : x ≤ 255) (h3 : 0 ≤ y) (h4 : y ≤ 255) : 0 ≤ bits .xor .u8 x y ∧ bits .xor .u8 x y ≤ 255 := by
  rw [u8_xor x y h1 (by omega) h3 (by omega)]
  have hx : x.toNat ^^^ y.toNat < 2 ^ 8 := Nat.xor_lt_two_pow (by omega) (by omega)
  omega

theorem xorL_range (a b : ByteArray) : ∀ x ∈ xorL a b, 0 ≤ x ∧ x ≤ 255 := by
  intro x hx
  obtain ⟨i, _, rfl⟩ := List.mem_map.1 hx
  exact xor8_range _ _ (bt_nonneg a i) (bt_le a i) (bt_nonneg b i) (bt_le b i)

theorem xorB_size (a b : ByteArray) : (xorB a b).size = min a.size b.size := by
  unfold xorB; rw [strOfNums_size]; simp [xorL]

theorem bt_xorB (a b : ByteArray) (i : Nat) (h : i < min a.size b.size) : bt (xorB a b) i = ((bt a i).toNat ^^^ (bt b i).toNat : Nat) := by
  unfold xorB
  rw [bt_str _ (xorL_range a b) i (by simpa [xorL] using h)]
  unfold xorL
  rw [List.getElem_map, List.getElem_range]
  have h1 := bt_nonneg a i
  have h2 := bt_le a i
  have h3 := bt_nonneg b i
  have h4 := bt_le b i
  rw [u8_xor _ _ h1 (by omega) h3 (by omega)]

theorem xorB_comm (a b : ByteArray) : xorB a b = xorB b a := by
  apply bt_ext
  · rw [xorB_size, xorB_size, Nat.min_comm]
  · intro i h
    rw [xorB_size] at h
    rw [bt_xorB a b i h, bt_xorB b a i (by omega), Nat.xor_comm]

theorem xorB_assoc (a b c : ByteArray) : xorB (xorB a b) c = xorB a (xorB b c) := by
  apply bt_ext
  · simp only [xorB_size]; omega
  · intro i h
    simp only [xorB_size] at h
    rw [bt_xorB _ c i (by rw [xorB_size]; omega), bt_xorB a b i (by omega), bt_xorB a _ i (by rw [xorB_size]; omega), bt_xorB b c i (by omega)]
    simp only [Int.toNat_natCast, Nat.xor_assoc]

theorem xorB_twice (a b : ByteArray) (h : a.size = b.size) : xorB (xorB a b) b = a := by
  apply bt_ext
  · simp only [xorB_size]; omega
  · intro i hi
    simp only [xorB_size] at hi
    rw [bt_xorB _ b i (by rw [xorB_size]; omega), bt_xorB a b i (by omega)]
    have h1 := bt_nonneg a i
    simp only [Int.toNat_natCast, Nat.xor_assoc, Nat.xor_self, Nat.xor_zero]
    omega

theorem xorB_wakes : xorB ⟨#[15]⟩ ⟨#[5]⟩ = ⟨#[10]⟩ := by
  apply bt_ext
  · rw [xorB_size]; rfl
  · intro i h
    rw [xorB_size] at h
    have h0 : i = 0 := by
      have : min (ByteArray.size ⟨#[15]⟩) (ByteArray.size ⟨#[5]⟩) = 1 := rfl
      omega
    subst h0
    rw [bt_xorB _ _ 0 h]
    rfl
end Go.Proofs.Ytikhhijbabllfaa
