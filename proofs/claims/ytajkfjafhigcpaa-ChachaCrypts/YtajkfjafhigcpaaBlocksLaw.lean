/- What the Go functions ChachaBlocks and ChachaCrypts answer: true, for every key, nonce, counter and text. -/
import Derived.Test.YtajkfjafhigcpaaKeys
import Derived.Test.YtajkfjafhigcpaaRefC
namespace Go.Proofs.Ytajkfjafhigcpaa
open Go.RowKit Go.PlainAid
set_option linter.unusedVariables false

/-- One answer of Block for each key, nonce and counter: the program's and the document's. -/
def bloA (k n : ByteArray) (c : Int) : ByteArray := if k.size = 32 ∧ n.size = 12 then blkB (stI k n c) else ⟨#[]⟩
def bloE (k n : ByteArray) : Int := if k.size = 32 ∧ n.size = 12 then 0 else 7
theorem block_both (k n : ByteArray) (c : Int) (hk : k.size ≤ maxLen) (hn : n.size ≤ maxLen) (hc : W32 c) (w : World) :
    Calls Try.prog 13 #[.string k, .string n, .int .u32 c] w fun e w' => e = .returned (.tuple #[.string (bloA k n c), .int .i64 (bloE k n)]) ∧ Below w.heap.size w w' := by
  unfold bloA bloE
  by_cases h : k.size = 32 ∧ n.size = 12
  · rw [if_pos h, if_pos h]; exact block_ok k n c h.1 h.2 hc w
  · rw [if_neg h, if_neg h]; exact block_bad k n c hk hn (by omega) w
theorem refBlock_both (k n : ByteArray) (c : Int) (hk : k.size ≤ maxLen) (hn : n.size ≤ maxLen) (hc : W32 c) (w : World) :
    Calls Try.prog 14 #[.string k, .string n, .int .u32 c] w fun e w' => e = .returned (.tuple #[.string (bloA k n c), .int .i64 (bloE k n)]) ∧ Below w.heap.size w w' := by
  unfold bloA bloE
  by_cases h : k.size = 32 ∧ n.size = 12
  · rw [if_pos h, if_pos h]; exact refBlock_ok k n c h.1 h.2 hc w
  · rw [if_neg h, if_neg h]
    refine (refBlock_bad k n c hk hn (by omega) w).mono ?_
    rintro e w' ⟨rfl, rfl⟩
    exact ⟨rfl, Below.refl _ _⟩
def cryA (k n : ByteArray) (c : Int) (s : ByteArray) : ByteArray := if k.size = 32 ∧ n.size = 12 then cryB (ks k n c) s else ⟨#[]⟩
theorem crypt_both (k n s : ByteArray) (c : Int) (hk : k.size ≤ maxLen) (hn : n.size ≤ maxLen) (hc : W32 c) (hs : s.size ≤ 3900) (w : World) :
    Calls Try.prog 15 #[.string k, .string n, .int .u32 c, .string s] w fun e w' => e = .returned (.tuple #[.string (cryA k n c s), .int .i64 (bloE k n)]) ∧ Below w.heap.size w w' := by
  unfold cryA bloE
  by_cases h : k.size = 32 ∧ n.size = 12
  · rw [if_pos h, if_pos h]; exact crypt_ok k n s c h.1 h.2 hc (by omega) w
  · rw [if_neg h, if_neg h]; exact crypt_bad k n s c hk hn (by omega) w
theorem refCrypt_both (k n s : ByteArray) (c : Int) (hk : k.size ≤ maxLen) (hn : n.size ≤ maxLen) (hc : W32 c) (hs : s.size ≤ 3900) (w : World) :
    Calls Try.prog 16 #[.string k, .string n, .int .u32 c, .string s] w fun e w' => e = .returned (.tuple #[.string (cryA k n c s), .int .i64 (bloE k n)]) ∧ Below w.heap.size w w' := by
  unfold cryA bloE
  by_cases h : k.size = 32 ∧ n.size = 12
  · rw [if_pos h, if_pos h]; exact refCrypt_ok k n s c h.1 h.2 hc hs w
  · rw [if_neg h, if_neg h]
    refine (refCrypt_bad k n s c hk hn (by omega) w).mono ?_
    rintro e w' ⟨rfl, rfl⟩
    exact ⟨rfl, Below.refl _ _⟩

set_option maxHeartbeats 1000000 in
theorem blocksLaw_walk (L : List Value) (x : Int) (c : Int) (n : ByteArray) (hL : KeysL L x) (hc : W32 c) (hn : n.size ≤ maxLen) (w : World) :
    Calls Try.prog 4 #[.agg L.toArray, .int .u32 c, .string n] w fun e w' => e = .returned (.bool true) ∧ Below w.heap.size w w' := by
  have hm12 : 32 ≤ maxLen := by unfold maxLen; omega
  have hB : Blk (w.alloc (.cells L.toArray 32)) w.heap.size 32 L := by
    have := Blk.new w 32 L.toArray
    simpa using this
  have hl : Below w.heap.size w (w.alloc (.cells L.toArray 32)) := (Below.refl _ _).alloc (Nat.le_refl _) _
  have hLl := hL.1
  have HN : Hid (n.size ≤ maxLen ∧ 32 ≤ maxLen ∧ W32 c ∧ KeysL L x) := ⟨hn, hm12, hc, hL⟩
  clear hn hm12 hc hL
  go_enter Try.func4, Try.ntmps4
  go_wp2_with (refine wpList_load_blk rfl 32 _ rfl w.heap.size rfl 32 L _ hB Try.underlying32 rfl (by rw [Try.size32, hLl]) ?_)
  generalize w.alloc (.cells L.toArray 32) = w1 at hB hl ⊢
  clear hB
  refine (texts_any L x HN.out.2.2.2 w1).mono ?_
  rintro e w2 ⟨k, m, rfl, hk, hm, -, hb2⟩
  have hl2 : Below w.heap.size w w2 := hl.trans (hb2.mono hl.size)
  obtain ⟨hn, hml, hc, -⟩ := HN.out
  have p1 := fun w => block_both k m c (by omega) (by omega) hc w
  have p2 := fun w => refBlock_both k m c (by omega) (by omega) hc w
  have p3 := fun w => block_both k n c (by omega) hn hc w
  have p4 := fun w => refBlock_both k n c (by omega) hn hc w
  clear hl hb2 hLl HN hn hml hc
  generalize bloA k m c = A1 at p1 p2
  generalize bloA k n c = A2 at p3 p4
  generalize bloE k m = E1 at p1 p2
  generalize bloE k n = E2 at p3 p4
  go_wp2_with fail
  refine (p1 w2).mono ?_
  rintro e w3 ⟨rfl, hb3⟩
  have hl3 := hl2.trans (hb3.mono hl2.size)
  clear hl2 hb3 p1
  go_wp2_with fail
  refine (p2 w3).mono ?_
  rintro e w4 ⟨rfl, hb4⟩
  have hl4 := hl3.trans (hb4.mono hl3.size)
  clear hl3 hb4 p2
  go_wp2_with fail
  refine (p3 w4).mono ?_
  rintro e w5 ⟨rfl, hb5⟩
  have hl5 := hl4.trans (hb5.mono hl4.size)
  clear hl4 hb5 p3
  go_wp2_with fail
  refine (p4 w5).mono ?_
  rintro e w6 ⟨rfl, hb6⟩
  have hl6 := hl5.trans (hb6.mono hl5.size)
  clear hl5 hb6 p4
  go_wp2_with fail
  refine (wakes_any w6).mono ?_
  rintro e w7 ⟨rfl, hb7⟩
  have hl7 := hl6.trans (hb7.mono hl6.size)
  clear hl6 hb7
  go_wp2_with fail
  go_ret
  exact ⟨rfl, hl7⟩

set_option maxHeartbeats 1000000 in
theorem cryptsLaw_walk (L : List Value) (x : Int) (c : Int) (s : ByteArray) (hL : KeysL L x) (hc : W32 c) (hs : s.size ≤ maxLen) (w : World) :
    Calls Try.prog 5 #[.agg L.toArray, .int .u32 c, .string s] w fun e w' => e = .returned (.bool true) ∧ Below w.heap.size w w' := by
  unfold maxLen at hs
  have hB : Blk (w.alloc (.cells L.toArray 32)) w.heap.size 32 L := by
    have := Blk.new w 32 L.toArray
    simpa using this
  have hl : Below w.heap.size w (w.alloc (.cells L.toArray 32)) := (Below.refl _ _).alloc (Nat.le_refl _) _
  have hLl := hL.1
  have HN : Hid (32 ≤ maxLen ∧ W32 c ∧ KeysL L x) := ⟨by unfold maxLen; omega, hc, hL⟩
  clear hc hL
  go_enter Try.func5, Try.ntmps5
  go_wp2_with (refine wpList_load_blk rfl 32 _ rfl w.heap.size rfl 32 L _ hB Try.underlying32 rfl (by rw [Try.size32, hLl]) ?_)
  have hA : (s.extract 0 (min (s.size : Int) 300).toNat).size ≤ 300 := by rw [ByteArray.size_extract]; omega
  generalize s.extract 0 (min (s.size : Int) 300).toNat = A at hA ⊢
  generalize w.alloc (.cells L.toArray 32) = w1 at hB hl ⊢
  clear hB hs
  refine (texts_any L x HN.out.2.2 w1).mono ?_
  rintro e w2 ⟨k, m, rfl, hk, hm, -, hb2⟩
  have hl2 : Below w.heap.size w w2 := hl.trans (hb2.mono hl.size)
  obtain ⟨hml, hc, -⟩ := HN.out
  have p1 := fun w => crypt_both k m A c (by omega) (by omega) hc (by omega) w
  have p2 := fun w => refCrypt_both k m A c (by omega) (by omega) hc (by omega) w
  clear hl hb2 hLl HN hml hc
  generalize cryA k m c A = A1 at p1 p2
  generalize bloE k m = E1 at p1 p2
  go_wp2_with fail
  refine (p1 w2).mono ?_
  rintro e w3 ⟨rfl, hb3⟩
  have hl3 := hl2.trans (hb3.mono hl2.size)
  clear hl2 hb3 p1
  go_wp2_with fail
  refine (p2 w3).mono ?_
  rintro e w4 ⟨rfl, hb4⟩
  have hl4 := hl3.trans (hb4.mono hl3.size)
  clear hl3 hb4 p2
  go_wp2_with fail
  refine (wakes_any w4).mono ?_
  rintro e w7 ⟨rfl, hb7⟩
  have hl7 := hl4.trans (hb7.mono hl4.size)
  clear hl4 hb7
  go_wp2_with fail
  go_ret
  exact ⟨rfl, hl7⟩
end Go.Proofs.Ytajkfjafhigcpaa
