/- What the Go functions ChachaBack and ChachaStream answer: true, for every key, nonce, counter and text. -/
import Derived.Test.YtajkfjafhigcpaaKeys
namespace Go.Proofs.Ytajkfjafhigcpaa
open Go.RowKit Go.PlainAid
set_option linter.unusedVariables false

set_option maxHeartbeats 1000000 in
theorem backLaw_walk (L : List Value) (x : Int) (c : Int) (s : ByteArray) (hL : KeysL L x) (hc : W32 c) (hs : s.size ≤ maxLen) (w : World) :
    Calls Try.prog 6 #[.agg L.toArray, .int .u32 c, .string s] w fun e w' => e = .returned (.bool true) ∧ Below w.heap.size w w' := by
  unfold maxLen at hs
  have hB : Blk (w.alloc (.cells L.toArray 32)) w.heap.size 32 L := by
    have := Blk.new w 32 L.toArray
    simpa using this
  have c44 := hB.cell hL.2.2.1
  have f44 := hB.frozen 44
  have hL0 := hL.set0
  obtain ⟨M, hM⟩ : ∃ M, L.set 44 (.int .i64 0) = M := ⟨_, rfl⟩
  rw [hM] at hL0
  have hB2 : Blk (w.alloc (.cells M.toArray 32)) w.heap.size 32 M := by
    have := Blk.new w 32 M.toArray
    simpa using this
  have hl : Below w.heap.size w (w.alloc (.cells M.toArray 32)) := (Below.refl _ _).alloc (Nat.le_refl _) _
  have hMl := hL0.1
  have HN : Hid (W32 c ∧ KeysL M 0) := ⟨hc, hL0⟩
  clear hc hL hL0 hB
  go_enter Try.func6, Try.ntmps6
  go_wp2_with (refine wpList_load_blk rfl 32 _ rfl w.heap.size rfl 32 M _ hB2 Try.underlying32 rfl (by rw [Try.size32, hMl]) ?_)
  have hA : (s.extract 0 (min (s.size : Int) 2000).toNat).size ≤ 2000 := by rw [ByteArray.size_extract]; omega
  generalize s.extract 0 (min (s.size : Int) 2000).toNat = A at hA ⊢
  generalize w.alloc (.cells M.toArray 32) = w1 at hB2 hl ⊢
  clear hB2 hs c44 f44 hM
  refine (texts_any M 0 HN.out.2 w1).mono ?_
  rintro e w2 ⟨k, m, rfl, -, hm, hk, hb2⟩
  have hk32 : k.size = 32 := hk (by decide)
  have hl2 : Below w.heap.size w w2 := hl.trans (hb2.mono hl.size)
  obtain ⟨hc, -⟩ := HN.out
  have p1 := fun w => crypt_ok k m A c hk32 hm hc (by omega) w
  have p2 := fun w => crypt_ok k m (cryB (ks k m c) A) c hk32 hm hc (by rw [cryB_size]; omega) w
  rw [cryB_twice _ (ks_range k m c) A] at p2
  have hsz := cryB_size (ks k m c) A
  generalize cryB (ks k m c) A = T at p1 p2 hsz
  have hszI : (T.size : Int) = (A.size : Int) := by omega
  clear hl hb2 hMl HN hc hk hm hk32 hsz
  go_wp2_with fail
  refine (p1 w2).mono ?_
  rintro e w3 ⟨rfl, hb3⟩
  have hl3 := hl2.trans (hb3.mono hl2.size)
  clear hl2 hb3 p1
  go_wp2_with fail
  refine (p2 w3).mono ?_
  rintro e w4 ⟨rfl, hb4⟩
  have hl4 := hl3.trans (hb4.mono hl3.size)
  clear hl3 hb4 p2
  go_wp2_with fail
  refine (wakes_any w4).mono ?_
  rintro e w7 ⟨rfl, hb7⟩
  have hl7 := hl4.trans (hb7.mono hl4.size)
  clear hl4 hb7
  go_wp2_with fail
  go_ret
  exact ⟨rfl, hl7⟩
end Go.Proofs.Ytajkfjafhigcpaa
