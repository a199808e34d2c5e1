/- What the Go function ChachaLong answers: true, for every key and nonce and every number of bytes beyond the most. -/
import Derived.Test.YtajkfjafhigcpabChKeys
namespace Go.Proofs.Ytajkfjafhigcpab
open Go.RowKit Go.PlainAid
set_option linter.unusedVariables false

set_option maxHeartbeats 1000000 in
theorem longLaw_walk (L : List Value) (x : Int) (n : Nat) (hL : KeysL L x) (hn : n ≤ 255) (w : World) :
    Calls Try.prog 3 #[.agg L.toArray, .int .u8 (n : Int)] w fun e w' => e = .returned (.bool true) ∧ Below w.heap.size w w' := by
  have hB : Blk (w.alloc (.cells L.toArray 25)) w.heap.size 25 L := by
    have := Blk.new w 25 L.toArray
    simpa using this
  have c44 := hB.cell hL.2.2.1
  have f44 := hB.frozen 44
  have hL0 := hL.set0
  obtain ⟨M, hM⟩ : ∃ M, L.set 44 (.int .i64 0) = M := ⟨_, rfl⟩
  rw [hM] at hL0
  have hB2 : Blk (w.alloc (.cells M.toArray 25)) w.heap.size 25 M := by
    have := Blk.new w 25 M.toArray
    simpa using this
  have hl : Below w.heap.size w (w.alloc (.cells M.toArray 25)) := (Below.refl _ _).alloc (Nat.le_refl _) _
  have hMl := hL0.1
  have HN : Hid (KeysL M 0) := hL0
  clear hL hL0 hB
  obtain ⟨Z, hma, hza⟩ := made_zero (65536 + n) (by omega)
  have eN : ((65536 + n : Nat) : Int) = 65536 + (n : Int) := by omega
  rw [eN] at hma
  have HZ : Hid (∀ z : World, (convert 28 9 (.slice (some ⟨z.heap.size, 0, none⟩) (65536 + n) (65536 + n))).run Try.prog (z.alloc (.cells Z 5 (0, 0))) = .ok (.string (strOfNums (List.replicate (65536 + n) 0))) (z.alloc (.cells Z 5 (0, 0)))) := fun z => conv_zero _ _ _ (hza z)
  have hSz : (strOfNums (List.replicate (65536 + n) 0)).size = 65536 + n := by rw [strOfNums_size, List.length_replicate]
  obtain ⟨S, hS⟩ : ∃ S, strOfNums (List.replicate (65536 + n) 0) = S := ⟨_, rfl⟩
  rw [hS] at HZ hSz
  have HSz : Hid (S.size = 65536 + n) := hSz
  clear hS hza eN hSz
  go_enter Try.func3, Try.ntmps3
  go_wp2_with (refine wpList_load_blk rfl 25 _ rfl w.heap.size rfl 25 M _ hB2 Try.underlying25 rfl (by rw [Try.size25, hMl]) ?_)
  generalize w.alloc (.cells M.toArray 25) = w1 at hB2 hl ⊢
  clear hB2 c44 f44 hM
  refine (texts_any M 0 HN.out w1).mono ?_
  rintro e w2 ⟨k, m, rfl, -, hm, hk, hb2⟩
  have hk32 : k.size = 32 := hk (by decide)
  have hl2 : Below w.heap.size w w2 := hl.trans (hb2.mono hl.size)
  have hcv := HZ.out w2
  clear hl hb2 hMl HN hk
  go_wp2_with fail
  have hl3 : Below w.heap.size w (w2.alloc (.cells Z 5 (0, 0))) := hl2.alloc hl2.size _
  generalize w2.alloc (.cells Z 5 (0, 0)) = w3 at hcv hl3 ⊢
  clear hcv hl2 hma HZ
  by_cases h0 : n = 0
  · subst h0
    have hSs : S.size = 65536 := HSz.out
    have p1 := crypt_ok k m S 7 hk32 hm ⟨by decide, by decide⟩ (by omega) w3
    have hT := cryB_size (ks k m 7) S
    rw [hSs] at hT
    generalize cryB (ks k m 7) S = T at p1 hT
    have hTI : (T.size : Int) = 65536 := by omega
    clear HSz hSs hT hk32 hm
    refine p1.mono ?_
    rintro e w4 ⟨rfl, hb4⟩
    have hl4 := hl3.trans (hb4.mono hl3.size)
    clear hl3 hb4 p1
    go_wp2_with (go_at_call 6; refine (chWakes_any _).mono ?_; rintro e w5 ⟨rfl, hb5⟩)
    go_ret
    exact ⟨rfl, hl4.trans (hb5.mono hl4.size)⟩
  · have hSs := HSz.out
    have p1 := crypt_long k m S 7 hk32 hm ⟨by decide, by decide⟩ (by omega) (by unfold maxLen; omega) w3
    have hnI : ((n : Int) == 0) = false := by simp; omega
    clear HSz hSs hk32 hm
    refine p1.mono ?_
    rintro e w4 ⟨rfl, hb4⟩
    have hl4 := hl3.trans (hb4.mono hl3.size)
    clear hl3 hb4 p1
    go_wp2_with (go_at_call 6; refine (chWakes_any _).mono ?_; rintro e w5 ⟨rfl, hb5⟩)
    go_ret
    exact ⟨rfl, hl4.trans (hb5.mono hl4.size)⟩
theorem longLaw_arg (L : List Value) (x n : Int) (hL : KeysL L x) (hn : 0 ≤ n ∧ n ≤ 255) (w : World) :
    Calls Try.prog 3 #[.agg L.toArray, .int .u8 n] w fun e w' => e = .returned (.bool true) ∧ Below w.heap.size w w' := by
  obtain ⟨m, rfl⟩ := Int.eq_ofNat_of_zero_le hn.1
  exact longLaw_walk L x m hL (by omega) w
end Go.Proofs.Ytajkfjafhigcpab
