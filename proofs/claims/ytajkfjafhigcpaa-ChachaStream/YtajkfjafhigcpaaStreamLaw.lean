/- What the Go function ChachaStream answers: true, for every key and nonce and every two texts. -/
import Derived.Test.YtajkfjafhigcpaaKeys
namespace Go.Proofs.Ytajkfjafhigcpaa
open Go.RowKit Go.PlainAid
set_option linter.unusedVariables false

set_option maxHeartbeats 1000000 in
theorem streamLaw_walk (L : List Value) (x : Int) (s t : ByteArray) (hL : KeysL L x) (hs : s.size ≤ maxLen) (ht : t.size ≤ maxLen) (w : World) :
    Calls Try.prog 8 #[.agg L.toArray, .string s, .string t] w fun e w' => e = .returned (.bool true) ∧ Below w.heap.size w w' := by
  unfold maxLen at hs ht
  have hB : Blk (w.alloc (.cells L.toArray 32)) w.heap.size 32 L := by
    have := Blk.new w 32 L.toArray
    simpa using this
  have c44 := hB.cell hL.2.2.1
  have f44 := hB.frozen 44
  have hL0 := hL.set0
  obtain ⟨M, hM⟩ : ∃ M, L.set 44 (.int .i64 0) = M := ⟨_, rfl⟩
  rw [hM] at hL0
  have hB2 : Blk (w.alloc (.cells M.toArray 32)) w.heap.size 32 M := by
    have := Blk.new w 32 M.toArray
    simpa using this
  have hl : Below w.heap.size w (w.alloc (.cells M.toArray 32)) := (Below.refl _ _).alloc (Nat.le_refl _) _
  have hMl := hL0.1
  have HN : Hid (KeysL M 0) := hL0
  clear hL hL0 hB
  go_enter Try.func8, Try.ntmps8
  go_wp2_with (refine wpList_load_blk rfl 32 _ rfl w.heap.size rfl 32 M _ hB2 Try.underlying32 rfl (by rw [Try.size32, hMl]) ?_)
  · obtain ⟨n, hn, n1, n2, n3⟩ : ∃ n : Nat, (600 : Int) = (n : Int) ∧ n ≤ s.size ∧ n ≤ t.size ∧ n ≤ 600 := ⟨600, rfl, by omega, by omega, by omega⟩
    rw [hn]
    clear hn
    have n1' : (n : Int) ≤ (s.size : Int) := by omega
    have n2' : (n : Int) ≤ (t.size : Int) := by omega
    generalize w.alloc (.cells M.toArray 32) = w1 at hB2 hl ⊢
    clear hB2 c44 f44 hM
    refine (texts_any M 0 HN.out w1).mono ?_
    rintro e w2 ⟨k, m, rfl, -, hm, hk, hb2⟩
    have hk32 : k.size = 32 := hk (by decide)
    have hl2 : Below w.heap.size w w2 := hl.trans (hb2.mono hl.size)
    have es : (s.extract 0 n).size = n := by rw [ByteArray.size_extract]; omega
    have et : (t.extract 0 n).size = n := by rw [ByteArray.size_extract]; omega
    have p1 := fun w => crypt_ok k m (s.extract 0 n) 1 hk32 hm ⟨by decide, by decide⟩ (by omega) w
    have p2 := fun w => crypt_ok k m (t.extract 0 n) 1 hk32 hm ⟨by decide, by decide⟩ (by omega) w
    have pe := cryB_pair (ks k m 1) (ks_range k m 1) (s.extract 0 n) (t.extract 0 n) (by omega)
    have z1 := cryB_size (ks k m 1) (s.extract 0 n)
    have z2 := cryB_size (ks k m 1) (t.extract 0 n)
    have p3 := fun w => xor_any (cryB (ks k m 1) (s.extract 0 n)) (cryB (ks k m 1) (t.extract 0 n)) w (by unfold maxLen; omega) (by unfold maxLen; omega) (by omega)
    have p4 := fun w => xor_any (s.extract 0 n) (t.extract 0 n) w (by unfold maxLen; omega) (by unfold maxLen; omega) (by omega)
    rw [pe] at p3
    obtain ⟨A, hA⟩ : ∃ A, s.extract 0 n = A := ⟨_, rfl⟩
    obtain ⟨B, hB⟩ : ∃ B, t.extract 0 n = B := ⟨_, rfl⟩
    rw [hA] at p1 p3 p4
    rw [hB] at p2 p3 p4
    generalize cryB (ks k m 1) A = A1 at p1 p3
    generalize cryB (ks k m 1) B = B1 at p2 p3
    generalize xorB A B = X at p3 p4
    clear hl hb2 hMl HN hk hm hk32 es et pe z1 z2
    go_wp2_with fail
    refine (p1 w2).mono ?_
    rintro e w3 ⟨rfl, hb3⟩
    have hl3 := hl2.trans (hb3.mono hl2.size)
    clear hl2 hb3 p1
    go_wp2_with fail
    refine (p2 w3).mono ?_
    rintro e w4 ⟨rfl, hb4⟩
    have hl4 := hl3.trans (hb4.mono hl3.size)
    clear hl3 hb4 p2
    go_wp2_with fail
    refine wp_region_noPanic ?_
    refine wp_region_held_drew (S := fun _ => True) (by kernel_rfl) trivial (fun hHeld => ?_)
    refine wpAnyH_ready (rs := [0]) (by kernel_rfl) (by simp) (AllReadyH.cons rfl (fun K hK => ?_) AllReadyH.nil)
    go_simp
    go_at_call 10
    refine (wakes_any _).mono ?_
    rintro e w5 ⟨rfl, hb5⟩
    have hl5 : Below w.heap.size w w5 := hl4.drew.trans (hb5.mono hl4.drew.size)
    refine hK.out _ _ trivial (fun hHeld => ?_)
    clear hK K
    refine wpAnyH_take (i := 1) (v := ?_) rfl (by kernel_rfl) (by kernel_rfl) (by kernel_rfl) (fun _ _ _ h => h) (Or.inl ⟨by rfl, ?_⟩) (by assumption) ?_
    rotate_left
    · intro w hSw; go_simp; try with_reducible rfl
    go_simp
    refine wpAnyH_take (i := 2) (v := ?_) rfl (by kernel_rfl) (by kernel_rfl) (by kernel_rfl) (fun _ _ _ h => h) (Or.inl ⟨by rfl, ?_⟩) (by assumption) ?_
    rotate_left
    · intro w hSw; go_simp; try with_reducible rfl
    go_simp
    refine wpAnyH_take (i := 3) (v := ?_) rfl (by kernel_rfl) (by kernel_rfl) (by kernel_rfl) (fun _ _ _ h => h) (Or.inl ⟨by rfl, ?_⟩) (by assumption) ?_
    rotate_left
    · intro w hSw; go_simp; try with_reducible rfl
    go_simp
    refine wpAnyH_take (i := 5) (v := ?_) rfl (by kernel_rfl) (by kernel_rfl) (by kernel_rfl) (fun _ _ _ h => h) (Or.inl ⟨by rfl, ?_⟩) (by assumption) ?_
    rotate_left
    · intro w hSw; go_simp; try with_reducible rfl
    go_simp
    refine wpAnyH_take (i := 6) (v := ?_) rfl (by kernel_rfl) (by kernel_rfl) (by kernel_rfl) (fun _ _ _ h => h) (Or.inl ⟨by rfl, ?_⟩) (by assumption) ?_
    rotate_left
    · intro w hSw; go_simp; try with_reducible rfl
    go_simp
    refine wpAnyH_take (i := 7) (v := ?_) rfl (by kernel_rfl) (by kernel_rfl) (by kernel_rfl) (fun _ _ _ h => h) (Or.inl ⟨by rfl, ?_⟩) (by assumption) ?_
    rotate_left
    · intro w hSw; go_simp; try with_reducible rfl
    go_simp
    refine wpAnyH_take (i := 8) (v := ?_) rfl (by kernel_rfl) (by kernel_rfl) (by kernel_rfl) (fun _ _ _ h => h) (Or.inl ⟨by rfl, ?_⟩) (by assumption) ?_
    rotate_left
    · intro w hSw; go_simp; try with_reducible rfl
    go_simp
    refine wpAnyH_take (i := 9) (v := ?_) rfl (by kernel_rfl) (by kernel_rfl) (by kernel_rfl) (fun _ _ _ h => h) (Or.inl ⟨by rfl, ?_⟩) (by assumption) ?_
    rotate_left
    · intro w hSw; go_simp; try with_reducible rfl
    go_simp
    refine wpAnyH_take (i := 10) (v := ?_) rfl (by kernel_rfl) (by kernel_rfl) (by kernel_rfl) (fun _ _ _ h => h) (Or.inl ⟨by rfl, ?_⟩) (by assumption) ?_
    rotate_left
    · intro w hSw; go_simp; try with_reducible rfl
    go_simp
    refine wpAnyH_ready (rs := [4]) (by kernel_rfl) (by simp) (AllReadyH.cons rfl (fun K hK => ?_) AllReadyH.nil)
    go_simp
    go_at_call 17
    refine (p3 _).mono ?_
    rintro e w6 ⟨rfl, hb6⟩
    have hl6 := hl5.trans (hb6.mono hl5.size)
    refine hK.out _ _ trivial (fun hHeld => ?_)
    clear hK K
    refine wpAnyH_ready (rs := [11]) (by kernel_rfl) (by simp) (AllReadyH.cons rfl (fun K hK => ?_) AllReadyH.nil)
    go_simp
    go_at_call 17
    refine (p4 _).mono ?_
    rintro e w7 ⟨rfl, hb7⟩
    have hl7 := hl6.trans (hb7.mono hl6.size)
    refine hK.out _ _ trivial (fun hHeld => ?_)
    clear hK K
    refine wpAnyH_take (i := 12) (v := ?_) rfl (by kernel_rfl) (by kernel_rfl) (by kernel_rfl) (fun _ _ _ h => h) (Or.inl ⟨by rfl, ?_⟩) (by assumption) ?_
    rotate_left
    · intro w hSw; go_simp; try with_reducible rfl
    go_simp
    refine wpAnyH_take (i := 13) (v := ?_) rfl (by kernel_rfl) (by kernel_rfl) (by kernel_rfl) (fun _ _ _ h => h) (Or.inl ⟨by rfl, ?_⟩) (by assumption) ?_
    rotate_left
    · intro w hSw; go_simp; try with_reducible rfl
    go_simp
    refine wpAnyH_take (i := 14) (v := ?_) rfl (by kernel_rfl) (by kernel_rfl) (by kernel_rfl) (fun _ _ _ h => h) (Or.inl ⟨by rfl, ?_⟩) (by assumption) ?_
    rotate_left
    · intro w hSw; go_simp; try with_reducible rfl
    go_simp
    refine wpAnyH_done (by kernel_rfl) ?_ _
    refine NoPanic.normal ?_
    clear p3 p4 hl4 hb5 hl5 hb6 hl6 hb7
    go_wp2_with fail
    go_ret
    exact ⟨rfl, hl7⟩
  · obtain ⟨n, hn, n1, n2, n3⟩ : ∃ n : Nat, (↑t.size : Int) = (n : Int) ∧ n ≤ s.size ∧ n ≤ t.size ∧ n ≤ 600 := ⟨t.size, rfl, by omega, by omega, by omega⟩
    rw [hn]
    clear hn
    have n1' : (n : Int) ≤ (s.size : Int) := by omega
    have n2' : (n : Int) ≤ (t.size : Int) := by omega
    generalize w.alloc (.cells M.toArray 32) = w1 at hB2 hl ⊢
    clear hB2 c44 f44 hM
    refine (texts_any M 0 HN.out w1).mono ?_
    rintro e w2 ⟨k, m, rfl, -, hm, hk, hb2⟩
    have hk32 : k.size = 32 := hk (by decide)
    have hl2 : Below w.heap.size w w2 := hl.trans (hb2.mono hl.size)
    have es : (s.extract 0 n).size = n := by rw [ByteArray.size_extract]; omega
    have et : (t.extract 0 n).size = n := by rw [ByteArray.size_extract]; omega
    have p1 := fun w => crypt_ok k m (s.extract 0 n) 1 hk32 hm ⟨by decide, by decide⟩ (by omega) w
    have p2 := fun w => crypt_ok k m (t.extract 0 n) 1 hk32 hm ⟨by decide, by decide⟩ (by omega) w
    have pe := cryB_pair (ks k m 1) (ks_range k m 1) (s.extract 0 n) (t.extract 0 n) (by omega)
    have z1 := cryB_size (ks k m 1) (s.extract 0 n)
    have z2 := cryB_size (ks k m 1) (t.extract 0 n)
    have p3 := fun w => xor_any (cryB (ks k m 1) (s.extract 0 n)) (cryB (ks k m 1) (t.extract 0 n)) w (by unfold maxLen; omega) (by unfold maxLen; omega) (by omega)
    have p4 := fun w => xor_any (s.extract 0 n) (t.extract 0 n) w (by unfold maxLen; omega) (by unfold maxLen; omega) (by omega)
    rw [pe] at p3
    obtain ⟨A, hA⟩ : ∃ A, s.extract 0 n = A := ⟨_, rfl⟩
    obtain ⟨B, hB⟩ : ∃ B, t.extract 0 n = B := ⟨_, rfl⟩
    rw [hA] at p1 p3 p4
    rw [hB] at p2 p3 p4
    generalize cryB (ks k m 1) A = A1 at p1 p3
    generalize cryB (ks k m 1) B = B1 at p2 p3
    generalize xorB A B = X at p3 p4
    clear hl hb2 hMl HN hk hm hk32 es et pe z1 z2
    go_wp2_with fail
    refine (p1 w2).mono ?_
    rintro e w3 ⟨rfl, hb3⟩
    have hl3 := hl2.trans (hb3.mono hl2.size)
    clear hl2 hb3 p1
    go_wp2_with fail
    refine (p2 w3).mono ?_
    rintro e w4 ⟨rfl, hb4⟩
    have hl4 := hl3.trans (hb4.mono hl3.size)
    clear hl3 hb4 p2
    go_wp2_with fail
    refine wp_region_noPanic ?_
    refine wp_region_held_drew (S := fun _ => True) (by kernel_rfl) trivial (fun hHeld => ?_)
    refine wpAnyH_ready (rs := [0]) (by kernel_rfl) (by simp) (AllReadyH.cons rfl (fun K hK => ?_) AllReadyH.nil)
    go_simp
    go_at_call 10
    refine (wakes_any _).mono ?_
    rintro e w5 ⟨rfl, hb5⟩
    have hl5 : Below w.heap.size w w5 := hl4.drew.trans (hb5.mono hl4.drew.size)
    refine hK.out _ _ trivial (fun hHeld => ?_)
    clear hK K
    refine wpAnyH_take (i := 1) (v := ?_) rfl (by kernel_rfl) (by kernel_rfl) (by kernel_rfl) (fun _ _ _ h => h) (Or.inl ⟨by rfl, ?_⟩) (by assumption) ?_
    rotate_left
    · intro w hSw; go_simp; try with_reducible rfl
    go_simp
    refine wpAnyH_take (i := 2) (v := ?_) rfl (by kernel_rfl) (by kernel_rfl) (by kernel_rfl) (fun _ _ _ h => h) (Or.inl ⟨by rfl, ?_⟩) (by assumption) ?_
    rotate_left
    · intro w hSw; go_simp; try with_reducible rfl
    go_simp
    refine wpAnyH_take (i := 3) (v := ?_) rfl (by kernel_rfl) (by kernel_rfl) (by kernel_rfl) (fun _ _ _ h => h) (Or.inl ⟨by rfl, ?_⟩) (by assumption) ?_
    rotate_left
    · intro w hSw; go_simp; try with_reducible rfl
    go_simp
    refine wpAnyH_take (i := 5) (v := ?_) rfl (by kernel_rfl) (by kernel_rfl) (by kernel_rfl) (fun _ _ _ h => h) (Or.inl ⟨by rfl, ?_⟩) (by assumption) ?_
    rotate_left
    · intro w hSw; go_simp; try with_reducible rfl
    go_simp
    refine wpAnyH_take (i := 6) (v := ?_) rfl (by kernel_rfl) (by kernel_rfl) (by kernel_rfl) (fun _ _ _ h => h) (Or.inl ⟨by rfl, ?_⟩) (by assumption) ?_
    rotate_left
    · intro w hSw; go_simp; try with_reducible rfl
    go_simp
    refine wpAnyH_take (i := 7) (v := ?_) rfl (by kernel_rfl) (by kernel_rfl) (by kernel_rfl) (fun _ _ _ h => h) (Or.inl ⟨by rfl, ?_⟩) (by assumption) ?_
    rotate_left
    · intro w hSw; go_simp; try with_reducible rfl
    go_simp
    refine wpAnyH_take (i := 8) (v := ?_) rfl (by kernel_rfl) (by kernel_rfl) (by kernel_rfl) (fun _ _ _ h => h) (Or.inl ⟨by rfl, ?_⟩) (by assumption) ?_
    rotate_left
    · intro w hSw; go_simp; try with_reducible rfl
    go_simp
    refine wpAnyH_take (i := 9) (v := ?_) rfl (by kernel_rfl) (by kernel_rfl) (by kernel_rfl) (fun _ _ _ h => h) (Or.inl ⟨by rfl, ?_⟩) (by assumption) ?_
    rotate_left
    · intro w hSw; go_simp; try with_reducible rfl
    go_simp
    refine wpAnyH_take (i := 10) (v := ?_) rfl (by kernel_rfl) (by kernel_rfl) (by kernel_rfl) (fun _ _ _ h => h) (Or.inl ⟨by rfl, ?_⟩) (by assumption) ?_
    rotate_left
    · intro w hSw; go_simp; try with_reducible rfl
    go_simp
    refine wpAnyH_ready (rs := [4]) (by kernel_rfl) (by simp) (AllReadyH.cons rfl (fun K hK => ?_) AllReadyH.nil)
    go_simp
    go_at_call 17
    refine (p3 _).mono ?_
    rintro e w6 ⟨rfl, hb6⟩
    have hl6 := hl5.trans (hb6.mono hl5.size)
    refine hK.out _ _ trivial (fun hHeld => ?_)
    clear hK K
    refine wpAnyH_ready (rs := [11]) (by kernel_rfl) (by simp) (AllReadyH.cons rfl (fun K hK => ?_) AllReadyH.nil)
    go_simp
    go_at_call 17
    refine (p4 _).mono ?_
    rintro e w7 ⟨rfl, hb7⟩
    have hl7 := hl6.trans (hb7.mono hl6.size)
    refine hK.out _ _ trivial (fun hHeld => ?_)
    clear hK K
    refine wpAnyH_take (i := 12) (v := ?_) rfl (by kernel_rfl) (by kernel_rfl) (by kernel_rfl) (fun _ _ _ h => h) (Or.inl ⟨by rfl, ?_⟩) (by assumption) ?_
    rotate_left
    · intro w hSw; go_simp; try with_reducible rfl
    go_simp
    refine wpAnyH_take (i := 13) (v := ?_) rfl (by kernel_rfl) (by kernel_rfl) (by kernel_rfl) (fun _ _ _ h => h) (Or.inl ⟨by rfl, ?_⟩) (by assumption) ?_
    rotate_left
    · intro w hSw; go_simp; try with_reducible rfl
    go_simp
    refine wpAnyH_take (i := 14) (v := ?_) rfl (by kernel_rfl) (by kernel_rfl) (by kernel_rfl) (fun _ _ _ h => h) (Or.inl ⟨by rfl, ?_⟩) (by assumption) ?_
    rotate_left
    · intro w hSw; go_simp; try with_reducible rfl
    go_simp
    refine wpAnyH_done (by kernel_rfl) ?_ _
    refine NoPanic.normal ?_
    clear p3 p4 hl4 hb5 hl5 hb6 hl6 hb7
    go_wp2_with fail
    go_ret
    exact ⟨rfl, hl7⟩
  · obtain ⟨n, hn, n1, n2, n3⟩ : ∃ n : Nat, (↑s.size : Int) = (n : Int) ∧ n ≤ s.size ∧ n ≤ t.size ∧ n ≤ 600 := ⟨s.size, rfl, by omega, by omega, by omega⟩
    rw [hn]
    clear hn
    have n1' : (n : Int) ≤ (s.size : Int) := by omega
    have n2' : (n : Int) ≤ (t.size : Int) := by omega
    generalize w.alloc (.cells M.toArray 32) = w1 at hB2 hl ⊢
    clear hB2 c44 f44 hM
    refine (texts_any M 0 HN.out w1).mono ?_
    rintro e w2 ⟨k, m, rfl, -, hm, hk, hb2⟩
    have hk32 : k.size = 32 := hk (by decide)
    have hl2 : Below w.heap.size w w2 := hl.trans (hb2.mono hl.size)
    have es : (s.extract 0 n).size = n := by rw [ByteArray.size_extract]; omega
    have et : (t.extract 0 n).size = n := by rw [ByteArray.size_extract]; omega
    have p1 := fun w => crypt_ok k m (s.extract 0 n) 1 hk32 hm ⟨by decide, by decide⟩ (by omega) w
    have p2 := fun w => crypt_ok k m (t.extract 0 n) 1 hk32 hm ⟨by decide, by decide⟩ (by omega) w
    have pe := cryB_pair (ks k m 1) (ks_range k m 1) (s.extract 0 n) (t.extract 0 n) (by omega)
    have z1 := cryB_size (ks k m 1) (s.extract 0 n)
    have z2 := cryB_size (ks k m 1) (t.extract 0 n)
    have p3 := fun w => xor_any (cryB (ks k m 1) (s.extract 0 n)) (cryB (ks k m 1) (t.extract 0 n)) w (by unfold maxLen; omega) (by unfold maxLen; omega) (by omega)
    have p4 := fun w => xor_any (s.extract 0 n) (t.extract 0 n) w (by unfold maxLen; omega) (by unfold maxLen; omega) (by omega)
    rw [pe] at p3
    obtain ⟨A, hA⟩ : ∃ A, s.extract 0 n = A := ⟨_, rfl⟩
    obtain ⟨B, hB⟩ : ∃ B, t.extract 0 n = B := ⟨_, rfl⟩
    rw [hA] at p1 p3 p4
    rw [hB] at p2 p3 p4
    generalize cryB (ks k m 1) A = A1 at p1 p3
    generalize cryB (ks k m 1) B = B1 at p2 p3
    generalize xorB A B = X at p3 p4
    clear hl hb2 hMl HN hk hm hk32 es et pe z1 z2
    go_wp2_with fail
    refine (p1 w2).mono ?_
    rintro e w3 ⟨rfl, hb3⟩
    have hl3 := hl2.trans (hb3.mono hl2.size)
    clear hl2 hb3 p1
    go_wp2_with fail
    refine (p2 w3).mono ?_
    rintro e w4 ⟨rfl, hb4⟩
    have hl4 := hl3.trans (hb4.mono hl3.size)
    clear hl3 hb4 p2
    go_wp2_with fail
    refine wp_region_noPanic ?_
    refine wp_region_held_drew (S := fun _ => True) (by kernel_rfl) trivial (fun hHeld => ?_)
    refine wpAnyH_ready (rs := [0]) (by kernel_rfl) (by simp) (AllReadyH.cons rfl (fun K hK => ?_) AllReadyH.nil)
    go_simp
    go_at_call 10
    refine (wakes_any _).mono ?_
    rintro e w5 ⟨rfl, hb5⟩
    have hl5 : Below w.heap.size w w5 := hl4.drew.trans (hb5.mono hl4.drew.size)
    refine hK.out _ _ trivial (fun hHeld => ?_)
    clear hK K
    refine wpAnyH_take (i := 1) (v := ?_) rfl (by kernel_rfl) (by kernel_rfl) (by kernel_rfl) (fun _ _ _ h => h) (Or.inl ⟨by rfl, ?_⟩) (by assumption) ?_
    rotate_left
    · intro w hSw; go_simp; try with_reducible rfl
    go_simp
    refine wpAnyH_take (i := 2) (v := ?_) rfl (by kernel_rfl) (by kernel_rfl) (by kernel_rfl) (fun _ _ _ h => h) (Or.inl ⟨by rfl, ?_⟩) (by assumption) ?_
    rotate_left
    · intro w hSw; go_simp; try with_reducible rfl
    go_simp
    refine wpAnyH_take (i := 3) (v := ?_) rfl (by kernel_rfl) (by kernel_rfl) (by kernel_rfl) (fun _ _ _ h => h) (Or.inl ⟨by rfl, ?_⟩) (by assumption) ?_
    rotate_left
    · intro w hSw; go_simp; try with_reducible rfl
    go_simp
    refine wpAnyH_take (i := 5) (v := ?_) rfl (by kernel_rfl) (by kernel_rfl) (by kernel_rfl) (fun _ _ _ h => h) (Or.inl ⟨by rfl, ?_⟩) (by assumption) ?_
    rotate_left
    · intro w hSw; go_simp; try with_reducible rfl
    go_simp
    refine wpAnyH_take (i := 6) (v := ?_) rfl (by kernel_rfl) (by kernel_rfl) (by kernel_rfl) (fun _ _ _ h => h) (Or.inl ⟨by rfl, ?_⟩) (by assumption) ?_
    rotate_left
    · intro w hSw; go_simp; try with_reducible rfl
    go_simp
    refine wpAnyH_take (i := 7) (v := ?_) rfl (by kernel_rfl) (by kernel_rfl) (by kernel_rfl) (fun _ _ _ h => h) (Or.inl ⟨by rfl, ?_⟩) (by assumption) ?_
    rotate_left
    · intro w hSw; go_simp; try with_reducible rfl
    go_simp
    refine wpAnyH_take (i := 8) (v := ?_) rfl (by kernel_rfl) (by kernel_rfl) (by kernel_rfl) (fun _ _ _ h => h) (Or.inl ⟨by rfl, ?_⟩) (by assumption) ?_
    rotate_left
    · intro w hSw; go_simp; try with_reducible rfl
    go_simp
    refine wpAnyH_take (i := 9) (v := ?_) rfl (by kernel_rfl) (by kernel_rfl) (by kernel_rfl) (fun _ _ _ h => h) (Or.inl ⟨by rfl, ?_⟩) (by assumption) ?_
    rotate_left
    · intro w hSw; go_simp; try with_reducible rfl
    go_simp
    refine wpAnyH_take (i := 10) (v := ?_) rfl (by kernel_rfl) (by kernel_rfl) (by kernel_rfl) (fun _ _ _ h => h) (Or.inl ⟨by rfl, ?_⟩) (by assumption) ?_
    rotate_left
    · intro w hSw; go_simp; try with_reducible rfl
    go_simp
    refine wpAnyH_ready (rs := [4]) (by kernel_rfl) (by simp) (AllReadyH.cons rfl (fun K hK => ?_) AllReadyH.nil)
    go_simp
    go_at_call 17
    refine (p3 _).mono ?_
    rintro e w6 ⟨rfl, hb6⟩
    have hl6 := hl5.trans (hb6.mono hl5.size)
    refine hK.out _ _ trivial (fun hHeld => ?_)
    clear hK K
    refine wpAnyH_ready (rs := [11]) (by kernel_rfl) (by simp) (AllReadyH.cons rfl (fun K hK => ?_) AllReadyH.nil)
    go_simp
    go_at_call 17
    refine (p4 _).mono ?_
    rintro e w7 ⟨rfl, hb7⟩
    have hl7 := hl6.trans (hb7.mono hl6.size)
    refine hK.out _ _ trivial (fun hHeld => ?_)
    clear hK K
    refine wpAnyH_take (i := 12) (v := ?_) rfl (by kernel_rfl) (by kernel_rfl) (by kernel_rfl) (fun _ _ _ h => h) (Or.inl ⟨by rfl, ?_⟩) (by assumption) ?_
    rotate_left
    · intro w hSw; go_simp; try with_reducible rfl
    go_simp
    refine wpAnyH_take (i := 13) (v := ?_) rfl (by kernel_rfl) (by kernel_rfl) (by kernel_rfl) (fun _ _ _ h => h) (Or.inl ⟨by rfl, ?_⟩) (by assumption) ?_
    rotate_left
    · intro w hSw; go_simp; try with_reducible rfl
    go_simp
    refine wpAnyH_take (i := 14) (v := ?_) rfl (by kernel_rfl) (by kernel_rfl) (by kernel_rfl) (fun _ _ _ h => h) (Or.inl ⟨by rfl, ?_⟩) (by assumption) ?_
    rotate_left
    · intro w hSw; go_simp; try with_reducible rfl
    go_simp
    refine wpAnyH_done (by kernel_rfl) ?_ _
    refine NoPanic.normal ?_
    clear p3 p4 hl4 hb5 hl5 hb6 hl6 hb7
    go_wp2_with fail
    go_ret
    exact ⟨rfl, hl7⟩
end Go.Proofs.Ytajkfjafhigcpaa
