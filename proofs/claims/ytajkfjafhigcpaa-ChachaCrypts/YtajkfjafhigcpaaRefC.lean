/- What the document's Crypt answers, for every key, nonce, counter and text. -/
import Derived.Test.YtajkfjafhigcpaaRefB
import Derived.Test.YtajkfjafhigcpaaRefXor
namespace Go.Proofs.Ytajkfjafhigcpaa
open Go.RowKit Go.PlainAid
set_option linter.unusedVariables false

/-- The key stream's first n bytes. -/
def stB (f : Nat → Int) (n : Nat) : ByteArray := strOfNums ((List.range n).map f)
theorem stB_size (f : Nat → Int) (n : Nat) : (stB f n).size = n := by unfold stB; rw [strOfNums_size]; simp
theorem bt_stB (f : Nat → Int) (hf : ∀ i, 0 ≤ f i ∧ f i ≤ 255) (n i : Nat) (h : i < n) : bt (stB f n) i = f i := by
  unfold stB
  rw [bt_str _ (fun x hx => by obtain ⟨j, _, rfl⟩ := List.mem_map.1 hx; exact hf j) i (by simpa using h)]
  simp
theorem stB_next (key nonce : ByteArray) (c : Int) (k : Nat) : stB (ks key nonce c) (64 * k) ++ blkB (stI key nonce ((c + (k : Int)) % 4294967296)) = stB (ks key nonce c) (64 * (k + 1)) := by
  apply bt_ext
  · rw [ByteArray.size_append, stB_size, stB_size, blkB_size]; omega
  · intro i hi
    rw [ByteArray.size_append, stB_size, blkB_size] at hi
    rw [bt_stB _ (ks_range key nonce c) _ i (by omega)]
    by_cases h : i < 64 * k
    · rw [bt_left _ _ _ (by rw [stB_size]; exact h), bt_stB _ (ks_range key nonce c) _ i h]
    · rw [bt_right _ _ _ (by rw [stB_size]; omega), stB_size]
      unfold ks
      rw [show i / 64 = k by omega, show i % 64 = i - 64 * k by omega]
theorem xor_stB (f : Nat → Int) (hf : ∀ i, 0 ≤ f i ∧ f i ≤ 255) (s : ByteArray) (n : Nat) (h : s.size ≤ n) : xorB s (stB f n) = cryB f s := by
  apply bt_ext
  · rw [xorB_size, stB_size, cryB_size]; omega
  · intro i hi
    rw [xorB_size, stB_size] at hi
    rw [bt_xorB _ _ i (by rw [stB_size]; exact hi), bt_stB f hf n i (by omega), bt_cryB f hf s i (by omega)]

/-- A text's length, of a value. -/
def strLen : Value → Nat
  | .string s => s.size
  | _ => 0

theorem refCrypt_bad (key nonce s : ByteArray) (c : Int) (hk' : key.size ≤ maxLen) (hn' : nonce.size ≤ maxLen) (h : key.size ≠ 32 ∨ nonce.size ≠ 12) (w : World) :
    Calls Try.prog 16 #[.string key, .string nonce, .int .u32 c, .string s] w fun e w' => e = .returned (.tuple #[.string ⟨#[]⟩, .int .i64 7]) ∧ w' = w := by
  unfold maxLen at hk' hn'
  by_cases hk : key.size = 32
  · have hn : nonce.size ≠ 12 := by
      rcases h with h | h
      · exact absurd hk h
      · exact h
    have hkI : (((key.size : Nat) : Int) != 32) = false := by simp; omega
    have hnI : (((nonce.size : Nat) : Int) != 12) = true := by simp; omega
    clear hk hn h
    go_enter Try.func16, Try.ntmps16
    go_wp2_with fail
    go_ret2
    exact ⟨rfl, rfl⟩
  · have hkI : (((key.size : Nat) : Int) != 32) = true := by simp; omega
    clear hk h
    go_enter Try.func16, Try.ntmps16
    go_wp2_with fail
    go_ret2
    exact ⟨rfl, rfl⟩

set_option maxHeartbeats 1000000 in
theorem refCrypt_ok (key nonce s : ByteArray) (c : Int) (hk : key.size = 32) (hn : nonce.size = 12) (hc : W32 c) (hs : s.size ≤ 3900) (w : World) :
    Calls Try.prog 16 #[.string key, .string nonce, .int .u32 c, .string s] w fun e w' => e = .returned (.tuple #[.string (cryB (ks key nonce c) s), .int .i64 0]) ∧ Below w.heap.size w w' := by
  have hkI : (((key.size : Nat) : Int) != 32) = false := by simp; omega
  have hnI : (((nonce.size : Nat) : Int) != 12) = false := by simp; omega
  have hsI : ¬ ((65536 : Int) < (s.size : Int)) := by omega
  have HB : Hid (∀ (x : Int) w, W32 x → Calls Try.prog 14 #[.string key, .string nonce, .int .u32 x] w fun e w' => e = .returned (.tuple #[.string (blkB (stI key nonce x)), .int .i64 0]) ∧ Below w.heap.size w w') := fun x w hx => refBlock_ok key nonce x hk hn hx w
  have hks : key.size ≤ 32 := by omega
  have hns : nonce.size ≤ 12 := by omega
  clear hk hn
  obtain ⟨M, hM1, hM2⟩ : ∃ M, s.size ≤ 64 * M ∧ 64 * M < s.size + 64 := ⟨(s.size + 63) / 64, by omega, by omega⟩
  have hMs : (64 * M : Nat) ≤ 3970 := by omega
  go_enter Try.func16, Try.ntmps16
  go_wp2_with fail
  go_loopw [2, 10] (fun x v wr => ∃ k : Nat, k ≤ M ∧ x = .int .u32 ((c + (k : Int)) % 4294967296) ∧ v = .string (stB (ks key nonce c) (64 * k)) ∧ Below w.heap.size w wr) (fun _ v _ => 64 * M - strLen v)
  case atStart =>
    refine ⟨0, by omega, ?_, rfl, Below.refl _ _⟩
    rw [show (c + ((0 : Nat) : Int)) % 4294967296 = c by have h1 := hc.1; have h2 := hc.2; omega]
  case round =>
    obtain ⟨k, hk, rfl, rfl, hl⟩ := hrel
    have hAs := stB_size (ks key nonce c) (64 * k)
    by_cases hlt : k < M
    · have hstep := stB_next key nonce c k
      have hA2 := stB_size (ks key nonce c) (64 * (k + 1))
      have hbs := blkB_size (stI key nonce ((c + (k : Int)) % 4294967296))
      have hcall := HB.out ((c + (k : Int)) % 4294967296) wr ⟨by omega, by omega⟩
      have hnx : ((c + (k : Int)) % 4294967296 + 1) % 4294967296 = (c + ((k + 1 : Nat) : Int)) % 4294967296 := by omega
      have hx0 : 0 ≤ (c + (k : Int)) % 4294967296 := by omega
      have hx1 : (c + (k : Int)) % 4294967296 < 4294967296 := by omega
      have HM : Hid (∀ A, A = stB (ks key nonce c) (64 * (k + 1)) → A.size = 64 * (k + 1)) := fun A hA => by rw [hA]; exact hA2
      generalize (c + (k : Int)) % 4294967296 = x at hstep hcall hnx hbs hx0 hx1 ⊢
      generalize blkB (stI key nonce x) = X at hstep hcall hbs
      obtain ⟨A, hA⟩ : ∃ A, stB (ks key nonce c) (64 * k) = A := ⟨_, rfl⟩
      rw [hA] at hstep hAs ⊢
      have hltI : (A.size : Int) < (s.size : Int) := by omega
      have hAle : A.size ≤ 3970 := by omega
      have hXle : X.size ≤ 64 := by omega
      obtain ⟨y, hy⟩ : ∃ y, (c + ((k + 1 : Nat) : Int)) % 4294967296 = y := ⟨_, rfl⟩
      rw [hy] at hnx
      have HY : Hid ((c + ((k + 1 : Nat) : Int)) % 4294967296 = y) := hy
      have HS : Hid (A ++ X = stB (ks key nonce c) (64 * (k + 1))) := hstep
      have HA : Hid (A.size = 64 * k) := hAs
      have HN : Hid ((x + 1) % 4294967296 = y) := hnx
      clear hA hy hstep hA2 hbs hAs
      go_wp2_with (go_at_call 14; refine hcall.mono ?_; rintro e w2 ⟨rfl, hb2⟩)
      refine ⟨⟨k + 1, by omega, by rw [HY.out, HN.out], by rw [HS.out], hl.trans (hb2.mono hl.size)⟩, ?_⟩
      have e1 := HM.out _ HS.out
      have e2 := HA.out
      show 64 * M - (A ++ X).size < 64 * M - A.size
      omega
    · have hkM : k = M := by omega
      subst hkM
      have hx := xor_stB (ks key nonce c) (ks_range key nonce c) s (64 * k) hM1
      have hcall := refXor_any s (stB (ks key nonce c) (64 * k)) wr (by omega) (by rw [hAs]; omega)
      rw [hx] at hcall
      obtain ⟨A, hA⟩ : ∃ A, stB (ks key nonce c) (64 * k) = A := ⟨_, rfl⟩
      rw [hA] at hcall hAs ⊢
      obtain ⟨R, hR⟩ : ∃ R, cryB (ks key nonce c) s = R := ⟨_, rfl⟩
      rw [hR] at hcall
      have HR : Hid (cryB (ks key nonce c) s = R) := hR
      have hgeI : ¬ ((A.size : Int) < (s.size : Int)) := by omega
      clear hA hR hx hAs
      go_wp2_with (go_at_call 27; refine hcall.mono ?_; rintro e w3 ⟨rfl, hb3⟩)
      go_ret2
      refine ⟨?_, hl.trans (hb3.mono hl.size)⟩
      rw [HR.out]
      rfl
end Go.Proofs.Ytajkfjafhigcpaa
