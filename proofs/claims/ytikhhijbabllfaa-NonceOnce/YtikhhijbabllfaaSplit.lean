/- What the Go functions that read words out of a text answer, for every text. -/
import Derived.Test.YtikhhijbabllfaaXor
import Derived.Deep.QuietTactic
import Derived.BigQuiet
import Derived.Deep.RegionWith
import Derived.Deep.RegionHeld3
namespace Go.Proofs.Ytikhhijbabllfaa
open Go.RowKit Go.PlainAid
set_option linter.unusedVariables false

/-- A word of four bytes, the lowest first; the highest first. -/
def le4 (a b c d : Int) : Int := a + 256 * b + 65536 * c + 16777216 * d
def be4 (a b c d : Int) : Int := le4 d c b a

/-- The or of parts that share no bit is their sum. -/
theorem or_high (k : Nat) (K lo m : Int) (hK : K = 2 ^ k) (h0 : 0 ≤ lo) (h1 : lo < K) (h2 : 0 ≤ m) (h3 : m * K + lo < 4294967296) :
    bits .or .u32 lo (m * K) = lo + m * K := by
  obtain ⟨L, rfl⟩ := Int.eq_ofNat_of_zero_le h0
  obtain ⟨M, rfl⟩ := Int.eq_ofNat_of_zero_le h2
  have e : (M : Int) * K = ((2 ^ k * M : Nat) : Int) := by rw [hK]; simp [Int.mul_comm]
  have hL : L < 2 ^ k := by
    have : (L : Int) < ((2 ^ k : Nat) : Int) := by rw [hK] at h1; simpa using h1
    omega
  rw [e] at h3 ⊢
  rw [u32_or_nat L (2 ^ k * M) (by omega) (by omega), Nat.or_comm, ← Nat.two_pow_add_eq_or_of_lt hL]
  omega
theorem or_low (k : Nat) (K lo m : Int) (hK : K = 2 ^ k) (h0 : 0 ≤ lo) (h1 : lo < K) (h2 : 0 ≤ m) (h3 : m * K + lo < 4294967296) :
    bits .or .u32 (m * K) lo = lo + m * K := by
  obtain ⟨L, rfl⟩ := Int.eq_ofNat_of_zero_le h0
  obtain ⟨M, rfl⟩ := Int.eq_ofNat_of_zero_le h2
  have e : (M : Int) * K = ((2 ^ k * M : Nat) : Int) := by rw [hK]; simp [Int.mul_comm]
  have hL : L < 2 ^ k := by
    have : (L : Int) < ((2 ^ k : Nat) : Int) := by rw [hK] at h1; simpa using h1
    omega
  rw [e] at h3 ⊢
  rw [u32_or_nat (2 ^ k * M) L (by omega) (by omega), ← Nat.two_pow_add_eq_or_of_lt hL]
  omega

theorem le4_or (a b c d : Int) (ha : 0 ≤ a ∧ a ≤ 255) (hb : 0 ≤ b ∧ b ≤ 255) (hc : 0 ≤ c ∧ c ≤ 255) (hd : 0 ≤ d ∧ d ≤ 255) :
    bits .or .u32 (bits .or .u32 (bits .or .u32 a (b * 256)) (c * 65536)) (d * 16777216) = le4 a b c d := by
  rw [or_high 8 256 a b (by decide) (by omega) (by omega) (by omega) (by omega),
    or_high 16 65536 _ c (by decide) (by omega) (by omega) (by omega) (by omega),
    or_high 24 16777216 _ d (by decide) (by omega) (by omega) (by omega) (by omega)]
  unfold le4; omega
theorem be4_or (a b c d : Int) (ha : 0 ≤ a ∧ a ≤ 255) (hb : 0 ≤ b ∧ b ≤ 255) (hc : 0 ≤ c ∧ c ≤ 255) (hd : 0 ≤ d ∧ d ≤ 255) :
    bits .or .u32 (bits .or .u32 (bits .or .u32 (a * 16777216) (b * 65536)) (c * 256)) d = be4 a b c d := by
  have e1 : bits .or .u32 (a * 16777216) (b * 65536) = (a * 256 + b) * 65536 := by
    rw [or_low 24 16777216 _ a (by decide) (by omega) (by omega) (by omega) (by omega)]; omega
  have e2 : bits .or .u32 ((a * 256 + b) * 65536) (c * 256) = (a * 65536 + b * 256 + c) * 256 := by
    rw [or_low 16 65536 _ _ (by decide) (by omega) (by omega) (by omega) (by omega)]; omega
  rw [e1, e2, or_low 8 256 _ _ (by decide) (by omega) (by omega) (by omega) (by omega)]
  unfold be4 le4; omega

theorem big1_any (a b c d : Int) (ha : 0 ≤ a ∧ a ≤ 255) (hb : 0 ≤ b ∧ b ≤ 255) (hc : 0 ≤ c ∧ c ≤ 255) (hd : 0 ≤ d ∧ d ≤ 255) (w : World) :
    Calls Try.prog 33 #[.agg #[.int .u8 a, .int .u8 b, .int .u8 c, .int .u8 d]] w fun e w' => e = .returned (.int .u32 (be4 a b c d)) ∧ Below w.heap.size w w' := by
  go_enter Try.func33, Try.ntmps33
  go_wp2
  go_ret
  exact ⟨ret_int (be4_or a b c d ha hb hc hd), (Below.refl _ _).alloc (Nat.le_refl _) _⟩

theorem bt_range (s : ByteArray) (i : Nat) : 0 ≤ bt s i ∧ bt s i ≤ 255 := ⟨bt_nonneg s i, bt_le s i⟩

/-- What the call owns stays owned behind a callee that turned nothing that was there. -/
theorem owns_below {w w' : World} {base : Nat} {e : TypeId} {size : Nat} {v : Value} {n : Nat} {xs : List Value} (h : w.ownsRow base e size v n xs) (hb : Below w.heap.size w w') : w'.ownsRow base e size v n xs :=
  h.kept (row := none) ⟨hb.os, hb.tape, hb.output, hb.size, fun k hk _ => hb.block k hk⟩ (by
    cases hv : v.ownBlock with
    | none => exact .inl rfl
    | some g => exact .inr (by simp))

/-- The words of a text, each of four bytes by f. -/
def wordsL (f : Int → Int → Int → Int → Int) (s : ByteArray) (i : Nat) : Int := f (bt s (i * 4)) (bt s (i * 4 + 1)) (bt s (i * 4 + 2)) (bt s (i * 4 + 3))

theorem Try.info47 : (Try.prog.info? 47).map (fun i => (i.zero, i.size, i.bytes)) = some (some (.int .u32 0), 1, 4) := by kernel_rfl

theorem split_odd (s : ByteArray) (F : Value) (w : World) (hs : s.size ≤ maxLen) (h4 : s.size % 4 ≠ 0) :
    Calls Try.prog 32 #[.string s, F] w fun e w' => e = .returned (.tuple #[.slice none 0 0, .int .i64 7]) ∧ w' = w := by
  unfold maxLen at hs
  have ht : (((s.size : Int) % 4) != 0) = true := by simp; omega
  go_enter Try.func32, Try.ntmps32
  go_wp2
  go_ret2
  exact ⟨rfl, rfl⟩

set_option maxRecDepth 20000 in
set_option maxHeartbeats 800000 in
theorem split_big (s : ByteArray) (w : World) (hs : s.size ≤ 281474976710656) (h4 : s.size % 4 = 0) :
    Calls Try.prog 32 #[.string s, .func (.func 33) #[] #[]] w fun e w' => e = .returned (.tuple #[.slice (some ⟨w.heap.size, 0, none⟩) (s.size / 4) (s.size / 4), .int .i64 0]) ∧
      w'.ownsRow w.heap.size 47 1 (.slice (some ⟨w.heap.size, 0, none⟩) (s.size / 4) (s.size / 4)) (s.size / 4) ((List.range (s.size / 4)).map fun i => .int .u32 (wordsL be4 s i)) ∧ Below w.heap.size w w' := by
  obtain ⟨i0, hi, hz0, hz1, hz2⟩ := info_parts Try.info47
  obtain ⟨n, hn⟩ : ∃ n : Nat, s.size = 4 * n := ⟨s.size / 4, by omega⟩
  have ht : (((s.size : Int) % 4) != 0) = false := by simp; omega
  have hq : (s.size : Int) / 4 = (n : Int) := by omega
  have hq' : s.size / 4 = n := by omega
  rw [hq']
  have hns : 4 * n ≤ s.size := by omega
  have HN : Hid (s.size = 4 * n) := hn
  clear hn hq' h4
  have hbs := get_bt s
  go_enter Try.func32, Try.ntmps32
  go_wp2_with (at_make; refine wpList_make_full _ rfl _ _ 46 rfl w.heap.size 47 i0 (.int .u32 0) 1 Try.underlying46 hi hz0 hz1 _ _ _ _ n rfl rfl ?c0 ?c1 ?c2 ?c3 ?c4 ?_)
  case c0 => rfl
  case c1 => rfl
  case c2 => rw [hz2]; omega
  case c3 => unfold maxLen; omega
  case c4 => exact Nat.le_refl _
  intro w1 hown hgrow
  have hbel : Below w.heap.size w w1 := (Below.refl _ _).grown hgrow (Nat.le_refl _) (fun k h => by cases h)
  rw [toList_madeCells_one, ← filled_zero n (fun i => .int .u32 (wordsL be4 s i))] at hown
  go_wp2
  go_loopw [19] (fun i wr => ∃ k : Nat, k ≤ n ∧ i = .int .i64 k ∧ wr.ownsRow w.heap.size 47 1 (.slice (some ⟨w.heap.size, 0, none⟩) n n) n (filled n k (fun i => .int .u32 (wordsL be4 s i)) (.int .u32 0)) ∧ Below w.heap.size w wr) (fun i _ => n - (intOf i).toNat)
  case atStart => exact ⟨0, Nat.zero_le _, rfl, hown, hbel⟩
  case round =>
    obtain ⟨k, hk, rfl, hown', hbel'⟩ := hrel
    by_cases hlt : k < n
    · have r0 := bt_range s (k * 4)
      have r1 := bt_range s (k * 4 + 1)
      have r2 := bt_range s (k * 4 + 2)
      have r3 := bt_range s (k * 4 + 3)
      have p0 : (0 : Int) ≤ (k : Int) * 4 := by omega
      have q0 : (k : Int) * 4 < (s.size : Int) := by omega
      have p1 : (0 : Int) ≤ (k : Int) * 4 + 1 := by omega
      have q1 : (k : Int) * 4 + 1 < (s.size : Int) := by omega
      have p2 : (0 : Int) ≤ (k : Int) * 4 + 2 := by omega
      have q2 : (k : Int) * 4 + 2 < (s.size : Int) := by omega
      have p3 : (0 : Int) ≤ (k : Int) * 4 + 3 := by omega
      have q3 : (k : Int) * 4 + 3 < (s.size : Int) := by omega
      have t0 : ((k : Int) * 4).toNat = k * 4 := by omega
      have t1 : ((k : Int) * 4 + 1).toNat = k * 4 + 1 := by omega
      have t2 : ((k : Int) * 4 + 2).toNat = k * 4 + 2 := by omega
      have t3 : ((k : Int) * 4 + 3).toNat = k * 4 + 3 := by omega
      have z1 : IntKind.i64.wrap ((k : Int) * 4 + 1) = (k : Int) * 4 + 1 := IntWalk.i64_in _ ⟨by omega, by omega⟩
      have z2 : IntKind.i64.wrap ((k : Int) * 4 + 2) = (k : Int) * 4 + 2 := IntWalk.i64_in _ ⟨by omega, by omega⟩
      have z3 : IntKind.i64.wrap ((k : Int) * 4 + 3) = (k : Int) * 4 + 3 := IntWalk.i64_in _ ⟨by omega, by omega⟩
      have fr : ∀ wx, Below wr.drew.heap.size wr.drew wx → (∃ v0, wx.cell? ⟨w.heap.size, k, none⟩ = some v0) ∧ wx.frozen? ⟨w.heap.size, k, none⟩ = false := by
        intro wx hx
        have ho := owns_below (hown'.drew) hx
        refine ⟨?_, ho.frozenAt k⟩
        rw [ho.cellAt k (by omega)]; exact ⟨_, List.getElem?_eq_getElem (by simp [filled]; exact hlt)⟩
      go_wp2
      refine wp_region_noPanic ?_
      refine wp_region_held_drew (S := fun _ => True) (by kernel_rfl) trivial (fun hHeld => ?_)
      refine wpAnyH_take (i := 0) (v := ?_) rfl (by kernel_rfl) (by kernel_rfl) (by kernel_rfl) (fun _ _ _ h => h) (Or.inl ⟨by rfl, ?_⟩) (by assumption) ?_
      rotate_left
      · intro w hSw; go_simp; try with_reducible rfl
      go_simp
      refine wpAnyH_take (i := 1) (v := ?_) rfl (by kernel_rfl) (by kernel_rfl) (by kernel_rfl) (fun _ _ _ h => h) (Or.inl ⟨by rfl, ?_⟩) (by assumption) ?_
      rotate_left
      · intro w hSw; go_simp; try with_reducible rfl
      go_simp
      refine wpAnyH_take (i := 2) (v := ?_) rfl (by kernel_rfl) (by kernel_rfl) (by kernel_rfl) (fun _ _ _ h => h) (Or.inl ⟨by rfl, ?_⟩) (by assumption) ?_
      rotate_left
      · intro w hSw; go_simp; try with_reducible rfl
      go_simp
      refine wpAnyH_take (i := 3) (v := ?_) rfl (by kernel_rfl) (by kernel_rfl) (by kernel_rfl) (fun _ _ _ h => h) (Or.inl ⟨by rfl, ?_⟩) (by assumption) ?_
      rotate_left
      · intro w hSw; go_simp; try with_reducible rfl
      go_simp
      refine wpAnyH_take (i := 4) (v := ?_) rfl (by kernel_rfl) (by kernel_rfl) (by kernel_rfl) (fun _ _ _ h => h) (Or.inl ⟨by rfl, ?_⟩) (by assumption) ?_
      rotate_left
      · intro w hSw; go_simp; try with_reducible rfl
      go_simp
      refine wpAnyH_take (i := 5) (v := ?_) rfl (by kernel_rfl) (by kernel_rfl) (by kernel_rfl) (fun _ _ _ h => h) (Or.inl ⟨by rfl, ?_⟩) (by assumption) ?_
      rotate_left
      · intro w hSw; go_simp; try with_reducible rfl
      go_simp
      refine wpAnyH_take (i := 6) (v := ?_) rfl (by kernel_rfl) (by kernel_rfl) (by kernel_rfl) (fun _ _ _ h => h) (Or.inl ⟨by rfl, ?_⟩) (by assumption) ?_
      rotate_left
      · intro w hSw; go_simp; try with_reducible rfl
      go_simp
      refine wpAnyH_take (i := 7) (v := ?_) rfl (by kernel_rfl) (by kernel_rfl) (by kernel_rfl) (fun _ _ _ h => h) (Or.inl ⟨by rfl, ?_⟩) (by assumption) ?_
      rotate_left
      · intro w hSw; go_simp; try with_reducible rfl
      go_simp
      refine wpAnyH_take (i := 8) (v := ?_) rfl (by kernel_rfl) (by kernel_rfl) (by kernel_rfl) (fun _ _ _ h => h) (Or.inl ⟨by rfl, ?_⟩) (by assumption) ?_
      rotate_left
      · intro w hSw; go_simp; try with_reducible rfl
      go_simp
      refine wpAnyH_take (i := 9) (v := ?_) rfl (by kernel_rfl) (by kernel_rfl) (by kernel_rfl) (fun _ _ _ h => h) (Or.inl ⟨by rfl, ?_⟩) (by assumption) ?_
      rotate_left
      · intro w hSw; go_simp; try with_reducible rfl
      go_simp
      refine wpAnyH_take (i := 10) (v := ?_) rfl (by kernel_rfl) (by kernel_rfl) (by kernel_rfl) (fun _ _ _ h => h) (Or.inl ⟨by rfl, ?_⟩) (by assumption) ?_
      rotate_left
      · intro w hSw; go_simp; try with_reducible rfl
      go_simp
      refine wpAnyH_take (i := 11) (v := ?_) rfl (by kernel_rfl) (by kernel_rfl) (by kernel_rfl) (fun _ _ _ h => h) (Or.inl ⟨by rfl, ?_⟩) (by assumption) ?_
      rotate_left
      · intro w hSw; go_simp; try with_reducible rfl
      go_simp
      refine wpAnyH_take (i := 12) (v := ?_) rfl (by kernel_rfl) (by kernel_rfl) (by kernel_rfl) (fun _ _ _ h => h) (Or.inl ⟨by rfl, ?_⟩) (by assumption) ?_
      rotate_left
      · intro w hSw; go_simp; try with_reducible rfl
      go_simp
      refine wpAnyH_take (i := 13) (v := ?_) rfl (by kernel_rfl) (by kernel_rfl) (by kernel_rfl) (fun _ _ _ h => h) (Or.inl ⟨by rfl, ?_⟩) (by assumption) ?_
      rotate_left
      · intro w hSw; go_simp; try with_reducible rfl
      go_simp
      refine wpAnyH_take (i := 14) (v := ?_) rfl (by kernel_rfl) (by kernel_rfl) (by kernel_rfl) (fun _ _ _ h => h) (Or.inl ⟨by rfl, ?_⟩) (by assumption) ?_
      rotate_left
      · intro w hSw; go_simp; try with_reducible rfl
      go_simp
      refine wpAnyH_take (i := 15) (v := ?_) rfl (by kernel_rfl) (by kernel_rfl) (by kernel_rfl) (fun _ _ _ h => h) (Or.inl ⟨by rfl, ?_⟩) (by assumption) ?_
      rotate_left
      · intro w hSw; go_simp; try with_reducible rfl
      go_simp
      refine wpAnyH_take (i := 16) (v := ?_) rfl (by kernel_rfl) (by kernel_rfl) (by kernel_rfl) (fun _ _ _ h => h) (Or.inl ⟨by rfl, ?_⟩) (by assumption) ?_
      rotate_left
      · intro w hSw; go_simp; try with_reducible rfl
      go_simp
      refine wpAnyH_take (i := 17) (v := ?_) rfl (by kernel_rfl) (by kernel_rfl) (by kernel_rfl) (fun _ _ _ h => h) (Or.inl ⟨by rfl, ?_⟩) (by assumption) ?_
      rotate_left
      · intro w hSw; go_simp; try with_reducible rfl
      go_simp
      refine wpAnyH_take (i := 18) (v := ?_) rfl (by kernel_rfl) (by kernel_rfl) (by kernel_rfl) (fun _ _ _ h => h) (Or.inl ⟨by rfl, ?_⟩) (by assumption) ?_
      rotate_left
      · intro w hSw; go_simp; try with_reducible rfl
      go_simp
      refine wpAnyH_ready (rs := [19]) (by kernel_rfl) (by simp) (AllReadyH.cons rfl (fun K hK => ?_) AllReadyH.nil)
      go_simp
      go_at_call 33
      refine (big1_any _ _ _ _ r0 r1 r2 r3 _).mono ?_
      rintro e wx ⟨rfl, hx⟩
      obtain ⟨⟨v0, hv0⟩, hf0⟩ := fr wx hx
      refine hK.out _ _ trivial (fun hHeld => ?_)
      clear hK K
      refine wpAnyH_take (i := 20) (v := ?_) rfl (by kernel_rfl) (by kernel_rfl) (by kernel_rfl) (fun _ _ _ h => h) (Or.inl ⟨by rfl, ?_⟩) (by assumption) ?_
      rotate_left
      · intro w hSw; go_simp; try with_reducible rfl
      go_simp
      refine wpAnyH_ready (rs := [21]) (by kernel_rfl) (by simp) (AllReadyH.cons rfl (fun K hK => ?_) AllReadyH.nil)
      go_simp
      refine hK.out _ _ trivial (fun hHeld => ?_)
      clear hK K
      refine wpAnyH_done (by kernel_rfl) ?_ _
      refine NoPanic.normal ?_
      have hst := ((owns_below hown'.drew hx).stored k (.int .u32 (wordsL be4 s k))).1
      rw [filled_set n k (fun i => .int .u32 (wordsL be4 s i)) _ hlt] at hst
      have hbel2 : Below w.heap.size w (wx.setCell ⟨w.heap.size, k, none⟩ (.int .u32 (wordsL be4 s k))) := (hbel'.drew.trans (hx.mono hbel'.size)).setCell (Nat.le_refl _) _
      clear fr hx hv0 hf0 hown' hbel'
      go_wp2
      go_roundw
      case rel => exact ⟨k + 1, by omega, by go_num, hst, hbel2⟩
      case measure => simp [intOf]; omega
    · have hkn : k = n := by omega
      subst hkn
      rw [filled_full] at hown'
      go_wp2
      go_ret2
      exact ⟨rfl, hown', hbel'⟩

theorem big_odd (s : ByteArray) (w : World) (hs : s.size ≤ maxLen) (h4 : s.size % 4 ≠ 0) :
    Calls Try.prog 27 #[.string s] w fun e w' => e = .returned (.tuple #[.slice none 0 0, .int .i64 7]) ∧ w' = w := by
  go_enter Try.func27, Try.ntmps27
  go_wp2_with (go_at_call 32; refine (split_odd _ _ _ hs h4).mono ?_; rintro e w' ⟨rfl, rfl⟩)
  go_ret2
  exact ⟨rfl, rfl⟩
theorem big_even (s : ByteArray) (w : World) (hs : s.size ≤ 281474976710656) (h4 : s.size % 4 = 0) :
    Calls Try.prog 27 #[.string s] w fun e w' => e = .returned (.tuple #[.slice (some ⟨w.heap.size, 0, none⟩) (s.size / 4) (s.size / 4), .int .i64 0]) ∧
      w'.ownsRow w.heap.size 47 1 (.slice (some ⟨w.heap.size, 0, none⟩) (s.size / 4) (s.size / 4)) (s.size / 4) ((List.range (s.size / 4)).map fun i => .int .u32 (wordsL be4 s i)) ∧ Below w.heap.size w w' := by
  go_enter Try.func27, Try.ntmps27
  go_wp2_with (go_at_call 32; refine (split_big _ _ hs h4).mono ?_; rintro e w' ⟨rfl, ho, hb⟩)
  go_ret2
  exact ⟨rfl, ho, hb⟩
end Go.Proofs.Ytikhhijbabllfaa
