/- Plain arithmetic of the field of 256 elements on natural numbers: doubling, products, powers, logarithms; no Go text is named here. -/
import Derived.WalkKit
import Derived.Laws.BitsAllLaws
namespace Go.Proofs.Ythcbnffhkbbkpaa
open Go.RowKit

/-- An element times x. -/
def xt (a : Nat) : Nat := (a * 2 % 256) ^^^ (a / 128 % 2 * 29)
/-- k rounds of a product: double and add. -/
def gmK : Nat → Nat → Nat → Nat
  | 0, _, _ => 0
  | k + 1, a, b => (b % 2 * a) ^^^ gmK k (xt a) (b / 2)
/-- The product. -/
def gm (a b : Nat) : Nat := gmK 8 a b
/-- A power, factor by factor. -/
def gp (a : Nat) : Nat → Nat
  | 0 => 1
  | n + 1 => gm (gp a n) a

theorem bit_times_xor (p q c : Nat) (hp : p < 2) (hq : q < 2) : (p ^^^ q) * c = (p * c) ^^^ (q * c) := by
  have hp' : p = 0 ∨ p = 1 := by omega
  have hq' : q = 0 ∨ q = 1 := by omega
  rcases hp' with rfl | rfl <;> rcases hq' with rfl | rfl <;> simp
theorem times_xor (p a b : Nat) (hp : p < 2) : p * (a ^^^ b) = (p * a) ^^^ (p * b) := by
  have hp' : p = 0 ∨ p = 1 := by omega
  rcases hp' with rfl | rfl <;> simp
theorem xor_half (a b : Nat) : (a ^^^ b) / 2 = (a / 2) ^^^ (b / 2) := by
  have := Nat.xor_div_two_pow (a := a) (b := b) (n := 1); simpa using this
theorem xor_odd (a b : Nat) : (a ^^^ b) % 2 = (a % 2) ^^^ (b % 2) := by
  have := Nat.xor_mod_two_pow (a := a) (b := b) (n := 1); simpa using this
theorem xor_four (a b c d : Nat) : (a ^^^ b) ^^^ (c ^^^ d) = (a ^^^ c) ^^^ (b ^^^ d) := by
  rw [Nat.xor_assoc, Nat.xor_assoc, ← Nat.xor_assoc b c d, Nat.xor_comm b c, Nat.xor_assoc]
theorem xor_dbl (a b : Nat) : (a ^^^ b) * 2 = (a * 2) ^^^ (b * 2) := by
  have := Nat.shiftLeft_xor_distrib (a := a) (b := b) (i := 1)
  simpa [Nat.shiftLeft_eq] using this
theorem xt_xor (a b : Nat) : xt (a ^^^ b) = xt a ^^^ xt b := by
  unfold xt
  have h1 : (a ^^^ b) * 2 % 256 = (a * 2 % 256) ^^^ (b * 2 % 256) := by
    have := Nat.xor_mod_two_pow (a := a * 2) (b := b * 2) (n := 8)
    rw [xor_dbl]; simpa using this
  have h2 : (a ^^^ b) / 128 % 2 = (a / 128 % 2) ^^^ (b / 128 % 2) := by
    have := Nat.xor_div_two_pow (a := a) (b := b) (n := 7)
    rw [show (128 : Nat) = 2 ^ 7 from rfl, this, xor_odd]
  rw [h1, h2, bit_times_xor _ _ _ (by omega) (by omega), xor_four]
theorem gmK_xorL (k a b c : Nat) : gmK k (a ^^^ b) c = gmK k a c ^^^ gmK k b c := by
  induction k generalizing a b c with
  | zero => simp [gmK]
  | succ k ih => simp only [gmK]; rw [xt_xor, ih, times_xor _ _ _ (by omega), xor_four]
theorem gmK_xorR (k a b c : Nat) : gmK k a (b ^^^ c) = gmK k a b ^^^ gmK k a c := by
  induction k generalizing a b c with
  | zero => simp [gmK]
  | succ k ih => simp only [gmK]; rw [xor_half, xor_odd, ih, bit_times_xor _ _ _ (by omega) (by omega), xor_four]
theorem gm_xorL (a b c : Nat) : gm (a ^^^ b) c = gm a c ^^^ gm b c := gmK_xorL 8 a b c
theorem gm_xorR (a b c : Nat) : gm a (b ^^^ c) = gm a b ^^^ gm a c := gmK_xorR 8 a b c
theorem gmK_zero (k a : Nat) : gmK k a 0 = 0 := by
  induction k generalizing a with
  | zero => rfl
  | succ k ih => simp only [gmK]; rw [ih]; simp
theorem xt_lt (a : Nat) : xt a < 256 := by
  unfold xt
  exact Nat.xor_lt_two_pow (n := 8) (Nat.mod_lt _ (by omega)) (by omega)
theorem gmK_lt (k a b : Nat) (h : a < 256) : gmK k a b < 256 := by
  induction k generalizing a b with
  | zero => simp [gmK]
  | succ k ih =>
    simp only [gmK]
    refine Nat.xor_lt_two_pow (n := 8) ?_ (ih _ _ (xt_lt a))
    have : b % 2 = 0 ∨ b % 2 = 1 := by omega
    rcases this with e | e <;> rw [e] <;> omega
theorem gm_lt (a b : Nat) (h : a < 256) : gm a b < 256 := gmK_lt 8 a b h

theorem top_off : ∀ k, k < 8 → ∀ x, x < 256 → 2 ^ k ≤ x → x < 2 ^ (k + 1) → x ^^^ 2 ^ k < 2 ^ k := by decide +kernel
/-- Two maps that keep sums and agree at the eight bits agree at every byte. -/
theorem lin_ext (f g : Nat → Nat) (hf : ∀ x y, f (x ^^^ y) = f x ^^^ f y) (hg : ∀ x y, g (x ^^^ y) = g x ^^^ g y)
    (h : ∀ i, i < 8 → f (2 ^ i) = g (2 ^ i)) (x : Nat) (hx : x < 256) : f x = g x := by
  have z : ∀ f : Nat → Nat, (∀ x y, f (x ^^^ y) = f x ^^^ f y) → f 0 = 0 := by
    intro f hf
    have := hf 0 0
    rw [Nat.xor_self] at this
    rw [this, Nat.xor_self]
  have H : ∀ k, k ≤ 8 → ∀ x, x < 2 ^ k → f x = g x := by
    intro k
    induction k with
    | zero =>
      intro _ x hx
      have : x = 0 := by simpa using hx
      subst this
      rw [z f hf, z g hg]
    | succ k ih =>
      intro hk x hx
      by_cases hlt : x < 2 ^ k
      · exact ih (by omega) x hlt
      · have h8 : 2 ^ (k + 1) ≤ 2 ^ 8 := Nat.pow_le_pow_right (by omega) hk
        have hd := top_off k (by omega) x (by omega) (by omega) hx
        have hx' : x = (x ^^^ 2 ^ k) ^^^ 2 ^ k := by rw [Nat.xor_assoc, Nat.xor_self, Nat.xor_zero]
        rw [hx', hf, hg, ih (by omega) _ hd, h k (by omega)]
  exact H 8 (by omega) x hx

theorem comm_bits : ∀ i, i < 8 → ∀ j, j < 8 → gm (2 ^ i) (2 ^ j) = gm (2 ^ j) (2 ^ i) := by decide +kernel
theorem assoc_bits : ∀ i, i < 8 → ∀ j, j < 8 → ∀ k, k < 8 → gm (2 ^ i) (gm (2 ^ j) (2 ^ k)) = gm (gm (2 ^ i) (2 ^ j)) (2 ^ k) := by decide +kernel
theorem gm_comm (a b : Nat) (ha : a < 256) (hb : b < 256) : gm a b = gm b a := by
  refine lin_ext (fun a => gm a b) (fun a => gm b a) (fun x y => gm_xorL x y b) (fun x y => gm_xorR b x y) (fun i hi => ?_) a ha
  exact lin_ext (fun b => gm (2 ^ i) b) (fun b => gm b (2 ^ i)) (fun x y => gm_xorR _ x y) (fun x y => gm_xorL x y _) (fun j hj => comm_bits i hi j hj) b hb
theorem gm_assoc (a b c : Nat) (ha : a < 256) (hb : b < 256) (hc : c < 256) : gm a (gm b c) = gm (gm a b) c := by
  refine lin_ext (fun a => gm a (gm b c)) (fun a => gm (gm a b) c) (fun x y => gm_xorL x y _) (fun x y => by simp only [gm_xorL]) (fun i hi => ?_) a ha
  refine lin_ext (fun b => gm (2 ^ i) (gm b c)) (fun b => gm (gm (2 ^ i) b) c) (fun x y => by simp only [gm_xorL, gm_xorR]) (fun x y => by simp only [gm_xorL, gm_xorR]) (fun j hj => ?_) b hb
  exact lin_ext (fun c => gm (2 ^ i) (gm (2 ^ j) c)) (fun c => gm (gm (2 ^ i) (2 ^ j)) c) (fun x y => by simp only [gm_xorR]) (fun x y => by simp only [gm_xorR]) (fun k hk => assoc_bits i hi j hj k hk) c hc
theorem gm_one (a : Nat) : gm a 1 = a := by
  show (1 % 2 * a) ^^^ gmK 7 (xt a) (1 / 2) = a
  rw [show 1 / 2 = 0 from rfl, gmK_zero]; simp
theorem gm_zero (a : Nat) : gm a 0 = 0 := gmK_zero 8 a
theorem zero_gm (a : Nat) (ha : a < 256) : gm 0 a = 0 := by rw [gm_comm 0 a (by omega) ha, gm_zero]
theorem one_gm (a : Nat) (ha : a < 256) : gm 1 a = a := by rw [gm_comm 1 a (by omega) ha, gm_one]
theorem gm_two (a : Nat) : gm a 2 = xt a := by
  show (2 % 2 * a) ^^^ ((2 / 2 % 2 * xt a) ^^^ gmK 6 (xt (xt a)) (2 / 2 / 2)) = xt a
  rw [show 2 / 2 / 2 = 0 from rfl, gmK_zero]; simp
theorem gp_lt (a n : Nat) (_ha : a < 256) : gp a n < 256 := by
  induction n with
  | zero => simp [gp]
  | succ n ih => exact gm_lt _ _ ih
theorem gp_add (a m n : Nat) (ha : a < 256) : gp a (m + n) = gm (gp a m) (gp a n) := by
  induction n with
  | zero => simp [gp, gm_one]
  | succ n ih => rw [← Nat.add_assoc]; simp only [gp]; rw [ih, gm_assoc _ _ _ (gp_lt a m ha) (gp_lt a n ha) ha]
theorem gp_one (a : Nat) (ha : a < 256) : gp a 1 = a := one_gm a ha
theorem gp_sq (a n : Nat) (ha : a < 256) : gp (gm a a) n = gp a (2 * n) := by
  induction n with
  | zero => rfl
  | succ n ih =>
    rw [show 2 * (n + 1) = 2 * n + 2 by omega, gp_add a (2 * n) 2 ha]
    simp only [gp]
    rw [ih, one_gm a ha]
/-- The power of 255, by squares. -/
def p255 (a : Nat) : Nat :=
  let p2 := gm (gm a a) a
  let p3 := gm (gm p2 p2) a
  let p4 := gm (gm p3 p3) a
  let p5 := gm (gm p4 p4) a
  let p6 := gm (gm p5 p5) a
  let p7 := gm (gm p6 p6) a
  gm (gm p7 p7) a
theorem p255_gp (a : Nat) (ha : a < 256) : p255 a = gp a 255 := by
  have st : ∀ n, gm (gm (gp a n) (gp a n)) a = gp a (2 * n + 1) := by
    intro n; rw [← gp_add a n n ha, show n + n = 2 * n by omega]; rfl
  unfold p255
  have e1 := st 1
  rw [gp_one a ha] at e1
  simp only [e1, st]
theorem p255_all : ∀ a, a < 256 → a ≠ 0 → p255 a = 1 := by decide +kernel
theorem gp_255 (a : Nat) (ha : a < 256) (h : a ≠ 0) : gp a 255 = 1 := by rw [← p255_gp a ha]; exact p255_all a ha h
theorem gp_mod (a n : Nat) (ha : a < 256) (h : a ≠ 0) : gp a (n % 255) = gp a n := by
  have g : ∀ q r, gp a (255 * q + r) = gp a r := by
    intro q
    induction q with
    | zero => intro r; simp
    | succ q ih => intro r; rw [show 255 * (q + 1) + r = 255 + (255 * q + r) by omega, gp_add a _ _ ha, gp_255 a ha h, one_gm _ (gp_lt a _ ha), ih]
  conv => rhs; rw [show n = 255 * (n / 255) + n % 255 by omega]
  rw [g]
theorem gp_zero (n : Nat) (h : n ≠ 0) : gp 0 n = 0 := by
  obtain ⟨m, rfl⟩ := Nat.exists_eq_succ_of_ne_zero h
  exact gm_zero _
/-- The inverse. -/
def gi (a : Nat) : Nat := gp a 254
theorem gi_lt (a : Nat) (ha : a < 256) : gi a < 256 := gp_lt a _ ha
theorem gm_gi (a : Nat) (ha : a < 256) (h : a ≠ 0) : gm a (gi a) = 1 := by
  rw [gm_comm a _ ha (gi_lt a ha)]; exact gp_255 a ha h
theorem gi_unique (a b : Nat) (ha : a < 256) (hb : b < 256) (h : gm a b = 1) : b = gi a := by
  have hz : a ≠ 0 := by rintro rfl; rw [zero_gm b hb] at h; omega
  have : gm (gi a) (gm a b) = gi a := by rw [h, gm_one]
  rw [gm_assoc _ _ _ (gi_lt a ha) ha hb, gm_comm _ a (gi_lt a ha) ha, gm_gi a ha hz, one_gm b hb] at this
  exact this
theorem gi_pos (a : Nat) (ha : a < 256) (h : a ≠ 0) : gi a ≠ 0 := by
  intro e
  have := gm_gi a ha h
  rw [e, gm_zero] at this
  omega
theorem gm_eq_zero (a b : Nat) (ha : a < 256) (hb : b < 256) : gm a b = 0 ↔ a = 0 ∨ b = 0 := by
  constructor
  · intro h
    by_cases hz : a = 0
    · exact .inl hz
    · right
      have : gm (gi a) (gm a b) = 0 := by rw [h, gm_zero]
      rw [gm_assoc _ _ _ (gi_lt a ha) ha hb, gm_comm _ a (gi_lt a ha) ha, gm_gi a ha hz, one_gm b hb] at this
      exact this
  · rintro (rfl | rfl)
    · exact zero_gm b hb
    · exact gm_zero a
theorem gp_ne (a n : Nat) (ha : a < 256) (h : a ≠ 0) : gp a n ≠ 0 := by
  induction n with
  | zero => simp [gp]
  | succ n ih =>
    simp only [gp]
    rw [Ne, gm_eq_zero _ _ (gp_lt a n ha) ha]
    rintro (e | e)
    · exact ih e
    · exact h e

/-- The powers of 2 by doubling, and the first place of an element among them. -/
def lgF : Nat → Nat → Nat → Nat
  | 0, _, _ => 0
  | k + 1, p, a => if p = a then 0 else lgF k (xt p) a + 1
def lg (a : Nat) : Nat := lgF 255 1 a
theorem gp2_succ (n : Nat) : gp 2 (n + 1) = xt (gp 2 n) := gm_two _
theorem lgF_at (k n a : Nat) (h : lgF k (gp 2 n) a < k) : gp 2 (n + lgF k (gp 2 n) a) = a := by
  induction k generalizing n with
  | zero => omega
  | succ k ih =>
    unfold lgF at h ⊢
    split
    · rename_i e; rw [Nat.add_zero]; exact e
    · rename_i e
      rw [if_neg e] at h
      rw [← gp2_succ] at h ⊢
      have := ih (n + 1) (by omega)
      rw [show n + (lgF k (gp 2 (n + 1)) a + 1) = n + 1 + lgF k (gp 2 (n + 1)) a by omega]
      exact this
theorem lgF_least (k n a j : Nat) (h : j < lgF k (gp 2 n) a) : gp 2 (n + j) ≠ a := by
  induction k generalizing n j with
  | zero => simp [lgF] at h
  | succ k ih =>
    unfold lgF at h
    split at h
    · omega
    · rename_i e
      rw [← gp2_succ] at h
      match j with
      | 0 => exact e
      | j + 1 => have := ih (n + 1) j (by omega); rw [show n + (j + 1) = n + 1 + j by omega]; exact this
theorem lg_all : ∀ a, a < 256 → a ≠ 0 → lg a < 255 := by decide +kernel
theorem order_all : lgF 254 2 1 = 254 := by decide +kernel
theorem ex_lg (a : Nat) (ha : a < 256) (h : a ≠ 0) : gp 2 (lg a) = a := by
  have := lgF_at 255 0 a (lg_all a ha h)
  rw [Nat.zero_add] at this
  exact this
theorem order_two (k : Nat) (h0 : 0 < k) (h1 : k < 255) : gp 2 k ≠ 1 := by
  have e : gp 2 1 = 2 := by decide
  have := lgF_least 254 1 1 (k - 1) (by rw [e, order_all]; omega)
  rw [show 1 + (k - 1) = k by omega] at this
  exact this
theorem ex_inj_lt (i j : Nat) (hij : i < j) (h : j - i < 255) : gp 2 i ≠ gp 2 j := by
  intro e
  have h2 : gp 2 j = gm (gp 2 i) (gp 2 (j - i)) := by rw [← gp_add 2 _ _ (by omega), show i + (j - i) = j by omega]
  rw [← e] at h2
  have hi := gp_lt 2 i (by omega)
  have hz := gp_ne 2 i (by omega) (by omega)
  have h3 : gm (gi (gp 2 i)) (gp 2 i) = gm (gi (gp 2 i)) (gm (gp 2 i) (gp 2 (j - i))) := by rw [← h2]
  rw [gm_assoc _ _ _ (gi_lt _ hi) hi (gp_lt 2 _ (by omega)), gm_comm _ (gp 2 i) (gi_lt _ hi) hi, gm_gi _ hi hz, one_gm _ (gp_lt 2 _ (by omega))] at h3
  exact order_two (j - i) (by omega) h h3.symm
theorem ex_inj (i j : Nat) (hi : i < 255) (hj : j < 255) (h : gp 2 i = gp 2 j) : i = j := by
  rcases Nat.lt_trichotomy i j with hlt | e | hlt
  · exact absurd h (ex_inj_lt i j hlt (by omega))
  · exact e
  · exact absurd h.symm (ex_inj_lt j i hlt (by omega))
theorem lg_ex (n : Nat) (h : n < 255) : lg (gp 2 n) = n :=
  ex_inj _ _ (lg_all _ (gp_lt 2 n (by omega)) (gp_ne 2 n (by omega) (by omega))) h (ex_lg _ (gp_lt 2 n (by omega)) (gp_ne 2 n (by omega) (by omega)))
theorem lg_ex_mod (n : Nat) : lg (gp 2 n) = n % 255 := by
  rw [← gp_mod 2 n (by omega) (by omega)]; exact lg_ex _ (Nat.mod_lt _ (by omega))
end Go.Proofs.Ythcbnffhkbbkpaa
