import Derived.WalkKit
import Derived.Laws.BitsAllLaws
import Derived.Test.YtokknmkleceooaaGreatDoorRows
import Derived.ProofKit
import Derived.OpenShut
import Derived.WalkLawsBesides
import Derived.Below
import Derived.OneCell
import Derived.OwnWalk
import Derived.Laws.OwnMore
import Derived.Test.YtokknmkleceooaaGreatDoorBaseM
namespace Go.Proofs.YtokknmkleceooaaGreatDoor
set_option maxRecDepth 20000
open Go.RowKit
def xt (a : Nat) : Nat := (a * 2 % 256) ^^^ (a / 128 % 2 * 29)
def gmK : Nat → Nat → Nat → Nat
  | 0, _, _ => 0
  | k + 1, a, b => (b % 2 * a) ^^^ gmK k (xt a) (b / 2)
def gm (a b : Nat) : Nat := gmK 8 a b
def gp (a : Nat) : Nat → Nat
  | 0 => 1
  | n + 1 => gm (gp a n) a
theorem bit_times_xor (p q c : Nat) (hp : p < 2) (hq : q < 2) : (p ^^^ q) * c = (p * c) ^^^ (q * c) := by
  have hp' : p = 0 ∨ p = 1 := by omega
  have hq' : q = 0 ∨ q = 1 := by omega
  rcases hp' with rfl | rfl <;> rcases hq' with rfl | rfl <;> simp
theorem times_xor (p a b : Nat) (hp : p < 2) : p * (a ^^^ b) = (p * a) ^^^ (p * b) := by
  have hp' : p = 0 ∨ p = 1 := by omega
  rcases hp' with rfl | rfl <;> simp
theorem xor_half (a b : Nat) : (a ^^^ b) / 2 = (a / 2) ^^^ (b / 2) := by
  have := Nat.xor_div_two_pow (a := a) (b := b) (n := 1); simpa using this
theorem xor_odd (a b : Nat) : (a ^^^ b) % 2 = (a % 2) ^^^ (b % 2) := by
  have := Nat.xor_mod_two_pow (a := a) (b := b) (n := 1); simpa using this
theorem xor_four (a b c d : Nat) : (a ^^^ b) ^^^ (c ^^^ d) = (a ^^^ c) ^^^ (b ^^^ d) := by
  rw [Nat.xor_assoc, Nat.xor_assoc, ← Nat.xor_assoc b c d, Nat.xor_comm b c, Nat.xor_assoc]
theorem xor_dbl (a b : Nat) : (a ^^^ b) * 2 = (a * 2) ^^^ (b * 2) := by
  have := Nat.shiftLeft_xor_distrib (a := a) (b := b) (i := 1)
  simpa [Nat.shiftLeft_eq] using this
theorem xt_xor (a b : Nat) : xt (a ^^^ b) = xt a ^^^ xt b := by
  unfold xt
  have h1 : (a ^^^ b) * 2 % 256 = (a * 2 % 256) ^^^ (b * 2 % 256) := by
    have := Nat.xor_mod_two_pow (a := a * 2) (b := b * 2) (n := 8)
    rw [xor_dbl]; simpa using this
  have h2 : (a ^^^ b) / 128 % 2 = (a / 128 % 2) ^^^ (b / 128 % 2) := by
    have := Nat.xor_div_two_pow (a := a) (b := b) (n := 7)
    rw [show (128 : Nat) = 2 ^ 7 from rfl, this, xor_odd]
  rw [h1, h2, bit_times_xor _ _ _ (by omega) (by omega), xor_four]
theorem gmK_xorL (k a b c : Nat) : gmK k (a ^^^ b) c = gmK k a c ^^^ gmK k b c := by
  induction k generalizing a b c with
  | zero => simp [gmK]
  | succ k ih => simp only [gmK]; rw [xt_xor, ih, times_xor _ _ _ (by omega), xor_four]
theorem gmK_xorR (k a b c : Nat) : gmK k a (b ^^^ c) = gmK k a b ^^^ gmK k a c := by
  induction k generalizing a b c with
  | zero => simp [gmK]
  | succ k ih => simp only [gmK]; rw [xor_half, xor_odd, ih, bit_times_xor _ _ _ (by omega) (by omega), xor_four]
theorem gm_xorL (a b c : Nat) : gm (a ^^^ b) c = gm a c ^^^ gm b c := gmK_xorL 8 a b c
theorem gm_xorR (a b c : Nat) : gm a (b ^^^ c) = gm a b ^^^ gm a c := gmK_xorR 8 a b c
theorem gmK_zero (k a : Nat) : gmK k a 0 = 0 := by
  induction k generalizing a with
  | zero => rfl
  | succ k ih => simp only [gmK]; rw [ih]; simp
theorem xt_lt (a : Nat) : xt a < 256 := by
  unfold xt
  exact Nat.xor_lt_two_pow (n := 8) (Nat.mod_lt _ (by omega)) (by omega)
theorem gmK_lt (k a b : Nat) (h : a < 256) : gmK k a b < 256 := by
  induction k generalizing a b with
  | zero => simp [gmK]
  | succ k ih =>
    simp only [gmK]
    refine Nat.xor_lt_two_pow (n := 8) ?_ (ih _ _ (xt_lt a))
    have : b % 2 = 0 ∨ b % 2 = 1 := by omega
    rcases this with e | e <;> rw [e] <;> omega
theorem gm_lt (a b : Nat) (h : a < 256) : gm a b < 256 := gmK_lt 8 a b h
theorem top_off : ∀ k, k < 8 → ∀ x, x < 256 → 2 ^ k ≤ x → x < 2 ^ (k + 1) → x ^^^ 2 ^ k < 2 ^ k := by decide +kernel
theorem lin_ext (f g : Nat → Nat) (hf : ∀ x y, f (x ^^^ y) = f x ^^^ f y) (hg : ∀ x y, g (x ^^^ y) = g x ^^^ g y)
    (h : ∀ i, i < 8 → f (2 ^ i) = g (2 ^ i)) (x : Nat) (hx : x < 256) : f x = g x := by
  have z : ∀ f : Nat → Nat, (∀ x y, f (x ^^^ y) = f x ^^^ f y) → f 0 = 0 := by
    intro f hf
    have := hf 0 0
    rw [Nat.xor_self] at this
    rw [this, Nat.xor_self]
  have H : ∀ k, k ≤ 8 → ∀ x, x < 2 ^ k → f x = g x := by
    intro k
    induction k with
    | zero =>
      intro _ x hx
      have : x = 0 := by simpa using hx
      subst this
      rw [z f hf, z g hg]
    | succ k ih =>
      intro hk x hx
      by_cases hlt : x < 2 ^ k
      · exact ih (by omega) x hlt
      · have h8 : 2 ^ (k + 1) ≤ 2 ^ 8 := Nat.pow_le_pow_right (by omega) hk
        have hd := top_off k (by omega) x (by omega) (by omega) hx
        have hx' : x = (x ^^^ 2 ^ k) ^^^ 2 ^ k := by rw [Nat.xor_assoc, Nat.xor_self, Nat.xor_zero]
        rw [hx', hf, hg, ih (by omega) _ hd, h k (by omega)]
  exact H 8 (by omega) x hx
theorem comm_bits : ∀ i, i < 8 → ∀ j, j < 8 → gm (2 ^ i) (2 ^ j) = gm (2 ^ j) (2 ^ i) := by decide +kernel
theorem assoc_bits : ∀ i, i < 8 → ∀ j, j < 8 → ∀ k, k < 8 → gm (2 ^ i) (gm (2 ^ j) (2 ^ k)) = gm (gm (2 ^ i) (2 ^ j)) (2 ^ k) := by decide +kernel
theorem gm_comm (a b : Nat) (ha : a < 256) (hb : b < 256) : gm a b = gm b a := by
  refine lin_ext (fun a => gm a b) (fun a => gm b a) (fun x y => gm_xorL x y b) (fun x y => gm_xorR b x y) (fun i hi => ?_) a ha
  exact lin_ext (fun b => gm (2 ^ i) b) (fun b => gm b (2 ^ i)) (fun x y => gm_xorR _ x y) (fun x y => gm_xorL x y _) (fun j hj => comm_bits i hi j hj) b hb
theorem gm_assoc (a b c : Nat) (ha : a < 256) (hb : b < 256) (hc : c < 256) : gm a (gm b c) = gm (gm a b) c := by
  refine lin_ext (fun a => gm a (gm b c)) (fun a => gm (gm a b) c) (fun x y => gm_xorL x y _) (fun x y => by simp only [gm_xorL]) (fun i hi => ?_) a ha
  refine lin_ext (fun b => gm (2 ^ i) (gm b c)) (fun b => gm (gm (2 ^ i) b) c) (fun x y => by simp only [gm_xorL, gm_xorR]) (fun x y => by simp only [gm_xorL, gm_xorR]) (fun j hj => ?_) b hb
  exact lin_ext (fun c => gm (2 ^ i) (gm (2 ^ j) c)) (fun c => gm (gm (2 ^ i) (2 ^ j)) c) (fun x y => by simp only [gm_xorR]) (fun x y => by simp only [gm_xorR]) (fun k hk => assoc_bits i hi j hj k hk) c hc
theorem gm_one (a : Nat) : gm a 1 = a := by
  show (1 % 2 * a) ^^^ gmK 7 (xt a) (1 / 2) = a
  rw [show 1 / 2 = 0 from rfl, gmK_zero]; simp
theorem gm_zero (a : Nat) : gm a 0 = 0 := gmK_zero 8 a
theorem zero_gm (a : Nat) (ha : a < 256) : gm 0 a = 0 := by rw [gm_comm 0 a (by omega) ha, gm_zero]
theorem one_gm (a : Nat) (ha : a < 256) : gm 1 a = a := by rw [gm_comm 1 a (by omega) ha, gm_one]
theorem gm_two (a : Nat) : gm a 2 = xt a := by
  show (2 % 2 * a) ^^^ ((2 / 2 % 2 * xt a) ^^^ gmK 6 (xt (xt a)) (2 / 2 / 2)) = xt a
  rw [show 2 / 2 / 2 = 0 from rfl, gmK_zero]; simp
theorem gp_lt (a n : Nat) (_ha : a < 256) : gp a n < 256 := by
  induction n with
  | zero => simp [gp]
  | succ n ih => exact gm_lt _ _ ih
theorem gp_add (a m n : Nat) (ha : a < 256) : gp a (m + n) = gm (gp a m) (gp a n) := by
  induction n with
  | zero => simp [gp, gm_one]
  | succ n ih => rw [← Nat.add_assoc]; simp only [gp]; rw [ih, gm_assoc _ _ _ (gp_lt a m ha) (gp_lt a n ha) ha]
theorem gp_one (a : Nat) (ha : a < 256) : gp a 1 = a := one_gm a ha
theorem gp_sq (a n : Nat) (ha : a < 256) : gp (gm a a) n = gp a (2 * n) := by
  induction n with
  | zero => rfl
  | succ n ih =>
    rw [show 2 * (n + 1) = 2 * n + 2 by omega, gp_add a (2 * n) 2 ha]
    simp only [gp]
    rw [ih, one_gm a ha]
def p255 (a : Nat) : Nat :=
  let p2 := gm (gm a a) a
  let p3 := gm (gm p2 p2) a
  let p4 := gm (gm p3 p3) a
  let p5 := gm (gm p4 p4) a
  let p6 := gm (gm p5 p5) a
  let p7 := gm (gm p6 p6) a
  gm (gm p7 p7) a
theorem p255_gp (a : Nat) (ha : a < 256) : p255 a = gp a 255 := by
  have st : ∀ n, gm (gm (gp a n) (gp a n)) a = gp a (2 * n + 1) := by
    intro n; rw [← gp_add a n n ha, show n + n = 2 * n by omega]; rfl
  unfold p255
  have e1 := st 1
  rw [gp_one a ha] at e1
  simp only [e1, st]
theorem p255_all : ∀ a, a < 256 → a ≠ 0 → p255 a = 1 := by decide +kernel
theorem gp_255 (a : Nat) (ha : a < 256) (h : a ≠ 0) : gp a 255 = 1 := by rw [← p255_gp a ha]; exact p255_all a ha h
theorem gp_mod (a n : Nat) (ha : a < 256) (h : a ≠ 0) : gp a (n % 255) = gp a n := by
  have g : ∀ q r, gp a (255 * q + r) = gp a r := by
    intro q
    induction q with
    | zero => intro r; simp
    | succ q ih => intro r; rw [show 255 * (q + 1) + r = 255 + (255 * q + r) by omega, gp_add a _ _ ha, gp_255 a ha h, one_gm _ (gp_lt a _ ha), ih]
  conv => rhs; rw [show n = 255 * (n / 255) + n % 255 by omega]
  rw [g]
theorem gp_zero (n : Nat) (h : n ≠ 0) : gp 0 n = 0 := by
  obtain ⟨m, rfl⟩ := Nat.exists_eq_succ_of_ne_zero h
  exact gm_zero _
def gi (a : Nat) : Nat := gp a 254
theorem gi_lt (a : Nat) (ha : a < 256) : gi a < 256 := gp_lt a _ ha
theorem gm_gi (a : Nat) (ha : a < 256) (h : a ≠ 0) : gm a (gi a) = 1 := by
  rw [gm_comm a _ ha (gi_lt a ha)]; exact gp_255 a ha h
theorem gi_pos (a : Nat) (ha : a < 256) (h : a ≠ 0) : gi a ≠ 0 := by
  intro e
  have := gm_gi a ha h
  rw [e, gm_zero] at this
  omega
theorem gm_eq_zero (a b : Nat) (ha : a < 256) (hb : b < 256) : gm a b = 0 ↔ a = 0 ∨ b = 0 := by
  constructor
  · intro h
    by_cases hz : a = 0
    · exact .inl hz
    · right
      have : gm (gi a) (gm a b) = 0 := by rw [h, gm_zero]
      rw [gm_assoc _ _ _ (gi_lt a ha) ha hb, gm_comm _ a (gi_lt a ha) ha, gm_gi a ha hz, one_gm b hb] at this
      exact this
  · rintro (rfl | rfl)
    · exact zero_gm b hb
    · exact gm_zero a
theorem gp_ne (a n : Nat) (ha : a < 256) (h : a ≠ 0) : gp a n ≠ 0 := by
  induction n with
  | zero => simp [gp]
  | succ n ih =>
    simp only [gp]
    rw [Ne, gm_eq_zero _ _ (gp_lt a n ha) ha]
    rintro (e | e)
    · exact ih e
    · exact h e
def lgF : Nat → Nat → Nat → Nat
  | 0, _, _ => 0
  | k + 1, p, a => if p = a then 0 else lgF k (xt p) a + 1
def lg (a : Nat) : Nat := lgF 255 1 a
theorem gp2_succ (n : Nat) : gp 2 (n + 1) = xt (gp 2 n) := gm_two _
theorem lgF_at (k n a : Nat) (h : lgF k (gp 2 n) a < k) : gp 2 (n + lgF k (gp 2 n) a) = a := by
  induction k generalizing n with
  | zero => omega
  | succ k ih =>
    unfold lgF at h ⊢
    split
    · rename_i e; rw [Nat.add_zero]; exact e
    · rename_i e
      rw [if_neg e] at h
      rw [← gp2_succ] at h ⊢
      have := ih (n + 1) (by omega)
      rw [show n + (lgF k (gp 2 (n + 1)) a + 1) = n + 1 + lgF k (gp 2 (n + 1)) a by omega]
      exact this
theorem lgF_least (k n a j : Nat) (h : j < lgF k (gp 2 n) a) : gp 2 (n + j) ≠ a := by
  induction k generalizing n j with
  | zero => simp [lgF] at h
  | succ k ih =>
    unfold lgF at h
    split at h
    · omega
    · rename_i e
      rw [← gp2_succ] at h
      match j with
      | 0 => exact e
      | j + 1 => have := ih (n + 1) j (by omega); rw [show n + (j + 1) = n + 1 + j by omega]; exact this
theorem lg_all : ∀ a, a < 256 → a ≠ 0 → lg a < 255 := by decide +kernel
theorem order_all : lgF 254 2 1 = 254 := by decide +kernel
theorem ex_lg (a : Nat) (ha : a < 256) (h : a ≠ 0) : gp 2 (lg a) = a := by
  have := lgF_at 255 0 a (lg_all a ha h)
  rw [Nat.zero_add] at this
  exact this
theorem order_two (k : Nat) (h0 : 0 < k) (h1 : k < 255) : gp 2 k ≠ 1 := by
  have e : gp 2 1 = 2 := by decide
  have := lgF_least 254 1 1 (k - 1) (by rw [e, order_all]; omega)
  rw [show 1 + (k - 1) = k by omega] at this
  exact this
theorem ex_inj_lt (i j : Nat) (hij : i < j) (h : j - i < 255) : gp 2 i ≠ gp 2 j := by
  intro e
  have h2 : gp 2 j = gm (gp 2 i) (gp 2 (j - i)) := by rw [← gp_add 2 _ _ (by omega), show i + (j - i) = j by omega]
  rw [← e] at h2
  have hi := gp_lt 2 i (by omega)
  have hz := gp_ne 2 i (by omega) (by omega)
  have h3 : gm (gi (gp 2 i)) (gp 2 i) = gm (gi (gp 2 i)) (gm (gp 2 i) (gp 2 (j - i))) := by rw [← h2]
  rw [gm_assoc _ _ _ (gi_lt _ hi) hi (gp_lt 2 _ (by omega)), gm_comm _ (gp 2 i) (gi_lt _ hi) hi, gm_gi _ hi hz, one_gm _ (gp_lt 2 _ (by omega))] at h3
  exact order_two (j - i) (by omega) h h3.symm
theorem ex_inj (i j : Nat) (hi : i < 255) (hj : j < 255) (h : gp 2 i = gp 2 j) : i = j := by
  rcases Nat.lt_trichotomy i j with hlt | e | hlt
  · exact absurd h (ex_inj_lt i j hlt (by omega))
  · exact e
  · exact absurd h.symm (ex_inj_lt j i hlt (by omega))
theorem lg_ex (n : Nat) (h : n < 255) : lg (gp 2 n) = n :=
  ex_inj _ _ (lg_all _ (gp_lt 2 n (by omega)) (gp_ne 2 n (by omega) (by omega))) h (ex_lg _ (gp_lt 2 n (by omega)) (gp_ne 2 n (by omega) (by omega)))
set_option linter.unusedVariables false
theorem ret_of {k : IntKind} {a b : Int} (h : a = b) : Ending.returned (.int k a) = .returned (.int k b) := by rw [h]
theorem gfAdd_any (A B : Nat) (ha : A < 256) (hb : B < 256) (w : World) :
    Calls Tryz.prog 231 #[.int .u8 (A : Int), .int .u8 (B : Int)] w fun e w' => e = .returned (.int .u8 ((A ^^^ B : Nat) : Int)) ∧ w' = w := by
  have h := u8_xor_nat A B ha hb
  go_enter Tryz.func231, Tryz.ntmps231
  go_wp2
  go_ret
  exact ⟨rfl, rfl⟩
theorem and128 : ∀ a, a < 256 → a &&& 128 = a / 128 * 128 := by decide +kernel
theorem xt_hi (A : Nat) (h : 128 ≤ A) (h2 : A < 256) : xt A = (A * 2 % 256) ^^^ 29 := by
  unfold xt; rw [show A / 128 % 2 = 1 by omega]
theorem xt_lo (A : Nat) (h : A < 128) : xt A = A * 2 % 256 := by
  unfold xt; rw [show A / 128 % 2 = 0 by omega]; simp
theorem gfDouble_any (A : Nat) (ha : A < 256) (w : World) :
    Calls Tryz.prog 232 #[.int .u8 (A : Int)] w fun e w' => e = .returned (.int .u8 (xt A : Int)) ∧ w' = w := by
  have h : bits .and .u8 (A : Int) 128 = ((A / 128 * 128 : Nat) : Int) := by
    rw [← and128 A ha]; exact u8_and_nat A 128 ha (by omega)
  by_cases hc : A < 128
  · have hx := xt_lo A hc
    rw [show A / 128 * 128 = 0 by omega] at h
    go_enter Tryz.func232, Tryz.ntmps232
    go_wp2_with fail
    go_ret
    exact ⟨ret_of (by rw [hx]; omega), rfl⟩
  · have hx := xt_hi A (by omega) ha
    rw [show A / 128 * 128 = 128 by omega] at h
    go_enter Tryz.func232, Tryz.ntmps232
    go_wp2_with fail
    go_at_call 231
    refine (gfAdd_any (A * 2 % 256) 29 (by omega) (by omega) _).mono ?_
    rintro e w' ⟨rfl, rfl⟩
    go_wp2_with fail
    go_ret
    exact ⟨ret_of (by rw [hx]), rfl⟩
theorem gmK_step (k A B P : Nat) (hB : B ≠ 0) (hk : B < 2 ^ k) :
    ∃ j, k = j + 1 ∧ B / 2 < 2 ^ j ∧ P ^^^ gmK k A B = (P ^^^ (B % 2 * A)) ^^^ gmK j (xt A) (B / 2) := by
  cases k with
  | zero => omega
  | succ j => exact ⟨j, rfl, by rw [Nat.pow_succ] at hk; omega, by rw [Nat.xor_assoc]; rfl⟩
theorem gfMul_any (a b : Nat) (ha : a < 256) (hb : b < 256) (w : World) :
    Calls Tryz.prog 199 #[.int .u8 (a : Int), .int .u8 (b : Int)] w fun e w' => e = .returned (.int .u8 (gm a b : Int)) ∧ w' = w := by
  go_enter Tryz.func199, Tryz.ntmps199
  go_wp2_with fail
  go_loop [0, 1, 5] (fun x y p => ∃ k A B P : Nat, A < 256 ∧ B < 256 ∧ P < 256 ∧ B < 2 ^ k ∧ x = .int .u8 (A : Int) ∧ y = .int .u8 (B : Int) ∧ p = .int .u8 (P : Int) ∧ P ^^^ gmK k A B = gm a b) (fun _ y _ => (intOf y).toNat)
  case atStart => exact ⟨8, a, b, 0, ha, hb, by omega, hb, rfl, rfl, rfl, by rw [Nat.zero_xor]; rfl⟩
  case round =>
    obtain ⟨k, A, B, P, hA, hB, hP, hk, rfl, rfl, rfl, hi⟩ := hrel
    by_cases hz : B = 0
    · subst hz
      go_wp2_with fail
      go_ret
      rw [gmK_zero, Nat.xor_zero] at hi
      exact ⟨ret_of (by rw [hi]), rfl⟩
    · obtain ⟨j, rfl, hj, hst⟩ := gmK_step k A B P hz hk
      rw [hst] at hi
      have HI : Hid ((P ^^^ (B % 2 * A)) ^^^ gmK j (xt A) (B / 2) = gm a b) := hi
      have hx := xt_lt A
      clear hi hst hk
      have h : bits .and .u8 (B : Int) 1 = ((B % 2 : Nat) : Int) := by
        rw [← nat_mask1 B]; exact u8_and_nat B 1 hB (by omega)
      by_cases hodd : B % 2 = 0
      · rw [hodd] at h HI
        go_wp2_with fail
        go_at_call 232
        refine (gfDouble_any A hA _).mono ?_
        rintro e w' ⟨rfl, rfl⟩
        go_wp2_with fail
        go_round
        case rel => exact ⟨j, xt A, B / 2, P, hx, by omega, hP, hj, rfl, rfl, rfl, by have := HI.out; rw [Nat.zero_mul, Nat.xor_zero] at this; exact this⟩
        case measure => simp [intOf]; omega
      · have hodd1 : B % 2 = 1 := by omega
        rw [hodd1] at h HI
        go_wp2_with fail
        go_at_call 231
        refine (gfAdd_any P A hP hA _).mono ?_
        rintro e w' ⟨rfl, rfl⟩
        go_wp2_with fail
        go_at_call 232
        refine (gfDouble_any A hA _).mono ?_
        rintro e w' ⟨rfl, rfl⟩
        go_wp2_with fail
        go_round
        case rel => exact ⟨j, xt A, B / 2, P ^^^ A, hx, by omega, Nat.xor_lt_two_pow (n := 8) hP hA, hj, rfl, rfl, rfl, by have := HI.out; rw [Nat.one_mul] at this; exact this⟩
        case measure => simp [intOf]; omega
def gpow (a : Nat) (n : Int) : Nat := if a = 0 ∧ n ≠ 0 then 0 else gp a (n % 255).toNat
theorem gpow_ne (a : Nat) (n : Int) (h : a ≠ 0) : gpow a n = gp a (n % 255).toNat := by
  unfold gpow; rw [if_neg (fun h' => h h'.1)]
theorem gpow_nat (a n : Nat) (ha : a < 256) : gpow a (n : Int) = gp a n := by
  unfold gpow
  split
  · rename_i h
    rw [h.1, gp_zero n (by omega)]
  · rename_i h
    by_cases hz : a = 0
    · have : n = 0 := by omega
      subst this; rfl
    · rw [show ((n : Int) % 255).toNat = n % 255 by omega, gp_mod a n ha hz]
theorem exponent_any (n : Int) (h0 : -9223372036854775808 ≤ n) (h1 : n ≤ 9223372036854775807) (w : World) :
    Calls Tryz.prog 200 #[.int .i64 n] w fun e w' => e = .returned (.int .i64 (n % 255)) ∧ w' = w := by
  obtain ⟨r, hr⟩ : ∃ r, n.tmod 255 = r := ⟨_, rfl⟩
  have hb : -255 < r ∧ r < 255 ∧ (r + 255) % 255 = n % 255 := by
    have e := Int.tmod_eq_emod (a := n) (b := 255)
    have : (255 : Int).natAbs = 255 := rfl
    split at e <;> omega
  have ht : (r + 255).tmod 255 = n % 255 := by
    rw [Int.tmod_eq_emod_of_nonneg (by omega)]; exact hb.2.2
  obtain ⟨hb1, hb2, _⟩ := hb
  go_enter Tryz.func200, Tryz.ntmps200
  go_wp2_with fail
  go_ret
  exact ⟨rfl, rfl⟩
theorem andMask_i64 (n : Int) (k : Nat) (hk : k < 63) : bits .and .i64 n (2 ^ k - 1 : Nat) = n % (2 ^ k : Nat) := by
  have hp : 0 < 2 ^ k := Nat.pow_pos (by omega)
  have hp2 : 2 ^ k < 2 ^ 63 := Nat.pow_lt_pow_right (by omega) hk
  have hd : 2 ^ k ∣ 2 ^ 64 := Nat.pow_dvd_pow 2 (by omega)
  have h : (BitVec.ofInt 64 n &&& BitVec.ofInt 64 (2 ^ k - 1 : Nat)).toNat = (n % (2 ^ k : Nat)).toNat := by
    rw [BitVec.toNat_and, BitVec.toNat_ofInt, BitVec.ofInt_natCast, BitVec.toNat_ofNat, Nat.mod_eq_of_lt (a := 2 ^ k - 1) (by omega), Nat.and_two_pow_sub_one_eq_mod]
    have e : n % (2 ^ k : Nat) = (n % (2 ^ 64 : Nat)) % (2 ^ k : Nat) := (Int.emod_emod_of_dvd n (Int.ofNat_dvd.2 hd)).symm
    rw [e]
    obtain ⟨m, hm⟩ : ∃ m : Nat, n % (2 ^ 64 : Nat) = (m : Int) := ⟨(n % (2 ^ 64 : Nat)).toNat, by omega⟩
    rw [hm, Int.toNat_natCast, ← Int.natCast_emod, Int.toNat_natCast]
  show IntKind.i64.wrap ((BitVec.ofInt 64 n &&& BitVec.ofInt 64 (2 ^ k - 1 : Nat)).toNat : Int) = _
  have h0 : 0 ≤ n % (2 ^ k : Nat) := Int.emod_nonneg _ (by omega)
  have h1 : n % (2 ^ k : Nat) < (2 ^ k : Nat) := Int.emod_lt_of_pos _ (by omega)
  rw [h, IntWalk.i64_in _ ⟨by omega, by omega⟩]
  omega
theorem gp_even (a n : Nat) (ha : a < 256) (h : n % 2 = 0) : gp (gm a a) (n / 2) = gp a n := by
  rw [gp_sq a _ ha, show 2 * (n / 2) = n by omega]
theorem gp_odd (p a n : Nat) (hp : p < 256) (ha : a < 256) (h : n % 2 = 1) : gm (gm p a) (gp (gm a a) (n / 2)) = gm p (gp a n) := by
  rw [gp_sq a _ ha, ← gm_assoc p a _ hp ha (gp_lt a _ ha)]
  congr 1
  conv => rhs; rw [show n = 1 + 2 * (n / 2) by omega, gp_add a _ _ ha, gp_one a ha]
theorem gfPow_any (a : Nat) (ha : a < 256) (n : Int) (h0 : -9223372036854775808 ≤ n) (h1 : n ≤ 9223372036854775807) (w : World) :
    Calls Tryz.prog 163 #[.int .u8 (a : Int), .int .i64 n] w fun e w' => e = .returned (.int .u8 (gpow a n : Int)) ∧ w' = w := by
  obtain ⟨R, hR⟩ : ∃ R, gpow a n = R := ⟨_, rfl⟩
  rw [hR]
  unfold gpow at hR
  by_cases hz : a = 0 ∧ n ≠ 0
  · rw [if_pos hz] at hR
    subst hR
    obtain ⟨rfl, hn⟩ := hz
    have hn' : (n != 0) = true := by simpa using hn
    go_enter Tryz.func163, Tryz.ntmps163
    go_wp2_with fail
    go_ret
    exact ⟨rfl, rfl⟩
  · rw [if_neg hz] at hR
    have hz' : ¬ ((a : Int) = 0 ∧ ¬ n = 0) := by omega
    obtain ⟨K, hK⟩ : ∃ K : Nat, n % 255 = (K : Int) := ⟨(n % 255).toNat, by omega⟩
    have hK255 : K < 255 := by omega
    rw [hK, Int.toNat_natCast] at hR
    have HR : Hid (gp a K = R) := hR
    have HK : Hid (n % 255 = (K : Int)) := hK
    clear hR hK
    have start : Calls Tryz.prog 200 #[.int .i64 n] w fun e w' => e = .returned (.int .i64 (K : Int)) ∧ w' = w := by
      rw [← HK.out]; exact exponent_any n h0 h1 w
    go_enter Tryz.func163, Tryz.ntmps163
    by_cases ha0 : a = 0
    · have hn0 : n = 0 := by omega
      subst ha0 hn0
      go_wp2_with fail
      go_at_call 200
      refine start.mono ?_
      rintro e w' ⟨rfl, rfl⟩
      go_wp2_with fail
      go_loop [0, 5, 6] (fun x p k => ∃ A P k' : Nat, A < 256 ∧ P < 256 ∧ k' ≤ K ∧ x = .int .u8 (A : Int) ∧ p = .int .u8 (P : Int) ∧ k = .int .i64 (k' : Int) ∧ gm P (gp A k') = R) (fun _ _ k => (intOf k).toNat)
      case atStart => exact ⟨0, 1, K, by omega, by omega, by omega, rfl, rfl, rfl, by rw [one_gm _ (gp_lt _ _ (by omega))]; exact HR.out⟩
      case round =>
        obtain ⟨A, P, k, hA, hP, hk, rfl, rfl, rfl, hi⟩ := hrel
        have HI : Hid (gm P (gp A k) = R) := hi
        clear hi
        have h : bits .and .i64 (k : Int) 1 = ((k % 2 : Nat) : Int) := andMask_i64 (k : Int) 1 (by omega)
        by_cases hz : k = 0
        · subst hz
          go_wp2_with fail
          go_ret
          exact ⟨ret_of (by rw [← HI.out]; simp only [gp]; rw [gm_one]), rfl⟩
        · have hkpos : 0 < k := by omega
          by_cases hodd : k % 2 = 0
          · rw [hodd] at h
            go_wp2_with fail
            go_at_call 199
            refine (gfMul_any A A hA hA _).mono ?_
            rintro e w' ⟨rfl, rfl⟩
            go_wp2_with fail
            go_round
            case rel => exact ⟨gm A A, P, k / 2, gm_lt _ _ hA, hP, by omega, rfl, rfl, by go_num, by rw [gp_even A k hA hodd]; exact HI.out⟩
            case measure => simp [intOf]; omega
          · have hodd1 : k % 2 = 1 := by omega
            rw [hodd1] at h
            go_wp2_with fail
            go_at_call 199
            refine (gfMul_any P A hP hA _).mono ?_
            rintro e w' ⟨rfl, rfl⟩
            go_wp2_with fail
            go_at_call 199
            refine (gfMul_any A A hA hA _).mono ?_
            rintro e w' ⟨rfl, rfl⟩
            go_wp2_with fail
            go_round
            case rel => exact ⟨gm A A, gm P A, k / 2, gm_lt _ _ hA, gm_lt _ _ hP, by omega, rfl, rfl, by go_num, by rw [gp_odd P A k hP hA hodd1]; exact HI.out⟩
            case measure => simp [intOf]; omega
    · have haz : ((a : Int) == 0) = false := by simp; omega
      go_wp2_with fail
      go_at_call 200
      refine start.mono ?_
      rintro e w' ⟨rfl, rfl⟩
      go_wp2_with fail
      go_loop [0, 5, 6] (fun x p k => ∃ A P k' : Nat, A < 256 ∧ P < 256 ∧ k' ≤ K ∧ x = .int .u8 (A : Int) ∧ p = .int .u8 (P : Int) ∧ k = .int .i64 (k' : Int) ∧ gm P (gp A k') = R) (fun _ _ k => (intOf k).toNat)
      case atStart => exact ⟨a, 1, K, by omega, by omega, by omega, rfl, rfl, rfl, by rw [one_gm _ (gp_lt _ _ (by omega))]; exact HR.out⟩
      case round =>
        obtain ⟨A, P, k, hA, hP, hk, rfl, rfl, rfl, hi⟩ := hrel
        have HI : Hid (gm P (gp A k) = R) := hi
        clear hi
        have h : bits .and .i64 (k : Int) 1 = ((k % 2 : Nat) : Int) := andMask_i64 (k : Int) 1 (by omega)
        by_cases hz : k = 0
        · subst hz
          go_wp2_with fail
          go_ret
          exact ⟨ret_of (by rw [← HI.out]; simp only [gp]; rw [gm_one]), rfl⟩
        · have hkpos : 0 < k := by omega
          by_cases hodd : k % 2 = 0
          · rw [hodd] at h
            go_wp2_with fail
            go_at_call 199
            refine (gfMul_any A A hA hA _).mono ?_
            rintro e w' ⟨rfl, rfl⟩
            go_wp2_with fail
            go_round
            case rel => exact ⟨gm A A, P, k / 2, gm_lt _ _ hA, hP, by omega, rfl, rfl, by go_num, by rw [gp_even A k hA hodd]; exact HI.out⟩
            case measure => simp [intOf]; omega
          · have hodd1 : k % 2 = 1 := by omega
            rw [hodd1] at h
            go_wp2_with fail
            go_at_call 199
            refine (gfMul_any P A hP hA _).mono ?_
            rintro e w' ⟨rfl, rfl⟩
            go_wp2_with fail
            go_at_call 199
            refine (gfMul_any A A hA hA _).mono ?_
            rintro e w' ⟨rfl, rfl⟩
            go_wp2_with fail
            go_round
            case rel => exact ⟨gm A A, gm P A, k / 2, gm_lt _ _ hA, gm_lt _ _ hP, by omega, rfl, rfl, by go_num, by rw [gp_odd P A k hP hA hodd1]; exact HI.out⟩
            case measure => simp [intOf]; omega
theorem gi_gpow (a : Nat) (h : a ≠ 0) : gpow a (-1) = gi a := by rw [gpow_ne a _ h]; rfl
theorem gfInv_any (a : Nat) (ha : a < 256) (hz : a ≠ 0) (w : World) :
    Calls Tryz.prog 217 #[.int .u8 (a : Int)] w fun e w' => e = .returned (.tuple #[.int .u8 (gi a : Int), .int .i64 0]) ∧ w' = w := by
  have haz : ¬ (a : Int) = 0 := by omega
  go_enter Tryz.func217, Tryz.ntmps217
  go_wp2_with fail
  go_at_call 163
  refine (gfPow_any a ha (-1) (by decide) (by decide) _).mono ?_
  rw [gi_gpow a hz]
  rintro e w' ⟨rfl, rfl⟩
  go_wp2_with fail
  go_ret2
  exact ⟨rfl, rfl⟩
def co (N j : Nat) : Nat := N / 2 ^ j % 2
theorem co_lt (N j : Nat) : co N j < 2 := Nat.mod_lt _ (by omega)
theorem co_xor (a b j : Nat) : co (a ^^^ b) j = co a j ^^^ co b j := by
  unfold co; rw [Nat.xor_div_two_pow, xor_odd]
theorem co_pow (b j i : Nat) (hb : b < 2) : co (b * 2 ^ j) i = if i = j then b else 0 := by
  have hb' : b = 0 ∨ b = 1 := by omega
  unfold co
  rcases hb' with rfl | rfl
  · simp
  · rw [Nat.one_mul]
    rcases Nat.lt_trichotomy i j with h | h | h
    · rw [if_neg (by omega), show 2 ^ j = 2 * 2 ^ (j - i - 1) * 2 ^ i by rw [Nat.mul_comm 2, ← Nat.pow_succ, ← Nat.pow_add]; congr 1; omega, Nat.mul_div_cancel _ (Nat.pow_pos (by omega))]
      omega
    · subst h; rw [if_pos rfl, Nat.div_self (Nat.pow_pos (by omega))]
    · rw [if_neg (by omega), Nat.div_eq_of_lt (Nat.pow_lt_pow_right (by omega) h)]
theorem xor_bit (p q : Nat) (hp : p < 2) (hq : q < 2) : p ^^^ q = (p + q) % 2 := by
  have hp' : p = 0 ∨ p = 1 := by omega
  have hq' : q = 0 ∨ q = 1 := by omega
  rcases hp' with rfl | rfl <;> rcases hq' with rfl | rfl <;> rfl
def rowOf (N : Nat) : List Value := (List.range 16).map fun j => .int .i64 (co N j : Int)
theorem rowOf_get (N j : Nat) (h : j < 16) : (rowOf N)[j]? = some (.int .i64 (co N j : Int)) := by simp [rowOf, h]
theorem rowOf_set (N j b : Nat) (hb : b < 2) : (rowOf N).set j (.int .i64 (((co N j + b) % 2 : Nat) : Int)) = rowOf (N ^^^ b * 2 ^ j) := by
  unfold rowOf
  apply List.ext_getElem
  · simp
  · intro i h1 h2
    simp only [List.length_set, List.length_map, List.length_range] at h1
    rw [List.getElem_set, List.getElem_map, List.getElem_map, List.getElem_range]
    rw [co_xor, co_pow b j i hb]
    by_cases e : j = i
    · subst e; rw [if_pos rfl, if_pos rfl, xor_bit _ _ (co_lt N j) hb]
    · rw [if_neg e, if_neg (by omega), Nat.xor_zero]
def OwnsC (w : World) (base g N : Nat) : Prop := w.ownsRow base 240 1 (.slice (some ⟨g, 0, none⟩) 16 16) 16 (rowOf N)
theorem OwnsC.cell {w : World} {base g N : Nat} (h : OwnsC w base g N) (j : Nat) (hj : j < 16) : w.cell? ⟨g, j, none⟩ = some (.int .i64 (co N j : Int)) := by
  rw [World.ownsRow.cellAt h j (by omega), rowOf_get N j hj]
theorem OwnsC.frozen {w : World} {base g N : Nat} (h : OwnsC w base g N) (j : Nat) : w.frozen? ⟨g, j, none⟩ = false := World.ownsRow.frozenAt h j
theorem OwnsC.stored {w : World} {base g N : Nat} (h : OwnsC w base g N) (j b : Nat) (hb : b < 2) :
    OwnsC (w.setCell ⟨g, j, none⟩ (.int .i64 (((co N j : Int) + (b : Int)) % 2))) base g (N ^^^ b * 2 ^ j) := by
  have := (World.ownsRow.stored h j (.int .i64 (((co N j + b) % 2 : Nat) : Int))).1
  rw [rowOf_set N j b hb] at this
  have e : (((co N j + b) % 2 : Nat) : Int) = ((co N j : Int) + (b : Int)) % 2 := by omega
  rw [e] at this
  exact this
def rowM : List Value := (List.range 9).map fun j => .int .i64 (co 285 j : Int)
def OwnsM (w : World) (base g : Nat) : Prop := w.ownsRow base 241 1 (.slice (some ⟨g, 0, none⟩) 9 9) 9 rowM
theorem OwnsM.cell {w : World} {base g : Nat} (h : OwnsM w base g) (j : Nat) (hj : j < 9) : w.cell? ⟨g, j, none⟩ = some (.int .i64 (co 285 j : Int)) := by
  rw [World.ownsRow.cellAt h j (by omega)]; simp [rowM, hj]
theorem OwnsM.other {w : World} {base g : Nat} (h : OwnsM w base g) {a : Addr} (ha : a.block ≠ g) (u : Value) : OwnsM (w.setCell a u) base g :=
  ownsRow_setCell_other h (by simp [Value.ownBlock]; exact fun e => ha e.symm) u
open Go.RowKit Go.PlainAid
def gb (a : Nat) (s : ByteArray) (i : Nat) : Int := (gm a (bt s i).toNat : Nat)
def scaleL (a : Nat) (s : ByteArray) (k : Nat) : List Int := (List.range k).map (gb a s)
def scaleB (a : Nat) (s : ByteArray) : ByteArray := strOfNums (scaleL a s s.size)
theorem scaleL_length (a : Nat) (s : ByteArray) (k : Nat) : (scaleL a s k).length = k := by simp [scaleL]
theorem gb_range (a : Nat) (ha : a < 256) (s : ByteArray) (i : Nat) : 0 ≤ gb a s i ∧ gb a s i ≤ 255 := by
  have := gm_lt a (bt s i).toNat ha
  unfold gb; omega
theorem bt_scaleB (a : Nat) (ha : a < 256) (s : ByteArray) (i : Nat) (h : i < s.size) : bt (scaleB a s) i = gb a s i := by
  unfold scaleB
  rw [bt_str _ _ i (by rw [scaleL_length]; exact h)]
  · simp [scaleL]
  · intro x hx
    obtain ⟨j, _, rfl⟩ := List.mem_map.1 hx
    exact gb_range a ha s j
theorem scaleB_size (a : Nat) (s : ByteArray) : (scaleB a s).size = s.size := by unfold scaleB; rw [strOfNums_size, scaleL_length]
theorem gfMul_bt (a : Nat) (ha : a < 256) (s : ByteArray) (k : Nat) (w : World) :
    Calls Tryz.prog 199 #[.int .u8 (bt s k), .int .u8 (a : Int)] w fun e w' => e = .returned (.int .u8 (gb a s k)) ∧ w' = w := by
  have h0 := bt_nonneg s k
  have h1 := bt_le s k
  have := gfMul_any (bt s k).toNat a (by omega) ha w
  rw [Int.toNat_of_nonneg h0, gm_comm _ _ (by omega) ha] at this
  exact this
set_option maxHeartbeats 400000 in
theorem gfScale_any (a : Nat) (ha : a < 256) (s : ByteArray) (w : World) (hs : s.size ≤ maxLen) (hs' : s.size ≤ 281474976710656) :
    Calls Tryz.prog 159 #[.int .u8 (a : Int), .string s] w fun e w' => e = .returned (.string (scaleB a s)) ∧ Below w.heap.size w w' := by
  obtain ⟨i0, hi, hz0, hz1, hz2⟩ := info_parts Tryz.info5
  unfold maxLen at hs
  obtain ⟨n, hn⟩ : ∃ n : Nat, s.size = n := ⟨_, rfl⟩
  have hba := get_bt s
  go_enter Tryz.func159, Tryz.ntmps159
  go_wp2_with (at_make; refine wpList_make_full _ rfl _ _ 22 rfl w.heap.size 5 i0 (.int .u8 0) 1 Tryz.underlying22 hi hz0 hz1 _ _ _ _ n rfl rfl ?c0 ?c1 ?c2 ?c3 ?c4 ?_)
  case c0 => omega
  case c1 => omega
  case c2 => rw [hz2]; omega
  case c3 => unfold maxLen; omega
  case c4 => exact Nat.le_refl _
  intro w1 hown hgrow
  have hbel : Below w.heap.size w w1 := (Below.refl _ _).grown hgrow (Nat.le_refl _) (fun k h => by cases h)
  rw [toList_madeCells_one, ← filled_zero n (fun i => .int .u8 (gb a s i))] at hown
  go_wp2_with fail
  go_loopw [12] (fun i wr => ∃ k : Nat, k ≤ n ∧ i = .int .i64 k ∧ wr.ownsRow w.heap.size 5 1 (.slice (some ⟨w.heap.size, 0, none⟩) n n) n (filled n k (fun i => .int .u8 (gb a s i)) (.int .u8 0)) ∧ Below w.heap.size w wr) (fun i _ => n - (intOf i).toNat)
  case atStart => exact ⟨0, Nat.zero_le _, rfl, hown, hbel⟩
  case round =>
    obtain ⟨k, hk, rfl, hown', hbel'⟩ := hrel
    by_cases hlt : k < n
    · have hcell := hown'.cellAt k (by omega)
      have hfr := hown'.frozenAt k
      have hst := hown'.stored k (.int .u8 (gb a s k))
      rw [filled_set n k (fun i => .int .u8 (gb a s i)) _ hlt] at hst
      obtain ⟨v0, hv0⟩ : ∃ v0, wr.cell? ⟨w.heap.size, k, none⟩ = some v0 := by
        rw [hcell]; exact ⟨_, List.getElem?_eq_getElem (by simp [filled]; exact hlt)⟩
      have hks : k < s.size := by omega
      clear hcell
      go_wp2_with fail
      go_at_call 199
      refine (gfMul_bt a ha s k _).mono ?_
      rintro e w' ⟨rfl, rfl⟩
      go_wp2_with fail
      go_roundw
      case rel => exact ⟨k + 1, by omega, by go_num, hst.1, hbel'.setCell (Nat.le_refl _) _⟩
      case measure => simp [intOf]; omega
    · have hkn : k = n := by omega
      subst hkn
      rw [filled_full] at hown'
      have hconv := run_convert_bytes_arg (P := Tryz.prog) wr 22 5 Tryz.underlying22 Tryz.underlying5 w.heap.size 0 k k (scaleL a s k) (scaleL_length a s k) (fun i hi => by
        rw [Nat.zero_add, hown'.cellAt i (by omega)]
        simp [scaleL, List.getD, hi]) 9 Tryz.underlying9
      go_wp2_with fail
      go_ret
      have hh : scaleB a s = strOfNums (scaleL a s k) := by unfold scaleB; rw [hn]
      exact ⟨by rw [hh]; rfl, hbel'⟩
end Go.Proofs.YtokknmkleceooaaGreatDoor
