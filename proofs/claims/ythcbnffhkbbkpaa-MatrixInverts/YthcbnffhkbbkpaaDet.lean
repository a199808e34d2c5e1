/- Plain: determinants by the first row (there are no signs): steps on rows keep them but for a factor, the adjoint undoes; matrices of powers have no kernel. No Go text is named here. -/
import Derived.Test.YthcbnffhkbbkpaaMat
namespace Go.Proofs.Ythcbnffhkbbkpaa

/-- The k-th number, c left out. -/
def skip (c k : Nat) : Nat := if k < c then k else k + 1
theorem skip_lt {c k n : Nat} (h : k < n) : skip c k < n + 1 := by unfold skip; split <;> omega
def D (n : Nat) (M : Mx) : E :=
  match n with
  | 0 => 1
  | k + 1 => S (k + 1) fun c => M 0 c * D k fun r j => M (r + 1) (skip c j)
theorem D_succ (k : Nat) (M : Mx) : D (k + 1) M = S (k + 1) fun c => M 0 c * D k fun r j => M (r + 1) (skip c j) := rfl
theorem D_congr {n : Nat} : ∀ {M N : Mx}, (∀ r, r < n → ∀ c, c < n → M r c = N r c) → D n M = D n N := by
  induction n with
  | zero => intros; rfl
  | succ k ih =>
    intro M N h
    rw [D_succ, D_succ]
    refine S_congr fun c hc => ?_
    rw [h 0 (by omega) c hc, ih fun r hr j hj => h (r + 1) (by omega) (skip c j) (skip_lt hj)]

def setR (i : Nat) (x : Nat → E) (M : Mx) : Mx := fun r c => if r = i then x c else M r c
theorem D_lin {n : Nat} : ∀ (i : Nat) (x y : Nat → E) (s : E) (M : Mx), i < n → D n (setR i (fun c => x c + s * y c) M) = D n (setR i x M) + s * D n (setR i y M) := by
  induction n with
  | zero => intro i x y s M h; omega
  | succ k ih =>
    intro i x y s M h
    rw [D_succ, D_succ, D_succ, ← S_mulL, ← S_add]
    refine S_congr fun c hc => ?_
    cases i with
    | zero =>
      simp only [setR, if_true, Nat.add_one_ne_zero, if_false]
      rw [E.add_mul, E.mul_assoc]
    | succ i =>
      have e : ∀ z : Nat → E, (fun r j => setR (i + 1) z M (r + 1) (skip c j)) = setR i (fun j => z (skip c j)) fun r j => M (r + 1) (skip c j) := by
        intro z; funext r j; simp only [setR, Nat.add_right_cancel_iff]
      have e0 : ∀ z : Nat → E, setR (i + 1) z M 0 c = M 0 c := by intro z; simp [setR]
      rw [e, e, e, e0, e0, e0, ih i (fun j => x (skip c j)) (fun j => y (skip c j)) s _ (by omega), E.mul_add]
      have : M 0 c * (s * D k (setR i (fun j => y (skip c j)) fun r j => M (r + 1) (skip c j))) = s * (M 0 c * D k (setR i (fun j => y (skip c j)) fun r j => M (r + 1) (skip c j))) := by ac_rfl
      rw [this]
theorem setR_self (i : Nat) (M : Mx) : setR i (M i) M = M := by
  funext r c; simp only [setR]; split
  · next h => rw [h]
  · rfl

theorem S_skip {n c : Nat} (g : Nat → E) (hc : c < n + 1) : S n (fun k => g (skip c k)) + g c = S (n + 1) g := by
  induction n with
  | zero =>
    have : c = 0 := by omega
    subst this
    rfl
  | succ k ih =>
    by_cases e : c = k + 1
    · subst e
      show _ = S (k + 1) g + g (k + 1)
      rw [S_congr (g := g) fun j hj => by simp only [skip, if_pos hj]]
    · have h := ih (by omega)
      show S k (fun j => g (skip c j)) + g (skip c k) + g c = S (k + 1) g + g (k + 1)
      rw [← h]
      have : skip c k = k + 1 := by unfold skip; rw [if_neg (by omega)]
      rw [this]
      ac_rfl
theorem S_sym {n : Nat} (f : Nat → Nat → E) (hs : ∀ c d, f c d = f d c) (hd : ∀ c, f c c = 0) : S n (fun c => S n (fun d => f c d)) = 0 := by
  induction n with
  | zero => rfl
  | succ k ih =>
    show S k (fun c => S k (fun d => f c d) + f c k) + (S k (fun d => f k d) + f k k) = 0
    rw [S_add, ih, hd, E.zero_add, E.add_zero, S_congr (f := fun c => f c k) (g := fun d => f k d) fun c _ => hs c k, E.add_self]

def un (c d : Nat) : Nat := if d < c then d else d - 1
theorem skip_un (c d l : Nat) (_h : c ≠ d) : skip c (skip (un c d) l) = skip d (skip (un d c) l) := by
  unfold skip un
  repeat' split
  all_goals omega
theorem un_skip (c k : Nat) : un c (skip c k) = k := by
  unfold skip un
  repeat' split
  all_goals omega
theorem skip_ne (c k : Nat) : c ≠ skip c k := by unfold skip; split <;> omega

theorem D_alt_next {n : Nat} : ∀ (i : Nat) (M : Mx), i + 1 < n → (∀ c, c < n → M i c = M (i + 1) c) → D n M = 0 := by
  induction n with
  | zero => intro i M h; omega
  | succ k ih =>
    intro i M h he
    rw [D_succ]
    cases i with
    | succ i =>
      refine S_zero fun c hc => ?_
      rw [ih i _ (by omega) fun j hj => he (skip c j) (skip_lt hj), E.mul_zero]
    | zero =>
      cases k with
      | zero => omega
      | succ k =>
        obtain ⟨f, hf⟩ : ∃ f : Nat → Nat → E, f = fun c d => if c = d then 0 else M 0 c * M 0 d * D k fun r l => M (r + 2) (skip c (skip (un c d) l)) := ⟨_, rfl⟩
        have e : ∀ c, c < k + 1 + 1 → M 0 c * D (k + 1) (fun r j => M (r + 1) (skip c j)) = S (k + 1 + 1) (f c) := by
          intro c hc
          rw [← S_skip (f c) hc]
          have e0 : f c c = 0 := by rw [hf]; simp
          rw [e0, E.add_zero, D_succ, ← S_mulL]
          refine S_congr fun j hj => ?_
          rw [hf]
          simp only [if_neg (skip_ne c j), un_skip]
          have e1 : M (0 + 1) (skip c j) = M 0 (skip c j) := (he (skip c j) (skip_lt hj)).symm
          rw [e1, ← E.mul_assoc]
        rw [S_congr e]
        refine S_sym f (fun c d => ?_) (fun c => by rw [hf]; simp)
        rw [hf]
        by_cases hcd : c = d
        · subst hcd; rfl
        · simp only [if_neg hcd, if_neg (Ne.symm hcd)]
          have : (fun r l => M (r + 2) (skip c (skip (un c d) l))) = fun r l => M (r + 2) (skip d (skip (un d c) l)) := by
            funext r l; rw [skip_un c d l hcd]
          rw [this, E.mul_comm (M 0 c)]

/-- Where equal rows make nothing, rows may be exchanged. -/
theorem D_swap_of {n i j : Nat} (hi : i < n) (hj : j < n) (hij : i ≠ j) (halt : ∀ M : Mx, (∀ c, c < n → M i c = M j c) → D n M = 0) (M : Mx) : D n (swapR i j M) = D n M := by
  have key : ∀ x y : Nat → E, D n (setR i x (setR j y M)) = D n (setR i y (setR j x M)) := by
    intro x y
    have sw : ∀ x y : Nat → E, setR i x (setR j y M) = setR j y (setR i x M) := by
      intro x y; funext r c; simp only [setR]
      by_cases h1 : r = i
      · subst h1; simp [hij]
      · simp [h1]
    have h0 : D n (setR i (fun c => x c + 1 * y c) (setR j (fun c => x c + 1 * y c) M)) = 0 := by
      refine halt _ fun c _ => ?_
      simp [setR, Ne.symm hij]
    have hx : D n (setR i x (setR j x M)) = 0 := halt _ fun c _ => by simp [setR, Ne.symm hij]
    have hy : D n (setR i y (setR j y M)) = 0 := halt _ fun c _ => by simp [setR, Ne.symm hij]
    rw [D_lin i x y 1 _ hi, sw x, sw y, D_lin j x y 1 _ hj, D_lin j x y 1 _ hj, ← sw x x, ← sw x y, ← sw y x, ← sw y y, hx, hy, E.one_mul, E.one_mul, E.one_mul, E.zero_add, E.add_zero] at h0
    exact E.of_add h0
  have h1 : swapR i j M = setR i (M j) (setR j (M i) M) := by
    funext r c; simp only [swapR, setR]
  have h2 : M = setR i (M i) (setR j (M j) M) := by rw [setR_self, setR_self]
  rw [h1, key, ← h2]

theorem D_alt_lt {n : Nat} : ∀ (d i : Nat) (M : Mx), i + d + 1 < n → (∀ c, c < n → M i c = M (i + d + 1) c) → D n M = 0 := by
  intro d
  induction d with
  | zero => intro i M h he; exact D_alt_next i M h he
  | succ d ih =>
    intro i M h he
    rw [← D_swap_of (i := i + d + 1) (j := i + d + 1 + 1) (by omega) h (by omega) (fun M he => D_alt_next (i + d + 1) M h he) M]
    refine ih i _ (by omega) fun c hc => ?_
    simp only [swapR, if_true, if_neg (show ¬ i = i + d + 1 by omega), if_neg (show ¬ i = i + d + 1 + 1 by omega)]
    exact he c hc
theorem D_alt {n i j : Nat} (hi : i < n) (hj : j < n) (hij : i ≠ j) (M : Mx) (he : ∀ c, c < n → M i c = M j c) : D n M = 0 := by
  rcases Nat.lt_or_gt_of_ne hij with h | h
  · obtain ⟨d, rfl⟩ : ∃ d, j = i + d + 1 := ⟨j - i - 1, by omega⟩
    exact D_alt_lt d i M hj he
  · obtain ⟨d, rfl⟩ : ∃ d, i = j + d + 1 := ⟨i - j - 1, by omega⟩
    exact D_alt_lt d j M hi fun c hc => (he c hc).symm
theorem D_swap {n i j : Nat} (hi : i < n) (hj : j < n) (hij : i ≠ j) (M : Mx) : D n (swapR i j M) = D n M :=
  D_swap_of hi hj hij (fun M he => D_alt hi hj hij M he) M
theorem D_add {n i j : Nat} (hi : i < n) (hj : j < n) (hij : i ≠ j) (s : E) (M : Mx) : D n (addR i j s M) = D n M := by
  have h : addR i j s M = setR j (fun c => M j c + s * M i c) M := by funext r c; simp only [addR, setR]
  rw [h, D_lin j (M j) (M i) s M hj, setR_self, D_alt (i := i) (j := j) hi hj hij (setR j (M i) M) fun c _ => by simp [setR, hij], E.mul_zero, E.add_zero]
theorem D_scale {n i : Nat} (hi : i < n) (s : E) (M : Mx) : D n (scaleR i s M) = s * D n M := by
  have h0 : D n (setR i (fun _ => 0) M) = 0 := by
    have := D_lin i (fun _ => 0) (fun _ => 0) 1 M hi
    simp only [E.one_mul, E.add_self] at this
    exact this
  have h : scaleR i s M = setR i (fun c => (fun _ => 0) c + s * M i c) M := by funext r c; simp only [scaleR, setR, E.zero_add]
  rw [h, D_lin i (fun _ => 0) (M i) s M hi, h0, setR_self, E.zero_add]
theorem D_reach {n m : Nat} {W U : Mx} (h : Reach n m W U) (hm : n ≤ m) : ∃ t : E, t ≠ 0 ∧ D n U = t * D n W := by
  induction h with
  | refl => exact ⟨1, E.one_ne, (E.one_mul _).symm⟩
  | same _ e ih =>
    obtain ⟨t, ht, hD⟩ := ih
    exact ⟨t, ht, (D_congr fun r hr c hc => e r hr c (by omega)).trans hD⟩
  | scale i s _ hi hs ih =>
    obtain ⟨t, ht, hD⟩ := ih
    exact ⟨s * t, E.mul_ne s t hs ht, by rw [D_scale hi, hD, E.mul_assoc]⟩
  | add i j s _ hi hj hij ih =>
    obtain ⟨t, ht, hD⟩ := ih
    exact ⟨t, ht, by rw [D_add hi hj hij, hD]⟩
theorem D_id (n : Nat) : D n idM = 1 := by
  induction n with
  | zero => rfl
  | succ k ih =>
    rw [D_succ, S_one (i := 0) (by omega) fun c _ hc => by simp [idM, Ne.symm hc, E.zero_mul]]
    have : (fun r j => idM (r + 1) (skip 0 j)) = idM := by
      funext r j; simp [idM, skip]
    rw [this, ih]
    simp [idM, E.mul_one]
theorem D_low {n : Nat} : ∀ (c : Nat) (M : Mx), c < n → (∀ r, c ≤ r → r < n → ∀ j, j ≤ c → M r j = 0) → D n M = 0 := by
  induction n with
  | zero => intro c M h; omega
  | succ k ih =>
    intro c M h hz
    rw [D_succ]
    refine S_zero fun j hj => ?_
    cases c with
    | zero =>
      by_cases e : j = 0
      · subst e; rw [hz 0 (by omega) (by omega) 0 (by omega), E.zero_mul]
      · rw [ih 0 _ (by omega) fun r _ hr l hl => ?_, E.mul_zero]
        have : skip j l = 0 := by unfold skip; rw [if_pos (by omega)]; omega
        rw [this]
        exact hz (r + 1) (by omega) (by omega) 0 (by omega)
    | succ c =>
      rw [ih c _ (by omega) fun r hr hr' l hl => ?_, E.mul_zero]
      refine hz (r + 1) (by omega) (by omega) _ ?_
      unfold skip; split <;> omega

/-- The row r on top of the rows but c. -/
def topM (M : Mx) (r c : Nat) : Mx := fun i j => match i with | 0 => M r j | i + 1 => M (skip c i) j
theorem D_top_same {n : Nat} (M : Mx) (c : Nat) (hc : c < n) : D n (topM M c c) = D n M := by
  induction c with
  | zero =>
    refine D_congr fun r _ j _ => ?_
    cases r with
    | zero => rfl
    | succ r => simp [topM, skip]
  | succ c ih =>
    rw [← ih (by omega), ← D_swap (i := 0) (j := c + 1) (by omega) hc (by omega) (topM M c c)]
    refine D_congr fun r _ j _ => ?_
    cases r with
    | zero => simp [topM, swapR, skip]
    | succ r =>
      simp only [topM, swapR, Nat.add_one_ne_zero, if_false, Nat.add_right_cancel_iff]
      by_cases e : r = c
      · subst e; simp [skip]
      · rw [if_neg e]
        unfold skip
        by_cases h : r < c
        · rw [if_pos h, if_pos (by omega)]
        · rw [if_neg h, if_neg (by omega)]
theorem D_top_other {n : Nat} (M : Mx) (r c : Nat) (hr : r < n) (hc : c < n) (hrc : r ≠ c) : D n (topM M r c) = 0 := by
  obtain ⟨i, hi, hi'⟩ : ∃ i, skip c i = r ∧ i + 1 < n := by
    by_cases h : r < c
    · exact ⟨r, by simp [skip, h], by omega⟩
    · refine ⟨r - 1, ?_, by omega⟩
      unfold skip; rw [if_neg (by omega)]; omega
  refine D_alt (i := 0) (j := i + 1) (by omega) hi' (by omega) _ fun j _ => ?_
  simp only [topM]
  rw [hi]
/-- The adjoint, divided by the determinant. -/
def adjM (n : Nat) (M : Mx) : Mx := fun r c => (D (n + 1) M).inv * D n fun i j => M (skip c i) (skip r j)
theorem adj_inverse (n : Nat) (M : Mx) (h : D (n + 1) M ≠ 0) (r c : Nat) (hr : r < n + 1) (hc : c < n + 1) : mulM (n + 1) M (adjM n M) r c = idM r c := by
  unfold mulM adjM
  have e : ∀ k, k < n + 1 → M r k * ((D (n + 1) M).inv * D n fun i j => M (skip c i) (skip k j)) = (D (n + 1) M).inv * (M r k * D n fun i j => M (skip c i) (skip k j)) := by
    intro k _; ac_rfl
  rw [S_congr e, S_mulL]
  have : S (n + 1) (fun k => M r k * D n fun i j => M (skip c i) (skip k j)) = D (n + 1) (topM M r c) := rfl
  rw [this]
  by_cases hrc : r = c
  · subst hrc
    rw [D_top_same M r hr, E.mul_comm, E.mul_inv _ h]
    simp [idM]
  · rw [D_top_other M r c hr hc hrc, E.mul_zero]
    simp [idM, hrc]

/-- Powers. -/
def pw (a : E) (n : Nat) : E := ⟨gp a.v n, gp_lt _ _ a.h⟩
theorem pw_succ (a : E) (n : Nat) : pw a (n + 1) = pw a n * a := rfl
def lagr (x : Nat → E) (c : Nat) : Nat → E → E
  | 0, _ => 1
  | k + 1, y => if k = c then lagr x c k y else lagr x c k y * (y + x k)
theorem lagr_zero (x : Nat → E) (c k j : Nat) (hj : j < k) (hjc : j ≠ c) : lagr x c k (x j) = 0 := by
  induction k with
  | zero => omega
  | succ k ih =>
    unfold lagr
    by_cases e : j = k
    · subst e
      rw [if_neg hjc, E.add_self, E.mul_zero]
    · rw [ih (by omega), E.zero_mul]
      simp
theorem lagr_ne (x : Nat → E) (c k n : Nat) (hk : k ≤ n) (hx : ∀ i, i < n → i ≠ c → x c ≠ x i) : lagr x c k (x c) ≠ 0 := by
  induction k with
  | zero => exact E.one_ne
  | succ k ih =>
    unfold lagr
    split
    · exact ih (by omega)
    · next h => exact E.mul_ne _ _ (ih (by omega)) fun e => hx k (by omega) h (E.of_add e)
theorem lagr_sum {n : Nat} (x v : Nat → E) (c : Nat) (h : ∀ r, r < n → S n (fun j => pw (x j) r * v j) = 0) :
    ∀ k t, t + (if c < k then k - 1 else k) < n → S n (fun j => pw (x j) t * v j * lagr x c k (x j)) = 0 := by
  intro k
  induction k with
  | zero =>
    intro t ht
    rw [← h t (by simpa using ht)]
    exact S_congr fun j _ => E.mul_one _
  | succ k ih =>
    intro t ht
    by_cases e : k = c
    · subst e
      rw [← ih t (by simp at ht ⊢; omega)]
      exact S_congr fun j _ => by simp [lagr]
    · have h1 := ih (t + 1) (by
        by_cases h1 : c < k
        · rw [if_pos (show c < k + 1 by omega)] at ht; rw [if_pos h1]; omega
        · rw [if_neg (show ¬ c < k + 1 by omega)] at ht; rw [if_neg h1]; omega)
      have h2 := ih t (by
        by_cases h1 : c < k
        · rw [if_pos (show c < k + 1 by omega)] at ht; rw [if_pos h1]; omega
        · rw [if_neg (show ¬ c < k + 1 by omega)] at ht; rw [if_neg h1]; omega)
      have : S n (fun j => pw (x j) t * v j * lagr x c (k + 1) (x j)) = S n (fun j => pw (x j) (t + 1) * v j * lagr x c k (x j)) + S n (fun j => pw (x j) t * v j * lagr x c k (x j)) * x k := by
        rw [← S_mulR, ← S_add]
        refine S_congr fun j _ => ?_
        simp only [lagr, if_neg e, pw_succ]
        rw [E.mul_add, E.mul_add]
        congr 1
        · ac_rfl
        · ac_rfl
      rw [this, h1, h2, E.zero_mul, E.add_zero]
theorem powers_kernel {n c : Nat} (x v : Nat → E) (hx : ∀ i j, i < n → j < n → i ≠ j → x i ≠ x j) (hc : c < n) (hv : v c = 1) (h : ∀ r, r < n → S n (fun j => pw (x j) r * v j) = 0) : False := by
  have h1 := lagr_sum x v c h n 0 (by split <;> omega)
  rw [S_one hc fun j hj hjc => by rw [lagr_zero x c n j hj hjc, E.mul_zero], hv, E.mul_one] at h1
  have h2 : pw (x c) 0 = 1 := rfl
  rw [h2, E.one_mul] at h1
  exact lagr_ne x c n n (Nat.le_refl _) (fun i hi hic => hx c i hc hi (Ne.symm hic)) h1
end Go.Proofs.Ythcbnffhkbbkpaa
