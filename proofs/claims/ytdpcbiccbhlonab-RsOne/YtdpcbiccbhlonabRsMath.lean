/- Stripes with double parity, as sums of products: any two chunks are told by the others. -/
import Derived.Test.YtdpcbiccbhlonabMatMake
namespace Go.Proofs.Ytdpcbiccbhlonab
set_option linter.unusedVariables false

/-- How many of the first n are set. -/
def cnt (p : Nat → Bool) : Nat → Nat
  | 0 => 0
  | n + 1 => cnt p n + if p n then 1 else 0
theorem cnt_mono (p : Nat → Bool) {n m : Nat} (h : n ≤ m) : cnt p n ≤ cnt p m := by
  induction m with
  | zero => obtain rfl : n = 0 := by omega
            exact Nat.le_refl _
  | succ m ih =>
    by_cases e : n = m + 1
    · rw [e]; exact Nat.le_refl _
    · have := ih (by omega)
      simp only [cnt]; omega
theorem cnt_step (p : Nat → Bool) {x m : Nat} (h : x < m) (hp : p x = true) : cnt p x + 1 ≤ cnt p m := by
  have := cnt_mono p (show x + 1 ≤ m by omega)
  simp only [cnt, hp] at this
  simpa using this
theorem cnt_le (p : Nat → Bool) (n : Nat) : cnt p n ≤ n := by
  induction n with
  | zero => exact Nat.le_refl _
  | succ n ih => simp only [cnt]; split <;> omega
theorem cnt_not (p : Nat → Bool) (n : Nat) : cnt p n + cnt (fun i => !p i) n = n := by
  induction n with
  | zero => rfl
  | succ n ih => simp only [cnt]; by_cases h : p n = true <;> simp [h] <;> omega
/-- What is used: the first k that are set. -/
def used (T : Nat → Bool) (k : Nat) (i : Nat) : Bool := T i && decide (cnt T i < k)
theorem cnt_used (T : Nat → Bool) (k n : Nat) : cnt (used T k) n = min (cnt T n) k := by
  induction n with
  | zero => simp [cnt]
  | succ n ih =>
    simp only [cnt, ih, used]
    by_cases e : T n = true
    · by_cases h : cnt T n < k
      · simp [e, h]; omega
      · simp [e, h]; omega
    · simp [e]
theorem lost_two {T : Nat → Bool} {k : Nat} (h : k ≤ cnt T (k + 2)) : cnt (fun i => !used T k i) (k + 2) = 2 := by
  have h1 := cnt_not (used T k) (k + 2)
  rw [cnt_used] at h1
  omega
theorem three_lost (q : Nat → Bool) {n x y z : Nat} (hxy : x < y) (hyz : y < z) (hz : z < n) (qx : q x = true) (qy : q y = true) (qz : q z = true) : 3 ≤ cnt q n := by
  have h1 := cnt_step q hxy qx
  have h2 := cnt_step q hyz qy
  have h3 := cnt_step q hz qz
  omega

/-- The rows by which a stripe's chunks take its data chunks. -/
def stM (k : Nat) : Mx := fun i j => if i < k then idM i j else powM (i - k) j
def St (k : Nat) (D : Mx) : Mx := mulM k (stM k) D
theorem St_data {k i : Nat} (h : i < k) (D : Mx) (c : Nat) : St k D i c = D i c := by
  show S k (fun j => stM k i j * D j c) = _
  rw [S_congr (g := fun j => idM i j * D j c) fun j hj => by unfold stM; rw [if_pos h], S_idL h]
theorem St_parity (k r : Nat) (D : Mx) (c : Nat) : St k D (k + r) c = mulM k powM D r c := by
  show S k (fun j => stM k (k + r) j * D j c) = _
  exact S_congr fun j hj => by unfold stM; rw [if_neg (by omega), Nat.add_sub_cancel_left]
theorem S_two {n x y : Nat} {f : Nat → E} (hx : x < n) (hy : y < n) (hxy : x ≠ y) (h : ∀ k, k < n → k ≠ x → k ≠ y → f k = 0) : S n f = f x + f y := by
  have e : S n f = S n (fun k => (if k = x then f x else 0) + (if k = y then f y else 0)) := S_congr fun k hk => by
    by_cases h1 : k = x
    · subst h1; rw [if_pos rfl, if_neg hxy, E.add_zero]
    · rw [if_neg h1, E.zero_add]
      by_cases h2 : k = y
      · subst h2; rw [if_pos rfl]
      · rw [if_neg h2]; exact h k hk h1 h2
  rw [e, S_add]
  congr 1
  · rw [S_one hx (fun k hk hne => if_neg hne), if_pos rfl]
  · rw [S_one hy (fun k hk hne => if_neg hne), if_pos rfl]
theorem pw_ne (i : Nat) : pw two i ≠ 0 := fun e => gp_ne 2 i (by decide) (by decide) (congrArg E.v e)
theorem pw_two_inj {i j : Nat} (hi : i < 255) (hj : j < 255) (h : pw two i = pw two j) : i = j := by
  have h' : gp 2 i = gp 2 j := congrArg E.v h
  rw [← lg_ex i hi, ← lg_ex j hj, h']
theorem powM_zero (j : Nat) : powM 0 j = 1 := by
  show pw two (0 * j) = 1
  rw [Nat.zero_mul]; rfl
theorem powM_one (j : Nat) : powM 1 j = pw two j := by
  show pw two (1 * j) = _
  rw [Nat.one_mul]

theorem no_kernel {k : Nat} (hk : k ≤ 255) {T : Nat → Bool} (hT : k ≤ cnt T (k + 2)) {v : Nat → E} (h : ∀ i, i < k + 2 → used T k i = true → S k (fun j => stM k i j * v j) = 0) : ∀ j, j < k → v j = 0 := by
  have h2 := lost_two hT
  have hd : ∀ i, i < k → v i ≠ 0 → (!used T k i) = true := fun i hi hv => by
    cases e : used T k i with
    | false => rfl
    | true =>
      exfalso
      have h1 := h i (by omega) e
      rw [S_congr (g := fun j => idM i j * v j) fun j hj => by unfold stM; rw [if_pos hi], S_idL hi] at h1
      exact hv h1
  have hp : ∀ r, r < 2 → used T k (k + r) = true → S k (fun j => powM r j * v j) = 0 := fun r hr hu => by
    have h1 := h (k + r) (by omega) hu
    rw [← h1]
    exact S_congr fun j hj => by unfold stM; rw [if_neg (by omega), Nat.add_sub_cancel_left]
  have three : ∀ x y z, x < y → y < z → z < k + 2 → (!used T k x) = true → (!used T k y) = true → (!used T k z) = true → False := fun x y z h1 h3 h4 a b c => by
    have := three_lost (fun i => !used T k i) h1 h3 h4 a b c
    omega
  intro x hx
  apply Classical.byContradiction
  intro hv
  by_cases hy : ∃ y, y < k ∧ y ≠ x ∧ v y ≠ 0
  · obtain ⟨y, hy, hyx, hvy⟩ := hy
    have hu : ∀ r, r < 2 → used T k (k + r) = true := fun r hr => by
      cases e : used T k (k + r) with
      | true => rfl
      | false =>
        exfalso
        have e' : (!used T k (k + r)) = true := by rw [e]; rfl
        rcases Nat.lt_or_ge x y with hlt | hge
        · exact three x y (k + r) hlt (by omega) (by omega) (hd x hx hv) (hd y hy hvy) e'
        · exact three y x (k + r) (by omega) (by omega) (by omega) (hd y hy hvy) (hd x hx hv) e'
    have hz : ∀ j, j < k → j ≠ x → j ≠ y → v j = 0 := fun j hj h1 h3 => by
      apply Classical.byContradiction
      intro hvj
      have a := hd x hx hv
      have b := hd y hy hvy
      have c := hd j hj hvj
      rcases Nat.lt_or_ge x y with q1 | q1 <;> rcases Nat.lt_or_ge x j with q2 | q2 <;> rcases Nat.lt_or_ge y j with q3 | q3
      · exact three x y j q1 q3 (by omega) a b c
      · exact three x j y q2 (by omega) (by omega) a c b
      · omega
      · exact three j x y (by omega) q1 (by omega) c a b
      · exact three y x j (by omega) q2 (by omega) b a c
      · omega
      · exact three y j x q3 (by omega) (by omega) b c a
      · exact three j y x (by omega) (by omega) (by omega) c b a
    have hs : ∀ r, r < 2 → powM r x * v x + powM r y * v y = 0 := fun r hr => by
      rw [← S_two (f := fun j => powM r j * v j) hx hy (fun e => hyx e.symm) (fun j hj h1 h3 => by rw [hz j hj h1 h3, E.mul_zero])]
      exact hp r hr (hu r hr)
    have e0 := hs 0 (by decide)
    have e1 := hs 1 (by decide)
    rw [powM_zero, powM_zero, E.one_mul, E.one_mul] at e0
    rw [powM_one, powM_one, E.of_add e0, ← E.add_mul] at e1
    rcases Classical.em (pw two x + pw two y = 0) with e | e
    · exact hyx (pw_two_inj (by omega) (by omega) (E.of_add e)).symm
    · exact E.mul_ne _ _ e hvy e1
  · have hz : ∀ j, j < k → j ≠ x → v j = 0 := fun j hj h1 => by
      apply Classical.byContradiction
      intro hvj
      exact hy ⟨j, hj, h1, hvj⟩
    have hs : ∀ r, r < 2 → used T k (k + r) = true → powM r x * v x = 0 := fun r hr hu => by
      rw [← S_one (f := fun j => powM r j * v j) hx (fun j hj h1 => by rw [hz j hj h1, E.mul_zero])]
      exact hp r hr hu
    have hno : ∀ r, r < 2 → (!used T k (k + r)) = true := fun r hr => by
      cases e : used T k (k + r) with
      | false => rfl
      | true => exact absurd (hs r hr e) (E.mul_ne _ _ (pw_ne _) hv)
    exact three x (k + 0) (k + 1) (by omega) (by omega) (by omega) (hd x hx hv) (hno 0 (by decide)) (hno 1 (by decide))

/-- The stripe of D has what stands at the places that are used. -/
def Fits (k : Nat) (T : Nat → Bool) (m : Nat) (Y D : Mx) : Prop := ∀ i, i < k + 2 → used T k i = true → ∀ c, c < m → St k D i c = Y i c
theorem fits_one {k : Nat} (hk : k ≤ 255) {T : Nat → Bool} (hT : k ≤ cnt T (k + 2)) {m : Nat} {Y D D' : Mx} (h : Fits k T m Y D) (h' : Fits k T m Y D') : ∀ i, i < k → ∀ c, c < m → D i c = D' i c := by
  intro i hi c hc
  have := no_kernel hk hT (v := fun j => D j c + D' j c) (fun i hi hu => by
    rw [S_congr (g := fun j => stM k i j * D j c + stM k i j * D' j c) fun j hj => E.mul_add _ _ _, S_add]
    show St k D i c + St k D' i c = 0
    rw [h i hi hu c hc, h' i hi hu c hc, E.add_self]) i hi
  exact E.of_add this
theorem St_congr {k : Nat} {D D' : Mx} {c : Nat} (h : ∀ j, j < k → D j c = D' j c) (i : Nat) : St k D i c = St k D' i c :=
  S_congr fun j hj => by rw [h j hj]
theorem fits_all {k : Nat} (hk : k ≤ 255) {T : Nat → Bool} (hT : k ≤ cnt T (k + 2)) {m : Nat} {Y D D' : Mx} (h : Fits k T m Y D) (h' : Fits k T m Y D') (i : Nat) (c : Nat) (hc : c < m) : St k D i c = St k D' i c :=
  St_congr (fun j hj => fits_one hk hT h h' j hj c hc) i

/-- Those that are set, in order. -/
def keptL (T : Nat → Bool) (n : Nat) : List Nat := (List.range n).filter T
theorem keptL_succ (T : Nat → Bool) (n : Nat) : keptL T (n + 1) = keptL T n ++ if T n then [n] else [] := by
  unfold keptL; rw [List.range_succ, List.filter_append]; cases h : T n <;> simp [h]
theorem keptL_length (T : Nat → Bool) (n : Nat) : (keptL T n).length = cnt T n := by
  induction n with
  | zero => rfl
  | succ n ih => rw [keptL_succ, List.length_append, ih]; simp only [cnt]; cases T n <;> simp
theorem keptL_at (T : Nat → Bool) {n i : Nat} (hi : i < n) (hT : T i = true) : (keptL T n)[cnt T i]? = some i := by
  induction n with
  | zero => omega
  | succ n ih =>
    rw [keptL_succ]
    by_cases e : i = n
    · subst e
      rw [List.getElem?_append_right (by rw [keptL_length]; exact Nat.le_refl _), keptL_length, Nat.sub_self, if_pos hT]; rfl
    · rw [List.getElem?_append_left (by rw [keptL_length]; have := cnt_step T (show i < n by omega) hT; omega)]
      exact ih (by omega)
theorem keptL_get (T : Nat → Bool) {n r : Nat} (h : r < cnt T n) : ∃ i, (keptL T n)[r]? = some i ∧ i < n ∧ T i = true ∧ cnt T i = r := by
  induction n with
  | zero => simp [cnt] at h
  | succ n ih =>
    rw [keptL_succ]
    by_cases h' : r < cnt T n
    · obtain ⟨i, h1, h2, h3, h4⟩ := ih h'
      exact ⟨i, by rw [List.getElem?_append_left (by rw [keptL_length]; exact h')]; exact h1, by omega, h3, h4⟩
    · have hT : T n = true := by
        cases e : T n with
        | true => rfl
        | false => rw [cnt, e] at h; simp at h; omega
      have hr : r = cnt T n := by rw [cnt, hT] at h; simp at h; omega
      exact ⟨n, by rw [List.getElem?_append_right (by rw [keptL_length]; omega), keptL_length, hr, Nat.sub_self, if_pos hT]; rfl, by omega, hT, hr.symm⟩
def kidx (T : Nat → Bool) (n r : Nat) : Nat := (keptL T n).getD r 0
theorem kidx_spec (T : Nat → Bool) {n r : Nat} (h : r < cnt T n) : kidx T n r < n ∧ T (kidx T n r) = true ∧ cnt T (kidx T n r) = r := by
  obtain ⟨i, h1, h2, h3, h4⟩ := keptL_get T h
  have : kidx T n r = i := by unfold kidx; rw [List.getD_eq_getElem?_getD, h1]; rfl
  rw [this]; exact ⟨h2, h3, h4⟩
theorem kidx_cnt (T : Nat → Bool) {n i : Nat} (hi : i < n) (hT : T i = true) : kidx T n (cnt T i) = i := by
  unfold kidx; rw [List.getD_eq_getElem?_getD, keptL_at T hi hT]; rfl

/-- The rows of the chunks that are used can be undone. -/
theorem kept_kernel {k : Nat} (hk : k ≤ 255) {T : Nat → Bool} (hT : k ≤ cnt T (k + 2)) {v : Nat → E} (h : ∀ r, r < k → S k (fun j => stM k (kidx T (k + 2) r) j * v j) = 0) : ∀ j, j < k → v j = 0 := by
  refine no_kernel hk hT fun i hi hu => ?_
  have hu' : T i = true ∧ cnt T i < k := by simpa [used] using hu
  have := h (cnt T i) hu'.2
  rw [kidx_cnt T hi hu'.1] at this
  exact this
/-- What the inverse of these rows makes of the chunks fits them. -/
theorem kept_fits {k : Nat} {T : Nat → Bool} {m : Nat} {Y B : Mx} (hB : ∀ r, r < k → ∀ c, c < k → mulM k (fun r j => stM k (kidx T (k + 2) r) j) B r c = idM r c) :
    Fits k T m Y (mulM k B fun r c => Y (kidx T (k + 2) r) c) := by
  intro i hi hu c hc
  have hu' : T i = true ∧ cnt T i < k := by simpa [used] using hu
  have e : St k (mulM k B fun r c => Y (kidx T (k + 2) r) c) i c = mulM k (fun r j => stM k (kidx T (k + 2) r) j) (mulM k B fun r c => Y (kidx T (k + 2) r) c) (cnt T i) c := by
    show S k _ = S k _
    exact S_congr fun j hj => by simp only []; rw [kidx_cnt T hi hu'.1]
  rw [e, ← mulM_assoc]
  show S k (fun j => mulM k (fun r j => stM k (kidx T (k + 2) r) j) B (cnt T i) j * Y (kidx T (k + 2) j) c) = _
  rw [S_congr (g := fun j => idM (cnt T i) j * Y (kidx T (k + 2) j) c) fun j hj => by rw [hB _ hu'.2 j hj], S_idL hu'.2, kidx_cnt T hi hu'.1]
end Go.Proofs.Ytdpcbiccbhlonab
