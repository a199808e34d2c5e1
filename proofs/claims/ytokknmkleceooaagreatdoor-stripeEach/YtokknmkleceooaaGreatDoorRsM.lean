import Derived.Test.YtokknmkleceooaaGreatDoorMatM
import Derived.Test.YtokknmkleceooaaGreatDoorMatN
import Derived.Maps.AppendAt
import Derived.BigRegion
import Derived.Laws.StructEq
import Derived.ChangeKeysEq
import Derived.Deep.RegionHeld3
import Derived.Laws.OwnMore
import Derived.Deep.RegionWith
namespace Go.Proofs.YtokknmkleceooaaGreatDoor
set_option maxRecDepth 20000
set_option linter.unusedVariables false
def cnt (p : Nat → Bool) : Nat → Nat
  | 0 => 0
  | n + 1 => cnt p n + if p n then 1 else 0
theorem cnt_mono (p : Nat → Bool) {n m : Nat} (h : n ≤ m) : cnt p n ≤ cnt p m := by
  induction m with
  | zero => obtain rfl : n = 0 := by omega
            exact Nat.le_refl _
  | succ m ih =>
    by_cases e : n = m + 1
    · rw [e]; exact Nat.le_refl _
    · have := ih (by omega)
      simp only [cnt]; omega
theorem cnt_step (p : Nat → Bool) {x m : Nat} (h : x < m) (hp : p x = true) : cnt p x + 1 ≤ cnt p m := by
  have := cnt_mono p (show x + 1 ≤ m by omega)
  simp only [cnt, hp] at this
  simpa using this
theorem cnt_le (p : Nat → Bool) (n : Nat) : cnt p n ≤ n := by
  induction n with
  | zero => exact Nat.le_refl _
  | succ n ih => simp only [cnt]; split <;> omega
theorem cnt_not (p : Nat → Bool) (n : Nat) : cnt p n + cnt (fun i => !p i) n = n := by
  induction n with
  | zero => rfl
  | succ n ih => simp only [cnt]; by_cases h : p n = true <;> simp [h] <;> omega
def used (T : Nat → Bool) (k : Nat) (i : Nat) : Bool := T i && decide (cnt T i < k)
theorem cnt_used (T : Nat → Bool) (k n : Nat) : cnt (used T k) n = min (cnt T n) k := by
  induction n with
  | zero => simp [cnt]
  | succ n ih =>
    simp only [cnt, ih, used]
    by_cases e : T n = true
    · by_cases h : cnt T n < k
      · simp [e, h]; omega
      · simp [e, h]; omega
    · simp [e]
theorem lost_two {T : Nat → Bool} {k : Nat} (h : k ≤ cnt T (k + 2)) : cnt (fun i => !used T k i) (k + 2) = 2 := by
  have h1 := cnt_not (used T k) (k + 2)
  rw [cnt_used] at h1
  omega
theorem three_lost (q : Nat → Bool) {n x y z : Nat} (hxy : x < y) (hyz : y < z) (hz : z < n) (qx : q x = true) (qy : q y = true) (qz : q z = true) : 3 ≤ cnt q n := by
  have h1 := cnt_step q hxy qx
  have h2 := cnt_step q hyz qy
  have h3 := cnt_step q hz qz
  omega
def stM (k : Nat) : Mx := fun i j => if i < k then idM i j else powM (i - k) j
def St (k : Nat) (D : Mx) : Mx := mulM k (stM k) D
theorem St_data {k i : Nat} (h : i < k) (D : Mx) (c : Nat) : St k D i c = D i c := by
  show S k (fun j => stM k i j * D j c) = _
  rw [S_congr (g := fun j => idM i j * D j c) fun j hj => by unfold stM; rw [if_pos h], S_idL h]
theorem St_parity (k r : Nat) (D : Mx) (c : Nat) : St k D (k + r) c = mulM k powM D r c := by
  show S k (fun j => stM k (k + r) j * D j c) = _
  exact S_congr fun j hj => by unfold stM; rw [if_neg (by omega), Nat.add_sub_cancel_left]
theorem S_two {n x y : Nat} {f : Nat → E} (hx : x < n) (hy : y < n) (hxy : x ≠ y) (h : ∀ k, k < n → k ≠ x → k ≠ y → f k = 0) : S n f = f x + f y := by
  have e : S n f = S n (fun k => (if k = x then f x else 0) + (if k = y then f y else 0)) := S_congr fun k hk => by
    by_cases h1 : k = x
    · subst h1; rw [if_pos rfl, if_neg hxy, E.add_zero]
    · rw [if_neg h1, E.zero_add]
      by_cases h2 : k = y
      · subst h2; rw [if_pos rfl]
      · rw [if_neg h2]; exact h k hk h1 h2
  rw [e, S_add]
  congr 1
  · rw [S_one hx (fun k hk hne => if_neg hne), if_pos rfl]
  · rw [S_one hy (fun k hk hne => if_neg hne), if_pos rfl]
theorem pw_ne (i : Nat) : pw two i ≠ 0 := fun e => gp_ne 2 i (by decide) (by decide) (congrArg E.v e)
theorem pw_two_inj {i j : Nat} (hi : i < 255) (hj : j < 255) (h : pw two i = pw two j) : i = j := by
  have h' : gp 2 i = gp 2 j := congrArg E.v h
  rw [← lg_ex i hi, ← lg_ex j hj, h']
theorem powM_zero (j : Nat) : powM 0 j = 1 := by
  show pw two (0 * j) = 1
  rw [Nat.zero_mul]; rfl
theorem powM_one (j : Nat) : powM 1 j = pw two j := by
  show pw two (1 * j) = _
  rw [Nat.one_mul]
theorem no_kernel {k : Nat} (hk : k ≤ 255) {T : Nat → Bool} (hT : k ≤ cnt T (k + 2)) {v : Nat → E} (h : ∀ i, i < k + 2 → used T k i = true → S k (fun j => stM k i j * v j) = 0) : ∀ j, j < k → v j = 0 := by
  have h2 := lost_two hT
  have hd : ∀ i, i < k → v i ≠ 0 → (!used T k i) = true := fun i hi hv => by
    cases e : used T k i with
    | false => rfl
    | true =>
      exfalso
      have h1 := h i (by omega) e
      rw [S_congr (g := fun j => idM i j * v j) fun j hj => by unfold stM; rw [if_pos hi], S_idL hi] at h1
      exact hv h1
  have hp : ∀ r, r < 2 → used T k (k + r) = true → S k (fun j => powM r j * v j) = 0 := fun r hr hu => by
    have h1 := h (k + r) (by omega) hu
    rw [← h1]
    exact S_congr fun j hj => by unfold stM; rw [if_neg (by omega), Nat.add_sub_cancel_left]
  have three : ∀ x y z, x < y → y < z → z < k + 2 → (!used T k x) = true → (!used T k y) = true → (!used T k z) = true → False := fun x y z h1 h3 h4 a b c => by
    have := three_lost (fun i => !used T k i) h1 h3 h4 a b c
    omega
  intro x hx
  apply Classical.byContradiction
  intro hv
  by_cases hy : ∃ y, y < k ∧ y ≠ x ∧ v y ≠ 0
  · obtain ⟨y, hy, hyx, hvy⟩ := hy
    have hu : ∀ r, r < 2 → used T k (k + r) = true := fun r hr => by
      cases e : used T k (k + r) with
      | true => rfl
      | false =>
        exfalso
        have e' : (!used T k (k + r)) = true := by rw [e]; rfl
        rcases Nat.lt_or_ge x y with hlt | hge
        · exact three x y (k + r) hlt (by omega) (by omega) (hd x hx hv) (hd y hy hvy) e'
        · exact three y x (k + r) (by omega) (by omega) (by omega) (hd y hy hvy) (hd x hx hv) e'
    have hz : ∀ j, j < k → j ≠ x → j ≠ y → v j = 0 := fun j hj h1 h3 => by
      apply Classical.byContradiction
      intro hvj
      have a := hd x hx hv
      have b := hd y hy hvy
      have c := hd j hj hvj
      rcases Nat.lt_or_ge x y with q1 | q1 <;> rcases Nat.lt_or_ge x j with q2 | q2 <;> rcases Nat.lt_or_ge y j with q3 | q3
      · exact three x y j q1 q3 (by omega) a b c
      · exact three x j y q2 (by omega) (by omega) a c b
      · omega
      · exact three j x y (by omega) q1 (by omega) c a b
      · exact three y x j (by omega) q2 (by omega) b a c
      · omega
      · exact three y j x q3 (by omega) (by omega) b c a
      · exact three j y x (by omega) (by omega) (by omega) c b a
    have hs : ∀ r, r < 2 → powM r x * v x + powM r y * v y = 0 := fun r hr => by
      rw [← S_two (f := fun j => powM r j * v j) hx hy (fun e => hyx e.symm) (fun j hj h1 h3 => by rw [hz j hj h1 h3, E.mul_zero])]
      exact hp r hr (hu r hr)
    have e0 := hs 0 (by decide)
    have e1 := hs 1 (by decide)
    rw [powM_zero, powM_zero, E.one_mul, E.one_mul] at e0
    rw [powM_one, powM_one, E.of_add e0, ← E.add_mul] at e1
    rcases Classical.em (pw two x + pw two y = 0) with e | e
    · exact hyx (pw_two_inj (by omega) (by omega) (E.of_add e)).symm
    · exact E.mul_ne _ _ e hvy e1
  · have hz : ∀ j, j < k → j ≠ x → v j = 0 := fun j hj h1 => by
      apply Classical.byContradiction
      intro hvj
      exact hy ⟨j, hj, h1, hvj⟩
    have hs : ∀ r, r < 2 → used T k (k + r) = true → powM r x * v x = 0 := fun r hr hu => by
      rw [← S_one (f := fun j => powM r j * v j) hx (fun j hj h1 => by rw [hz j hj h1, E.mul_zero])]
      exact hp r hr hu
    have hno : ∀ r, r < 2 → (!used T k (k + r)) = true := fun r hr => by
      cases e : used T k (k + r) with
      | false => rfl
      | true => exact absurd (hs r hr e) (E.mul_ne _ _ (pw_ne _) hv)
    exact three x (k + 0) (k + 1) (by omega) (by omega) (by omega) (hd x hx hv) (hno 0 (by decide)) (hno 1 (by decide))
def Fits (k : Nat) (T : Nat → Bool) (m : Nat) (Y D : Mx) : Prop := ∀ i, i < k + 2 → used T k i = true → ∀ c, c < m → St k D i c = Y i c
theorem fits_one {k : Nat} (hk : k ≤ 255) {T : Nat → Bool} (hT : k ≤ cnt T (k + 2)) {m : Nat} {Y D D' : Mx} (h : Fits k T m Y D) (h' : Fits k T m Y D') : ∀ i, i < k → ∀ c, c < m → D i c = D' i c := by
  intro i hi c hc
  have := no_kernel hk hT (v := fun j => D j c + D' j c) (fun i hi hu => by
    rw [S_congr (g := fun j => stM k i j * D j c + stM k i j * D' j c) fun j hj => E.mul_add _ _ _, S_add]
    show St k D i c + St k D' i c = 0
    rw [h i hi hu c hc, h' i hi hu c hc, E.add_self]) i hi
  exact E.of_add this
theorem St_congr {k : Nat} {D D' : Mx} {c : Nat} (h : ∀ j, j < k → D j c = D' j c) (i : Nat) : St k D i c = St k D' i c :=
  S_congr fun j hj => by rw [h j hj]
theorem fits_all {k : Nat} (hk : k ≤ 255) {T : Nat → Bool} (hT : k ≤ cnt T (k + 2)) {m : Nat} {Y D D' : Mx} (h : Fits k T m Y D) (h' : Fits k T m Y D') (i : Nat) (c : Nat) (hc : c < m) : St k D i c = St k D' i c :=
  St_congr (fun j hj => fits_one hk hT h h' j hj c hc) i
def keptL (T : Nat → Bool) (n : Nat) : List Nat := (List.range n).filter T
theorem keptL_succ (T : Nat → Bool) (n : Nat) : keptL T (n + 1) = keptL T n ++ if T n then [n] else [] := by
  unfold keptL; rw [List.range_succ, List.filter_append]; cases h : T n <;> simp [h]
theorem keptL_length (T : Nat → Bool) (n : Nat) : (keptL T n).length = cnt T n := by
  induction n with
  | zero => rfl
  | succ n ih => rw [keptL_succ, List.length_append, ih]; simp only [cnt]; cases T n <;> simp
theorem keptL_at (T : Nat → Bool) {n i : Nat} (hi : i < n) (hT : T i = true) : (keptL T n)[cnt T i]? = some i := by
  induction n with
  | zero => omega
  | succ n ih =>
    rw [keptL_succ]
    by_cases e : i = n
    · subst e
      rw [List.getElem?_append_right (by rw [keptL_length]; exact Nat.le_refl _), keptL_length, Nat.sub_self, if_pos hT]; rfl
    · rw [List.getElem?_append_left (by rw [keptL_length]; have := cnt_step T (show i < n by omega) hT; omega)]
      exact ih (by omega)
theorem keptL_get (T : Nat → Bool) {n r : Nat} (h : r < cnt T n) : ∃ i, (keptL T n)[r]? = some i ∧ i < n ∧ T i = true ∧ cnt T i = r := by
  induction n with
  | zero => simp [cnt] at h
  | succ n ih =>
    rw [keptL_succ]
    by_cases h' : r < cnt T n
    · obtain ⟨i, h1, h2, h3, h4⟩ := ih h'
      exact ⟨i, by rw [List.getElem?_append_left (by rw [keptL_length]; exact h')]; exact h1, by omega, h3, h4⟩
    · have hT : T n = true := by
        cases e : T n with
        | true => rfl
        | false => rw [cnt, e] at h; simp at h; omega
      have hr : r = cnt T n := by rw [cnt, hT] at h; simp at h; omega
      exact ⟨n, by rw [List.getElem?_append_right (by rw [keptL_length]; omega), keptL_length, hr, Nat.sub_self, if_pos hT]; rfl, by omega, hT, hr.symm⟩
def kidx (T : Nat → Bool) (n r : Nat) : Nat := (keptL T n).getD r 0
theorem kidx_spec (T : Nat → Bool) {n r : Nat} (h : r < cnt T n) : kidx T n r < n ∧ T (kidx T n r) = true ∧ cnt T (kidx T n r) = r := by
  obtain ⟨i, h1, h2, h3, h4⟩ := keptL_get T h
  have : kidx T n r = i := by unfold kidx; rw [List.getD_eq_getElem?_getD, h1]; rfl
  rw [this]; exact ⟨h2, h3, h4⟩
theorem kidx_cnt (T : Nat → Bool) {n i : Nat} (hi : i < n) (hT : T i = true) : kidx T n (cnt T i) = i := by
  unfold kidx; rw [List.getD_eq_getElem?_getD, keptL_at T hi hT]; rfl
theorem kept_kernel {k : Nat} (hk : k ≤ 255) {T : Nat → Bool} (hT : k ≤ cnt T (k + 2)) {v : Nat → E} (h : ∀ r, r < k → S k (fun j => stM k (kidx T (k + 2) r) j * v j) = 0) : ∀ j, j < k → v j = 0 := by
  refine no_kernel hk hT fun i hi hu => ?_
  have hu' : T i = true ∧ cnt T i < k := by simpa [used] using hu
  have := h (cnt T i) hu'.2
  rw [kidx_cnt T hi hu'.1] at this
  exact this
theorem kept_fits {k : Nat} {T : Nat → Bool} {m : Nat} {Y B : Mx} (hB : ∀ r, r < k → ∀ c, c < k → mulM k (fun r j => stM k (kidx T (k + 2) r) j) B r c = idM r c) :
    Fits k T m Y (mulM k B fun r c => Y (kidx T (k + 2) r) c) := by
  intro i hi hu c hc
  have hu' : T i = true ∧ cnt T i < k := by simpa [used] using hu
  have e : St k (mulM k B fun r c => Y (kidx T (k + 2) r) c) i c = mulM k (fun r j => stM k (kidx T (k + 2) r) j) (mulM k B fun r c => Y (kidx T (k + 2) r) c) (cnt T i) c := by
    show S k _ = S k _
    exact S_congr fun j hj => by simp only []; rw [kidx_cnt T hi hu'.1]
  rw [e, ← mulM_assoc]
  show S k (fun j => mulM k (fun r j => stM k (kidx T (k + 2) r) j) B (cnt T i) j * Y (kidx T (k + 2) j) c) = _
  rw [S_congr (g := fun j => idM (cnt T i) j * Y (kidx T (k + 2) j) c) fun j hj => by rw [hB _ hu'.2 j hj], S_idL hu'.2, kidx_cnt T hi hu'.1]
open Go.RowKit Go.PlainAid
theorem inData_any (n : Int) (g : Bool) (hg : g = true ↔ (1 ≤ n ∧ n ≤ 8)) (w : World) : Calls Tryz.prog 62 #[.int .i64 n] w fun e w' => e = .returned (.bool g) ∧ w' = w := by
  by_cases h1 : 1 ≤ n
  · by_cases h2 : n ≤ 8
    · obtain rfl : g = true := hg.2 ⟨h1, h2⟩
      clear hg
      go_enter Tryz.func62, Tryz.ntmps62
      go_wp2
      go_ret
      exact ⟨rfl, rfl⟩
    · obtain rfl : g = false := by
        cases g with
        | false => rfl
        | true => exact absurd (hg.1 rfl).2 h2
      clear hg
      go_enter Tryz.func62, Tryz.ntmps62
      go_wp2
      go_ret
      exact ⟨rfl, rfl⟩
  · obtain rfl : g = false := by
      cases g with
      | false => rfl
      | true => exact absurd (hg.1 rfl).1 h1
    clear hg
    go_enter Tryz.func62, Tryz.ntmps62
    go_wp2
    go_ret
    exact ⟨rfl, rfl⟩
theorem parityRows_any (k : Nat) (h1 : 1 ≤ k) (h8 : k ≤ 8) (w : World) :
    Calls Tryz.prog 64 #[.int .i64 (k : Int)] w fun e w' => Below w.heap.size w w' ∧ ∃ g G, e = .returned (.slice (some ⟨g, 0, none⟩) 2 2) ∧ OwnM w' w.heap.size g 2 k 2 G powM := by
  have hv := vander_any 2 (k : Int) w (by decide) (by decide) (by omega) (by omega)
  have hk2 : ¬ (1 ≤ (2 : Int) ∧ (2 : Int) ≤ 16 ∧ 1 ≤ (k : Int) ∧ (k : Int) ≤ 16) → False := fun h => h ⟨by decide, by decide, by omega, by omega⟩
  go_enter Tryz.func64, Tryz.ntmps64
  go_wp2_with fail
  go_at_call 109
  refine hv.mono ?_
  rintro e w1 ⟨hb, ⟨hno, -⟩ | ⟨n, l, g, G, en, el, -, -, -, -, rfl, hO⟩⟩
  · exact (hk2 hno).elim
  · obtain rfl : n = 2 := by omega
    obtain rfl : l = k := by omega
    clear en el
    go_wp2_with fail
    go_ret
    exact ⟨hb, g, G, rfl, hO⟩
def encE (k : Nat) (M : Nat → Nat) : Int := if 1 ≤ k ∧ k ≤ 8 then (if ∀ c, c < k → M c = M 0 then (if 65536 < M 0 then 5 else 0) else 7) else 2
def encS (k : Nat) (M : Nat → Nat) (Y : Mx) (r : Nat) : ByteArray := if encE k M = 0 then strE (M 0) (mulM k powM Y r) else ⟨#[]⟩
theorem encE_zero {k : Nat} {M : Nat → Nat} : encE k M = 0 ↔ (1 ≤ k ∧ k ≤ 8) ∧ (∀ c, c < k → M c = M 0) ∧ M 0 ≤ 65536 := by
  unfold encE
  split
  · split
    · split
      · constructor
        · intro h; exact absurd h (by decide)
        · intro h; omega
      · rename_i h1 h2 h3; exact ⟨fun _ => ⟨h1, h2, by omega⟩, fun _ => rfl⟩
    · rename_i h1 h2; exact ⟨fun h => absurd h (by decide), fun h => absurd h.2.1 h2⟩
  · rename_i h1; exact ⟨fun h => absurd h (by decide), fun h => absurd h.1 h1⟩
set_option maxHeartbeats 1000000 in
theorem encode_any (a : Option Addr) (k ca : Nat) (M : Nat → Nat) (Y : Mx) (w : World) (hca : k ≤ ca) (hcm : ca ≤ 9223372036854775807) (hT : TxtAt w a k M Y) :
    Calls Tryz.prog 29 #[.slice a k ca] w fun e w' => Below w.heap.size w w' ∧ e = .returned (.tuple #[.string (encS k M Y 0), .string (encS k M Y 1), .int .i64 (encE k M)]) := by
  by_cases hk : 1 ≤ k ∧ k ≤ 8
  · have hin := fun x => inData_any (k : Int) true ⟨fun _ => by omega, fun _ => rfl⟩ x
    have hpr := fun x => parityRows_any k hk.1 hk.2 x
    have hap := fun g G (x : World) (hb : Below w.heap.size w x) (b : Nat) (hO : OwnM x b g 2 k 2 G powM) => apply_any (some ⟨g, 0, none⟩) a 2 k 2 ca (fun _ => k) M powM Y x (by decide) (hO.mat (by unfold maxLen; omega)) hca hcm (hT.below hb)
    have gd : Gd 2 (fun _ => k) := ⟨by decide, by decide, by show 1 ≤ k; omega, by show k ≤ 16; omega, fun _ _ => rfl⟩
    have HK : Hid (1 ≤ k ∧ k ≤ 8) := hk
    have hk9 : (k : Int) ≤ 9223372036854775807 := by omega
    have HG : Hid (Gd 2 (fun _ => k)) := gd
    clear hk hT gd
    go_enter Tryz.func29, Tryz.ntmps29
    go_wp2_with fail
    go_at_call 62
    refine (hin _).mono ?_
    rintro e w' ⟨rfl, rfl⟩
    go_wp2_with fail
    go_at_call 64
    refine (hpr _).mono ?_
    rintro e w1 ⟨hb1, g, G, rfl, hO⟩
    have hap1 := hap g G w1 hb1 _ hO
    clear hap hpr hin
    go_wp2_with fail
    go_at_call 63
    refine hap1.mono ?_
    rintro e w2 ⟨hb2, v, er, rfl, hpost⟩
    have hb02 := hb1.trans (hb2.mono hb1.size)
    rcases hpost with ⟨hno, rfl, rfl⟩ | ⟨-, hno, rfl, rfl⟩ | ⟨-, hyes, h5, rfl, rfl⟩ | ⟨-, hyes, h5, rfl, a', c', rfl, hc1, hc2, hT'⟩
    · exact absurd HG.out hno
    · have HE : Hid (encE k M = 7) := by
        show encE k M = 7
        unfold encE; rw [if_pos HK.out, if_neg (fun h => hno ⟨rfl, h⟩)]
      clear hno hap1
      go_wp2_with fail
      go_ret3
      refine ⟨hb02, ?_⟩
      unfold encS
      rw [HE.out]; rfl
    · have HE : Hid (encE k M = 5) := by
        show encE k M = 5
        unfold encE; rw [if_pos HK.out, if_pos hyes.2, if_pos h5]
      clear hyes h5 hap1
      go_wp2_with fail
      go_ret3
      refine ⟨hb02, ?_⟩
      unfold encS
      rw [HE.out]; rfl
    · have HE : Hid (encE k M = 0) := encE_zero.2 ⟨HK.out, hyes.2, h5⟩
      obtain ⟨b, o, rfl, hc⟩ := hT'.cell (by decide)
      have e0 := hc 0 (by decide)
      have e1 := hc 1 (by decide)
      rw [Nat.add_zero] at e0
      generalize hs0 : strE (M 0) (mulM k powM Y 0) = s0 at e0
      generalize hs1 : strE (M 0) (mulM k powM Y 1) = s1 at e1
      have HS : Hid (s0 = encS k M Y 0 ∧ s1 = encS k M Y 1) := by
        show s0 = encS k M Y 0 ∧ s1 = encS k M Y 1
        unfold encS; rw [if_pos HE.out, if_pos HE.out, hs0, hs1]; exact ⟨rfl, rfl⟩
      clear hyes h5 hap1 hc hT' hs0 hs1
      go_wp2_with fail
      go_quiet (fail)
      go_wp2_with fail
      go_ret3
      refine ⟨below_drewN hb02 _, ?_⟩
      rw [← HS.out.1, ← HS.out.2, HE.out]; rfl
  · have hin := fun x => inData_any (k : Int) false ⟨fun h => Bool.noConfusion h, fun h => absurd (by omega) hk⟩ x
    have hk9 : (k : Int) ≤ 9223372036854775807 := by omega
    have HE : Hid (encE k M = 2) := if_neg hk
    clear hk hT
    go_enter Tryz.func29, Tryz.ntmps29
    go_wp2_with fail
    go_at_call 62
    refine (hin _).mono ?_
    rintro e w' ⟨rfl, rfl⟩
    go_wp2_with fail
    go_ret3
    refine ⟨Below.refl _ _, ?_⟩
    unfold encS
    rw [HE.out]; rfl
theorem measure1_any (s : ByteArray) (m l : Nat) (w : World) (hs : s.size ≤ 9223372036854775807) (hl : l ≤ 9223372036854775807) (hm : w.cell? ⟨m, 0, none⟩ = some (.int .i64 (l : Int))) :
    Calls Tryz.prog 132 #[.string s, .pointer (some ⟨m, 0, none⟩)] w fun e w' => e = .returned (.bool (s.size != l)) ∧ w' = w := by
  obtain ⟨q, hq⟩ : ∃ q, (s.size != l) = q := ⟨_, rfl⟩
  have hq' : ((s.size : Int) != (l : Int)) = q := by
    rw [← hq]
    by_cases h : s.size = l
    · rw [h]; simp
    · have h1 : (s.size != l) = true := by simpa using h
      have h2 : ((s.size : Int) != (l : Int)) = true := by simp; omega
      rw [h1, h2]
  rw [hq]
  clear hq
  go_enter Tryz.func132, Tryz.ntmps132
  go_wp2
  go_ret
  exact ⟨by rw [← hq']; rfl, rfl⟩
def meaE (k : Nat) (M : Nat → Nat) : Int := if ∀ c, c < k → M c = M 0 then (if 65536 < M 0 then 5 else 0) else 7
set_option maxHeartbeats 400000 in
theorem measure_any (a : Option Addr) (n ca : Nat) (M : Nat → Nat) (Y : Mx) (w : World) (h1 : 1 ≤ n) (hn : n ≤ maxLen) (ha : TxtAt w a n M Y) :
    Calls Tryz.prog 86 #[.slice a n ca] w fun e w' => Below w.heap.size w w' ∧ e = .returned (.int .i64 (meaE n M)) := by
  have hmf : ∀ (fn : Fn) (first cap : Array Value) (w : World), (Instr.makeFunc fn first cap).run Tryz.prog w = .ok (.func fn first cap) w := fun _ _ _ _ => rfl
  obtain ⟨l, hl⟩ : ∃ l, M 0 = l := ⟨_, rfl⟩
  have hl9 : l ≤ 9223372036854775807 := by rw [← hl]; exact ha.2 0 (by omega)
  have hcont := fun (m : Nat) (w1 : World) (h : Below w.heap.size w w1) (hm : w1.cell? ⟨m, 0, none⟩ = some (.int .i64 (l : Int))) (g : Bool) (hg : g = true ↔ ¬ ∀ c, c < n → M c = M 0) =>
    containsStr_any 132 (by decide) #[.pointer (some ⟨m, 0, none⟩)] a n ca (fun c => .string (strE (M c) (Y c))) (fun c => M c != l) w1 hn (ha.1.below h (Nat.le_refl _)) (fun r hr => by
      have := measure1_any (strE (M r) (Y r)) m l w1 (by rw [strE_size]; exact ha.2 r hr) hl9 hm
      rw [strE_size] at this
      exact this) g (by
        rw [hg]
        constructor
        · intro h
          apply Classical.byContradiction
          intro hh
          exact h fun c hc => by
            apply Classical.byContradiction
            intro h3
            exact hh ⟨c, hc, by rw [← hl]; simpa using h3⟩
        · rintro ⟨r, hr, h⟩ hh
          rw [hh r hr, hl] at h
          simp at h)
  obtain ⟨b, o, rfl, hc⟩ := ha.cell h1
  have h0 := hc 0 (by omega)
  rw [Nat.add_zero] at h0
  obtain ⟨s, hs⟩ : ∃ s, strE (M 0) (Y 0) = s := ⟨_, rfl⟩
  have hss : s.size = l := by rw [← hs, strE_size, hl]
  rw [hs] at h0
  have hn' : (0 : Int) < (n : Int) := by omega
  have hbel : Below w.heap.size w (w.alloc (.cells #[.int .i64 (l : Int)] 3 (0, 0))) := (Below.refl _ _).alloc (Nat.le_refl _) _
  by_cases hM : ∀ c, c < n → M c = M 0
  · have hcont' := fun m w1 h hm => hcont m w1 h hm false ⟨fun h => Bool.noConfusion h, fun h => absurd hM h⟩
    by_cases h5 : 65536 < l
    · have h5' : (65536 : Int) < (l : Int) := by omega
      have HE : Hid (meaE n M = 5) := by show meaE n M = 5; unfold meaE; rw [if_pos hM, if_pos (by omega)]
      clear hcont hM hl hc ha hs
      go_enter Tryz.func86, Tryz.ntmps86
      go_wp2_with fail
      go_at_call 27
      refine (hcont' _ _ hbel (by go_simp)).mono ?_
      rintro e w' ⟨rfl, rfl⟩
      go_wp2_with fail
      go_ret
      rw [HE.out]
      exact ⟨hbel, rfl⟩
    · have h5' : ¬ (65536 : Int) < (l : Int) := by omega
      have HE : Hid (meaE n M = 0) := by show meaE n M = 0; unfold meaE; rw [if_pos hM, if_neg (by omega)]
      clear hcont hM hl hc ha hs
      go_enter Tryz.func86, Tryz.ntmps86
      go_wp2_with fail
      go_at_call 27
      refine (hcont' _ _ hbel (by go_simp)).mono ?_
      rintro e w' ⟨rfl, rfl⟩
      go_wp2_with fail
      go_ret
      rw [HE.out]
      exact ⟨hbel, rfl⟩
  · have hcont' := fun m w1 h hm => hcont m w1 h hm true ⟨fun _ => hM, fun _ => rfl⟩
    have HE : Hid (meaE n M = 7) := by show meaE n M = 7; unfold meaE; rw [if_neg hM]
    clear hcont hM hl hc ha hs
    go_enter Tryz.func86, Tryz.ntmps86
    go_wp2_with fail
    go_at_call 27
    refine (hcont' _ _ hbel (by go_simp)).mono ?_
    rintro e w' ⟨rfl, rfl⟩
    go_wp2_with fail
    go_ret
    rw [HE.out]
    exact ⟨hbel, rfl⟩
theorem mea_zero {k : Nat} {M : Nat → Nat} : meaE k M = 0 ↔ (∀ c, c < k → M c = M 0) ∧ M 0 ≤ 65536 := by
  unfold meaE
  split
  · split
    · exact ⟨fun h => absurd h (by decide), fun h => by omega⟩
    · rename_i h1 h2; exact ⟨fun _ => ⟨h1, by omega⟩, fun _ => rfl⟩
  · rename_i h; exact ⟨fun h => absurd h (by decide), fun h' => absurd h'.1 h⟩
open Go.RowKit
def Apart (v u : Value) : Prop := v.ownBlock = none ∨ v.ownBlock ≠ u.ownBlock
theorem Apart.symm {v u : Value} (h : Apart v u) : Apart u v := by
  rcases h with h | h
  · cases e : u.ownBlock with
    | none => exact .inl e
    | some g => exact .inr (by rw [h]; simp [e])
  · exact .inr (fun e => h e.symm)
def Txts (w : World) (b o n : Nat) (M : Nat → Nat) (Y : Mx) : Prop := ∀ x, Below w.heap.size w x → ∀ c, c < n → ∃ s : ByteArray, s.size = M c ∧ M c ≤ 9223372036854775807 ∧ x.cell? ⟨b, o + c, none⟩ = some (.string s) ∧ ∀ i, i < M c → bt s i = ((Y c i).v : Int)
theorem Txts.below {w w' : World} {b o n : Nat} {M : Nat → Nat} {Y : Mx} (h : Txts w b o n M Y) (hb : Below w.heap.size w w') : Txts w' b o n M Y := fun x hx => h x (hb.trans (hx.mono hb.size))
theorem strsL_congr {k : Nat} {f g : Nat → ByteArray} (h : ∀ i, i < k → f i = g i) : strsL k f = strsL k g :=
  List.map_congr_left fun i hi => by rw [h i (List.mem_range.1 hi)]
def CutTo (w : World) (base : Nat) (v : Value) (k N : Nat) (ev : Bool) (f : Nat → ByteArray) : Prop :=
  w.ownsRow base 9 1 v k (strsL k f) ∧ (∀ i, i < k → (f i).size ≤ N) ∧ (ev = true → ∀ i, i < k → (f i).size = (f 0).size)
theorem Tryz.guard176 : Tryz.prog.eqGuardType Tryz.prog.depth 176 = false := by kernel_rfl
theorem Tryz.cells19 : Tryz.prog.cellsOf 9 = 1 := by kernel_rfl
theorem beqB (a b : ByteArray) : (a.toList == b.toList) = decide (a = b) := by
  rw [← beq_toListBytes]
  obtain ⟨x⟩ := a
  obtain ⟨y⟩ := b
  show (x == y) = _
  exact Bool.eq_iff_iff.2 (by simp)
theorem eql_pair (w : World) (p q s0 s1 : ByteArray) : (binOp .eql 176 (.agg #[.string p, .string q]) (.agg #[.string s0, .string s1])).run Tryz.prog w = .ok (.bool (decide (p = s0 ∧ q = s1))) w := by
  obtain ⟨i0, hi, hz0, hz1, hz2⟩ := info_parts Tryz.minfo9
  rw [run_eql_struct, show (10000 : Nat) = 9999 + 1 from rfl, run_equalIn_array w 9999 _ _ Tryz.underlying176 hi]
  have h1 : ∀ (xs : Array Value) (j : Nat) (s : ByteArray), xs[j]? = some (.string s) → (part 9 xs (j * 1)).run Tryz.prog w = .ok (.string s) w := fun xs j s h =>
    run_part_plain w (by kernel_rfl) (by rw [Nat.mul_one]; exact h)
  have h2 : ∀ d (a b : ByteArray), (Op.equalIn (d + 1) 9 (.string a) (.string b)).run Tryz.prog w = .ok (a.toList == b.toList) w := fun d a b => run_equalIn_string w d 9 a b Tryz.underlying9
  rw [Tryz.cells19, show List.range 2 = [0, 1] from rfl]
  simp only [Op.eqItems, Sem.run_bind]
  have h2' : ∀ (a b : ByteArray), (Op.equalIn 9999 9 (.string a) (.string b)).run Tryz.prog w = .ok (decide (a = b)) w := fun a b => by rw [← beqB]; exact h2 9998 a b
  rw [h1 _ 0 p rfl]
  simp only [Result.andThen_ok]
  rw [h1 _ 0 s0 rfl]
  simp only [Result.andThen_ok]
  rw [h2']
  simp only [Result.andThen_ok]
  by_cases e0 : p = s0
  · have t0 : (!decide (p = s0)) = false := by simp [e0]
    rw [t0]
    simp only [Bool.false_eq_true, if_false, Sem.run_bind]
    rw [h1 _ 1 q rfl]
    simp only [Result.andThen_ok]
    rw [h1 _ 1 s1 rfl]
    simp only [Result.andThen_ok]
    rw [h2']
    simp only [Result.andThen_ok]
    by_cases e1 : q = s1
    · simp [e0, e1]
    · simp [e0, e1]
  · simp [e0]
def chkB (n : Nat) (M : Nat → Nat) (Y : Mx) : Bool := decide (3 ≤ n ∧ n ≤ 10 ∧ encE (n - 2) M = 0 ∧ encS (n - 2) M Y 0 = strE (M (n - 2)) (Y (n - 2)) ∧ encS (n - 2) M Y 1 = strE (M (n - 1)) (Y (n - 1)))
theorem TxtAt.cut {w : World} {a : Option Addr} {n k : Nat} {M : Nat → Nat} {Y : Mx} (h : TxtAt w a n M Y) (hk : k ≤ n) : TxtAt w a k M Y := by
  refine ⟨?_, fun c hc => h.2 c (by omega)⟩
  rcases h.1 with h0 | ⟨b, o, e, h⟩
  · exact .inl (by omega)
  · exact .inr ⟨b, o, e, fun i hi => h i (by omega)⟩
set_option maxHeartbeats 1000000 in
theorem check_any (a : Option Addr) (n ca : Nat) (M : Nat → Nat) (Y : Mx) (w : World) (hca : n ≤ ca) (hcm : ca ≤ 9223372036854775807) (hT : TxtAt w a n M Y) :
    Calls Tryz.prog 51 #[.slice a n ca] w fun e w' => Below w.heap.size w w' ∧ e = .returned (.bool (chkB n M Y)) := by
  by_cases hn : 3 ≤ n ∧ n ≤ 10
  · obtain ⟨k, rfl⟩ : ∃ k, n = k + 2 := ⟨n - 2, by omega⟩
    have hin := fun x => inData_any (k : Int) true ⟨fun _ => by omega, fun _ => rfl⟩ x
    have henc := encode_any a k ca M Y w (by omega) hcm (hT.cut (by omega))
    have hB : chkB (k + 2) M Y = decide (encE k M = 0 ∧ encS k M Y 0 = strE (M k) (Y k) ∧ encS k M Y 1 = strE (M (k + 1)) (Y (k + 1))) := by
      unfold chkB
      exact decide_eq_decide.2 ⟨fun h => h.2.2, fun h => ⟨hn.1, hn.2, h⟩⟩
    rw [hB]
    obtain ⟨b, o, rfl, hc⟩ := hT.cell (by omega)
    have HC : Hid (∀ x, Below w.heap.size w x → x.cell? ⟨b, o + k, none⟩ = some (.string (strE (M k) (Y k))) ∧ x.cell? ⟨b, o + (k + 1), none⟩ = some (.string (strE (M (k + 1)) (Y (k + 1))))) := fun x hx =>
      ⟨(hx.cell (p := ⟨b, o + k, none⟩) (mcell_lt (hc k (by omega)))).trans (hc k (by omega)), (hx.cell (p := ⟨b, o + (k + 1), none⟩) (mcell_lt (hc (k + 1) (by omega)))).trans (hc (k + 1) (by omega))⟩
    generalize strE (M k) (Y k) = s0 at HC ⊢
    generalize strE (M (k + 1)) (Y (k + 1)) = s1 at HC ⊢
    generalize encS k M Y 0 = p at henc ⊢
    generalize encS k M Y 1 = q at henc ⊢
    generalize encE k M = er at henc ⊢
    have k8 : (k : Int) ≤ 8 := by omega
    have kk : ((k + 2 : Nat) : Int) - 2 = (k : Int) := by omega
    have kca : (k : Int) ≤ (ca : Int) := by omega
    have hca' : k ≤ ca := by omega
    have q1 : (k : Int) < (k : Int) + 2 := by omega
    have q2 : (k : Int) + 1 < (k : Int) + 2 := by omega
    have q3 : IntKind.i64.wrap ((k : Int) + 1) = (k : Int) + 1 := by rw [IntKind.wrap_i64]; omega
    have q4 : ((k : Int) + 1).toNat = k + 1 := by omega
    have q5 : (0 : Int) ≤ (k : Int) + 1 := by omega
    have q6 : ¬ ((k : Int) + 1 < 0) := by omega
    clear hB hT hc hn
    by_cases h0 : er = 0
    · subst h0
      have heql := fun x => eql_pair x p q s0 s1
      have hgu := Tryz.guard176
      go_enter Tryz.func51, Tryz.ntmps51
      go_wp2_with fail
      go_at_call 62
      refine (hin _).mono ?_
      rintro e w' ⟨rfl, rfl⟩
      go_wp2_with fail
      go_at_call 29
      refine henc.mono ?_
      rintro e w2 ⟨hb2, rfl⟩
      obtain ⟨c0, c1⟩ := HC.out w2 hb2
      clear henc hin
      go_wp2_with fail
      go_quiet (fail)
      go_wp2_with fail
      go_ret
      refine ⟨below_drewN hb2 _, ?_⟩
      simp
    · have t0 : (er == 0) = false := by simpa using h0
      clear h0
      go_enter Tryz.func51, Tryz.ntmps51
      go_wp2_with fail
      go_at_call 62
      refine (hin _).mono ?_
      rintro e w' ⟨rfl, rfl⟩
      go_wp2_with fail
      go_at_call 29
      refine henc.mono ?_
      rintro e w2 ⟨hb2, rfl⟩
      obtain ⟨c0, c1⟩ := HC.out w2 hb2
      clear henc hin
      go_wp2_with fail
      go_quiet (fail)
      go_wp2_with fail
      go_ret
      refine ⟨below_drewN hb2 _, ?_⟩
      have : ¬ er = 0 := by simpa using t0
      simp [this]
  · have hin := fun x => inData_any ((n : Int) - 2) false ⟨fun h => Bool.noConfusion h, fun h => absurd (by omega) hn⟩ x
    have hB : chkB n M Y = false := by
      unfold chkB
      exact decide_eq_false fun h => hn ⟨h.1, h.2.1⟩
    rw [hB]
    have n9 : (n : Int) ≤ 9223372036854775807 := by omega
    clear hB hT hn
    go_enter Tryz.func51, Tryz.ntmps51
    go_wp2_with fail
    go_at_call 62
    refine (hin _).mono ?_
    rintro e w' ⟨rfl, rfl⟩
    go_wp2_with fail
    go_ret
    exact ⟨Below.refl _ _, rfl⟩
section
variable {ops : Array Oper} {rest : List Oper} {o : Oper} {a : Act} {Q : Exit → Act → World → Prop}
theorem push_strs_two (hgd : o.guard = none) (s x : Operand) (ho : o.op = .call { callee := .builtin .append, args := #[s, x], argTypes := #[23, 23] })
    (w0 : World) (base : Nat) (v : Value) (k : Nat) (f : Nat → ByteArray) (hA : w0.ownsRow base 9 1 v k (strsL k f)) (hs : a.eval s = v) (p q : ByteArray) (hp : p = f k) (hq : q = f (k + 1))
    (sz : Nat) (hx : a.eval x = .slice (some ⟨sz, 0, none⟩) 2 2) (hsz : sz = w0.heap.size) (hk : k < 1000000000) (hbase : base ≤ w0.heap.size)
    (h : ∀ v' w', w'.ownsRow base 9 1 v' (k + 2) (strsL (k + 2) f) → Below base w0 w' → wpList Tryz.prog ops Q rest (a.put o.dst v') w') :
    wpList Tryz.prog ops Q (o :: rest) a (w0.alloc (.cells #[.string p, .string q] 9 (0, 0))) := by
  subst hsz
  subst hp
  subst hq
  obtain ⟨i0, hi, hz0, hz1, hz2⟩ := info_parts Tryz.minfo9
  refine wpList_append_own _ hgd s x 23 ho base 9 i0 (.string ⟨#[]⟩) 1 16 Tryz.underlying23 hi hz0 hz1 hz2 rfl (by decide) v k _ hs (hA.alloc _) ⟨w0.heap.size, 0, none⟩ 2 2 [.string (f k), .string (f (k + 1))] hx rfl ?_ ?_ ?_ ?_ ?_ ?_
  · intro j u hu
    match j, hu with
    | 0, hu => simp at hu; subst hu; simp [Addr.add]
    | 1, hu => simp at hu; subst hu; simp [Addr.add]
  · intro u hu; simp at hu; rcases hu with rfl | rfl <;> rfl
  · unfold maxLen; omega
  · omega
  · simp; omega
  · intro v' w' hown hgrow _
    have hb0 : Below w0.heap.size w0 (w0.alloc (.cells #[.string (f k), .string (f (k + 1))] 9 (0, 0))) := (Below.refl _ _).alloc (Nat.le_refl _) _
    refine h v' w' (by rw [strsL_succ, strsL_succ, List.append_assoc]; exact hown) ?_
    exact (hb0.mono hbase).grown hgrow (by simp; omega) (fun g hg => (hA.lt g hg).1)
end
theorem cnt_succ_true {T : Nat → Bool} {i : Nat} (h : T i = true) : cnt T (i + 1) = cnt T i + 1 := by simp [cnt, h]
theorem cnt_succ_false {T : Nat → Bool} {i : Nat} (h : T i = false) : cnt T (i + 1) = cnt T i := by simp [cnt, h]
theorem Vals.at {w : World} {a : Option Addr} {n : Nat} {V : Nat → Value} (h : Vals w a n V) : Hid (∀ x, Below w.heap.size w x → ∀ i, i < n → ∃ b o, a = some ⟨b, o, none⟩ ∧ x.cell? ⟨b, o + i, none⟩ = some (V i)) := fun x hx i hi => by
  rcases h with h0 | ⟨b, o, e, h⟩
  · omega
  · exact ⟨b, o, e, (hx.cell (p := ⟨b, o + i, none⟩) (mcell_lt (h i hi))).trans (h i hi)⟩
set_option maxHeartbeats 1000000 in
theorem keptStr_any (a b : Option Addr) (n ca cb : Nat) (F : Nat → ByteArray) (T : Nat → Bool) (w : World) (hn : n ≤ 1000) (ha : Vals w a n fun i => .string (F i)) (hb : Vals w b n fun i => .bool (T i)) :
    Calls Tryz.prog 85 #[.slice a n ca, .slice b n cb] w fun e w' => Below w.heap.size w w' ∧ ∃ v, e = .returned v ∧ w'.ownsRow w.heap.size 9 1 v (cnt T n) (strsL (cnt T n) fun r => F (kidx T n r)) := by
  have HA := ha.at
  have HB := hb.at
  clear ha hb
  go_enter Tryz.func85, Tryz.ntmps85
  go_wp2_with fail
  go_loopw [5, 10] (fun o i wr => ∃ k : Nat, k ≤ n ∧ i = .int .i64 k ∧ Below w.heap.size w wr ∧ wr.ownsRow w.heap.size 9 1 o (cnt T k) (strsL (cnt T k) fun r => F (kidx T n r))) (fun _ i _ => (n : Nat) - (intOf i).toNat)
  case atStart => exact ⟨0, Nat.zero_le _, rfl, Below.refl _ _, World.ownsRow_nil _ _ _ _⟩
  case round =>
    obtain ⟨k, hk, rfl, hbk, hown⟩ := hrel
    by_cases hlt : k < n
    · obtain ⟨b1, o1, rfl, e1⟩ := HA.out wr hbk k hlt
      obtain ⟨b2, o2, rfl, e2⟩ := HB.out wr hbk k hlt
      have kn : (k : Int) < (n : Int) := by omega
      have hcl := cnt_le T k
      cases hT : T k with
      | true =>
        rw [hT] at e2
        have HV : Hid (Value.string (F k) = .string (F (kidx T n (cnt T k)))) := by show _ = _; rw [kidx_cnt T hlt hT]
        have HC : Hid (cnt T (k + 1) = cnt T k + 1) := cnt_succ_true hT
        generalize F k = s at e1 HV
        generalize cnt T k = q at *
        clear hT
        go_wp2_with (at_builtin; refine push_str_at rfl _ _ rfl _ w.heap.size _ q (fun r => F (kidx T n r)) hown rfl _ HV.out _ rfl rfl (by omega) hbk.size ?_)
        intro v' w2 hown2 hb2
        go_wp2_with fail
        go_roundw
        case rel => exact ⟨k + 1, by omega, by go_num, hbk.trans hb2, by rw [HC.out]; exact hown2⟩
        case measure => simp [intOf]; omega
      | false =>
        rw [hT] at e2
        have HC : Hid (cnt T (k + 1) = cnt T k) := cnt_succ_false hT
        generalize F k = s at e1
        clear hT
        go_wp2_with fail
        go_roundw
        case rel => exact ⟨k + 1, by omega, by go_num, hbk, by rw [HC.out]; exact hown⟩
        case measure => simp [intOf]; omega
    · have hkn : n = k := by omega
      subst hkn
      go_wp2_with fail
      go_ret
      exact ⟨hbk, _, rfl, hown⟩
section
variable {ops : Array Oper} {rest : List Oper} {o : Oper} {a : Act} {Q : Exit → Act → World → Prop}
def valsL (k : Nat) (R : Nat → Value) : List Value := (List.range k).map R
theorem valsL_at (k : Nat) (R : Nat → Value) (i : Nat) (h : i < k) : (valsL k R)[i]? = some (R i) := by simp [valsL, h]
theorem valsL_succ (k : Nat) (R : Nat → Value) : valsL (k + 1) R = valsL k R ++ [R k] := by
  unfold valsL; rw [List.range_succ, List.map_append]; rfl
theorem push_val_at (hgd : o.guard = none) (s x : Operand) (t : TypeId) (ho : o.op = .call { callee := .builtin .append, args := #[s, x], argTypes := #[t, t] }) (ht : Tryz.prog.underlying t = some (.slice 22))
    (w0 : World) (base : Nat) (v : Value) (k : Nat) (R : Nat → Value) (hA : w0.ownsRow base 22 1 v k (valsL k R)) (hs : a.eval s = v) (b : Value) (hbv : b = R k) (hone : b.oneCell' = true)
    (sz : Nat) (hx : a.eval x = .slice (some ⟨sz, 0, none⟩) 1 1) (hsz : sz = w0.heap.size) (hk : k < 1000000) (hbase : base ≤ w0.heap.size)
    (h : ∀ v' w', w'.ownsRow base 22 1 v' (k + 1) (valsL (k + 1) R) → Below base w0 w' → wpList Tryz.prog ops Q rest (a.put o.dst v') w') :
    wpList Tryz.prog ops Q (o :: rest) a (w0.alloc (.cells #[b] 22 (0, 0))) := by
  subst hsz
  subst hbv
  obtain ⟨i0, hi, hz0, hz1, hz2⟩ := info_parts Tryz.info22
  refine wpList_append_own _ hgd s x t ho base 22 i0 (.slice none 0 0) 1 24 ht hi hz0 hz1 hz2 rfl (by decide) v k _ hs (hA.alloc _) ⟨w0.heap.size, 0, none⟩ 1 1 [R k] hx rfl ?_ ?_ ?_ ?_ ?_ ?_
  · intro j u hu
    match j, hu with
    | 0, hu => simp at hu; subst hu; simp [Addr.add]
  · intro u hu; simp at hu; subst hu; exact hone
  · unfold maxLen; omega
  · omega
  · simp; omega
  · intro v' w' hown hgrow _
    have hb0 : Below w0.heap.size w0 (w0.alloc (.cells #[R k] 22 (0, 0))) := (Below.refl _ _).alloc (Nat.le_refl _) _
    refine h v' w' (by rw [valsL_succ]; exact hown) ?_
    exact (hb0.mono hbase).grown hgrow (by simp; omega) (fun g hg => (hA.lt g hg).1)
end
set_option maxHeartbeats 1000000 in
theorem keptRow_any (a b : Option Addr) (n ca cb : Nat) (AR : Nat → Option Addr) (L CR : Nat → Nat) (T : Nat → Bool) (w : World) (hn : n ≤ 1000) (ha : Vals w a n fun i => .slice (AR i) (L i) (CR i)) (hb : Vals w b n fun i => .bool (T i)) :
    Calls Tryz.prog 88 #[.slice a n ca, .slice b n cb] w fun e w' => Below w.heap.size w w' ∧ ∃ v, e = .returned v ∧ w'.ownsRow w.heap.size 22 1 v (cnt T n) (valsL (cnt T n) fun r => .slice (AR (kidx T n r)) (L (kidx T n r)) (CR (kidx T n r))) := by
  have HA := ha.at
  have HB := hb.at
  clear ha hb
  go_enter Tryz.func88, Tryz.ntmps88
  go_wp2_with fail
  go_loopw [5, 10] (fun o i wr => ∃ k : Nat, k ≤ n ∧ i = .int .i64 k ∧ Below w.heap.size w wr ∧ wr.ownsRow w.heap.size 22 1 o (cnt T k) (valsL (cnt T k) fun r => .slice (AR (kidx T n r)) (L (kidx T n r)) (CR (kidx T n r)))) (fun _ i _ => (n : Nat) - (intOf i).toNat)
  case atStart => exact ⟨0, Nat.zero_le _, rfl, Below.refl _ _, World.ownsRow_nil _ _ _ _⟩
  case round =>
    obtain ⟨k, hk, rfl, hbk, hown⟩ := hrel
    by_cases hlt : k < n
    · obtain ⟨b1, o1, rfl, e1⟩ := HA.out wr hbk k hlt
      obtain ⟨b2, o2, rfl, e2⟩ := HB.out wr hbk k hlt
      have kn : (k : Int) < (n : Int) := by omega
      have hcl := cnt_le T k
      cases hT : T k with
      | true =>
        rw [hT] at e2
        have HV : Hid (Value.slice (AR k) (L k) (CR k) = .slice (AR (kidx T n (cnt T k))) (L (kidx T n (cnt T k))) (CR (kidx T n (cnt T k)))) := by show _ = _; rw [kidx_cnt T hlt hT]
        have HC : Hid (cnt T (k + 1) = cnt T k + 1) := cnt_succ_true hT
        generalize AR k = ak at e1 HV
        generalize L k = lk at e1 HV
        generalize CR k = ck at e1 HV
        generalize cnt T k = q at *
        clear hT
        go_wp2_with (at_builtin; refine push_val_at rfl _ _ 133 rfl Tryz.underlying133 _ w.heap.size _ q (fun r => .slice (AR (kidx T n r)) (L (kidx T n r)) (CR (kidx T n r))) hown rfl _ HV.out rfl _ rfl rfl (by omega) hbk.size ?_)
        intro v' w2 hown2 hb2
        go_wp2_with fail
        go_roundw
        case rel => exact ⟨k + 1, by omega, by go_num, hbk.trans hb2, by rw [HC.out]; exact hown2⟩
        case measure => simp [intOf]; omega
      | false =>
        rw [hT] at e2
        have HC : Hid (cnt T (k + 1) = cnt T k) := cnt_succ_false hT
        generalize AR k = ak at e1
        generalize L k = lk at e1
        generalize CR k = ck at e1
        clear hT
        go_wp2_with fail
        go_roundw
        case rel => exact ⟨k + 1, by omega, by go_num, hbk, by rw [HC.out]; exact hown⟩
        case measure => simp [intOf]; omega
    · have hkn : n = k := by omega
      subst hkn
      go_wp2_with fail
      go_ret
      exact ⟨hbk, _, rfl, hown⟩
set_option maxHeartbeats 1000000 in
theorem stripeRows_any (k : Nat) (h1 : 1 ≤ k) (h8 : k ≤ 8) (w : World) :
    Calls Tryz.prog 89 #[.int .i64 (k : Int)] w fun e w' => Below w.heap.size w w' ∧ ∃ a c, e = .returned (.slice a (k + 2) c) ∧ MatAt w' a (k + 2) (fun _ => k) (stM k) := by
  have hid := identity_any (k : Int) w (by omega) (by omega)
  have hk2 : ¬ (1 ≤ (k : Int) ∧ (k : Int) ≤ 16) → False := fun h => h ⟨by omega, by omega⟩
  have hpr := fun x => parityRows_any k h1 h8 x
  obtain ⟨j0, hj, hy0, hy1, hy2⟩ := info_parts Tryz.info22
  go_enter Tryz.func89, Tryz.ntmps89
  go_wp2_with fail
  go_at_call 134
  refine hid.mono ?_
  rintro e w1 ⟨hb1, ⟨hno, -⟩ | ⟨n, g, G, en, -, -, rfl, hO⟩⟩
  · exact (hk2 hno).elim
  obtain rfl : n = k := by omega
  clear en hid hk2
  go_wp2_with fail
  go_at_call 64
  refine (hpr _).mono ?_
  rintro e w2 ⟨hb2, g2, G2, rfl, hO2⟩
  have hb02 := hb1.trans (hb2.mono hb1.size)
  have htop := mowns_below hO.top hb2
  rw [filled_full] at htop
  have hc2 : ∀ j, j < 2 → w2.cell? ⟨g2, j, none⟩ = some (rowV n G2 j) := fun j hj => by
    have := hO2.top.cellAt j (by omega)
    rw [filled_full] at this
    rw [this]
    simp [hj]
  have hg1 := (owns_lt hO.top).2
  have HR : Hid (∀ r, r < n → g < G r ∧ w2.ownsRow w.heap.size 5 1 (.slice (some ⟨G r, 0, none⟩) n n) n (bytesL n (idM r))) := fun r hr => ⟨(hO.rows r hr).1, mowns_below (hO.rows r hr).2 hb2⟩
  have HR2 : Hid (∀ r, r < 2 → g < G2 r ∧ w2.ownsRow w1.heap.size 5 1 (.slice (some ⟨G2 r, 0, none⟩) n n) n (bytesL n (powM r))) := fun r hr => ⟨by have := (owns_lt (hO2.rows r hr).2).1; omega, (hO2.rows r hr).2⟩
  clear hpr
  go_wp2_with (at_builtin; refine wpList_append_own _ rfl _ _ 134 rfl w.heap.size 22 j0 (.slice none 0 0) 1 24 Tryz.underlying134 hj hy0 hy1 hy2 rfl (by decide) _ n _ rfl htop ⟨g2, 0, none⟩ 2 2 [rowV n G2 0, rowV n G2 1] rfl rfl ?h1 ?h2 ?h3 ?h4 ?h5 ?_)
  case h1 =>
    intro j u hu
    match j, hu with
    | 0, hu => simp at hu; subst hu; exact hc2 0 (by decide)
    | 1, hu => simp at hu; subst hu; exact hc2 1 (by decide)
  case h2 => intro u hu; simp at hu; rcases hu with rfl | rfl <;> rfl
  case h3 => unfold maxLen; omega
  case h4 => omega
  case h5 => exact hb02.size
  intro v' w3 hown hgrow _
  have hb3 : Below w.heap.size w w3 := hb02.grown hgrow hb02.size (fun b hb => (htop.lt b hb).1)
  have hR3 : ∀ r, r < n → w3.ownsRow w.heap.size 5 1 (.slice (some ⟨G r, 0, none⟩) n n) n (bytesL n (idM r)) := fun r hr => (HR.out r hr).2.kept hgrow (.inr fun e => by have := (HR.out r hr).1; simp [Value.ownBlock] at e; omega)
  have hR4 : ∀ r, r < 2 → w3.ownsRow w1.heap.size 5 1 (.slice (some ⟨G2 r, 0, none⟩) n n) n (bytesL n (powM r)) := fun r hr => (HR2.out r hr).2.kept hgrow (.inr fun e => by have := (HR2.out r hr).1; simp [Value.ownBlock] at e; omega)
  have hM : ∃ a c, v' = .slice a (n + 2) c ∧ MatAt w3 a (n + 2) (fun _ => n) (stM n) := by
    obtain ⟨a, c, rfl, -, hv⟩ := mowns_form hown (fun r => .slice (if r < n then some ⟨G r, 0, none⟩ else some ⟨G2 (r - n), 0, none⟩) n n) (fun i hi => by
      by_cases h : i < n
      · rw [List.getElem?_append_left (by simp; exact h)]
        simp [h, rowV]
      · rw [List.getElem?_append_right (by simp; omega)]
        simp only [List.length_map, List.length_range, if_neg h]
        have : i - n = 0 ∨ i - n = 1 := by omega
        rcases this with e | e <;> rw [e] <;> rfl)
    refine ⟨a, c, rfl, fun r => if r < n then some ⟨G r, 0, none⟩ else some ⟨G2 (r - n), 0, none⟩, fun _ => n, hv, fun r hr => ⟨by show n ≤ maxLen; unfold maxLen; omega, ?_⟩⟩
    by_cases h : r < n
    · simp only [if_pos h]
      refine .inr ⟨G r, 0, rfl, fun c hc => ?_⟩
      have hc' : c < n := hc
      rw [Nat.zero_add, (hR3 r h).cellAt c (by omega), bytesL_at _ _ _ hc']
      simp only [stM, if_pos h]
    · simp only [if_neg h]
      refine .inr ⟨G2 (r - n), 0, rfl, fun c hc => ?_⟩
      have hc' : c < n := hc
      rw [Nat.zero_add, (hR4 (r - n) (by omega)).cellAt c (by omega), bytesL_at _ _ _ hc']
      simp only [stM, if_neg h]
  obtain ⟨a, c, rfl, hM⟩ := hM
  clear hown hgrow htop
  go_wp2_with fail
  go_ret
  exact ⟨hb3, a, c, rfl, hM⟩
set_option maxHeartbeats 1000000 in
theorem apply_own (a l : Option Addr) (n k ca cl : Nat) (L M : Nat → Nat) (A Y : Mx) (w : World) (hn : n ≤ maxLen) (hA : MatAt w a n L A) (hcl : k ≤ cl) (hclm : cl ≤ 9223372036854775807) (hT : TxtAt w l k M Y)
    (gA : Gd n L) (hk : k = L 0) (hM : ∀ c, c < k → M c = M 0) (h5 : M 0 ≤ 65536) :
    Calls Tryz.prog 63 #[.slice a n ca, .slice l k cl] w fun e w' => Below w.heap.size w w' ∧ ∃ a', e = .returned (.tuple #[.slice a' n n, .int .i64 0]) ∧ w'.ownsRow w.heap.size 9 1 (.slice a' n n) n (strsL n fun r => strE (M 0) (mulM k A Y r)) := by
  obtain ⟨i0, hi, hz0, hz1, hz2⟩ := info_parts Tryz.minfo9
  have hg := good_any a n ca L A w hn hA true (mgood_yes gA)
  have hal := fun x (h : Below w.heap.size w x) => alike_any l k cl M Y x (by unfold maxLen; omega) (hT.below h) true ⟨fun _ => hM, fun _ => rfl⟩
  have hT0 : ∀ x, Below w.heap.size w x → Vals x l k (fun c => .string (strE (M 0) (Y c))) := fun x hx => by
    rcases (hT.below hx).1 with h0 | ⟨b, o, rfl, h⟩
    · exact .inl h0
    · exact .inr ⟨b, o, rfl, fun i hi => by show _ = some (Value.string (strE (M 0) (Y i))); rw [← hM i hi]; exact h i hi⟩
  obtain ⟨ba, oa, rfl, hR⟩ := rows_in hA gA
  rw [← hk] at hR
  have k1 : 1 ≤ k := by rw [hk]; exact gA.2.2.1
  have k16 : k ≤ 16 := by rw [hk]; exact gA.2.2.2.1
  have n1 : 1 ≤ n := gA.1
  have n16 : n ≤ 16 := gA.2.1
  obtain ⟨bl, ol, rfl, hcl0⟩ := hT.cell k1
  obtain ⟨m, hm⟩ : ∃ m, M 0 = m := ⟨_, rfl⟩
  rw [hm] at hT0 h5 ⊢
  have HC0 : Hid (∀ x, Below w.heap.size w x → ∃ s : ByteArray, s.size = m ∧ x.cell? ⟨bl, ol, none⟩ = some (.string s)) := fun x hx => by
    have h := hcl0 0 (by omega)
    rw [Nat.add_zero] at h
    exact ⟨_, by rw [strE_size, hm], (hx.cell (p := ⟨bl, ol, none⟩) (mcell_lt h)).trans h⟩
  have HC : Hid (∀ x, Below w.heap.size w x → ∀ r, r < n → ∃ b' o' cr, x.cell? ⟨ba, oa + r, none⟩ = some (.slice (some ⟨b', o', none⟩) k cr) ∧ Calls Tryz.prog 108 #[.slice (some ⟨b', o', none⟩) k cr, .slice (some ⟨bl, ol, none⟩) k cl] x fun e w' => e = .returned (.string (rowTxt m (A r) Y k)) ∧ Below x.heap.size x w') := fun x hx r hr => by
    obtain ⟨b', o', cr, e1, f1⟩ := hR x hx r hr
    exact ⟨b', o', cr, e1, combine_any _ _ k cr cl m (A r) Y x k1 k16 hcl hclm h5 (.inr ⟨b', o', rfl, f1⟩) (hT0 x hx)⟩
  have n0 : (0 : Int) < (n : Int) := by omega
  have n0' : 0 < n := by omega
  have k0 : (0 : Int) < (k : Int) := by omega
  have k0' : 0 < k := by omega
  have t0 : ((k : Int) != (k : Int)) = false := by simp
  clear hR gA hk hM hm hcl0 hT0 hn hA hT
  go_enter Tryz.func63, Tryz.ntmps63
  go_wp2_with fail
  go_at_call 106
  refine hg.mono ?_
  rintro e w1 ⟨rfl, hb1⟩
  obtain ⟨b', o', cr, e1, -⟩ := HC.out w1 hb1 0 n0'
  rw [Nat.add_zero] at e1
  have hal1 := hal w1 hb1
  clear hal hg
  go_wp2_with fail
  go_at_call 107
  refine hal1.mono ?_
  rintro e w2 ⟨rfl, hb2⟩
  have hb02 := hb1.trans (hb2.mono hb1.size)
  obtain ⟨s0, hs0, e2⟩ := HC0.out w2 hb02
  have hs5 : ¬ (65536 : Int) < (m : Int) := by omega
  clear hal1 e1 hb1 hb2
  go_wp2_with (at_make; refine wpList_make_full _ rfl _ _ 23 rfl w2.heap.size 9 i0 (.string ⟨#[]⟩) 1 Tryz.underlying23 hi hz0 hz1 _ _ _ _ n rfl rfl ?c0 ?c1 ?c2 ?c3 ?c4 ?_)
  case c0 => rfl
  case c1 => rfl
  case c2 => rw [hz2]; omega
  case c3 => unfold maxLen; omega
  case c4 => exact Nat.le_refl _
  intro w3 hown hgrow
  have hbel : Below w2.heap.size w2 w3 := (Below.refl _ _).grown hgrow (Nat.le_refl _) (fun k h => by cases h)
  rw [toList_madeCells_one, ← filled_zero n (fun r => .string (rowTxt m (A r) Y k))] at hown
  clear e2 hs0
  go_wp2_with fail
  go_loopw [34] (fun i wr => ∃ r : Nat, r ≤ n ∧ i = .int .i64 r ∧ Below w2.heap.size w2 wr ∧ wr.ownsRow w2.heap.size 9 1 (.slice (some ⟨w2.heap.size, 0, none⟩) n n) n (filled n r (fun r => .string (rowTxt m (A r) Y k)) (.string ⟨#[]⟩))) (fun i _ => (n : Nat) - (intOf i).toNat)
  case atStart => exact ⟨0, Nat.zero_le _, rfl, hbel, hown⟩
  case round =>
    obtain ⟨r, hr, rfl, hbr, hor⟩ := hrel
    by_cases hlt : r < n
    · obtain ⟨b', o', cr, e1, hcomb⟩ := HC.out wr (hb02.trans (hbr.mono hb02.size)) r hlt
      go_wp2_with fail
      go_at_call 108
      refine hcomb.mono ?_
      rintro e w4 ⟨rfl, hb4⟩
      have ho4 := mowns_below hor hb4
      obtain ⟨v0, hcell⟩ : ∃ v0, w4.cell? ⟨w2.heap.size, r, none⟩ = some v0 := by
        rw [ho4.cellAt r (by omega)]; exact ⟨_, List.getElem?_eq_getElem (by simp [filled]; exact hlt)⟩
      have hfr := ho4.frozenAt r
      have hst := (ho4.stored r (.string (rowTxt m (A r) Y k))).1
      rw [filled_set n r (fun r => .string (rowTxt m (A r) Y k)) _ hlt] at hst
      have hb5 := hbr.trans (hb4.mono hbr.size)
      have rn : (r : Int) < (n : Int) := by omega
      clear hcomb e1 ho4
      go_wp2_with fail
      go_roundw
      case rel => exact ⟨r + 1, by omega, by go_num, hb5.setCell (Nat.le_refl _) _, hst⟩
      case measure => simp [intOf]; omega
    · have hrn : r = n := by omega
      subst hrn
      go_wp2_with fail
      go_ret2
      rw [filled_full] at hor
      exact ⟨hb02.trans (hbr.mono hb02.size), _, rfl, owns_mono hor hb02.size⟩
set_option maxHeartbeats 1000000 in
theorem rebuild_any (a b : Option Addr) (k ca cb m : Nat) (T : Nat → Bool) (Y : Mx) (w : World) (k1 : 1 ≤ k) (k8 : k ≤ 8) (hca : k ≤ ca) (hcm : ca ≤ 9223372036854775807) (hm : m ≤ 65536) (hT : k ≤ cnt T (k + 2))
    (hA : TxtAt w a k (fun _ => m) (fun r => Y (kidx T (k + 2) r))) (hB : MatAt w b k (fun _ => k) (fun r => stM k (kidx T (k + 2) r))) :
    Calls Tryz.prog 87 #[.slice a k ca, .slice b k cb] w fun e w' => Below w.heap.size w w' ∧ ∃ v D, e = .returned v ∧ Fits k T m Y D ∧ w'.ownsRow w.heap.size 9 1 v (k + 2) (strsL (k + 2) fun i => strE m (St k D i)) := by
  have hinv := invert_any b k cb (fun _ => k) (fun r => stM k (kidx T (k + 2) r)) w (by unfold maxLen; omega) hB
  have gd : Gd k (fun _ => k) := ⟨k1, by omega, k1, by show k ≤ 16; omega, fun _ _ => rfl⟩
  have hap := fun x a' U (hx : Below w.heap.size w x) (hM : MatAt x a' k (fun _ => k) (rightM k U)) => apply_own a' a k k k ca (fun _ => k) (fun _ => m) (rightM k U) (fun r => Y (kidx T (k + 2) r)) x (by unfold maxLen; omega) hM hca hcm (hA.below hx) gd rfl (fun _ _ => rfl) hm
  have HX : Hid (∀ c U, c < k → Reach k (2 * k) (wideM k fun r => stM k (kidx T (k + 2) r)) U → (∀ r, r < k → ∀ j, j < c → U r j = idM r j) → (∀ r, c ≤ r → r < k → U r c = 0) → False) := fun c U hc hR hu hz => by
    obtain ⟨v, hv, hk⟩ := reach_kernel hR (by omega) hc hu hz
    have := kept_kernel (by omega) hT (v := v) (fun r hr => by
      rw [← hk r hr]
      exact S_congr fun j hj => by simp only [wideM, if_pos hj]) c hc
    rw [hv] at this
    exact E.one_ne this
  have HD : Hid (∀ U, Reach k (2 * k) (wideM k fun r => stM k (kidx T (k + 2) r)) U → (∀ r, r < k → ∀ j, j < k → U r j = idM r j) → Fits k T m Y (mulM k (rightM k U) fun r c => Y (kidx T (k + 2) r) c)) := fun U hR hu => kept_fits (reach_done hR hu).2
  have HG : Hid (Gd k (fun _ => k)) := gd
  clear hA hB gd hT
  go_enter Tryz.func87, Tryz.ntmps87
  go_wp2_with fail
  go_at_call 133
  refine hinv.mono ?_
  rintro e w1 ⟨hb1, ⟨hno, -⟩ | ⟨-, hno, -⟩ | ⟨-, -, -, c, U, hc, hR, hu, hz⟩ | ⟨-, -, a', U, rfl, hM, hR, hu⟩⟩
  · exact absurd HG.out hno
  · exact absurd rfl hno
  · exact (HX.out c U hc hR hu hz).elim
  have HF : Hid (Fits k T m Y (mulM k (rightM k U) fun r c => Y (kidx T (k + 2) r) c)) := HD.out U hR hu
  have hap1 := hap w1 a' U hb1 hM
  clear hinv hap hR hu hM
  generalize (mulM k (rightM k U) fun r c => Y (kidx T (k + 2) r) c) = D at hap1 HF
  go_wp2_with fail
  go_at_call 63
  refine hap1.mono ?_
  rintro e w2 ⟨hb2, a2, rfl, hown⟩
  have hb02 := hb1.trans (hb2.mono hb1.size)
  have hT2 : TxtAt w2 a2 k (fun _ => m) D := by
    obtain ⟨x, y, e, h1, h2, h3⟩ := txt_of_owns hown hm
    cases e; exact h3
  have henc := encode_any a2 k k (fun _ => m) D w2 (Nat.le_refl _) (by omega) hT2
  have hz : encE k (fun _ => m) = 0 := encE_zero.2 ⟨⟨k1, k8⟩, fun _ _ => rfl, hm⟩
  have hs0 : encS k (fun _ => m) D 0 = strE m (St k D k) := by
    unfold encS; rw [if_pos hz]
    exact strE_congr fun c hc => (St_parity k 0 D c).symm
  have hs1 : encS k (fun _ => m) D 1 = strE m (St k D (k + 1)) := by
    unfold encS; rw [if_pos hz]
    exact strE_congr fun c hc => (St_parity k 1 D c).symm
  rw [hz, hs0, hs1] at henc
  have hown' : w2.ownsRow w1.heap.size 9 1 (.slice a2 k k) k (strsL k fun i => strE m (St k D i)) := by
    have : (strsL k fun i => strE m (St k D i)) = strsL k fun r => strE m (D r) := strsL_congr fun i hi => strE_congr fun c hc => St_data hi D c
    rw [this]; exact hown
  have hown'' := owns_mono hown' hb1.size
  clear hap1 hown hown' hz hs0 hs1 hT2
  have HP : Hid (strE m (St k D k) = (fun i => strE m (St k D i)) k ∧ strE m (St k D (k + 1)) = (fun i => strE m (St k D i)) (k + 1)) := ⟨rfl, rfl⟩
  generalize strE m (St k D k) = p at henc HP
  generalize strE m (St k D (k + 1)) = q at henc HP
  go_wp2_with fail
  go_at_call 29
  refine henc.mono ?_
  rintro e w3 ⟨hb3, rfl⟩
  have hb03 := hb02.trans (hb3.mono hb02.size)
  have hown3 := mowns_below hown'' hb3
  clear henc hown''
  go_wp2_with (at_builtin; refine push_strs_two rfl _ _ rfl _ w.heap.size _ k (fun i => strE m (St k D i)) hown3 rfl _ _ HP.out.1 HP.out.2 _ rfl rfl (by omega) hb03.size ?_)
  intro v' w4 hown4 hb4
  go_wp2_with fail
  go_ret
  exact ⟨hb03.trans hb4, _, D, rfl, HF.out, hown4⟩
theorem MatAt.cut {w : World} {a : Option Addr} {n k : Nat} {L : Nat → Nat} {X : Mx} (h : MatAt w a n L X) (hk : k ≤ n) : MatAt w a k L X := by
  obtain ⟨AR, CR, h1, h2⟩ := h
  refine ⟨AR, CR, ?_, fun r hr => h2 r (by omega)⟩
  rcases h1 with h0 | ⟨b, o, e, h⟩
  · exact .inl (by omega)
  · exact .inr ⟨b, o, e, fun i hi => h i (by omega)⟩
theorem keptMat_any (a b : Option Addr) (n ca cb k : Nat) (X : Mx) (T : Nat → Bool) (w : World) (hn : n ≤ 1000) (ha : MatAt w a n (fun _ => k) X) (hb : Vals w b n fun i => .bool (T i)) :
    Calls Tryz.prog 88 #[.slice a n ca, .slice b n cb] w fun e w' => Below w.heap.size w w' ∧ ∃ a' c', e = .returned (.slice a' (cnt T n) c') ∧ cnt T n ≤ c' ∧ c' ≤ 9223372036854775807 ∧ MatAt w' a' (cnt T n) (fun _ => k) (fun r => X (kidx T n r)) := by
  obtain ⟨AR, CR, h1, h2⟩ := ha
  refine (keptRow_any a b n ca cb AR (fun _ => k) CR T w hn h1 hb).mono ?_
  rintro e w' ⟨hbel, v, rfl, hown⟩
  obtain ⟨a', c', rfl, -, hv⟩ := mowns_form hown _ (fun i hi => valsL_at _ _ i hi)
  refine ⟨hbel, a', c', rfl, ?_, ?_, fun r => AR (kidx T n r), fun r => CR (kidx T n r), hv, fun r hr => ?_⟩
  · rcases hown.2 with ⟨h0, h3⟩ | ⟨g, cap, cur, e, _, _, h3, _⟩
    · omega
    · cases e; exact h3
  · rcases hown.2 with ⟨h0, h3⟩ | ⟨g, cap, cur, e, _, _, _, h3, _⟩
    · injection h0 with _ _ h4; omega
    · cases e; unfold maxLen at h3; omega
  · have hs := kidx_spec T hr
    exact ⟨(h2 _ hs.1).1, (h2 _ hs.1).2.below hbel (Nat.le_refl _)⟩
def DecPost (n nb : Nat) (T : Nat → Bool) (M : Nat → Nat) (Y : Mx) (v : Value) (er : Int) (w' : World) (base : Nat) : Prop :=
  (¬ (3 ≤ n ∧ n ≤ 10 ∧ nb = n) ∧ v = .slice none 0 0 ∧ er = 2) ∨
  ((3 ≤ n ∧ n ≤ 10 ∧ nb = n) ∧ cnt T n < n - 2 ∧ v = .slice none 0 0 ∧ er = 24) ∨
  ((3 ≤ n ∧ n ≤ 10 ∧ nb = n) ∧ n - 2 ≤ cnt T n ∧ meaE (cnt T n) (fun r => M (kidx T n r)) ≠ 0 ∧ v = .slice none 0 0 ∧ er = meaE (cnt T n) (fun r => M (kidx T n r))) ∨
  ((3 ≤ n ∧ n ≤ 10 ∧ nb = n) ∧ n - 2 ≤ cnt T n ∧ meaE (cnt T n) (fun r => M (kidx T n r)) = 0 ∧ er = 0 ∧ ∃ D, Fits (n - 2) T (M (kidx T n 0)) Y D ∧ w'.ownsRow base 9 1 v n (strsL n fun i => strE (M (kidx T n 0)) (St (n - 2) D i)))
set_option maxHeartbeats 2000000 in
theorem decode_ok (a b : Option Addr) (k ca cb : Nat) (M : Nat → Nat) (Y : Mx) (T : Nat → Bool) (w : World) (k1 : 1 ≤ k) (k8 : k ≤ 8) (hT : TxtAt w a (k + 2) M Y) (hB : Vals w b (k + 2) fun i => .bool (T i)) :
    Calls Tryz.prog 45 #[.slice a (k + 2) ca, .slice b (k + 2) cb] w fun e w' => Below w.heap.size w w' ∧ ∃ v er, e = .returned (.tuple #[v, .int .i64 er]) ∧ DecPost (k + 2) (k + 2) T M Y v er w' w.heap.size := by
  have hin := fun x => inData_any (k : Int) true ⟨fun _ => by omega, fun _ => rfl⟩ x
  have hks := keptStr_any a b (k + 2) ca cb (fun i => strE (M i) (Y i)) T w (by omega) hT.1 hB
  have hst := fun x => stripeRows_any k k1 k8 x
  have HB : Hid (∀ x, Below w.heap.size w x → Vals x b (k + 2) fun i => .bool (T i)) := fun x hx => hB.below hx (Nat.le_refl _)
  have hcl := cnt_le T (k + 2)
  have HS : Hid (∀ r, r < cnt T (k + 2) → M (kidx T (k + 2) r) ≤ 9223372036854775807) := fun r hr => hT.2 _ (kidx_spec T hr).1
  obtain ⟨q, hq⟩ : ∃ q, cnt T (k + 2) = q := ⟨_, rfl⟩
  have HQ : Hid (cnt T (k + 2) = q) := hq
  rw [hq] at hks hcl
  have kk : ((k + 2 : Nat) : Int) - 2 = (k : Int) := by omega
  have t0 : (((k + 2 : Nat) : Int) != ((k + 2 : Nat) : Int)) = false := by simp
  have t1 : (((k : Int) + 2) != ((k : Int) + 2)) = false := by simp
  have HN : Hid (3 ≤ k + 2 ∧ k + 2 ≤ 10) := ⟨by omega, by omega⟩
  clear hT hB hq
  by_cases hlost : q < k
  · have hl : (q : Int) < (k : Int) := by omega
    go_enter Tryz.func45, Tryz.ntmps45
    go_wp2_with fail
    go_at_call 62
    refine (hin _).mono ?_
    rintro e w' ⟨rfl, rfl⟩
    go_wp2_with fail
    go_at_call 85
    refine hks.mono ?_
    rintro e w1 ⟨hb1, v, rfl, hown⟩
    obtain ⟨a1, c1, rfl, -, -⟩ := mowns_form hown _ (fun i hi => strsL_at _ _ i hi)
    clear hks hown
    go_wp2_with fail
    go_ret2
    exact ⟨hb1, _, _, rfl, .inr (.inl ⟨⟨HN.out.1, HN.out.2, rfl⟩, by rw [HQ.out]; omega, rfl, rfl⟩)⟩
  · have hl : ¬ (q : Int) < (k : Int) := by omega
    have hkq : (k : Int) ≤ (q : Int) := by omega
    go_enter Tryz.func45, Tryz.ntmps45
    go_wp2_with fail
    go_at_call 62
    refine (hin _).mono ?_
    rintro e w' ⟨rfl, rfl⟩
    go_wp2_with fail
    go_at_call 85
    refine hks.mono ?_
    rintro e w1 ⟨hb1, v, rfl, hown⟩
    have hT1 : ∃ a1 c1, v = .slice a1 q c1 ∧ q ≤ c1 ∧ c1 ≤ 9223372036854775807 ∧ TxtAt w1 a1 q (fun r => M (kidx T (k + 2) r)) (fun r => Y (kidx T (k + 2) r)) := by
      obtain ⟨a1, c1, rfl, -, hv⟩ := mowns_form hown _ (fun i hi => strsL_at _ _ i hi)
      refine ⟨a1, c1, rfl, ?_, ?_, hv, fun r hr => HS.out r (by rw [HQ.out]; exact hr)⟩
      · rcases hown.2 with ⟨h0, h3⟩ | ⟨g, cap, cur, e, _, _, h3, _⟩
        · omega
        · cases e; exact h3
      · rcases hown.2 with ⟨h0, h3⟩ | ⟨g, cap, cur, e, _, _, _, h3, _⟩
        · injection h0 with _ _ h4; omega
        · cases e; unfold maxLen at h3; omega
    obtain ⟨a1, c1, rfl, hc1, hc2, hT1⟩ := hT1
    have hmea := measure_any a1 q c1 _ _ w1 (by omega) (by unfold maxLen; omega) hT1
    have HT1 : Hid (TxtAt w1 a1 q (fun r => M (kidx T (k + 2) r)) (fun r => Y (kidx T (k + 2) r))) := hT1
    obtain ⟨er, her⟩ : ∃ er, meaE q (fun r => M (kidx T (k + 2) r)) = er := ⟨_, rfl⟩
    have HER : Hid (meaE q (fun r => M (kidx T (k + 2) r)) = er) := her
    rw [her] at hmea
    clear hks hown hT1 her
    by_cases h0 : er = 0
    · subst h0
      obtain ⟨hall, h5⟩ := mea_zero.1 HER.out
      obtain ⟨m, hm⟩ : ∃ m, M (kidx T (k + 2) 0) = m := ⟨_, rfl⟩
      have HM : Hid (M (kidx T (k + 2) 0) = m) := hm
      have hTk : TxtAt w1 a1 k (fun _ => m) (fun r => Y (kidx T (k + 2) r)) := by
        refine ⟨?_, fun c hc => by show m ≤ _; have : M (kidx T (k + 2) 0) ≤ 65536 := h5; omega⟩
        rcases HT1.out.1 with h0 | ⟨x, y, e, h⟩
        · omega
        · refine .inr ⟨x, y, e, fun i hi => ?_⟩
          have e1 : M (kidx T (k + 2) i) = m := by rw [← hm]; exact hall i (by omega)
          show _ = some (Value.string (strE m (Y (kidx T (k + 2) i))))
          rw [← e1]
          exact h i (by omega)
      have HTK : Hid (∀ x, Below w1.heap.size w1 x → TxtAt x a1 k (fun _ => m) (fun r => Y (kidx T (k + 2) r))) := fun x hx => hTk.below hx
      have hm5 : m ≤ 65536 := by have : M (kidx T (k + 2) 0) ≤ 65536 := h5; omega
      have kc1 : (k : Int) ≤ (c1 : Int) := by omega
      have kc1' : k ≤ c1 := by omega
      have hqT : k ≤ cnt T (k + 2) := by rw [HQ.out]; omega
      have hreb := fun x a6 c6 (hx : Below w1.heap.size w1 x) hM => rebuild_any a1 a6 k c1 c6 m T Y x k1 k8 kc1' hc2 hm5 hqT (HTK.out x hx) hM
      have HREB : Hid (∀ (x : World) (a6 : Option Addr) (c6 : Nat), Below w1.heap.size w1 x → MatAt x a6 k (fun _ => k) (fun r => stM k (kidx T (k + 2) r)) → Calls Tryz.prog 87 #[.slice a1 k c1, .slice a6 k c6] x fun e w' => Below x.heap.size x w' ∧ ∃ v D, e = .returned v ∧ Fits k T m Y D ∧ w'.ownsRow x.heap.size 9 1 v (k + 2) (strsL (k + 2) fun i => strE m (St k D i))) := hreb
      clear hall h5 hTk hm hreb hqT
      go_wp2_with fail
      go_at_call 86
      refine hmea.mono ?_
      rintro e w2 ⟨hb2, rfl⟩
      have hd2 : Below w1.heap.size w1 w2.drew := hb2.drew
      clear hmea
      go_wp2_with fail
      go_region_held3 (fun _ => True) (first | trivial) (first | (go_at_call 89; refine (hst _).mono ?_; rintro e w3 ⟨hb3, a3, c3, rfl, hM3⟩; have hx3 : Below w1.heap.size w1 w3 := hd2.trans (hb3.mono hd2.size)) | (go_at_call 88; refine (keptMat_any _ _ (k + 2) _ _ k (stM k) T w3 (by omega) hM3 (HB.out w3 (hb1.trans (hx3.mono hb1.size)))).mono ?_; rw [HQ.out]; rintro e w4 ⟨hb4, a4, c4, rfl, hc41, hc42, hM4⟩; have hx4 : Below w1.heap.size w1 w4 := hx3.trans (hb4.mono hx3.size); have kc4 : (k : Int) ≤ (c4 : Int) := by omega) | (go_at_call 87; refine (HREB.out w4 _ _ hx4 (hM4.cut (by omega))).mono ?_; rintro e w5 ⟨hb5, v5, D, rfl, hF, hown5⟩))
      have hx5 : Below w1.heap.size w1 w5 := hx4.trans (hb5.mono hx4.size)
      have hb05 := hb1.trans (hx5.mono hb1.size)
      have hs4 := Nat.le_trans hb1.size hx4.size
      clear hb5 hb4 hb3 hM3 hM4
      go_wp2_with fail
      go_ret2
      refine ⟨hb05, _, _, rfl, .inr (.inr (.inr ⟨⟨HN.out.1, HN.out.2, rfl⟩, by rw [HQ.out]; omega, by rw [HQ.out]; exact HER.out, rfl, D, ?_, ?_⟩))⟩
      · rw [HM.out]; exact hF
      · rw [HM.out]; exact owns_mono hown5 hs4
    · have t2 : (er != 0) = true := by simpa using h0
      have HE0 : Hid (er ≠ 0) := h0
      clear h0
      go_wp2_with fail
      go_at_call 86
      refine hmea.mono ?_
      rintro e w2 ⟨hb2, rfl⟩
      have hb02 := hb1.trans (hb2.mono hb1.size)
      clear hmea
      go_wp2_with fail
      go_ret2
      exact ⟨hb02, _, _, rfl, .inr (.inr (.inl ⟨⟨HN.out.1, HN.out.2, rfl⟩, by rw [HQ.out]; omega, by rw [HQ.out, HER.out]; exact HE0.out, rfl, by rw [HQ.out, HER.out]⟩))⟩
set_option maxHeartbeats 1000000 in
theorem decode_any (a b : Option Addr) (n nb ca cb : Nat) (M : Nat → Nat) (Y : Mx) (T : Nat → Bool) (w : World) (hnm : n ≤ 9223372036854775807) (hbm : nb ≤ 9223372036854775807) (hT : TxtAt w a n M Y) (hB : Vals w b nb fun i => .bool (T i)) :
    Calls Tryz.prog 45 #[.slice a n ca, .slice b nb cb] w fun e w' => Below w.heap.size w w' ∧ ∃ v er, e = .returned (.tuple #[v, .int .i64 er]) ∧ DecPost n nb T M Y v er w' w.heap.size := by
  by_cases hn : 3 ≤ n ∧ n ≤ 10
  · by_cases hnb : nb = n
    · obtain ⟨k, rfl⟩ : ∃ k, n = k + 2 := ⟨n - 2, by omega⟩
      subst hnb
      exact decode_ok a b k ca cb M Y T w (by omega) (by omega) hT hB
    · have hin := fun x => inData_any ((n : Int) - 2) true ⟨fun _ => by omega, fun _ => rfl⟩ x
      have t0 : ((nb : Int) != (n : Int)) = true := by simp; omega
      have HN : Hid (¬ (3 ≤ n ∧ n ≤ 10 ∧ nb = n)) := fun h => hnb h.2.2
      clear hT hB hn hnb
      go_enter Tryz.func45, Tryz.ntmps45
      go_wp2_with fail
      go_at_call 62
      refine (hin _).mono ?_
      rintro e w' ⟨rfl, rfl⟩
      go_wp2_with fail
      go_ret2
      exact ⟨Below.refl _ _, _, _, rfl, .inl ⟨HN.out, rfl, rfl⟩⟩
  · have hin := fun x => inData_any ((n : Int) - 2) false ⟨fun h => Bool.noConfusion h, fun h => absurd (by omega) hn⟩ x
    have HN : Hid (¬ (3 ≤ n ∧ n ≤ 10 ∧ nb = n)) := fun h => hn ⟨h.1, h.2.1⟩
    clear hT hB hn
    go_enter Tryz.func45, Tryz.ntmps45
    go_wp2_with fail
    go_at_call 62
    refine (hin _).mono ?_
    rintro e w' ⟨rfl, rfl⟩
    go_wp2_with fail
    go_ret2
    exact ⟨Below.refl _ _, _, _, rfl, .inl ⟨HN.out, rfl, rfl⟩⟩
theorem teE_strE (m : Nat) (g : Nat → E) (c : Nat) (hc : c < m) : teE (strE m g) c = g c := by
  apply E.same
  show (bt (strE m g) c).toNat % 256 = _
  rw [bt_strE m g c hc, Int.toNat_natCast, Nat.mod_eq_of_lt (g c).h]
theorem CutTo.elems {w : World} {base : Nat} {v : Value} {k N : Nat} {f : Nat → ByteArray} (h : CutTo w base v k N true f) (hN : N ≤ 1000) (k1 : 1 ≤ k) (k8 : k ≤ 8) : ∃ (m : Nat) (D : Mx), m ≤ N ∧ m ≤ 65536 ∧ encE k (fun i => (f i).size) = 0 ∧ (∀ i, i < k → f i = strE m (St k D i)) ∧
    encS k (fun i => (f i).size) (fun i => teE (f i)) 0 = strE m (St k D k) ∧ encS k (fun i => (f i).size) (fun i => teE (f i)) 1 = strE m (St k D (k + 1)) ∧ (f 0).size = m := by
  have hs := h.2.2 rfl
  have h0 := h.2.1 0 (by omega)
  have hz : encE k (fun i => (f i).size) = 0 := encE_zero.2 ⟨⟨k1, k8⟩, fun c hc => hs c hc, by show (f 0).size ≤ _; omega⟩
  refine ⟨(f 0).size, fun i => teE (f i), h0, by omega, hz, fun i hi => ?_, ?_, ?_, rfl⟩
  · rw [strE_congr (g := teE (f i)) fun c hc => St_data hi _ c, ← hs i hi, strE_te]
  · unfold encS; rw [if_pos hz]; exact strE_congr fun c hc => (St_parity k 0 _ c).symm
  · unfold encS; rw [if_pos hz]; exact strE_congr fun c hc => (St_parity k 1 _ c).symm
theorem cnt_or (p q r : Nat → Bool) (n : Nat) (h : ∀ i, i < n → r i = true → p i = true ∨ q i = true) : cnt r n ≤ cnt p n + cnt q n := by
  induction n with
  | zero => exact Nat.le_refl _
  | succ n ih =>
    have := ih fun i hi => h i (by omega)
    have h' := h n (by omega)
    simp only [cnt]
    by_cases h1 : r n = true
    · rcases h' h1 with h2 | h2 <;> simp [h1, h2] <;> omega
    · simp [h1]; omega
theorem cnt_eq_le (i n : Nat) : cnt (fun x => decide (x = i)) n ≤ if i < n then 1 else 0 := by
  induction n with
  | zero => simp [cnt]
  | succ n ih =>
    simp only [cnt]
    by_cases h : n = i
    · subst h; simp at ih ⊢; omega
    · simp only [decide_eq_false h]
      have : (if i < n + 1 then 1 else 0) = (if i < n then 1 else 0) := by
        by_cases h1 : i < n
        · rw [if_pos h1, if_pos (by omega)]
        · rw [if_neg h1, if_neg (by omega)]
      rw [this]
      simpa using ih
theorem bytesL_congr {k : Nat} {f g : Nat → E} (h : ∀ i, i < k → f i = g i) : bytesL k f = bytesL k g :=
  List.map_congr_left fun i hi => by rw [h i (List.mem_range.1 hi)]
theorem valsL_set (k : Nat) (R : Nat → Value) (i : Nat) (v : Value) (h : i < k) : (valsL k R).set i v = valsL k (fun j => if j = i then v else R j) := by
  apply List.ext_getElem
  · simp [valsL]
  · intro j h1 h2
    rw [List.getElem_set]
    by_cases e : i = j
    · subst e; simp [valsL]
    · have e' : ¬ j = i := fun h => e h.symm
      simp [valsL, e, e']
def RowsG (w : World) (B gt k : Nat) (R : Nat → Value) (L : Nat → Nat) (X : Mx) : Prop :=
  w.ownsRow B 22 1 (.slice (some ⟨gt, 0, none⟩) k k) k (valsL k R) ∧ (∀ r, r < k → w.ownsRow B 5 1 (R r) (L r) (bytesL (L r) (X r))) ∧ ∀ i j, i < k → j < k → i ≠ j → Apart (R i) (R j)
theorem RowsG.below {w w' : World} {B gt k : Nat} {R : Nat → Value} {L : Nat → Nat} {X : Mx} (h : RowsG w B gt k R L X) (hb : Below w.heap.size w w') : RowsG w' B gt k R L X :=
  ⟨mowns_below h.1 hb, fun r hr => mowns_below (h.2.1 r hr) hb, h.2.2⟩
theorem RowsG.congr {w : World} {B gt k : Nat} {R : Nat → Value} {L L' : Nat → Nat} {X X' : Mx} (h : RowsG w B gt k R L X) (hL : ∀ r, r < k → L r = L' r) (hX : ∀ r, r < k → ∀ c, c < L r → X r c = X' r c) : RowsG w B gt k R L' X' :=
  ⟨h.1, fun r hr => by rw [← hL r hr, ← bytesL_congr (hX r hr)]; exact h.2.1 r hr, h.2.2⟩
theorem RowsG.push {w : World} {B gt k : Nat} {R : Nat → Value} {L : Nat → Nat} {X : Mx} (h : RowsG w B gt k R L X) (hB : B ≤ w.heap.size) (i : Nat) (hi : i < k) (hL : L i ≤ 1000000) (x : E) (hx : x = X i (L i)) :
    ∃ v' w', (∀ ty, (Builtin.append_ #[22, 22] ty #[R i, .slice (some ⟨w.heap.size, 0, none⟩) 1 1]).run Tryz.prog (w.alloc (.cells #[.int .u8 (x.v : Int)] 5 (0, 0))).drew = .ok v' w') ∧
      w'.cell? ⟨gt, i, none⟩ = some (R i) ∧ w'.frozen? ⟨gt, i, none⟩ = false ∧ (∃ m c a, v' = .slice a m c) ∧
      RowsG (w'.setCell ⟨gt, i, none⟩ v') B gt k (fun r => if r = i then v' else R r) (fun r => if r = i then L i + 1 else L r) X ∧ Below B w (w'.setCell ⟨gt, i, none⟩ v') ∧
      ∀ B' u n xs, w.ownsRow B' 5 1 u n xs → Apart (R i) u → (w'.setCell ⟨gt, i, none⟩ v').ownsRow B' 5 1 u n xs := by
  obtain ⟨i0, hi0, hz0, hz1, hz2⟩ := info_parts Tryz.info5
  obtain ⟨htop, hrows, hap⟩ := h
  have hb0 : Below w.heap.size w (w.alloc (.cells #[.int .u8 (x.v : Int)] 5 (0, 0))).drew := ((Below.refl _ _).alloc (Nat.le_refl _) _).drew
  have hri := mowns_below (hrows i hi) hb0
  have key : ∀ ty, ∃ v' w', (Builtin.append_ #[22, 22] ty #[R i, .slice (some ⟨w.heap.size, 0, none⟩) 1 1]).run Tryz.prog (w.alloc (.cells #[.int .u8 (x.v : Int)] 5 (0, 0))).drew = .ok v' w' ∧ w'.ownsRow B 5 1 v' (L i + 1) (bytesL (L i) (X i) ++ [byteV x]) ∧
      (w.alloc (.cells #[.int .u8 (x.v : Int)] 5 (0, 0))).drew.grownBy w' (R i).ownBlock ∧ (v'.ownBlock = (R i).ownBlock ∨ v'.ownBlock = some (w.alloc (.cells #[.int .u8 (x.v : Int)] 5 (0, 0))).drew.heap.size) := fun ty => by
    obtain ⟨v', w', e1, e2, e3, -, e5⟩ := run_append_own_at (P := Tryz.prog) (w.alloc (.cells #[.int .u8 (x.v : Int)] 5 (0, 0))).drew B 22 ty 5 i0 (.int .u8 0) 1 1 Tryz.underlying22 hi0 hz0 hz1 hz2 rfl (by decide) (R i) (L i) _ hri ⟨w.heap.size, 0, none⟩ 1 1 [byteV x] rfl (by
        intro j u hu
        match j, hu with
        | 0, hu => simp at hu; subst hu; show (w.alloc (.cells #[byteV x] 5 (0, 0))).drew.cell? ((⟨w.heap.size, 0, none⟩ : Addr).add 0) = _; simp [Addr.add]) (by intro u hu; simp at hu; subst hu; rfl) (by unfold maxLen; omega) (by omega) (Nat.le_trans hB hb0.size)
    exact ⟨v', w', e1, e2, e3, e5⟩
  obtain ⟨v', w', e1, e2, e3, e5⟩ := key 22
  have htop0 := mowns_below htop hb0
  have htop1 := htop0.kept e3 (owns_apart hri htop0 (by decide))
  have hst := htop1.stored i v'
  have hge := hb0.size
  have hapu : ∀ B' u n xs, w.ownsRow B' 5 1 u n xs → Apart (R i) u → w'.ownsRow B' 5 1 u n xs ∧ Apart v' u := fun B' u n xs hu ha => by
    refine ⟨(mowns_below hu hb0).kept e3 ?_, ?_⟩
    · rcases ha.symm with h | h
      · exact .inl h
      · exact .inr h
    · rcases e5 with e5 | e5
      · unfold Apart; rw [e5]; exact ha
      · refine .inr fun e => ?_
        rw [e5] at e
        have := (hu.lt _ e.symm).2
        omega
  have hkeep : ∀ B' u n xs, w'.ownsRow B' 5 1 u n xs → (w'.setCell ⟨gt, i, none⟩ v').ownsRow B' 5 1 u n xs := fun B' u n xs hu => hu.kept hst.2 (owns_apart htop1 hu (by decide))
  refine ⟨v', w', fun ty => e1, ?_, htop1.frozenAt i, ?_, ⟨?_, fun r hr => ?_, fun a b ha hb hab => ?_⟩, ?_, fun B' u n xs hu ha => hkeep B' u n xs (hapu B' u n xs hu ha).1⟩
  · rw [htop1.cellAt i (by omega)]; exact valsL_at _ _ i hi
  · rcases e2.2 with ⟨h0, h1⟩ | ⟨g, cap, cur, e, -⟩
    · omega
    · exact ⟨_, _, _, e⟩
  · have := hst.1
    rw [valsL_set _ _ i _ hi] at this
    exact this
  · by_cases e : r = i
    · subst e
      simp only [if_pos]
      have e2' : w'.ownsRow B 5 1 v' (L r + 1) (bytesL (L r + 1) (X r)) := by rw [bytesL_succ, ← hx]; exact e2
      exact hkeep _ _ _ _ e2'
    · simp only [if_neg e]
      exact hkeep _ _ _ _ (hapu _ _ _ _ (hrows r hr) (hap i r hi hr (fun h => e h.symm))).1
  · by_cases e : a = i
    · subst e
      have e' : ¬ b = a := fun h => hab h.symm
      simp only [if_pos, if_neg e']
      exact (hapu _ _ _ _ (hrows b hb) (hap a b ha hb hab)).2
    · by_cases e' : b = i
      · subst e'
        simp only [if_pos, if_neg e]
        exact (hapu _ _ _ _ (hrows a ha) (hap b a hb ha (fun h => hab h.symm))).2.symm
      · simp only [if_neg e, if_neg e']
        exact hap a b ha hb hab
  · have h1 : Below B w w' := (hb0.mono hB).grown e3 (Nat.le_trans hB hb0.size) (fun g hg => ((hrows i hi).lt g hg).1)
    exact h1.setCell (p := ⟨gt, i, none⟩) (htop.lt gt rfl).1 _
end Go.Proofs.YtokknmkleceooaaGreatDoor
