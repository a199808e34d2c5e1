/- Trees of digests: nodes over a leaf, pairs, what is followed, what is put. Plain facts. -/
import Derived.Test.YtbbgagpompgagabDoorSha
import Derived.Test.YtbbgagpompgagabDoorDkAt
import Derived.Test.YtbbgagpompgagabDoorCut
namespace Go.Proofs.YtbbgagpompgagabDoor
open Go.RowKit Go.PlainAid
set_option linter.unusedVariables false

/-- The node on level k over the slot s of a tree of 2^d leaves. -/
def nd (d s k : Nat) : Nat := (2 ^ d + s) / 2 ^ (d - k)
/-- Which child of it is on the way. -/
def sd (d s k : Nat) : Nat := s / (2 ^ (d - k) / 2) % 2
theorem sd_lt (d s k : Nat) : sd d s k < 2 := Nat.mod_lt _ (by decide)
theorem pow_half (d k : Nat) (hk : k < d) : 2 ^ (d - k) = 2 * 2 ^ (d - (k + 1)) := by
  rw [show d - k = (d - (k + 1)) + 1 by omega, Nat.pow_succ, Nat.mul_comm]
theorem half_pow (d k : Nat) (hk : k < d) : 2 ^ (d - k) / 2 = 2 ^ (d - (k + 1)) := by rw [pow_half d k hk]; omega
theorem pow_pos' (n : Nat) : 1 ≤ 2 ^ n := Nat.one_le_two_pow
theorem nd_zero (d s : Nat) (hs : s < 2 ^ d) : nd d s 0 = 1 := by
  unfold nd
  rw [Nat.sub_zero]
  exact Nat.div_eq_of_lt_le (by omega) (by omega)
theorem nd_last (d s : Nat) : nd d s d = 2 ^ d + s := by unfold nd; rw [Nat.sub_self, Nat.pow_zero, Nat.div_one]
theorem nd_succ (d s k : Nat) (hk : k < d) : nd d s (k + 1) = 2 * nd d s k + sd d s k := by
  unfold nd sd
  rw [half_pow d k hk, pow_half d k hk]
  have hm := pow_pos' (d - (k + 1))
  have he : 2 ^ d = 2 ^ (d - (k + 1)) * (2 * 2 ^ k) := by
    rw [show 2 * 2 ^ k = 2 ^ (k + 1) by rw [Nat.pow_succ, Nat.mul_comm], ← Nat.pow_add]
    congr 1
    omega
  generalize 2 ^ (d - (k + 1)) = m at hm he ⊢
  rw [he, Nat.mul_comm 2 m, ← Nat.div_div_eq_div_mul, Nat.add_comm (m * _) s, Nat.add_mul_div_left _ _ (by omega)]
  generalize 2 ^ k = q
  omega
theorem nd_half (d s k : Nat) (hk : k < d) : nd d s (k + 1) / 2 = nd d s k := by
  rw [nd_succ d s k hk]; have := sd_lt d s k; omega
theorem nd_odd (d s k : Nat) (hk : k < d) : nd d s (k + 1) % 2 = sd d s k := by
  rw [nd_succ d s k hk]; have := sd_lt d s k; omega
theorem nd_pos (d s k : Nat) (hk : k ≤ d) : 2 ^ k ≤ nd d s k := by
  unfold nd
  have hm := pow_pos' (d - k)
  rw [Nat.le_div_iff_mul_le (by omega), ← Nat.pow_add, show k + (d - k) = d by omega]
  omega
theorem nd_lt (d s k : Nat) (hk : k ≤ d) (hs : s < 2 ^ d) : nd d s k < 2 * 2 ^ k := by
  unfold nd
  have hm := pow_pos' (d - k)
  rw [Nat.div_lt_iff_lt_mul (by omega)]
  rw [Nat.mul_assoc, ← Nat.pow_add, show k + (d - k) = d by omega]
  omega
theorem pow_le16 (d : Nat) (hd : d ≤ 4) : 2 ^ d ≤ 16 := Nat.pow_le_pow_right (by decide : 0 < 2) hd
theorem pow_mono {a b : Nat} (h : a ≤ b) : 2 ^ a ≤ 2 ^ b := Nat.pow_le_pow_right (by decide : 0 < 2) h
theorem nd_inner (d s k : Nat) (hk : k < d) (hs : s < 2 ^ d) : 1 ≤ nd d s k ∧ nd d s k < 2 ^ d := by
  have h1 := nd_pos d s k (by omega)
  have h2 := nd_lt d s k (by omega) hs
  have h3 := pow_pos' k
  have h4 : 2 ^ (k + 1) ≤ 2 ^ d := pow_mono hk
  rw [Nat.pow_succ] at h4
  omega

/-- The digest of an inner node with that pair. -/
def nH (p : ByteArray) : ByteArray := digest (⟨#[1]⟩ ++ p)
theorem nH_size (p : ByteArray) : (nH p).size = 32 := digest_size _
/-- One of the two digests of a pair. -/
def half (b : Nat) (q : ByteArray) : ByteArray := if b = 0 then q.extract 0 32 else q.extract 32 64
theorem half_size (b : Nat) (q : ByteArray) (h : q.size = 64) : (half b q).size = 32 := by
  unfold half; split <;> rw [ByteArray.size_extract] <;> omega
/-- A pair with another digest on one side. -/
def withB (q : ByteArray) (b : Nat) (x : ByteArray) : ByteArray := if b = 0 then x ++ q.extract 32 q.size else q.extract 0 32 ++ x
theorem withB_size (q : ByteArray) (b : Nat) (x : ByteArray) (h : q.size = 64) (hx : x.size = 32) : (withB q b x).size = 64 := by
  unfold withB; split <;> rw [ByteArray.size_append, ByteArray.size_extract] <;> omega

/-- What is followed behind k pairs; none: they don't lead on. -/
def fol (d s : Nat) (p : Nat → ByteArray) (top : ByteArray) : Nat → Option ByteArray
  | 0 => some top
  | k + 1 => match fol d s p top k with
    | none => none
    | some t => if (p k).size = 64 ∧ nH (p k) = t then some (half (sd d s k) (p k)) else none
theorem fol_none {d s : Nat} {p : Nat → ByteArray} {top : ByteArray} {k : Nat} (h : fol d s p top k = none) (m : Nat) : fol d s p top (k + m) = none := by
  induction m with
  | zero => exact h
  | succ m ih => rw [← Nat.add_assoc]; simp only [fol, ih]
theorem fol_none' {d s : Nat} {p : Nat → ByteArray} {top : ByteArray} {k n : Nat} (h : fol d s p top k = none) (hk : k ≤ n) : fol d s p top n = none := by
  have := fol_none h (n - k); rwa [show k + (n - k) = n by omega] at this
theorem fol_yes {d s : Nat} {p : Nat → ByteArray} {top t : ByteArray} {k : Nat} (h : fol d s p top k = some t) (h1 : (p k).size = 64) (h2 : nH (p k) = t) : fol d s p top (k + 1) = some (half (sd d s k) (p k)) := by
  simp only [fol, h]; rw [if_pos ⟨h1, h2⟩]
theorem fol_no {d s : Nat} {p : Nat → ByteArray} {top t : ByteArray} {k : Nat} (h : fol d s p top k = some t) (h1 : ¬ ((p k).size = 64 ∧ nH (p k) = t)) : fol d s p top (k + 1) = none := by
  simp only [fol, h]; rw [if_neg h1]
theorem fol_inv {d s : Nat} {p : Nat → ByteArray} {top t : ByteArray} {k : Nat} (h : fol d s p top (k + 1) = some t) : (p k).size = 64 ∧ fol d s p top k = some (nH (p k)) ∧ t = half (sd d s k) (p k) := by
  cases e : fol d s p top k with
  | none => rw [show fol d s p top (k + 1) = none from fol_none e 1] at h; cases h
  | some u =>
    by_cases hc : (p k).size = 64 ∧ nH (p k) = u
    · rw [fol_yes e hc.1 hc.2] at h
      exact ⟨hc.1, by rw [hc.2], (Option.some.inj h).symm⟩
    · rw [fol_no e hc] at h; cases h
theorem fol_size {d s : Nat} {p : Nat → ByteArray} {top t : ByteArray} {k : Nat} (h : fol d s p top (k + 1) = some t) : t.size = 32 := by
  obtain ⟨h1, _, rfl⟩ := fol_inv h
  exact half_size _ _ h1
theorem fol_congr (d s : Nat) (p p' : Nat → ByteArray) (top : ByteArray) (k : Nat) (h : ∀ i, i < k → p i = p' i) : fol d s p top k = fol d s p' top k := by
  induction k with
  | zero => rfl
  | succ k ih => simp only [fol, ih (fun i hi => h i (by omega)), h k (by omega)]
/-- Is there a tree with so many pairs over each leaf, and has it that slot? -/
def okS (n : Nat) (s : Int) : Prop := 1 ≤ n ∧ n ≤ 4 ∧ 0 ≤ s ∧ s < ((2 ^ n : Nat) : Int)
instance (n : Nat) (s : Int) : Decidable (okS n s) := by unfold okS; infer_instance
/-- What Follow tells. -/
def folS (n : Nat) (s : Int) (p : Nat → ByteArray) (top : ByteArray) : ByteArray := if okS n s then (fol n s.toNat p top n).getD noB else noB
def oE : Option ByteArray → Int
  | some _ => 0
  | none => 22
def folE (n : Nat) (s : Int) (p : Nat → ByteArray) (top : ByteArray) : Int := if okS n s then oE (fol n s.toNat p top n) else 2

/-- The digest that goes up, behind j pairs from below. -/
def cur (d s : Nat) (p : Nat → ByteArray) (x : ByteArray) : Nat → ByteArray
  | 0 => x
  | j + 1 => nH (withB (p (d - 1 - j)) (sd d s (d - 1 - j)) (cur d s p x j))
/-- The pair on level k then. -/
def neu (d s : Nat) (p : Nat → ByteArray) (x : ByteArray) (k : Nat) : ByteArray := withB (p k) (sd d s k) (cur d s p x (d - 1 - k))
theorem cur_succ (d s : Nat) (p : Nat → ByteArray) (x : ByteArray) (j : Nat) (hj : j < d) : cur d s p x (j + 1) = nH (neu d s p x (d - 1 - j)) := by
  unfold neu; rw [show d - 1 - (d - 1 - j) = j by omega]; rfl
theorem cur_size (d s : Nat) (p : Nat → ByteArray) (x : ByteArray) (hx : x.size = 32) (j : Nat) : (cur d s p x j).size = 32 := by
  cases j with
  | zero => exact hx
  | succ j => exact nH_size _
theorem neu_size (d s : Nat) (p : Nat → ByteArray) (x : ByteArray) (hx : x.size = 32) (k : Nat) (hp : (p k).size = 64) : (neu d s p x k).size = 64 := withB_size _ _ _ hp (cur_size _ _ _ _ hx _)

/-- The digest of the node i, over leaves D; f: how many levels are looked down at most. -/
def nt (D : Nat → ByteArray) (n : Nat) : Nat → Nat → ByteArray
  | 0, i => D (i - n)
  | f + 1, i => if n ≤ i then D (i - n) else nH (nt D n f (2 * i) ++ nt D n f (2 * i + 1))
theorem nt_more (D : Nat → ByteArray) (n f i : Nat) (h : n ≤ i * 2 ^ f) : nt D n (f + 1) i = nt D n f i := by
  induction f generalizing i with
  | zero => rw [Nat.pow_zero, Nat.mul_one] at h; simp only [nt]; rw [if_pos h]
  | succ f ih =>
    have h1 : n ≤ 2 * i * 2 ^ f := by rw [Nat.pow_succ] at h; rw [Nat.mul_comm 2 i, Nat.mul_assoc, Nat.mul_comm 2]; exact h
    have h2 : n ≤ (2 * i + 1) * 2 ^ f := Nat.le_trans h1 (Nat.mul_le_mul_right _ (by omega))
    have e : nt D n (f + 1 + 1) i = if n ≤ i then D (i - n) else nH (nt D n (f + 1) (2 * i) ++ nt D n (f + 1) (2 * i + 1)) := rfl
    rw [e, ih _ h1, ih _ h2]
    rfl
/-- The digest of the node i of a tree of n leaves D. -/
def dg (D : Nat → ByteArray) (n i : Nat) : ByteArray := nt D n 5 i
/-- The pair of the node i. -/
def pr (D : Nat → ByteArray) (n i : Nat) : ByteArray := dg D n (2 * i) ++ dg D n (2 * i + 1)
theorem dg_leaf (D : Nat → ByteArray) (n i : Nat) (h : n ≤ i) : dg D n i = D (i - n) := by unfold dg; simp only [nt]; rw [if_pos h]
theorem dg_inner (D : Nat → ByteArray) (n i : Nat) (hn : n ≤ 16) (h1 : 1 ≤ i) (h : i < n) : dg D n i = nH (pr D n i) := by
  have e : dg D n i = nH (nt D n 4 (2 * i) ++ nt D n 4 (2 * i + 1)) := by
    unfold dg
    show (if n ≤ i then D (i - n) else nH (nt D n 4 (2 * i) ++ nt D n 4 (2 * i + 1))) = _
    rw [if_neg (by omega)]
  rw [e]
  unfold pr dg
  rw [nt_more D n 4 (2 * i) (by omega), nt_more D n 4 (2 * i + 1) (by omega)]
theorem dg_size (D : Nat → ByteArray) (n i : Nat) (hn : n ≤ 16) (h1 : 1 ≤ i) (hi : i < 2 * n) (hD : ∀ j, j < n → (D j).size = 32) : (dg D n i).size = 32 := by
  rcases Nat.lt_or_ge i n with h | h
  · rw [dg_inner D n i hn h1 h]; exact nH_size _
  · rw [dg_leaf D n i h]; exact hD _ (by omega)
theorem pr_size (D : Nat → ByteArray) (n i : Nat) (hn : n ≤ 16) (h1 : 1 ≤ i) (hi : i < n) (hD : ∀ j, j < n → (D j).size = 32) : (pr D n i).size = 64 := by
  unfold pr
  rw [ByteArray.size_append, dg_size D n _ hn (by omega) (by omega) hD, dg_size D n _ hn (by omega) (by omega) hD]
theorem tcut_left (a b : ByteArray) (n : Nat) (h : a.size = n) : (a ++ b).extract 0 n = a := by
  apply bt_ext
  · rw [ByteArray.size_extract, ByteArray.size_append]; omega
  · intro i hi
    rw [ByteArray.size_extract, ByteArray.size_append] at hi
    rw [bt_take _ _ _ (by omega) (by rw [ByteArray.size_append]; omega), bt_left _ _ _ (by omega)]
theorem tcut_right (a b : ByteArray) (n m : Nat) (h : a.size = n) (hm : m = n + b.size) : (a ++ b).extract n m = b := by
  apply bt_ext
  · rw [ByteArray.size_extract, ByteArray.size_append]; omega
  · intro i hi
    rw [ByteArray.size_extract, ByteArray.size_append] at hi
    rw [bt_cut _ n m i (by rw [ByteArray.size_append]; omega) (by omega), bt_right _ _ _ (by omega)]
    congr 1
    omega
theorem half_pr (D : Nat → ByteArray) (n i b : Nat) (hn : n ≤ 16) (h1 : 1 ≤ i) (hi : i < n) (hb : b < 2) (hD : ∀ j, j < n → (D j).size = 32) : half b (pr D n i) = dg D n (2 * i + b) := by
  have s1 := dg_size D n (2 * i) hn (by omega) (by omega) hD
  have s2 := dg_size D n (2 * i + 1) hn (by omega) (by omega) hD
  unfold half pr
  have hb' : b = 0 ∨ b = 1 := by omega
  rcases hb' with rfl | rfl
  · rw [if_pos rfl, Nat.add_zero]
    exact tcut_left _ _ _ s1
  · rw [if_neg (by decide)]
    exact tcut_right _ _ _ _ s1 (by rw [s2])
theorem nt_other (D D' : Nat → ByteArray) (n s f i : Nat) (hD : ∀ j, j ≠ s → D' j = D j) (hf : n ≤ i * 2 ^ f) (hi : ∀ j, (n + s) / 2 ^ j ≠ i) : nt D' n f i = nt D n f i := by
  have leaf : n ≤ i → D' (i - n) = D (i - n) := fun h => hD _ (fun e => hi 0 (by rw [Nat.pow_zero, Nat.div_one]; omega))
  induction f generalizing i with
  | zero => rw [Nat.pow_zero, Nat.mul_one] at hf; exact leaf hf
  | succ f ih =>
    have up : ∀ c, c / 2 = i → ∀ j, (n + s) / 2 ^ j ≠ c := fun c hc j e => hi (j + 1) (by rw [Nat.pow_succ, ← Nat.div_div_eq_div_mul, e, hc])
    have h1 : n ≤ 2 * i * 2 ^ f := by rw [Nat.pow_succ] at hf; rw [Nat.mul_comm 2 i, Nat.mul_assoc, Nat.mul_comm 2]; exact hf
    have h2 : n ≤ (2 * i + 1) * 2 ^ f := Nat.le_trans h1 (Nat.mul_le_mul_right _ (by omega))
    simp only [nt]
    split
    · rename_i h; exact leaf h
    · have lf : ∀ c, c / 2 = i → n ≤ c → D' (c - n) = D (c - n) := fun c hc h => hD _ (fun e => up c hc 0 (by rw [Nat.pow_zero, Nat.div_one]; omega))
      rw [ih (2 * i) h1 (up _ (by omega)) (lf _ (by omega)), ih (2 * i + 1) h2 (up _ (by omega)) (lf _ (by omega))]
theorem dg_other (D D' : Nat → ByteArray) (n s i : Nat) (hn : n ≤ 16) (h1 : 1 ≤ i) (hD : ∀ j, j ≠ s → D' j = D j) (hi : ∀ j, (n + s) / 2 ^ j ≠ i) : dg D' n i = dg D n i := nt_other D D' n s 5 i hD (by omega) hi
/-- A node that is over the leaf is one of its way. -/
theorem over_nd (d s i : Nat) (hs : s < 2 ^ d) (h1 : 1 ≤ i) (j : Nat) (h : (2 ^ d + s) / 2 ^ j = i) : ∃ k, k ≤ d ∧ i = nd d s k ∧ k + j = d := by
  rcases Nat.lt_or_ge d j with hj | hj
  · have h2 : 2 ^ (d + 1) ≤ 2 ^ j := pow_mono hj
    rw [Nat.pow_succ] at h2
    rw [Nat.div_eq_of_lt (by omega)] at h
    omega
  · exact ⟨d - j, by omega, by unfold nd; rw [show d - (d - j) = j by omega]; exact h.symm, by omega⟩
theorem nd_ne (d s k m : Nat) (hs : s < 2 ^ d) (hk : k ≤ d) (hm : m ≤ d) (h : k ≠ m) : nd d s k ≠ nd d s m := by
  have a1 := nd_pos d s k hk
  have a2 := nd_lt d s k hk hs
  have b1 := nd_pos d s m hm
  have b2 := nd_lt d s m hm hs
  rcases Nat.lt_or_gt_of_ne h with h | h
  · have : 2 ^ (k + 1) ≤ 2 ^ m := pow_mono h
    rw [Nat.pow_succ] at this
    omega
  · have : 2 ^ (m + 1) ≤ 2 ^ k := pow_mono h
    rw [Nat.pow_succ] at this
    omega
/-- The other child of a node of the way is over no leaf that is changed. -/
theorem sib_other (d s k : Nat) (hs : s < 2 ^ d) (hk : k < d) (j : Nat) : (2 ^ d + s) / 2 ^ j ≠ 2 * nd d s k + (1 - sd d s k) := by
  intro h
  have h1 := (nd_inner d s k hk hs).1
  obtain ⟨m, hm, he, _⟩ := over_nd d s _ hs (by omega) j h
  have hb := sd_lt d s k
  have hn := nd_succ d s k hk
  by_cases e : m = k + 1
  · rw [e, hn] at he; omega
  · have a1 := nd_pos d s m hm
    have a2 := nd_lt d s m hm hs
    have b1 := nd_pos d s (k + 1) hk
    have b2 := nd_lt d s (k + 1) hk hs
    have c1 := nd_pos d s k (by omega)
    have c2 := nd_lt d s k (by omega) hs
    rw [Nat.pow_succ] at b1 b2
    rcases Nat.lt_or_gt_of_ne e with h | h
    · have : 2 ^ m ≤ 2 ^ k := pow_mono (by omega)
      omega
    · have : 2 ^ (k + 1 + 1) ≤ 2 ^ m := pow_mono h
      rw [Nat.pow_succ, Nat.pow_succ] at this
      omega
/-- The pairs of the way, of a tree with one leaf another. -/
theorem cur_dg (D D' : Nat → ByteArray) (d s : Nat) (p : Nat → ByteArray) (hd : d ≤ 4) (hs : s < 2 ^ d) (hD : ∀ j, j ≠ s → D' j = D j) (hz : ∀ j, j < 2 ^ d → (D j).size = 32) (hp : ∀ k, k < d → p k = pr D (2 ^ d) (nd d s k)) (j : Nat) (hj : j ≤ d) :
    cur d s p (D' s) j = dg D' (2 ^ d) (nd d s (d - j)) ∧ ∀ k, d - j ≤ k → k < d → neu d s p (D' s) k = pr D' (2 ^ d) (nd d s k) := by
  have h16 := pow_le16 d hd
  induction j with
  | zero =>
    refine ⟨?_, fun k h1 h2 => by omega⟩
    rw [Nat.sub_zero, nd_last, dg_leaf _ _ _ (by omega), show 2 ^ d + s - 2 ^ d = s by omega]; rfl
  | succ j ih =>
    obtain ⟨h1, h2⟩ := ih (by omega)
    have hk : d - (j + 1) < d := by omega
    have hin := nd_inner d s (d - (j + 1)) hk hs
    have key : neu d s p (D' s) (d - (j + 1)) = pr D' (2 ^ d) (nd d s (d - (j + 1))) := by
      unfold neu
      rw [show d - 1 - (d - (j + 1)) = j by omega, h1, hp _ hk, show d - j = d - (j + 1) + 1 by omega, nd_succ d s _ hk]
      have hsib := sib_other d s (d - (j + 1)) hs hk
      have hb := sd_lt d s (d - (j + 1))
      generalize sd d s (d - (j + 1)) = b at hsib hb ⊢
      generalize nd d s (d - (j + 1)) = i at hin hsib ⊢
      have s1 := dg_size D (2 ^ d) (2 * i) h16 (by omega) (by omega) hz
      have s2 := dg_size D (2 ^ d) (2 * i + 1) h16 (by omega) (by omega) hz
      have hb' : b = 0 ∨ b = 1 := by omega
      rcases hb' with rfl | rfl
      · unfold withB pr
        rw [if_pos rfl, Nat.add_zero, tcut_right _ _ _ _ s1 (by rw [ByteArray.size_append, s1]), dg_other D D' _ s (2 * i + 1) h16 (by omega) hD hsib]
      · unfold withB pr
        rw [if_neg (by decide), tcut_left _ _ _ s1, ← dg_other D D' _ s (2 * i) h16 (by omega) hD hsib]
    refine ⟨?_, fun k k1 k2 => ?_⟩
    · rw [cur_succ d s p (D' s) j (by omega), show d - 1 - j = d - (j + 1) by omega, key, dg_inner D' _ _ h16 hin.1 hin.2]
    · by_cases e : k = d - (j + 1)
      · rw [e]; exact key
      · exact h2 k (by omega) k2
theorem neu_pr (D D' : Nat → ByteArray) (d s : Nat) (p : Nat → ByteArray) (hd : d ≤ 4) (hs : s < 2 ^ d) (hD : ∀ j, j ≠ s → D' j = D j) (hz : ∀ j, j < 2 ^ d → (D j).size = 32) (hp : ∀ k, k < d → p k = pr D (2 ^ d) (nd d s k)) :
    (∀ k, k < d → neu d s p (D' s) k = pr D' (2 ^ d) (nd d s k)) ∧ cur d s p (D' s) d = dg D' (2 ^ d) 1 := by
  obtain ⟨h1, h2⟩ := cur_dg D D' d s p hd hs hD hz hp d (Nat.le_refl _)
  rw [Nat.sub_self, nd_zero d s hs] at h1
  exact ⟨fun k hk => h2 k (by omega) hk, h1⟩
/-- The pairs of all other nodes are as they were. -/
theorem pr_other (D D' : Nat → ByteArray) (d s i : Nat) (hd : d ≤ 4) (hs : s < 2 ^ d) (hD : ∀ j, j ≠ s → D' j = D j) (h1 : 1 ≤ i) (hi : i < 2 ^ d) (hne : ∀ k, k < d → i ≠ nd d s k) : pr D' (2 ^ d) i = pr D (2 ^ d) i := by
  have h16 := pow_le16 d hd
  have up : ∀ c, c / 2 = i → ∀ j, (2 ^ d + s) / 2 ^ j ≠ c := fun c hc j e => by
    have e2 : (2 ^ d + s) / 2 ^ (j + 1) = i := by rw [Nat.pow_succ, ← Nat.div_div_eq_div_mul, e, hc]
    obtain ⟨k, hk, he, hj⟩ := over_nd d s i hs h1 _ e2
    exact hne k (by omega) he
  unfold pr
  rw [dg_other D D' _ s (2 * i) h16 (by omega) hD (up _ (by omega)), dg_other D D' _ s (2 * i + 1) h16 (by omega) hD (up _ (by omega))]
/-- Of a tree that is built each leaf is followed. -/
theorem fol_built (D : Nat → ByteArray) (d s : Nat) (p : Nat → ByteArray) (hd : d ≤ 4) (hs : s < 2 ^ d) (hz : ∀ j, j < 2 ^ d → (D j).size = 32) (hp : ∀ k, k < d → p k = pr D (2 ^ d) (nd d s k)) (k : Nat) (hk : k ≤ d) :
    fol d s p (dg D (2 ^ d) 1) k = some (dg D (2 ^ d) (nd d s k)) := by
  have h16 := pow_le16 d hd
  induction k with
  | zero => rw [nd_zero d s hs]; rfl
  | succ k ih =>
    have hin := nd_inner d s k hk hs
    rw [fol_yes (ih (by omega)) (by rw [hp k hk]; exact pr_size D _ _ h16 hin.1 hin.2 hz) (by rw [hp k hk, dg_inner D _ _ h16 hin.1 hin.2]), hp k hk, half_pr D _ _ _ h16 hin.1 hin.2 (sd_lt _ _ _) hz, nd_succ d s k hk]
theorem fol_leaf (D : Nat → ByteArray) (d s : Nat) (p : Nat → ByteArray) (hd : d ≤ 4) (hs : s < 2 ^ d) (hz : ∀ j, j < 2 ^ d → (D j).size = 32) (hp : ∀ k, k < d → p k = pr D (2 ^ d) (nd d s k)) : fol d s p (dg D (2 ^ d) 1) d = some (D s) := by
  rw [fol_built D d s p hd hs hz hp d (Nat.le_refl _), nd_last, dg_leaf _ _ _ (by omega), show 2 ^ d + s - 2 ^ d = s by omega]
/-- From another top nothing is. -/
theorem fol_top (d s : Nat) (p : Nat → ByteArray) (t top x : ByteArray) (hd : 1 ≤ d) (h : fol d s p t d = some x) (hne : top ≠ t) : fol d s p top d = none := by
  have h1 : ∃ y, fol d s p t 1 = some y := by
    cases e : fol d s p t 1 with
    | none => rw [fol_none' e hd] at h; cases h
    | some y => exact ⟨y, rfl⟩
  obtain ⟨y, hy⟩ := h1
  obtain ⟨_, h2, _⟩ := fol_inv (k := 0) hy
  have h3 : t = nH (p 0) := Option.some.inj h2
  exact fol_none' (k := 1) (fol_no (k := 0) (t := top) rfl (fun h => hne (by rw [h3, h.2]))) hd
end Go.Proofs.YtbbgagpompgagabDoor
