/- What was logged is read back; no Go function is walked here. -/
import Derived.Test.YtegebaomhbogmaaDoorInRGet
namespace Go.Proofs.YtegebaomhbogmaaDoor
open Go.RowKit Go.PlainAid
set_option linter.unusedVariables false
set_option maxRecDepth 20000

section
variable {n m : Nat} {A : Nat → Int} {C : Nat → ByteArray} {f : Nat → ByteArray}
theorem lgE_le (h : lgE n A C = 0) : n ≤ 95 ∧ fsE A C n = 0 := by
  unfold lgE at h
  by_cases e : 95 < n
  · rw [if_pos e] at h; exact absurd h (by decide)
  · rw [if_neg e] at h; exact ⟨by omega, h⟩
theorem bk_first (h : lgE n A C = 0) (hf : ∀ i, i < n + 1 → f i = celF n A C i) : isN (f 0) = true ∧ szV (f 0) = n + 1 ∧ dgT f (n + 1) = lgD n A C ∧ alC f n = true ∧ ∀ i, i < n → gtA f i = A i ∧ gtC f i = C i := by
  obtain ⟨h95, hfs⟩ := lgE_le h
  have h0 : f 0 = numB (n : Int) := hf 0 (by omega)
  have hall := fsE_all hfs
  have hk : ∀ i, i < n → f (i + 1) = numB (A i) ++ ctxB (C i) := fun i hi => hf (i + 1) (by omega)
  refine ⟨by rw [h0]; exact num_isN (by omega), by rw [h0]; exact szV_num (by omega), ?_, ?_, ?_⟩
  · unfold lgD; rw [if_pos h]; exact dgT_congr hf
  · exact alC_of fun i hi => by rw [hk i hi]; exact (okC_cel (hall i hi)).1
  · intro i hi
    unfold gtA gtC
    rw [hk i hi]
    exact (okC_cel (hall i hi)).2
theorem bk_yes (h : lgE n A C = 0) (hf : ∀ i, i < n + 1 → f i = celF n A C i) (hm : n + 1 ≤ m) : gtE m f (lgD n A C) = 0 ∧ gtN m f (lgD n A C) = n := by
  obtain ⟨b1, b2, b3, b4, _⟩ := bk_first h hf
  have e : gtE m f (lgD n A C) = 0 := by
    rw [gtE_all (by omega) b1 (by omega) (by rw [b2, b3]), b2, Nat.add_sub_cancel, if_pos b4]
  refine ⟨e, ?_⟩
  unfold gtN; rw [if_pos e, b2, Nat.add_sub_cancel]
theorem bk_other (h : lgE n A C = 0) (hf : ∀ i, i < n + 1 → f i = celF n A C i) (hm : n + 1 ≤ m) {d : ByteArray} (hd : d ≠ lgD n A C) : gtE m f d = 22 := by
  obtain ⟨b1, b2, b3, b4, _⟩ := bk_first h hf
  exact gtE_sum (by omega) b1 (by omega) (by rw [b2, b3]; exact hd)
theorem bk_fewer (h : lgE n A C = 0) (hf : ∀ i, i < n + 1 → f i = celF n A C i) (d : ByteArray) : gtE n f d = if n = 0 then 4 else 3 := by
  obtain ⟨b1, b2, b3, b4, _⟩ := bk_first h hf
  by_cases e : n = 0
  · subst e; exact gtE_none
  · rw [if_neg e]; exact gtE_short e b1 (by omega)
theorem bk_fit (h : lgE n A C = 0) (hf : ∀ i, i < n + 1 → f i = celF n A C i) (hm : m ≤ 1000) (hz : ∀ i, i < m → n + 1 ≤ i → (f i).size ≤ 140737488355328) : LogFit m f := by
  obtain ⟨b1, b2, b3, b4, _⟩ := bk_first h hf
  obtain ⟨h95, hfs⟩ := lgE_le h
  have hall := fsE_all hfs
  have hC : ∀ i, i < n → (C i).size ≤ 2032 := fun i hi => (wrE_zero.1 (hall i hi)).2.2
  refine ⟨hm, fun i hi => ?_, fun _ _ _ => ?_⟩
  · by_cases e : n + 1 ≤ i
    · exact hz i hi e
    · rw [hf i (by omega)]; exact Nat.le_trans (celF_size n i hC (by omega)) (by decide)
  · rw [b2, cat_congr _ (fun i => ctxB (celF n A C i)) (n + 1) 0 (fun j hj => by rw [Nat.zero_add]; show ctxB (f j) = ctxB _; rw [hf j hj])]
    exact cat_small (by omega) hC
theorem lgN_ok (h : lgE n A C = 0) : lgN n A C = n + 1 := if_pos h
end
/-- No writes. -/
def zA : Nat → Int := fun _ => 0
def zC : Nat → ByteArray := fun _ => noB
/-- The write that the laws wake with. -/
def xB : ByteArray := ⟨#[120]⟩
def n1B : ByteArray := ⟨#[0, 0, 0, 0, 0, 0, 0, 1]⟩
def wA : Nat → Int := fun _ => 120
def wC : Nat → ByteArray := fun _ => xB
theorem w_lg : lgE 1 wA wC = 0 := rfl
theorem one_num : n1B = numB ((1 : Nat) : Int) := by decide +kernel
theorem one_sz : szV n1B = 2 ∧ szE n1B = 0 := by rw [one_num]; exact ⟨szV_num (by decide), szE_num (by decide)⟩
/-- What is told of texts that came in: none has more than K bytes. -/
def TxArg (K : Nat) (W : World) (a : Option Addr) (len cap : Nat) : Prop :=
  len ≤ cap ∧ cap ≤ 140737488351232 ∧ (a = none → cap = 0) ∧ ∃ T : Nat → ByteArray, Cs W a len T ∧ ∀ i, i < len → (T i).size ≤ K
end Go.Proofs.YtegebaomhbogmaaDoor
