/- The pairs and cells of a slab: what is changed, what is written, what is followed. Plain facts. -/
import Derived.Test.YtnhkkhiajiiahaaGreatDoorTrM
namespace Go.Proofs.YtnhkkhiajiiahaaGreatDoor
open Go.RowKit Go.PlainAid
set_option linter.unusedVariables false
/-- The digest of a leaf with that cell. -/
def lH (c : ByteArray) : ByteArray := digest (⟨#[0]⟩ ++ c)
theorem lH_size (c : ByteArray) : (lH c).size = 32 := digest_size _
/-- A slab's changes: the top, the pairs that were changed, the cells that were. -/
structure Sl where
  top : ByteArray
  ch : Nat → Option ByteArray
  ce : Nat → Option ByteArray
/-- None yet. -/
def sl0 (top : ByteArray) : Sl := ⟨top, fun _ => none, fun _ => none⟩
/-- The pair of a node, of those changed or of the disk. -/
def slp (rd : Nat → ByteArray) (S : Sl) (i : Nat) : ByteArray := (S.ch i).getD (rd (100 + i))
def slk (rd : Nat → ByteArray) (S : Sl) (d s k : Nat) : ByteArray := slp rd S (nd d s k)
/-- Are all pairs over the slot changed ones (so that none is read)? -/
def allC (S : Sl) (d s : Nat) : Prop := ∀ k, k < d → S.ch (nd d s k) ≠ none
instance (S : Sl) (d s : Nat) : Decidable (allC S d s) := by unfold allC; infer_instance
/-- The error of the pairs over a slot; E: that of reading. -/
def ovE (rd : Nat → ByteArray) (E : Int) (S : Sl) (d s : Nat) : Int := if E = 0 ∨ allC S d s then oE (fol d s (slk rd S d s) S.top d) else E
/-- One change. -/
def slCh (rd : Nat → ByteArray) (S : Sl) (d s : Nat) (c : ByteArray) (i : Nat) : Option ByteArray := match (List.range d).find? (fun k => nd d s k == i) with
  | some k => some (neu d s (slk rd S d s) (lH c) k)
  | none => S.ch i
def sl1 (rd : Nat → ByteArray) (S : Sl) (d s : Nat) (c : ByteArray) : Sl := ⟨cur d s (slk rd S d s) (lH c) d, slCh rd S d s c, fun j => if j = s then some c else S.ce j⟩
/-- What is to be written, in order: m places from o on. -/
def slL (o : Nat) (f : Nat → Option ByteArray) : Nat → List Wr
  | 0 => []
  | m + 1 => slL o f m ++ (match f m with | some p => [(o + m, p)] | none => [])
def slW (S : Sl) : List Wr := slL 100 S.ch 16 ++ slL 120 S.ce 16
theorem slCh_on (rd : Nat → ByteArray) (S : Sl) (d s : Nat) (c : ByteArray) (k : Nat) (hs : s < 2 ^ d) (hk : k < d) : slCh rd S d s c (nd d s k) = some (neu d s (slk rd S d s) (lH c) k) := by
  unfold slCh
  have h : (List.range d).find? (fun j => nd d s j == nd d s k) = some k := by
    rw [List.find?_range_eq_some]
    refine ⟨by simp, by simpa using hk, fun j hj => ?_⟩
    have := nd_ne d s j k hs (by omega) (by omega) (by omega)
    simpa using this
  rw [h]
theorem slCh_off (rd : Nat → ByteArray) (S : Sl) (d s : Nat) (c : ByteArray) (i : Nat) (h : ∀ k, k < d → i ≠ nd d s k) : slCh rd S d s c i = S.ch i := by
  unfold slCh
  have h' : (List.range d).find? (fun j => nd d s j == i) = none := by
    rw [List.find?_eq_none]
    intro j hj
    have := h j (by simpa using hj)
    simpa using Ne.symm this
  rw [h']
/-- The slab's pairs (those changed, else the disk's) are those of a tree over the cells C, whose top is the slab's. -/
def InT (rd : Nat → ByteArray) (d : Nat) (S : Sl) (C : Nat → ByteArray) : Prop := (∀ i, 1 ≤ i → i < 2 ^ d → slp rd S i = tpr (fun j => lH (C j)) (2 ^ d) i) ∧ (∀ j, j < 2 ^ d → (S.ce j).getD (rd (120 + j)) = C j) ∧ S.top = tdg (fun j => lH (C j)) (2 ^ d) 1
theorem InT.way {rd : Nat → ByteArray} {d : Nat} {S : Sl} {C : Nat → ByteArray} (h : InT rd d S C) {s : Nat} (hs : s < 2 ^ d) (k : Nat) (hk : k < d) : slk rd S d s k = tpr (fun j => lH (C j)) (2 ^ d) (nd d s k) :=
  h.1 _ (nd_inner d s k hk hs).1 (nd_inner d s k hk hs).2
theorem InT.leads {rd : Nat → ByteArray} {d : Nat} {S : Sl} {C : Nat → ByteArray} (h : InT rd d S C) (hd : d ≤ 4) {s : Nat} (hs : s < 2 ^ d) : fol d s (slk rd S d s) S.top d = some (lH (C s)) := by
  rw [h.2.2]
  exact fol_leaf _ d s _ hd hs (fun j _ => lH_size _) (h.way hs)
theorem InT.ovE {rd : Nat → ByteArray} {d : Nat} {S : Sl} {C : Nat → ByteArray} (h : InT rd d S C) (hd : d ≤ 4) {s : Nat} (hs : s < 2 ^ d) : ovE rd 0 S d s = 0 := by
  unfold Go.Proofs.YtnhkkhiajiiahaaGreatDoor.ovE
  rw [if_pos (.inl rfl), h.leads hd hs]; rfl
/-- One change more. -/
theorem InT.step {rd : Nat → ByteArray} {d : Nat} {S : Sl} {C : Nat → ByteArray} (h : InT rd d S C) (hd : d ≤ 4) {s : Nat} (hs : s < 2 ^ d) (c : ByteArray) : InT rd d (sl1 rd S d s c) (fun j => if j = s then c else C j) := by
  have hD : ∀ j, j ≠ s → (fun j => lH (if j = s then c else C j)) j = (fun j => lH (C j)) j := fun j hj => by
    show lH (if j = s then c else C j) = lH (C j); rw [if_neg hj]
  have hw := h.way hs
  have hz : ∀ j, j < 2 ^ d → ((fun j => lH (C j)) j).size = 32 := fun j _ => lH_size _
  obtain ⟨hN, hT⟩ := neu_pr (fun j => lH (C j)) (fun j => lH (if j = s then c else C j)) d s (slk rd S d s) hd hs hD hz hw
  simp only [if_true] at hN hT
  refine ⟨fun i i1 i2 => ?_, fun j hj => ?_, hT⟩
  · by_cases e : ∃ k, k < d ∧ i = nd d s k
    · obtain ⟨k, hk, rfl⟩ := e
      show ((slCh rd S d s c (nd d s k)).getD _) = _
      rw [slCh_on rd S d s c k hs hk]
      exact hN k hk
    · have e' : ∀ k, k < d → i ≠ nd d s k := fun k hk he => e ⟨k, hk, he⟩
      show ((slCh rd S d s c i).getD _) = _
      rw [slCh_off rd S d s c i e', pr_other (fun j => lH (C j)) _ d s i hd hs hD i1 i2 e']
      exact h.1 i i1 i2
  · show (if j = s then some c else S.ce j).getD _ = (if j = s then c else C j)
    by_cases e : j = s
    · rw [if_pos e, if_pos e]; rfl
    · rw [if_neg e, if_neg e]; exact h.2.1 j hj
/-- What is written lies where it was written to. -/
theorem app_slL (o : Nat) (g : Nat → Option ByteArray) (f : Nat → ByteArray) (a : Nat) : ∀ m, app f (slL o g m) a = if o ≤ a ∧ a < o + m then (g (a - o)).getD (f a) else f a
  | 0 => by rw [if_neg (by omega)]; rfl
  | m + 1 => by
    show app f (slL o g m ++ _) a = _
    rw [app_append]
    have ih := app_slL o g f a m
    cases hg : g m with
    | none =>
      show app f (slL o g m) a = _
      rw [ih]
      by_cases h1 : o ≤ a ∧ a < o + m
      · rw [if_pos h1, if_pos (by omega)]
      · rw [if_neg h1]
        by_cases h2 : o ≤ a ∧ a < o + (m + 1)
        · rw [if_pos h2, show a - o = m by omega, hg]; rfl
        · rw [if_neg h2]
    | some p =>
      show upd (app f (slL o g m)) (o + m, p) a = _
      unfold upd
      by_cases h1 : a = o + m
      · rw [if_pos h1, if_pos (by omega), show a - o = m by omega, hg]; rfl
      · rw [if_neg h1, ih]
        by_cases h2 : o ≤ a ∧ a < o + m
        · rw [if_pos h2, if_pos (by omega)]
        · rw [if_neg h2, if_neg (by omega)]
theorem app_slW (S : Sl) (f : Nat → ByteArray) : (∀ i, i < 16 → app f (slW S) (100 + i) = (S.ch i).getD (f (100 + i))) ∧ ∀ j, j < 16 → app f (slW S) (120 + j) = (S.ce j).getD (f (120 + j)) := by
  refine ⟨fun i hi => ?_, fun j hj => ?_⟩
  · unfold slW
    rw [app_append, app_slL, if_neg (by omega), app_slL, if_pos (by omega), show 100 + i - 100 = i by omega]
  · unfold slW
    rw [app_append, app_slL, if_pos (by omega), app_slL, if_neg (by omega), show 120 + j - 120 = j by omega]
theorem InT.applied {rd : Nat → ByteArray} {d : Nat} {S : Sl} {C : Nat → ByteArray} (h : InT rd d S C) (hd : d ≤ 4) : InT (app rd (slW S)) d (sl0 S.top) C := by
  have hp := pow_le16 d hd
  obtain ⟨a1, a2⟩ := app_slW S rd
  generalize app rd (slW S) = F at *
  exact ⟨fun i i1 i2 => (a1 i (by omega)).trans (h.1 i i1 i2), fun j hj => (a2 j (by omega)).trans (h.2.1 j hj), h.2.2⟩
/-- What Get tells, of the cell's own answer op; E: the error of reading. -/
def slGE (rd : Nat → ByteArray) (E : Int) (d s : Nat) (top : ByteArray) (op : ByteArray → Int) : Int := if E = 0 then (if fol d s (fun k => rd (100 + nd d s k)) top d = some (lH (rd (120 + s))) then op (rd (120 + s)) else 22) else E
def slGT (rd : Nat → ByteArray) (E : Int) (d s : Nat) (top : ByteArray) (op : ByteArray → ByteArray) : ByteArray := if E = 0 ∧ fol d s (fun k => rd (100 + nd d s k)) top d = some (lH (rd (120 + s))) then op (rd (120 + s)) else noB
theorem InT.get {rd : Nat → ByteArray} {d : Nat} {top : ByteArray} {C : Nat → ByteArray} (h : InT rd d (sl0 top) C) (hd : d ≤ 4) {s : Nat} (hs : s < 2 ^ d) (oe : ByteArray → Int) (ot : ByteArray → ByteArray) : slGE rd 0 d s top oe = oe (C s) ∧ slGT rd 0 d s top ot = ot (C s) := by
  have h1 : rd (120 + s) = C s := h.2.1 s hs
  have h2 : fol d s (fun k => rd (100 + nd d s k)) top d = some (lH (rd (120 + s))) := by
    have h3 := h.leads hd hs
    have h4 : slk rd (sl0 top) d s = fun k => rd (100 + nd d s k) := rfl
    have h5 : (sl0 top).top = top := rfl
    rw [h4, h5] at h3
    rw [h1, h3]
  exact ⟨by unfold slGE; rw [if_pos rfl, if_pos h2, h1], by unfold slGT; rw [if_pos ⟨rfl, h2⟩, h1]⟩
/-- Whatever the disk has become: where the way leads to the cell, it is the one that was put; unless two unlike texts have one digest. -/
theorem InT.tells {rd rd2 : Nat → ByteArray} {d : Nat} {top : ByteArray} {C : Nat → ByteArray} (h : InT rd d (sl0 top) C) (hd : d ≤ 4) {s : Nat} (hs : s < 2 ^ d)
    (hn : ∀ i, 1 ≤ i → i < 2 ^ d → nH (rd2 (100 + i)) = nH (rd (100 + i)) → rd2 (100 + i) = rd (100 + i)) (hl : lH (rd2 (120 + s)) = lH (rd (120 + s)) → rd2 (120 + s) = rd (120 + s))
    (hf : fol d s (fun k => rd2 (100 + nd d s k)) top d = some (lH (rd2 (120 + s)))) : rd2 (120 + s) = C s := by
  have hz : ∀ j, j < 2 ^ d → ((fun j => lH (C j)) j).size = 32 := fun j _ => lH_size _
  have hp := pow_le16 d hd
  have key : ∀ k, k ≤ d → ∀ t, fol d s (fun k => rd2 (100 + nd d s k)) top k = some t → t = tdg (fun j => lH (C j)) (2 ^ d) (nd d s k) := by
    intro k
    induction k with
    | zero => intro _ t ht; rw [nd_zero d s hs, ← h.2.2]; exact (Option.some.inj ht).symm
    | succ k ih =>
      intro hk t ht
      obtain ⟨t1, t2, t3⟩ := fol_inv ht
      obtain ⟨i1, i2⟩ := nd_inner d s k (by omega) hs
      have e1 := ih (by omega) _ t2
      have e2 : rd (100 + nd d s k) = tpr (fun j => lH (C j)) (2 ^ d) (nd d s k) := h.1 _ i1 i2
      rw [dg_inner _ _ _ hp i1 i2, ← e2] at e1
      have e3 := hn _ i1 i2 e1
      rw [t3]
      show half (sd d s k) (rd2 (100 + nd d s k)) = _
      rw [e3, e2, half_pr _ _ _ _ hp i1 i2 (sd_lt d s k) hz, ← nd_succ d s k (by omega)]
  have e1 := key d (Nat.le_refl _) _ hf
  rw [nd_last, dg_leaf _ _ _ (by omega), show 2 ^ d + s - 2 ^ d = s by omega] at e1
  have e2 : rd (120 + s) = C s := h.2.1 s hs
  rw [← e2] at e1 ⊢
  exact hl e1
/-- A new slab: all cells empty. -/
theorem inT_blank (rd : Nat → ByteArray) (d : Nat) (top : ByteArray) (h1 : ∀ i, 1 ≤ i → i < 2 ^ d → rd (100 + i) = tpr (fun _ => lH noB) (2 ^ d) i) (h2 : ∀ j, j < 2 ^ d → rd (120 + j) = noB) (h3 : top = tdg (fun _ => lH noB) (2 ^ d) 1) : InT rd d (sl0 top) (fun _ => noB) := ⟨h1, h2, h3⟩
end Go.Proofs.YtnhkkhiajiiahaaGreatDoor
