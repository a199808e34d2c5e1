/- SlabTells: plain facts; a disk of a bank tampered with, its image. -/
import Derived.Test.YtnhkkhiajiiahaaGreatDoorSlKeeps4Q
import Derived.Test.YtnhkkhiajiiahaaGreatDoorSlMapTQ
namespace Go.Proofs.YtnhkkhiajiiahaaGreatDoor
open Go.RowKit Go.PlainAid
set_option linter.unusedVariables false
set_option maxRecDepth 20000
/-- What is put into a slot, with which number, its cell. -/
def wtT (j : Nat) : ByteArray := (tx 1 fun _ => j) ++ ⟨#[49, 50, 51, 52, 53, 54, 55, 56, 57, 97, 98, 99, 100, 101, 102, 48, 49, 50, 51, 52, 53, 54, 55, 56, 57, 97, 98, 99, 100, 101, 102]⟩
def noT (j : Nat) : ByteArray := (tx 1 fun _ => j) ++ ⟨#[97, 98, 99, 100, 101, 102, 103, 104, 105, 106, 107]⟩
theorem wtT_size (j : Nat) : (wtT j).size = 32 := by unfold wtT; rw [ByteArray.size_append, tx_size]; rfl
theorem noT_size (j : Nat) : (noT j).size = 12 := by unfold noT; rw [ByteArray.size_append, tx_size]; rfl
def ceT (key : ByteArray) (j : Nat) : ByteArray := clB17 key (noT j) (plc 0 j) (wtT j)
theorem ceT_size (key : ByteArray) (j : Nat) : (ceT key j).size = 60 := by unfold ceT; rw [clB17_size _ _ _ _ (noT_size j), wtT_size]
theorem ceT_op (key : ByteArray) (j : Nat) : opE key (plc 0 j) (ceT key j) = 0 ∧ opT key (plc 0 j) (ceT key j) = wtT j := op_seal key (noT j) (plc 0 j) (wtT j) (noT_size j)
/-- The first k changes. -/
def wqT (key : ByteArray) : Nat → List Wr
  | 0 => []
  | k + 1 => wqT key k ++ [(k, ceT key k)]
theorem wqT_length (key : ByteArray) : ∀ k, (wqT key k).length = k
  | 0 => rfl
  | k + 1 => by show (wqT key k ++ _).length = _; rw [List.length_append, wqT_length key k]; rfl
theorem wqT_cok (key : ByteArray) (n : Nat) : ∀ k, k ≤ n → Cok n (zq (wqT key k))
  | 0, _ => cok_nil n
  | k + 1, h => cok_snoc (wqT_cok key n k (by omega)) (show k < n by omega) (by show (ceT key k).size ≤ 2032; rw [ceT_size]; decide)
theorem wqT_up (key : ByteArray) (C : Nat → ByteArray) (j : Nat) : ∀ k, upL C (zq (wqT key k)) j = if j < k then ceT key j else C j
  | 0 => by rw [if_neg (by omega)]; rfl
  | k + 1 => by
    show upL C (zq (wqT key k ++ [(k, ceT key k)])) j = _
    rw [up_snoc]
    show (if j = k then ceT key k else upL C (zq (wqT key k)) j) = _
    by_cases e : j = k
    · subst e; rw [if_pos rfl, if_pos (by omega)]
    · rw [if_neg e, wqT_up key C j k]
      by_cases e2 : j < k
      · rw [if_pos e2, if_pos (by omega)]
      · rw [if_neg e2, if_neg (by omega)]
/-- The first k are wanted so. -/
def fT (k : Nat) (j : Nat) : ByteArray := if j < k then wtT j else noB
theorem fT_all (n : Nat) : strs n (fT n) = strs n wtT := strs_eq n fun j hj => if_pos hj
theorem fT_step (k : Nat) : upd (fT k) (k, wtT k) = fT (k + 1) := by
  funext j
  unfold upd fT
  by_cases e : j = k
  · subst e; rw [if_pos rfl, if_pos (by omega)]
  · rw [if_neg e]
    by_cases e2 : j < k
    · rw [if_pos e2, if_pos (by omega)]
    · rw [if_neg e2, if_neg (by omega)]
/-- A disk of the bank, tampered with. -/
def tpB (b : Bs) (j : Nat) (at_ : Int) (s : ByteArray) : Bs := ⟨updD b.D j (tampD (b.D j) at_ s), b.s, b.p⟩
theorem tpB_at (b : Bs) (j : Nat) (at_ : Int) (s : ByteArray) : (tpB b j at_ s).D j = tampD (b.D j) at_ s := updD_same _ _ _
theorem Liv.tamper {N i : Nat} {b : Bs} {l : Nat → ByteArray} (h : Liv N i b l) (at_ : Int) (s : ByteArray) (hs : s.size ≤ 2048) : ∃ l', Liv N i (tpB b i at_ s) l' := by
  refine ⟨_, ⟨h.p, by rw [tpB_at]; exact h.dead, by rw [tpB_at]; exact h.n, ?_, rfl, fun a => ?_⟩⟩
  · rw [tpB_at]
    show tampQ (b.D i).q _ _ _ _ = []
    rw [h.q]; unfold tampQ
    split
    · rfl
    · rfl
  · rw [tpB_at]
    show (tampL (b.D i).l _ _ _ _ a).size ≤ 2048
    rw [h.ll]; unfold tampL
    split
    · unfold upd
      split
      · exact hs
      · exact h.sz a
    · exact h.sz a
section
variable {B : Nat} {w0 z z' : World} {gx g gr N : Nat} {b b' : Bs} {i n : Int} {key top : ByteArray} {R : Asn}
theorem Bth.tamper (hR : Firm R) (h : Bth B w0 z gx g gr N b b' i n key top R) {j : Nat} (hj : j < N) (at_ : Int) (s : ByteArray) (hq : (b.D j).q.length ≤ 1000000) :
    Calls Tryz.prog 19 #[.pointer (some ⟨(b.D j).g, 0, none⟩), .int .i64 at_, .string s] z fun e w' => e = .returned (.bool (tampB (b.D j).dead (b.D j).n at_ s)) ∧ Bth B w0 w' gx g gr N (tpB b j at_ s) b' i n key top R := by
  have h1 : Hold B w0 z (star (bkA g N b) (star (blkA gx 46 (btL g gr i n key top)) (star (rkA gr N b') R))) := Hold.swap h
  refine (h_tamper ((firm_bnkX j).star ((firm_blk _ _ _).star ((firm_rbk _ _ _ _ _).star hR))) (h1.openD j hj) at_ s hq).mono ?_
  rintro e w' ⟨rfl, h3⟩
  exact ⟨rfl, Hold.swap (Hold.shutD j hj (tampD (b.D j) at_ s) rfl h3)⟩
theorem Bth.image (h : Bth B w0 z gx g gr N b b' i n key top R) {j : Nat} (hj : j < N) {l : Nat → ByteArray} (hL : Liv N j b l) :
    Calls Tryz.prog 18 #[.pointer (some ⟨(b.D j).g, 0, none⟩)] z fun e w' => e = .returned (.slice (some ⟨z.heap.size, 0, none⟩) 140 140) ∧ Blk w' z.heap.size 9 (strs 140 l) ∧ Below z.heap.size z w' := by
  obtain ⟨F, hF⟩ := (Hold.openD (Hold.right h) j hj).dsk
  rw [hL.dead, hL.n, hL.q, hL.ll] at hF
  exact image_any hF
end
/-- A text that is summed. -/
def kB (k : Nat) : ByteArray := if k = 0 then ⟨#[0]⟩ else ⟨#[1]⟩
def kx (T : Nat → ByteArray) (i k : Nat) : ByteArray := kB k ++ T i
theorem kx_lH (T : Nat → ByteArray) (i : Nat) : digest (kx T i 0) = lH (T i) := rfl
theorem kx_nH (T : Nat → ByteArray) (i : Nat) : digest (kx T i 1) = nH (T i) := rfl
theorem kx_inj {T : Nat → ByteArray} {i j k : Nat} (h : kx T i k = kx T j k) : T i = T j := by
  have h1 : (kx T i k).extract (kB k).size (kx T i k).size = T i := cut_right _ _ _ _ rfl (by unfold kx; rw [ByteArray.size_append])
  have h2 : (kx T j k).extract (kB k).size (kx T j k).size = T j := cut_right _ _ _ _ rfl (by unfold kx; rw [ByteArray.size_append])
  rw [← h1, ← h2, h]
/-- Up to there each text summed is told of its digest. -/
def Met (T : Nat → ByteArray) (M : ByteArray → Option ByteArray) (p : Nat) : Prop := ∀ i k, k < 2 → 2 * i + k < p → M (digest (kx T i k)) = some (kx T i k)
theorem met_none (T : Nat → ByteArray) (M : ByteArray → Option ByteArray) : Met T M 0 := fun i k _ h => by omega
theorem Met.put {T : Nat → ByteArray} {M : ByteArray → Option ByteArray} {p i k : Nat} (h : Met T M p) (hk : k < 2) (hp : p = 2 * i + k) (hM : M (digest (kx T i k)) = none ∨ M (digest (kx T i k)) = some (kx T i k)) : Met T (pT M (digest (kx T i k)) (kx T i k)) (p + 1) := fun i' k' hk' h' => by
  unfold pT
  by_cases e : digest (kx T i' k') = digest (kx T i k)
  · rw [if_pos e]
    by_cases e2 : 2 * i' + k' < p
    · have h1 := h i' k' hk' e2
      rw [e] at h1
      rcases hM with hM | hM
      · rw [hM] at h1; cases h1
      · rw [hM] at h1; exact h1
    · obtain ⟨rfl, rfl⟩ : i' = i ∧ k' = k := by omega
      rfl
  · rw [if_neg e]
    by_cases e2 : 2 * i' + k' < p
    · exact h i' k' hk' e2
    · obtain ⟨rfl, rfl⟩ : i' = i ∧ k' = k := by omega
      exact absurd rfl e
theorem Met.one {T : Nat → ByteArray} {M : ByteArray → Option ByteArray} {m : Nat} (h : Met T M (2 * m)) {i j k : Nat} (hi : i < m) (hj : j < m) (hk : k < 2) (e : digest (kx T i k) = digest (kx T j k)) : T i = T j := by
  have h1 := h i k hk (by omega)
  have h2 := h j k hk (by omega)
  rw [e, h2] at h1
  exact (kx_inj (Option.some.inj h1)).symm
/-- What Get tells at the end. -/
theorem tl_get {b : Bs} {l l2 C : Nat → ByteArray} {d n : Nat} {key top : ByteArray} (hL : Liv 2 0 b l2) (hT : InT l d (sl0 top) C) (hn : 2 ^ d = n) (hd : 1 ≤ d ∧ d ≤ 4) (hC : ∀ j, j < n → C j = ceT key j)
    {T : Nat → ByteArray} {M : ByteArray → Option ByteArray} {m p : Nat} (hm : Met T M (2 * m)) (h140 : 140 ≤ m) (hp : p + 140 ≤ m) (h1 : ∀ i, i < 140 → T i = l i) (h2 : ∀ i, i < 140 → T (p + i) = l2 i) {s : Nat} (hs : s < n) :
    (slGE (rdS b.p (b.D 0)) (eR b.p (b.D 0)) d s top (opE key (plc 0 s)) = 0 → slGT (rdS b.p (b.D 0)) (eR b.p (b.D 0)) d s top (opT key (plc 0 s)) = wtT s) ∧ (slGE (rdS b.p (b.D 0)) (eR b.p (b.D 0)) d s top (opE key (plc 0 s)) ≠ 0 → slGT (rdS b.p (b.D 0)) (eR b.p (b.D 0)) d s top (opT key (plc 0 s)) = noB) := by
  have h16 : n ≤ 16 := by rw [← hn]; exact pow_le16 d hd.2
  subst hn
  have hrd : ∀ a, a < 140 → rdS b.p (b.D 0) a = l2 a := fun a ha => hL.rd ha
  rw [hL.er0]
  unfold slGE slGT
  rw [if_pos rfl]
  by_cases hf : fol d s (fun k => rdS b.p (b.D 0) (100 + nd d s k)) top d = some (lH (rdS b.p (b.D 0) (120 + s)))
  · rw [if_pos hf, if_pos ⟨rfl, hf⟩]
    have key2 : rdS b.p (b.D 0) (120 + s) = C s := by
      refine hT.tells hd.2 hs (fun i i1 i2 e => ?_) (fun e => ?_) hf
      · rw [hrd _ (by omega)] at e ⊢
        rw [← h1 (100 + i) (by omega), ← h2 (100 + i) (by omega)] at e ⊢
        rw [← kx_nH, ← kx_nH] at e
        exact hm.one (by omega) (by omega) (by omega) e
      · rw [hrd _ (by omega)] at e ⊢
        rw [← h1 (120 + s) (by omega), ← h2 (120 + s) (by omega)] at e ⊢
        rw [← kx_lH, ← kx_lH] at e
        exact hm.one (by omega) (by omega) (by omega) e
    rw [key2, hC s hs]
    exact ⟨fun _ => (ceT_op key s).2, fun h => absurd (ceT_op key s).1 h⟩
  · rw [if_neg hf, if_neg (fun h => hf h.2)]
    exact ⟨fun h => (by cases h), fun _ => rfl⟩
end Go.Proofs.YtnhkkhiajiiahaaGreatDoor
