/- What is read of a record's bytes, by the program and by the document; no Go function is walked here. -/
import Derived.Test.YtbjmhpbelkndpaaDoorSuPlain
namespace Go.Proofs.YtbjmhpbelkndpaaDoor
open Go.RowKit Go.PlainAid
set_option linter.unusedVariables false

/-- A reader's state: what is left, the error that was met. -/
abbrev Rst := ByteArray × Int
/-- Numbers one behind the other, each below its bound. -/
def rdS (b : Nat → Int) (s : Rst) : Nat → Rst
  | 0 => s
  | i + 1 => (nmL (rdS b s i).1 (rdS b s i).2, blE (rdS b s i).1 (rdS b s i).2 (b i))
def rdV (b : Nat → Int) (s : Rst) (i : Nat) : Int := cblV (rdS b s i).1 (rdS b s i).2 (b i)
/-- One member, and members one behind the other. -/
def m1 (b : Int) (s : Rst) : Rst := (nmL s.1 s.2, blE s.1 s.2 b)
def m2 (s : Rst) : Rst := (txL s.1 s.2, txE s.1 s.2)
def mbS (b : Int) (s : Rst) : Nat → Rst
  | 0 => s
  | i + 1 => m2 (m2 (m1 b (mbS b s i)))
def mSt (b : Int) (s : Rst) (i : Nat) : Int := cblV (mbS b s i).1 (mbS b s i).2 b
def mTop (b : Int) (s : Rst) (i : Nat) : ByteArray := txV (m1 b (mbS b s i)).1 (m1 b (mbS b s i)).2
def mLog (b : Int) (s : Rst) (i : Nat) : ByteArray := txV (m2 (m1 b (mbS b s i))).1 (m2 (m1 b (mbS b s i))).2
/-- A bound above all numbers is none. -/
theorem cbl_big (L : ByteArray) (e : Int) : cblV L e 18446744073709551616 = nmV L e := by
  have h := nmV_range L e
  unfold cblV; rw [if_pos ⟨by omega, by omega⟩]
theorem blE_big (L : ByteArray) (e : Int) : blE L e 18446744073709551616 = nmE L e := by
  have h := nmV_range L e
  unfold blE; rw [if_pos (.inl ⟨by omega, by omega⟩)]
theorem cbl_range (L : ByteArray) (e b : Int) : 0 ≤ cblV L e b ∧ cblV L e b ≤ 18446744073709551615 ∧ (1 ≤ b → cblV L e b < b) := by
  have h := nmV_range L e
  unfold cblV; split <;> omega
/-- What is left never grows. -/
theorem rdS_size (b : Nat → Int) (s : Rst) (i : Nat) : (rdS b s i).1.size ≤ s.1.size := by
  induction i with
  | zero => exact Nat.le_refl _
  | succ i ih => exact Nat.le_trans (nmL_size _ _) ih
theorem m1_size (b : Int) (s : Rst) : (m1 b s).1.size ≤ s.1.size := nmL_size _ _
theorem m2_size (s : Rst) : (m2 s).1.size ≤ s.1.size := txL_size _ _
theorem mbS_size (b : Int) (s : Rst) (i : Nat) : (mbS b s i).1.size ≤ s.1.size := by
  induction i with
  | zero => exact Nat.le_refl _
  | succ i ih => exact Nat.le_trans (m2_size _) (Nat.le_trans (m2_size _) (Nat.le_trans (m1_size _ _) ih))
theorem tkT_size (L : ByteArray) (e n : Int) : (tkT L e n).size ≤ L.size := by
  unfold tkT; split
  · rw [ByteArray.size_extract]; omega
  · exact Nat.zero_le _
theorem txV_size (L : ByteArray) (e : Int) : (txV L e).size ≤ L.size := Nat.le_trans (tkT_size _ _ _) (nmL_size L e)
theorem mTop_size (b : Int) (s : Rst) (i : Nat) : (mTop b s i).size ≤ s.1.size := Nat.le_trans (txV_size _ _) (Nat.le_trans (m1_size _ _) (mbS_size b s i))
theorem mLog_size (b : Int) (s : Rst) (i : Nat) : (mLog b s i).size ≤ s.1.size := Nat.le_trans (txV_size _ _) (Nat.le_trans (m2_size _) (Nat.le_trans (m1_size _ _) (mbS_size b s i)))
/-- What is read without an error is written so. -/
theorem hiW_at (L : ByteArray) (h : 8 ≤ L.size) (i : Nat) (hi : i < 8) : bt (numB (rd8 L 0)) i = bt L i := by
  have hr := rd8_range L 0
  have h0 := bt_range L 0
  have h1 := bt_range L 1
  have h2 := bt_range L 2
  have h3 := bt_range L 3
  have h4 := bt_range L 4
  have h5 := bt_range L 5
  have h6 := bt_range L 6
  have h7 := bt_range L 7
  rw [numB_bt _ hr.1 hr.2 i hi]
  simp only [rd8, acc, Nat.zero_add] at hr ⊢
  rcases (by omega : i = 0 ∨ i = 1 ∨ i = 2 ∨ i = 3 ∨ i = 4 ∨ i = 5 ∨ i = 6 ∨ i = 7) with rfl | rfl | rfl | rfl | rfl | rfl | rfl | rfl <;> simp only [List.getElem_cons_zero, List.getElem_cons_succ] <;> omega
theorem num_at (L : ByteArray) (h : 8 ≤ L.size) : numB (rd8 L 0) ++ L.extract 8 L.size = L := by
  apply bt_ext
  · rw [ByteArray.size_append, numB_size, ByteArray.size_extract]; omega
  · intro i hi
    by_cases h8 : i < 8
    · rw [bt_left _ _ _ (by rw [numB_size]; exact h8), hiW_at L h i h8]
    · rw [ByteArray.size_append, numB_size, ByteArray.size_extract] at hi
      rw [bt_right _ _ _ (by rw [numB_size]; omega), numB_size, bt_cut _ _ _ _ (Nat.le_refl _) (by omega)]
      congr 1; omega
theorem nmE_zero {L : ByteArray} {e : Int} (h : nmE L e = 0) : e = 0 ∧ 8 ≤ L.size := by
  unfold nmE tkE at h
  split at h
  · omega
  · rename_i h2
    refine ⟨h, ?_⟩
    rcases Nat.lt_or_ge L.size 8 with h3 | h3
    · exact absurd ⟨h, by omega⟩ h2
    · exact h3
theorem nm_back {L : ByteArray} {e : Int} (h : nmE L e = 0) : e = 0 ∧ L = numB (nmV L e) ++ nmL L e := by
  obtain ⟨rfl, h8⟩ := nmE_zero h
  refine ⟨rfl, ?_⟩
  unfold nmL
  rw [nmV_ok h8, tkL_ok (by omega)]
  exact (num_at L h8).symm
theorem blE_zero {L : ByteArray} {e b : Int} (h : blE L e b = 0) : e = 0 ∧ L = numB (cblV L e b) ++ nmL L e ∧ cblV L e b < b := by
  unfold blE at h
  split at h
  · rename_i hc
    obtain ⟨h1, h2⟩ := nm_back h
    have hc' : 1 ≤ b ∧ nmV L e < b := hc.resolve_right (fun hn => hn h)
    have e1 : cblV L e b = nmV L e := if_pos hc'
    rw [e1]
    exact ⟨h1, h2, hc'.2⟩
  · omega
theorem tx_back {L : ByteArray} {e : Int} (h : txE L e = 0) : e = 0 ∧ L = ctxB (txV L e) ++ txL L e := by
  unfold txE tkE at h
  split at h
  · omega
  · rename_i h2
    obtain ⟨he, hL⟩ := nm_back h
    have hr := nmV_range L e
    have hle : nmV L e ≤ ((nmL L e).size : Int) := by
      rcases Int.lt_or_le ((nmL L e).size : Int) (nmV L e) with h3 | h3
      · exact absurd ⟨h, h3⟩ h2
      · exact h3
    refine ⟨he, ?_⟩
    unfold txV txL
    rw [h, tkT_ok hle, tkL_ok hle]
    unfold ctxB
    have hz : ((nmL L e).extract 0 (nmV L e).toNat).size = (nmV L e).toNat := by rw [ByteArray.size_extract]; omega
    rw [hz, show (((nmV L e).toNat : Nat) : Int) = nmV L e by omega, join_assoc]
    have hj : (nmL L e).extract 0 (nmV L e).toNat ++ (nmL L e).extract (nmV L e).toNat (nmL L e).size = nmL L e := by
      apply bt_ext
      · rw [ByteArray.size_append, ByteArray.size_extract, ByteArray.size_extract]; omega
      · intro i hi
        by_cases h8 : i < (nmV L e).toNat
        · rw [bt_left _ _ _ (by rw [hz]; exact h8), bt_take _ _ _ (by omega) (by omega)]
        · rw [ByteArray.size_append, ByteArray.size_extract, ByteArray.size_extract] at hi
          rw [bt_right _ _ _ (by rw [hz]; omega), hz, bt_cut _ _ _ _ (Nat.le_refl _) (by omega)]
          congr 1; omega
    rw [hj]; exact hL
theorem rd_back {b : Nat → Int} {s : Rst} : ∀ {i : Nat}, (rdS b s i).2 = 0 → s.2 = 0 ∧ s.1 = cat (nmB (rdV b s)) 0 i ++ (rdS b s i).1 ∧ ∀ j, j < i → rdV b s j < b j := by
  intro i
  induction i with
  | zero => intro h; exact ⟨h, (noB_app _).symm, fun j hj => absurd hj (by omega)⟩
  | succ i ih =>
    intro h
    obtain ⟨h1, h2, h3⟩ := blE_zero (show blE (rdS b s i).1 (rdS b s i).2 (b i) = 0 from h)
    obtain ⟨h4, h5, h6⟩ := ih h1
    refine ⟨h4, ?_, fun j hj => ?_⟩
    · rw [cat_snoc, join_assoc, Nat.zero_add]
      show _ = _ ++ (numB (rdV b s i) ++ nmL (rdS b s i).1 (rdS b s i).2)
      unfold rdV
      rw [← h2]; exact h5
    · by_cases e : j = i
      · rw [e]; exact h3
      · exact h6 j (by omega)
theorem mb_back {b : Int} {s : Rst} : ∀ {i : Nat}, (mbS b s i).2 = 0 → s.2 = 0 ∧ s.1 = cat (mbB (mSt b s) (mTop b s) (mLog b s)) 0 i ++ (mbS b s i).1 := by
  intro i
  induction i with
  | zero => intro h; exact ⟨h, (noB_app _).symm⟩
  | succ i ih =>
    intro h
    obtain ⟨h1, h2⟩ := tx_back (show txE (m2 (m1 b (mbS b s i))).1 (m2 (m1 b (mbS b s i))).2 = 0 from h)
    obtain ⟨h3, h4⟩ := tx_back (show txE (m1 b (mbS b s i)).1 (m1 b (mbS b s i)).2 = 0 from h1)
    obtain ⟨h5, h6, _⟩ := blE_zero (show blE (mbS b s i).1 (mbS b s i).2 b = 0 from h3)
    obtain ⟨h7, h8⟩ := ih h5
    refine ⟨h7, ?_⟩
    rw [cat_snoc, join_assoc, Nat.zero_add]
    have e : mbB (mSt b s) (mTop b s) (mLog b s) i ++ (mbS b s (i + 1)).1 = (mbS b s i).1 := by
      unfold mbB
      rw [join_assoc, join_assoc]
      show numB (mSt b s i) ++ (ctxB (mTop b s i) ++ (ctxB (mLog b s i) ++ txL (m2 (m1 b (mbS b s i))).1 (m2 (m1 b (mbS b s i))).2)) = _
      unfold mLog mTop mSt
      rw [← h2]
      show numB (cblV (mbS b s i).1 (mbS b s i).2 b) ++ (ctxB (txV (m1 b (mbS b s i)).1 (m1 b (mbS b s i)).2) ++ txL (m1 b (mbS b s i)).1 (m1 b (mbS b s i)).2) = _
      rw [← h4]
      exact h6.symm
    rw [e]; exact h8
/-- What is written is read so. -/
theorem bl_num (n b : Int) (h0 : 0 ≤ n) (h1 : n ≤ 18446744073709551615) (hb : n < b) (X : ByteArray) : cblV (numB n ++ X) 0 b = n ∧ nmL (numB n ++ X) 0 = X ∧ blE (numB n ++ X) 0 b = 0 := by
  obtain ⟨e1, e2, e3⟩ := nm_num n h0 h1 X
  refine ⟨?_, e2, ?_⟩
  · unfold cblV; rw [e1]; exact if_pos ⟨by omega, hb⟩
  · unfold blE; rw [e1, e3]; exact if_pos (.inl ⟨by omega, hb⟩)
theorem rd_fwd {b v : Nat → Int} {n : Nat} {X : ByteArray} (hv : ∀ j, j < n → 0 ≤ v j ∧ v j ≤ 18446744073709551615 ∧ v j < b j) : ∀ i, i ≤ n → rdS b (cat (nmB v) 0 n ++ X, 0) i = (cat (nmB v) i (n - i) ++ X, 0) := by
  intro i
  induction i with
  | zero => intro _; rfl
  | succ i ih =>
    intro hi
    have h := ih (by omega)
    obtain ⟨h1, h2, h3⟩ := hv i (by omega)
    obtain ⟨e1, e2, e3⟩ := bl_num (v i) (b i) h1 h2 h3 (cat (nmB v) (i + 1) (n - (i + 1)) ++ X)
    have hn : cat (nmB v) i (n - i) ++ X = numB (v i) ++ (cat (nmB v) (i + 1) (n - (i + 1)) ++ X) := by rw [cat_next _ i n (by omega), join_assoc]; rfl
    show (nmL (rdS b _ i).1 (rdS b _ i).2, blE (rdS b _ i).1 (rdS b _ i).2 (b i)) = _
    rw [h]
    show (nmL (cat (nmB v) i (n - i) ++ X) 0, blE (cat (nmB v) i (n - i) ++ X) 0 (b i)) = _
    rw [hn, e2, e3]
theorem rd_val {b v : Nat → Int} {n : Nat} {X : ByteArray} (hv : ∀ j, j < n → 0 ≤ v j ∧ v j ≤ 18446744073709551615 ∧ v j < b j) (i : Nat) (hi : i < n) : rdV b (cat (nmB v) 0 n ++ X, 0) i = v i := by
  obtain ⟨h1, h2, h3⟩ := hv i hi
  have hn : cat (nmB v) i (n - i) ++ X = numB (v i) ++ (cat (nmB v) (i + 1) (n - (i + 1)) ++ X) := by rw [cat_next _ i n (by omega), join_assoc]; rfl
  unfold rdV
  rw [rd_fwd hv i (by omega)]
  show cblV (cat (nmB v) i (n - i) ++ X) 0 (b i) = _
  rw [hn]
  exact (bl_num (v i) (b i) h1 h2 h3 _).1
theorem mb_one (b x : Int) (t l X : ByteArray) (h0 : 0 ≤ x) (h1 : x ≤ 18446744073709551615) (hb : x < b) (ht : t.size ≤ 140737488355328) (hl : l.size ≤ 140737488355328) :
    cblV (numB x ++ (ctxB t ++ ctxB l) ++ X) 0 b = x ∧ m1 b (numB x ++ (ctxB t ++ ctxB l) ++ X, 0) = (ctxB t ++ (ctxB l ++ X), 0) ∧ txV (ctxB t ++ (ctxB l ++ X)) 0 = t ∧ m2 (ctxB t ++ (ctxB l ++ X), 0) = (ctxB l ++ X, 0) ∧ txV (ctxB l ++ X) 0 = l ∧ m2 (ctxB l ++ X, 0) = (X, 0) := by
  obtain ⟨e1, e2, e3⟩ := bl_num x b h0 h1 hb (ctxB t ++ (ctxB l ++ X))
  obtain ⟨f1, f2, f3⟩ := tx_text t (ctxB l ++ X) (by omega)
  obtain ⟨g1, g2, g3⟩ := tx_text l X (by omega)
  rw [join_assoc, join_assoc]
  unfold m1 m2
  simp only []
  rw [e1, e2, e3, f1, f2, f3, g1, g2, g3]
  exact ⟨rfl, rfl, rfl, rfl, rfl, rfl⟩
theorem mb_fwd {b : Int} {st : Nat → Int} {top log : Nat → ByteArray} {n : Nat} {X : ByteArray} (hv : ∀ j, j < n → 0 ≤ st j ∧ st j ≤ 18446744073709551615 ∧ st j < b ∧ (top j).size ≤ 140737488355328 ∧ (log j).size ≤ 140737488355328) :
    ∀ i, i ≤ n → mbS b (cat (mbB st top log) 0 n ++ X, 0) i = (cat (mbB st top log) i (n - i) ++ X, 0) := by
  intro i
  induction i with
  | zero => intro _; rfl
  | succ i ih =>
    intro hi
    obtain ⟨h1, h2, h3, h4, h5⟩ := hv i (by omega)
    obtain ⟨e1, e2, e3, e4, e5, e6⟩ := mb_one b (st i) (top i) (log i) (cat (mbB st top log) (i + 1) (n - (i + 1)) ++ X) h1 h2 h3 h4 h5
    have hn : cat (mbB st top log) i (n - i) ++ X = numB (st i) ++ (ctxB (top i) ++ ctxB (log i)) ++ (cat (mbB st top log) (i + 1) (n - (i + 1)) ++ X) := by rw [cat_next _ i n (by omega), join_assoc]; rfl
    show m2 (m2 (m1 b (mbS b _ i))) = _
    rw [ih (by omega), hn, e2, e4, e6]
theorem mb_val {b : Int} {st : Nat → Int} {top log : Nat → ByteArray} {n : Nat} {X : ByteArray} (hv : ∀ j, j < n → 0 ≤ st j ∧ st j ≤ 18446744073709551615 ∧ st j < b ∧ (top j).size ≤ 140737488355328 ∧ (log j).size ≤ 140737488355328) (i : Nat) (hi : i < n) :
    mSt b (cat (mbB st top log) 0 n ++ X, 0) i = st i ∧ mTop b (cat (mbB st top log) 0 n ++ X, 0) i = top i ∧ mLog b (cat (mbB st top log) 0 n ++ X, 0) i = log i := by
  obtain ⟨h1, h2, h3, h4, h5⟩ := hv i (by omega)
  obtain ⟨e1, e2, e3, e4, e5, e6⟩ := mb_one b (st i) (top i) (log i) (cat (mbB st top log) (i + 1) (n - (i + 1)) ++ X) h1 h2 h3 h4 h5
  have hn : cat (mbB st top log) i (n - i) ++ X = numB (st i) ++ (ctxB (top i) ++ ctxB (log i)) ++ (cat (mbB st top log) (i + 1) (n - (i + 1)) ++ X) := by rw [cat_next _ i n (by omega), join_assoc]; rfl
  unfold mSt mTop mLog
  rw [mb_fwd hv i (by omega), hn, e2]
  simp only []
  rw [e4]
  exact ⟨e1, e3, e5⟩
/-- How a record is read: bounds of the numbers ahead, of seats, of their members' number, of states; what is made of small numbers. -/
structure Way where
  hb : Nat → Int
  bs : Int
  bm : Int
  bt : Int
  f : Int → Int
section
variable (z : Way) (t : ByteArray)
def Way.s8 : Rst := rdS z.hb (t, 0) 8
def Way.ns : Nat := (z.f (rdV z.hb (t, 0) 7)).toNat
def Way.sS : Rst := rdS (fun _ => z.bs) (z.s8 t) (z.ns t)
def Way.nm : Nat := (z.f (rdV (fun _ => z.bm) (z.sS t) 0)).toNat
def Way.sM : Rst := rdS (fun _ => z.bm) (z.sS t) 1
def Way.fin : Rst := mbS z.bt (z.sM t) (z.nm t)
def Way.told : Rec where
  count := rdV z.hb (t, 0) 0
  epoch := rdV z.hb (t, 0) 1
  data := z.f (rdV z.hb (t, 0) 2)
  slots := z.f (rdV z.hb (t, 0) 3)
  mark := z.f (rdV z.hb (t, 0) 4)
  built := z.f (rdV z.hb (t, 0) 5)
  grow := z.f (rdV z.hb (t, 0) 6) == 1
  ns := z.ns t
  seat := fun i => z.f (rdV (fun _ => z.bs) (z.s8 t) i)
  nm := z.nm t
  st := fun i => z.f (mSt z.bt (z.sM t) i)
  top := mTop z.bt (z.sM t)
  log := mLog z.bt (z.sM t)
end
/-- The program's way, the document's. -/
def hbP (i : Nat) : Int := if i < 2 then 18446744073709551616 else if i = 2 then 9 else if i < 6 then 17 else if i = 6 then 2 else 13
def wayP : Way := ⟨hbP, 12, 13, 4, id⟩
def smV (v : Int) : Int := if 100 < v then -1 else v
def wayR : Way := ⟨fun _ => 18446744073709551616, 18446744073709551616, 18446744073709551616, 18446744073709551616, smV⟩
/-- A way on which good records are read. -/
structure Way.Fits (z : Way) : Prop where
  h0 : z.hb 0 = 18446744073709551616
  h1 : z.hb 1 = 18446744073709551616
  h2 : 8 < z.hb 2
  h3 : 16 < z.hb 3
  h4 : 16 < z.hb 4
  h5 : 16 < z.hb 5
  h6 : 1 < z.hb 6
  h7 : 12 < z.hb 7
  bs : 11 < z.bs
  bm : 12 < z.bm
  bt : 3 < z.bt
  f : ∀ v, v ≤ 100 → z.f v = v
theorem wayP_fits : wayP.Fits := ⟨rfl, rfl, by decide, by decide, by decide, by decide, by decide, by decide, by decide, by decide, by decide, fun _ _ => rfl⟩
theorem wayR_fits : wayR.Fits := ⟨rfl, rfl, by decide, by decide, by decide, by decide, by decide, by decide, by decide, by decide, by decide, fun v hv => if_neg (by omega)⟩
/-- Numbers of a good record. -/
theorem wid_le {R : Rec} (h : rOk R) : R.ns ≤ 11 ∧ R.nm ≤ 12 ∧ 2 ≤ R.data ∧ R.data ≤ 8 ∧ 2 ≤ R.slots ∧ R.slots ≤ 16 ∧ 0 ≤ R.mark ∧ R.mark ≤ 16 ∧ 0 ≤ R.built ∧ R.built ≤ 16 := by
  obtain ⟨⟨a1, a2, d1, a3, m1, m2, m3, m4, m5, b1, b2⟩, hm, d3, hb⟩ := h
  unfold mst at a2
  unfold wid at d1
  cases hg : R.grow <;> rw [hg] at a2 d1 <;> simp at a2 d1 <;> omega
theorem way_good (z : Way) (hz : z.Fits) (R : Rec) (hg : gd R = true) (hc : 0 ≤ R.count ∧ R.count ≤ 18446744073709551615) (he : 0 ≤ R.epoch ∧ R.epoch ≤ 18446744073709551615) (X : ByteArray) : (z.told (byB R ++ X)).Same R ∧ z.fin (byB R ++ X) = (X, 0) := by
  have hr := (gd_iff R).1 hg
  obtain ⟨w1, w2, w3, w4, w5, w6, w7, w8, w9, w10⟩ := wid_le hr
  obtain ⟨-, hm, hs, -⟩ := hr
  have z2 := hz.h2; have z3 := hz.h3; have z4 := hz.h4; have z5 := hz.h5; have z6 := hz.h6; have z7 := hz.h7
  have zs := hz.bs; have zm := hz.bm; have zt := hz.bt
  have hh : ∀ j, j < 8 → 0 ≤ hdN R j ∧ hdN R j ≤ 18446744073709551615 ∧ hdN R j < z.hb j := by
    intro j hj
    have hgr : (if R.grow then (1 : Int) else 0) ≤ 1 ∧ 0 ≤ (if R.grow then (1 : Int) else 0) := by split <;> omega
    rcases (by omega : j = 0 ∨ j = 1 ∨ j = 2 ∨ j = 3 ∨ j = 4 ∨ j = 5 ∨ j = 6 ∨ j = 7) with rfl | rfl | rfl | rfl | rfl | rfl | rfl | rfl
    · show 0 ≤ R.count ∧ R.count ≤ _ ∧ R.count < _; rw [hz.h0]; omega
    · show 0 ≤ R.epoch ∧ R.epoch ≤ _ ∧ R.epoch < _; rw [hz.h1]; omega
    · show 0 ≤ R.data ∧ R.data ≤ _ ∧ R.data < _; omega
    · show 0 ≤ R.slots ∧ R.slots ≤ _ ∧ R.slots < _; omega
    · show 0 ≤ R.mark ∧ R.mark ≤ _ ∧ R.mark < _; omega
    · show 0 ≤ R.built ∧ R.built ≤ _ ∧ R.built < _; omega
    · show 0 ≤ (if R.grow then (1 : Int) else 0) ∧ (if R.grow then (1 : Int) else 0) ≤ _ ∧ (if R.grow then (1 : Int) else 0) < _; omega
    · show 0 ≤ (R.ns : Int) ∧ (R.ns : Int) ≤ _ ∧ (R.ns : Int) < _; omega
  have hse : ∀ j, j < R.ns → 0 ≤ R.seat j ∧ R.seat j ≤ 18446744073709551615 ∧ R.seat j < (fun _ : Nat => z.bs) j := fun j hj => by
    have := hs j hj
    show _ ∧ _ ∧ _ < z.bs; omega
  have hnm : ∀ j, j < 1 → 0 ≤ (fun _ : Nat => (R.nm : Int)) j ∧ (fun _ : Nat => (R.nm : Int)) j ≤ 18446744073709551615 ∧ (fun _ : Nat => (R.nm : Int)) j < (fun _ : Nat => z.bm) j := fun j hj => by
    show (0 : Int) ≤ (R.nm : Int) ∧ (R.nm : Int) ≤ _ ∧ (R.nm : Int) < z.bm; omega
  have hmm : ∀ j, j < R.nm → 0 ≤ R.st j ∧ R.st j ≤ 18446744073709551615 ∧ R.st j < z.bt ∧ (R.top j).size ≤ 140737488355328 ∧ (R.log j).size ≤ 140737488355328 := fun j hj => by
    have := hm j hj
    unfold mOk at this; omega
  rw [hd_split]
  generalize hX3 : cat (mbB R.st R.top R.log) 0 R.nm ++ X = X3
  generalize hX2 : cat (nmB fun _ => (R.nm : Int)) 0 1 ++ X3 = X2
  generalize hX1 : cat (nmB R.seat) 0 R.ns ++ X2 = X1
  have v8 := fun i hi => rd_val (X := X1) hh i hi
  have e8 : z.s8 (cat (nmB (hdN R)) 0 8 ++ X1) = (X1, 0) := by
    show rdS z.hb (cat (nmB (hdN R)) 0 8 ++ X1, 0) 8 = _
    rw [rd_fwd hh 8 (Nat.le_refl _)]; show (noB ++ X1, _) = _; rw [noB_app]
  have ens : z.ns (cat (nmB (hdN R)) 0 8 ++ X1) = R.ns := by
    unfold Way.ns; rw [v8 7 (by omega)]
    show (z.f (R.ns : Int)).toNat = _
    rw [hz.f _ (by omega)]; rfl
  have eS : z.sS (cat (nmB (hdN R)) 0 8 ++ X1) = (X2, 0) := by
    unfold Way.sS; rw [e8, ens, ← hX1, rd_fwd hse R.ns (Nat.le_refl _), Nat.sub_self]; show (noB ++ X2, _) = _; rw [noB_app]
  have enm : z.nm (cat (nmB (hdN R)) 0 8 ++ X1) = R.nm := by
    unfold Way.nm; rw [eS, ← hX2, rd_val hnm 0 (by omega), hz.f _ (by omega)]; rfl
  have eM : z.sM (cat (nmB (hdN R)) 0 8 ++ X1) = (X3, 0) := by
    unfold Way.sM; rw [eS, ← hX2, rd_fwd hnm 1 (Nat.le_refl _)]; show (noB ++ X3, _) = _; rw [noB_app]
  refine ⟨⟨v8 0 (by omega), v8 1 (by omega), ?_, ?_, ?_, ?_, ?_, ens, fun i hi => ?_, enm, fun i hi => ?_, fun i hi => ?_, fun i hi => ?_⟩, ?_⟩
  · show z.f (rdV z.hb _ 2) = R.data; rw [v8 2 (by omega)]; exact hz.f _ (by show R.data ≤ 100; omega)
  · show z.f (rdV z.hb _ 3) = R.slots; rw [v8 3 (by omega)]; exact hz.f _ (by show R.slots ≤ 100; omega)
  · show z.f (rdV z.hb _ 4) = R.mark; rw [v8 4 (by omega)]; exact hz.f _ (by show R.mark ≤ 100; omega)
  · show z.f (rdV z.hb _ 5) = R.built; rw [v8 5 (by omega)]; exact hz.f _ (by show R.built ≤ 100; omega)
  · show (z.f (rdV z.hb _ 6) == 1) = R.grow; rw [v8 6 (by omega), hz.f _ (by show (if R.grow then (1 : Int) else 0) ≤ 100; split <;> omega)]
    show ((if R.grow then (1 : Int) else 0) == 1) = R.grow
    cases R.grow <;> rfl
  · have hi' : i < R.ns := by rw [← ens]; exact hi
    show z.f (rdV _ (z.s8 _) i) = R.seat i
    rw [e8, ← hX1, rd_val hse i hi']
    exact hz.f _ (by have := hs i hi'; omega)
  · have hi' : i < R.nm := by rw [← enm]; exact hi
    show z.f (mSt z.bt (z.sM _) i) = R.st i
    rw [eM, ← hX3, (mb_val hmm i hi').1]
    exact hz.f _ (by have := hm i hi'; unfold mOk at this; omega)
  · have hi' : i < R.nm := by rw [← enm]; exact hi
    show mTop z.bt (z.sM _) i = R.top i
    rw [eM, ← hX3, (mb_val hmm i hi').2.1]
  · have hi' : i < R.nm := by rw [← enm]; exact hi
    show mLog z.bt (z.sM _) i = R.log i
    rw [eM, ← hX3, (mb_val hmm i hi').2.2]
  · unfold Way.fin
    rw [eM, enm, ← hX3, mb_fwd hmm R.nm (Nat.le_refl _), Nat.sub_self]; show (noB ++ X, _) = _; rw [noB_app]
/-- What the program reads without an error is the bytes of what it has read. -/
theorem dn_zero {L : ByteArray} {e : Int} : dnE L e = 0 ↔ e = 0 ∧ L = noB := by
  unfold dnE
  constructor
  · intro h
    split at h
    · split at h
      · rename_i h1 h2; exact ⟨h1, size_zero h2⟩
      · omega
    · omega
  · rintro ⟨rfl, rfl⟩; rfl
theorem way_range (z : Way) (b : Nat → Int) (s : Rst) (i : Nat) : 0 ≤ rdV b s i ∧ rdV b s i ≤ 18446744073709551615 := ⟨(cbl_range _ _ _).1, (cbl_range _ _ _).2.1⟩
attribute [local irreducible] rdS mbS rdV cat numB in
theorem wayP_back (t : ByteArray) (h : dnE (wayP.fin t).1 (wayP.fin t).2 = 0) : byB (wayP.told t) = t := by
  obtain ⟨h1, h2⟩ := dn_zero.1 h
  obtain ⟨h3, h4⟩ := mb_back (b := wayP.bt) (s := wayP.sM t) (i := wayP.nm t) h1
  rw [show (mbS wayP.bt (wayP.sM t) (wayP.nm t)).1 = noB from h2] at h4
  obtain ⟨h5, h6, h7⟩ := rd_back (b := fun _ => wayP.bm) (s := wayP.sS t) (i := 1) h3
  rw [show (rdS (fun _ => wayP.bm) (wayP.sS t) 1).1 = (wayP.sM t).1 from rfl, h4] at h6
  obtain ⟨h8, h9, h10⟩ := rd_back (b := fun _ => wayP.bs) (s := wayP.s8 t) (i := wayP.ns t) h5
  rw [show (rdS (fun _ => wayP.bs) (wayP.s8 t) (wayP.ns t)).1 = (wayP.sS t).1 from rfl, h6] at h9
  obtain ⟨h11, h12, h13⟩ := rd_back (b := wayP.hb) (s := (t, 0)) (i := 8) h8
  rw [show (rdS wayP.hb (t, 0) 8).1 = (wayP.s8 t).1 from rfl, h9] at h12
  have n0 : ∀ b s i, 0 ≤ rdV b s i := fun b s i => (way_range wayP b s i).1
  have q1 : cat (nmB (hdN (wayP.told t))) 0 8 = cat (nmB (rdV wayP.hb (t, 0))) 0 8 := cat_congr _ _ _ _ fun j hj => by
    rw [Nat.zero_add]
    unfold nmB
    have e : hdN (wayP.told t) j = rdV wayP.hb (t, 0) j := by
      rcases (by omega : j = 0 ∨ j = 1 ∨ j = 2 ∨ j = 3 ∨ j = 4 ∨ j = 5 ∨ j = 6 ∨ j = 7) with rfl | rfl | rfl | rfl | rfl | rfl | rfl | rfl
      · rfl
      · rfl
      · rfl
      · rfl
      · rfl
      · rfl
      · have hlt := h13 6 (by omega)
        have hge := n0 wayP.hb (t, 0) 6
        rw [show wayP.hb 6 = 2 from rfl] at hlt
        show (if (rdV wayP.hb (t, 0) 6 == 1) = true then (1 : Int) else 0) = _
        rcases (by omega : rdV wayP.hb (t, 0) 6 = 0 ∨ rdV wayP.hb (t, 0) 6 = 1) with e | e <;> rw [e] <;> rfl
      · have hge := n0 wayP.hb (t, 0) 7
        show (((rdV wayP.hb (t, 0) 7).toNat : Nat) : Int) = _
        omega
    rw [e]
  have q2 : cat (nmB fun _ => ((wayP.told t).nm : Int)) 0 1 = cat (nmB (rdV (fun _ => wayP.bm) (wayP.sS t))) 0 1 := cat_congr _ _ _ _ fun j hj => by
    have hge := n0 (fun _ => wayP.bm) (wayP.sS t) 0
    rw [show 0 + j = 0 by omega]
    unfold nmB
    have e : ((wayP.told t).nm : Int) = rdV (fun _ => wayP.bm) (wayP.sS t) 0 := by
      show (((rdV (fun _ => wayP.bm) (wayP.sS t) 0).toNat : Nat) : Int) = _
      omega
    rw [e]
  rw [← app_noB (byB (wayP.told t)), hd_split, q1, q2]
  exact h12.symm
/-- Bytes that are a good record's, and that record. -/
def IsRec (R : Rec) (t : ByteArray) : Prop := gd R = true ∧ (0 ≤ R.count ∧ R.count ≤ 18446744073709551615) ∧ (0 ≤ R.epoch ∧ R.epoch ≤ 18446744073709551615) ∧ byB R = t
theorem IsRec.read {R : Rec} {t : ByteArray} (h : IsRec R t) (z : Way) (hz : z.Fits) (X : ByteArray) : (z.told (t ++ X)).Same R ∧ z.fin (t ++ X) = (X, 0) := by
  obtain ⟨h1, h2, h3, rfl⟩ := h
  exact way_good z hz R h1 h2 h3 X
theorem IsRec.read0 {R : Rec} {t : ByteArray} (h : IsRec R t) (z : Way) (hz : z.Fits) : (z.told t).Same R ∧ z.fin t = (noB, 0) := by
  have := h.read z hz noB
  rwa [app_noB] at this
/-- Nothing stands behind a record that is one with less. -/
theorem IsRec.whole {R S : Rec} {s t X : ByteArray} (h : IsRec R s) (k : IsRec S t) (e : t = s ++ X) : X = noB := by
  have h1 := (h.read wayP wayP_fits X).2
  have h2 := (k.read0 wayP wayP_fits).2
  rw [← e, h2] at h1
  exact (congrArg Prod.fst h1).symm
theorem IsRec.inj {R S : Rec} {t : ByteArray} (h : IsRec R t) (k : IsRec S t) : R.Same S := (h.read0 wayP wayP_fits).1.symm.trans (k.read0 wayP wayP_fits).1
/-- What the program answers to Get; what the document does. -/
def okP (t : ByteArray) : Bool := decide (dnE (wayP.fin t).1 (wayP.fin t).2 = 0) && gd (wayP.told t)
theorem okP_iff (t : ByteArray) : okP t = true ↔ IsRec (wayP.told t) t := by
  unfold okP IsRec
  rw [Bool.and_eq_true, decide_eq_true_eq]
  constructor
  · rintro ⟨h1, h2⟩
    exact ⟨h2, way_range wayP _ _ _, way_range wayP _ _ _, wayP_back t h1⟩
  · intro h
    obtain ⟨h1, h2⟩ := IsRec.read0 h wayP wayP_fits
    exact ⟨by rw [h2]; rfl, h.1⟩
theorem okP_of {R : Rec} {t : ByteArray} (h : IsRec R t) : okP t = true := by
  obtain ⟨h1, h2⟩ := h.read0 wayP wayP_fits
  unfold okP
  rw [h2, gd_congr h1, h.1]; rfl
def okR (t : ByteArray) : Bool := gd (wayR.told t) && decide (byB (wayR.told t) = t)
theorem okR_iff (t : ByteArray) : okR t = okP t := by
  rw [Bool.eq_iff_iff]
  constructor
  · intro h
    unfold okR at h
    rw [Bool.and_eq_true, decide_eq_true_eq] at h
    exact okP_of (R := wayR.told t) ⟨h.1, way_range wayR _ _ _, way_range wayR _ _ _, h.2⟩
  · intro h
    have hr := (okP_iff t).1 h
    obtain ⟨h1, -⟩ := hr.read0 wayR wayR_fits
    unfold okR
    rw [gd_congr h1, hr.1, by_congr h1, hr.2.2.2]; simp
theorem ok_same (t : ByteArray) (h : okP t = true) : (wayP.told t).Same (wayR.told t) := (((okP_iff t).1 h).read0 wayR wayR_fits).1.symm
/-- Their lists are bounded. -/
theorem wayP_fine (t : ByteArray) (ht : t.size ≤ 140737488355328) : (wayP.told t).Fine := by
  have r := fun b s i => (cbl_range (rdS b s i).1 (rdS b s i).2 (b i))
  have r2 : rdV hbP (t, 0) 2 < 9 := (r hbP (t, 0) 2).2.2 (by decide)
  have r3 : rdV hbP (t, 0) 3 < 17 := (r hbP (t, 0) 3).2.2 (by decide)
  have r4 : rdV hbP (t, 0) 4 < 17 := (r hbP (t, 0) 4).2.2 (by decide)
  have r5 : rdV hbP (t, 0) 5 < 17 := (r hbP (t, 0) 5).2.2 (by decide)
  have r7 : rdV hbP (t, 0) 7 < 13 := (r hbP (t, 0) 7).2.2 (by decide)
  have q2 := (way_range wayP hbP (t, 0) 2).1
  have q3 := (way_range wayP hbP (t, 0) 3).1
  have q4 := (way_range wayP hbP (t, 0) 4).1
  have q5 := (way_range wayP hbP (t, 0) 5).1
  have q7 := (way_range wayP hbP (t, 0) 7).1
  have rm : rdV (fun _ => 13) (wayP.sS t) 0 < 13 := (r (fun _ => 13) (wayP.sS t) 0).2.2 (by decide)
  have qm := (way_range wayP (fun _ => 13) (wayP.sS t) 0).1
  have hs : (wayP.sM t).1.size ≤ 140737488355328 := Nat.le_trans (rdS_size _ _ _) (Nat.le_trans (rdS_size _ _ _) (Nat.le_trans (rdS_size _ _ _) ht))
  refine ⟨way_range wayP _ _ _, way_range wayP _ _ _, ?_, ?_, ?_, ?_, ?_, ?_, fun i hi => ?_, fun i hi => ?_, fun i hi => Nat.le_trans (mTop_size _ _ _) hs, fun i hi => Nat.le_trans (mLog_size _ _ _) hs⟩
  · show _ ≤ rdV hbP (t, 0) 2 ∧ rdV hbP (t, 0) 2 ≤ _; omega
  · show _ ≤ rdV hbP (t, 0) 3 ∧ rdV hbP (t, 0) 3 ≤ _; omega
  · show _ ≤ rdV hbP (t, 0) 4 ∧ rdV hbP (t, 0) 4 ≤ _; omega
  · show _ ≤ rdV hbP (t, 0) 5 ∧ rdV hbP (t, 0) 5 ≤ _; omega
  · show (rdV hbP (t, 0) 7).toNat ≤ _; omega
  · show (rdV (fun _ => 13) (wayP.sS t) 0).toNat ≤ _; omega
  · have h1 : rdV (fun _ => 12) (wayP.s8 t) i < 12 := (r (fun _ => 12) (wayP.s8 t) i).2.2 (by decide)
    have h2 := (way_range wayP (fun _ => 12) (wayP.s8 t) i).1
    show _ ≤ rdV (fun _ => 12) (wayP.s8 t) i ∧ rdV (fun _ => 12) (wayP.s8 t) i ≤ _; omega
  · have h1 := cbl_range (mbS 4 (wayP.sM t) i).1 (mbS 4 (wayP.sM t) i).2 4
    show _ ≤ mSt 4 (wayP.sM t) i ∧ mSt 4 (wayP.sM t) i ≤ _
    unfold mSt; omega
theorem sm_range (v : Int) (h : 0 ≤ v) : -1 ≤ smV v ∧ smV v ≤ 100 := by unfold smV; split <;> omega
theorem wayR_fine (t : ByteArray) (ht : t.size ≤ 140737488355328) : (wayR.told t).Fine := by
  have q := fun b s i => sm_range _ (way_range wayR b s i).1
  have hs : (wayR.sM t).1.size ≤ 140737488355328 := Nat.le_trans (rdS_size _ _ _) (Nat.le_trans (rdS_size _ _ _) (Nat.le_trans (rdS_size _ _ _) ht))
  refine ⟨way_range wayR _ _ _, way_range wayR _ _ _, ?_, ?_, ?_, ?_, ?_, ?_, fun i hi => ?_, fun i hi => ?_, fun i hi => Nat.le_trans (mTop_size _ _ _) hs, fun i hi => Nat.le_trans (mLog_size _ _ _) hs⟩
  · have := q wayR.hb (t, 0) 2; show _ ≤ smV (rdV wayR.hb (t, 0) 2) ∧ smV (rdV wayR.hb (t, 0) 2) ≤ _; omega
  · have := q wayR.hb (t, 0) 3; show _ ≤ smV (rdV wayR.hb (t, 0) 3) ∧ smV (rdV wayR.hb (t, 0) 3) ≤ _; omega
  · have := q wayR.hb (t, 0) 4; show _ ≤ smV (rdV wayR.hb (t, 0) 4) ∧ smV (rdV wayR.hb (t, 0) 4) ≤ _; omega
  · have := q wayR.hb (t, 0) 5; show _ ≤ smV (rdV wayR.hb (t, 0) 5) ∧ smV (rdV wayR.hb (t, 0) 5) ≤ _; omega
  · have := q wayR.hb (t, 0) 7; show (smV (rdV wayR.hb (t, 0) 7)).toNat ≤ _; omega
  · have := q (fun _ => wayR.bm) (wayR.sS t) 0; show (smV (rdV (fun _ => wayR.bm) (wayR.sS t) 0)).toNat ≤ _; omega
  · have := q (fun _ => wayR.bs) (wayR.s8 t) i; show _ ≤ smV (rdV (fun _ => wayR.bs) (wayR.s8 t) i) ∧ smV (rdV (fun _ => wayR.bs) (wayR.s8 t) i) ≤ _; omega
  · have := sm_range _ (cbl_range (mbS wayR.bt (wayR.sM t) i).1 (mbS wayR.bt (wayR.sM t) i).2 wayR.bt).1
    show _ ≤ smV (mSt wayR.bt (wayR.sM t) i) ∧ smV (mSt wayR.bt (wayR.sM t) i) ≤ _
    unfold mSt; omega
end Go.Proofs.YtbjmhpbelkndpaaDoor
