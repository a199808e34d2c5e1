/- Texts and writes as they lie in memory. -/
import Derived.Test.YtegebaomhbogmaaDoorRowk
import Derived.Test.YtegebaomhbogmaaDoorNums
import Derived.Test.YtegebaomhbogmaaDoorInPlain
namespace Go.Proofs.YtegebaomhbogmaaDoor
open Go.RowKit Go.PlainAid
set_option linter.unusedVariables false
set_option maxRecDepth 20000

/-- n texts in a row; n writes in a row: they are only read. -/
def Cs (w : World) (a : Option Addr) (n : Nat) (f : Nat → ByteArray) : Prop := n = 0 ∨ ∃ b o, a = some ⟨b, o, none⟩ ∧ b < w.heap.size ∧ ∀ i, i < n → w.cell? ⟨b, o + i, none⟩ = some (.string (f i))
def wrow (a : Int) (c : ByteArray) : List Value := [.int .i64 a, .string c]
def Wx (w : World) (a : Option Addr) (n : Nat) (A : Nat → Int) (C : Nat → ByteArray) : Prop := n = 0 ∨ ∃ b o, a = some ⟨b, o, none⟩ ∧ b < w.heap.size ∧ ∀ i, i < n → w.rangeAt b (o + i * 2) (wrow (A i) (C i))
theorem wrow_one (a : Int) (c : ByteArray) : ∀ v ∈ wrow a c, v.oneCell' = true := by
  intro v hv
  simp only [wrow, List.mem_cons, List.not_mem_nil, or_false] at hv
  rcases hv with rfl | rfl <;> rfl
section
variable {w w' : World} {a : Option Addr} {n m : Nat} {f g : Nat → ByteArray} {A B : Nat → Int} {C D : Nat → ByteArray}
theorem Cs.below (h : Cs w a n f) (hb : Below w.heap.size w w') : Cs w' a n f := by
  rcases h with h | ⟨b, o, e, hl, hc⟩
  · exact .inl h
  · exact .inr ⟨b, o, e, Nat.lt_of_lt_of_le hl hb.size, fun i hi => (hb.cell (p := ⟨b, o + i, none⟩) hl).trans (hc i hi)⟩
theorem Wx.below (h : Wx w a n A C) (hb : Below w.heap.size w w') : Wx w' a n A C := by
  rcases h with h | ⟨b, o, e, hl, hc⟩
  · exact .inl h
  · exact .inr ⟨b, o, e, Nat.lt_of_lt_of_le hl hb.size, fun i hi => rangeAt_below (hc i hi) hb hl⟩
theorem Cs.cut (h : Cs w a n f) (hm : m ≤ n) : Cs w a m f := by
  rcases h with h | ⟨b, o, e, hl, hc⟩
  · exact .inl (by omega)
  · exact .inr ⟨b, o, e, hl, fun i hi => hc i (by omega)⟩
theorem Cs.congr (h : Cs w a n f) (e : ∀ i, i < n → f i = g i) : Cs w a n g := by
  rcases h with h | ⟨b, o, e1, hl, hc⟩
  · exact .inl h
  · exact .inr ⟨b, o, e1, hl, fun i hi => by rw [← e i hi]; exact hc i hi⟩
theorem Wx.congr (h : Wx w a n A C) (e : ∀ i, i < n → A i = B i ∧ C i = D i) : Wx w a n B D := by
  rcases h with h | ⟨b, o, e1, hl, hc⟩
  · exact .inl h
  · exact .inr ⟨b, o, e1, hl, fun i hi => by rw [← (e i hi).1, ← (e i hi).2]; exact hc i hi⟩
/-- One text, one write. -/
theorem Cs.at (h : Cs w a n f) (hb : Below w.heap.size w w') (i : Nat) (hi : i < n) : ∃ b o, a = some ⟨b, o, none⟩ ∧ w'.cell? ⟨b, o + i, none⟩ = some (.string (f i)) := by
  rcases h.below hb with h | ⟨b, o, e, hl, hc⟩
  · omega
  · exact ⟨b, o, e, hc i hi⟩
theorem Wx.at (h : Wx w a n A C) (hb : Below w.heap.size w w') (i : Nat) (hi : i < n) : ∃ b o, a = some ⟨b, o, none⟩ ∧ w'.rangeAt b (o + i * 2) (wrow (A i) (C i)) := by
  rcases h.below hb with h | ⟨b, o, e, hl, hc⟩
  · omega
  · exact ⟨b, o, e, hc i hi⟩
end
/-- As they lie in a row of their own. -/
def txs (n : Nat) (f : Nat → ByteArray) : List Value := (List.range n).map fun i => .string (f i)
theorem txs_len (n : Nat) (f : Nat → ByteArray) : (txs n f).length = n := by simp [txs]
theorem txs_at (n : Nat) (f : Nat → ByteArray) (i : Nat) (h : i < n) : (txs n f)[i]? = some (.string (f i)) := by simp [txs, h]
theorem txs_succ (n : Nat) (f : Nat → ByteArray) : txs (n + 1) f = txs n f ++ [.string (f n)] := by unfold txs; rw [List.range_succ, List.map_append]; rfl
theorem txs_one (n : Nat) (f : Nat → ByteArray) : ∀ u ∈ txs n f, u.oneCell' = true := by
  intro u hu
  obtain ⟨i, -, rfl⟩ := List.mem_map.1 hu
  rfl
def wrs (A : Nat → Int) (C : Nat → ByteArray) : Nat → List Value
  | 0 => []
  | n + 1 => wrs A C n ++ wrow (A n) (C n)
theorem wrs_len (A : Nat → Int) (C : Nat → ByteArray) (n : Nat) : (wrs A C n).length = n * 2 := by
  induction n with
  | zero => rfl
  | succ n ih => show (wrs A C n ++ wrow _ _).length = _; rw [List.length_append, ih]; show n * 2 + 2 = _; omega
theorem wrs_at (A : Nat → Int) (C : Nat → ByteArray) (n i : Nat) (h : i < n) : (wrs A C n)[i * 2]? = some (.int .i64 (A i)) ∧ (wrs A C n)[i * 2 + 1]? = some (.string (C i)) := by
  induction n with
  | zero => omega
  | succ n ih =>
    show (wrs A C n ++ wrow _ _)[_]? = _ ∧ (wrs A C n ++ wrow _ _)[_]? = _
    have hl := wrs_len A C n
    by_cases e : i = n
    · subst e
      rw [List.getElem?_append_right (by omega), List.getElem?_append_right (by omega), hl, Nat.sub_self, show i * 2 + 1 - i * 2 = 1 by omega]
      exact ⟨rfl, rfl⟩
    · rw [List.getElem?_append_left (by omega), List.getElem?_append_left (by omega)]
      exact ih (by omega)
theorem wrs_congr {A B : Nat → Int} {C D : Nat → ByteArray} (n : Nat) (h : ∀ i, i < n → A i = B i ∧ C i = D i) : wrs A C n = wrs B D n := by
  induction n with
  | zero => rfl
  | succ n ih => show wrs A C n ++ _ = wrs B D n ++ _; rw [ih fun i hi => h i (by omega), (h n (by omega)).1, (h n (by omega)).2]
/-- The n-th write laid over. -/
theorem wrs_set {A : Nat → Int} {C : Nat → ByteArray} {n k : Nat} (a : Int) (c : ByteArray) (hk : k < n) : ((wrs A C n).set (k * 2) (.int .i64 a)).set (k * 2 + 1) (.string c) = wrs (fun i => if i = k then a else A i) (fun i => if i = k then c else C i) n := by
  apply List.ext_getElem?
  intro j
  have hl := wrs_len A C n
  by_cases hj : j < n * 2
  · have hw := wrs_at A C n (j / 2) (by omega)
    have hv := wrs_at (fun i => if i = k then a else A i) (fun i => if i = k then c else C i) n (j / 2) (by omega)
    rcases (by omega : j = j / 2 * 2 ∨ j = j / 2 * 2 + 1) with e | e
    · have hv1 := hv.1
      have hw1 := hw.1
      rw [← e] at hv1 hw1
      rw [hv1]
      by_cases e2 : j / 2 = k
      · have ej : j = k * 2 := by omega
        rw [List.getElem?_set_ne (by omega), ej, List.getElem?_set_self (by omega)]
        show some _ = some (Value.int .i64 (if _ then _ else _)); rw [if_pos (by omega)]
      · rw [List.getElem?_set_ne (by omega), List.getElem?_set_ne (by omega), hw1]
        show some _ = some (Value.int .i64 (if _ then _ else _)); rw [if_neg (by omega)]
    · have hv1 := hv.2
      have hw1 := hw.2
      rw [← e] at hv1 hw1
      rw [hv1]
      by_cases e2 : j / 2 = k
      · have ej : j = k * 2 + 1 := by omega
        rw [ej, List.getElem?_set_self (by rw [List.length_set]; omega)]
        show some _ = some (Value.string (if _ then _ else _)); rw [if_pos (by omega)]
      · rw [List.getElem?_set_ne (by omega), List.getElem?_set_ne (by omega), hw1]
        show some _ = some (Value.string (if _ then _ else _)); rw [if_neg (by omega)]
  · rw [List.getElem?_eq_none (by rw [List.length_set, List.length_set]; omega), List.getElem?_eq_none (by rw [wrs_len]; omega)]
theorem own_cs {w : World} {a : Option Addr} {n c : Nat} {f : Nat → ByteArray} (h : w.ownsRow 0 9 1 (.slice a n c) n (txs n f)) : Cs w a n f := by
  rcases h.2 with ⟨h1, h2⟩ | ⟨g, cap, cur, h1, _, h3, _, _, _, h4⟩
  · exact .inl h2
  · cases h1
    refine .inr ⟨g, 0, rfl, (Array.getElem?_eq_some_iff.1 h3).1, fun i hi => ?_⟩
    have h5 := txs_at n f i hi
    rw [← h4, List.getElem?_take, if_pos (by omega)] at h5
    rw [Nat.zero_add, cell_of_row w g i cur 9 (0, 0) h3, ← Array.getElem?_toList, h5]
theorem wx_cells {w : World} {g n : Nat} {A : Nat → Int} {C : Nat → ByteArray} (hg : g < w.heap.size) (key : ∀ m, m < n * 2 → w.cell? ⟨g, m, none⟩ = (wrs A C n)[m]?) : Wx w (some ⟨g, 0, none⟩) n A C := by
  refine .inr ⟨g, 0, rfl, hg, fun i hi j v hv => ?_⟩
  obtain ⟨p, q⟩ := wrs_at A C n i hi
  rw [Nat.zero_add]
  match j, hv with
  | 0, hv => simp [wrow] at hv; subst hv; exact (key _ (by omega)).trans p
  | 1, hv => simp [wrow] at hv; subst hv; exact (key _ (by omega)).trans q
  | (k + 2), hv => simp [wrow] at hv
theorem own_wx {w : World} {T : TypeId} {a : Option Addr} {n c : Nat} {A : Nat → Int} {C : Nat → ByteArray} (h : w.ownsRow 0 T 2 (.slice a n c) n (wrs A C n)) : Wx w a n A C := by
  rcases h.2 with ⟨h1, h2⟩ | ⟨g, cap, cur, h1, _, h3, _, _, _, h4⟩
  · exact .inl h2
  · cases h1
    exact wx_cells (Array.getElem?_eq_some_iff.1 h3).1 fun m hm => by
      rw [cell_of_row w g m cur T (0, 0) h3, ← h4, List.getElem?_take, if_pos hm, Array.getElem?_toList]
theorem Blk.wx {w : World} {g n : Nat} {T : TypeId} {A : Nat → Int} {C : Nat → ByteArray} (h : Blk w g T (wrs A C n)) : Wx w (some ⟨g, 0, none⟩) n A C :=
  wx_cells h.lt fun m hm => by
    have : m < (wrs A C n).length := by rw [wrs_len]; exact hm
    rw [h.cell (List.getElem?_eq_getElem this), List.getElem?_eq_getElem this]
theorem Blk.cs1 {w : World} {g : Nat} {s : ByteArray} (h : Blk w g 9 [.string s]) : Cs w (some ⟨g, 0, none⟩) 1 (fun _ => s) :=
  .inr ⟨g, 0, rfl, h.lt, fun i hi => by rw [show 0 + i = 0 by omega]; exact h.cell rfl⟩
/-- Rows of nothing. -/
theorem star_nilR {P : Asn} {w : World} {F : Nat → Prop} {T : TypeId} {K : Nat} (h : P w F) : star (rowK T K (.slice none 0 0) 0 []) P w F :=
  ⟨fun _ => False, F, ⟨World.ownsRow_nil _ _ _ _, fun k => ⟨fun h => h.elim, fun h => by cases h⟩⟩, h, fun _ h => h.elim, fun k => ⟨.inr, fun h => h.elim (fun h => h.elim) id⟩⟩
theorem Tryd.info9w : (Tryd.prog.info? 9).map (fun i => (i.zero, i.size, i.bytes)) = some (some (.string noB), 1, 16) := by kernel_rfl
theorem Tryd.info49w : (Tryd.prog.info? 49).map (fun i => (i.zero, i.size, i.bytes)) = some (some (.agg (wrow 0 noB).toArray), 2, 24) := by kernel_rfl
theorem Tryd.info55w : (Tryd.prog.info? 55).map (fun i => (i.zero, i.size, i.bytes)) = some (some (.agg (wrow 0 noB).toArray), 2, 24) := by kernel_rfl
theorem Tryd.size49 : (Tryd.prog.info? 49).map (·.size) = some 2 := by kernel_rfl
theorem Tryd.size55 : (Tryd.prog.info? 55).map (·.size) = some 2 := by kernel_rfl
theorem zeroWr (w : World) : (zeroValue 49).run Tryd.prog w = .ok (.agg #[.int .i64 0, .string noB]) w := by
  obtain ⟨i, hi, hz⟩ := Option.map_eq_some_iff.1 (show (Tryd.prog.info? 49).map (fun i => i.zero) = some (some (.agg #[.int .i64 0, .string noB])) by kernel_rfl)
  simp [zeroValue, typeInfo, hi, hz]
theorem zeroRWr (w : World) : (zeroValue 55).run Tryd.prog w = .ok (.agg #[.int .i64 0, .string noB]) w := by
  obtain ⟨i, hi, hz⟩ := Option.map_eq_some_iff.1 (show (Tryd.prog.info? 55).map (fun i => i.zero) = some (some (.agg #[.int .i64 0, .string noB])) by kernel_rfl)
  simp [zeroValue, typeInfo, hi, hz]
section
variable {B : Nat} {w0 w : World} {R : Asn}
/-- A text behind the others, out of a block of its own. -/
theorem push_txt (hR : Firm R) {v : Value} {k : Nat} {f : Nat → ByteArray} (h : Hold B w0 w (star (rowK 9 1 v k (txs k f)) R)) (hk : k ≤ 1000) (x : ByteArray) (hx : f k = x) (ty : TypeId) :
    ∃ a c w', (Builtin.append_ #[27, 27] ty #[v, .slice (some ⟨w.heap.size, 0, none⟩) 1 1]).run Tryd.prog (w.alloc (.cells #[.string x] 9)) = .ok (.slice a (k + 1) c) w' ∧ Hold B w0 w' (star (rowK 9 1 (.slice a (k + 1) c) (k + 1) (txs (k + 1) f)) R) := by
  have h2 := h.below ((firm_rowK _ _ _ _ _).star hR) ((Below.refl w.heap.size w).alloc (Nat.le_refl _) (.cells #[.string x] 9))
  obtain ⟨v', w', hrun, h3⟩ := rowK_app hR 27 9 ty (.string noB) 1 16 Tryd.underlying27 Tryd.info9w rfl (by decide) (by decide) h2 ⟨w.heap.size, 0, none⟩ 1 1 [.string x] rfl (fun j u hu => by
    rw [Go.WideShapes.add_plain, Nat.zero_add]; exact (Blk.new w 9 #[.string x]).cell hu) (fun u hu => by simp only [List.mem_cons, List.not_mem_nil, or_false] at hu; rw [hu]; rfl) (by omega)
  obtain ⟨a, c, rfl⟩ := own_form h3.rowK
  refine ⟨a, c, w', hrun, ?_⟩
  rw [txs_succ, hx]; exact h3
/-- Texts that lie somewhere, behind the others. -/
theorem push_txts (hR : Firm R) {v : Value} {k : Nat} {f : Nat → ByteArray} (h : Hold B w0 w (star (rowK 9 1 v k (txs k f)) R)) (hk : k ≤ 1000) (s : Option Addr) (n c : Nat) (hn : n ≤ 1000) {g : Nat → ByteArray} (hs : Cs w s n g) (hfg : ∀ i, i < n → f (k + i) = g i) (hn0 : 0 < n) (ty : TypeId) :
    ∃ a c' w', (Builtin.append_ #[27, 27] ty #[v, .slice s n c]).run Tryd.prog w = .ok (.slice a (k + n) c') w' ∧ Hold B w0 w' (star (rowK 9 1 (.slice a (k + n) c') (k + n) (txs (k + n) f)) R) := by
  rcases hs with h0 | ⟨b, o, rfl, hl, hc⟩
  · omega
  · obtain ⟨v', w', hrun, h3⟩ := rowK_app hR 27 9 ty (.string noB) 1 16 Tryd.underlying27 Tryd.info9w rfl (by decide) (by decide) h ⟨b, o, none⟩ n c (txs n g) (by rw [txs_len]; omega) (fun j u hu => by
      have hj : j < n := by
        rcases Nat.lt_or_ge j n with hj | hj
        · exact hj
        · rw [List.getElem?_eq_none (by rw [txs_len]; exact hj)] at hu; cases hu
      rw [txs_at _ _ _ hj] at hu
      cases hu
      rw [Go.WideShapes.add_plain]; exact hc j hj) (txs_one _ _) (by omega)
    obtain ⟨a, c', rfl⟩ := own_form h3.rowK
    refine ⟨a, c', w', hrun, ?_⟩
    have e : txs (k + n) f = txs k f ++ txs n g := by
      unfold txs
      rw [List.range_add, List.map_append]
      congr 1
      rw [List.map_map]
      exact List.map_congr_left fun i hi => by show Value.string _ = Value.string _; rw [hfg i (List.mem_range.1 hi)]
    rw [e]; exact h3
end
end Go.Proofs.YtegebaomhbogmaaDoor
