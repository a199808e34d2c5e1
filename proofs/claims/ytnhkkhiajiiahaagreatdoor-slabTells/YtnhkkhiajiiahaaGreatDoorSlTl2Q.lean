/- SlabTells: texts gathered, a disk tampered with, texts summed. -/
import Derived.Test.YtnhkkhiajiiahaaGreatDoorSlTl1Q
namespace Go.Proofs.YtnhkkhiajiiahaaGreatDoor
open Go.RowKit Go.PlainAid
set_option linter.unusedVariables false
set_option maxRecDepth 20000

/-- While a disk is tampered with: m texts are gathered, the first 140 are l. -/
def Ty (W : World) (gx g gr gd n : Nat) (key top : ByteArray) (l : Nat → ByteArray) (v : Value) (m : Nat) (R : Asn) (z : World) : Prop := ∃ (b b' : Bs) (T l2 : Nat → ByteArray), Bth W.heap.size W z gx g gr 2 b b' 0 (n : Int) key top (star (rowK 9 1 v m (strs m T)) R) ∧ Liv 2 0 b l2 ∧ (b.D 0).g = gd ∧ (∀ i, i < 140 → T i = l i) ∧ ∀ i, (T i).size ≤ 2048
/-- .. and the last 140 are the disk's. -/
def Tx (W : World) (gx g gr n : Nat) (key top : ByteArray) (l : Nat → ByteArray) (v : Value) (m : Nat) (R : Asn) (z : World) : Prop := ∃ (b b' : Bs) (T l2 : Nat → ByteArray) (p : Nat), Bth W.heap.size W z gx g gr 2 b b' 0 (n : Int) key top (star (rowK 9 1 v m (strs m T)) R) ∧ Liv 2 0 b l2 ∧ (∀ i, i < 140 → T i = l i) ∧ (∀ i, i < 140 → T (p + i) = l2 i) ∧ (∀ i, (T i).size ≤ 2048) ∧ 140 ≤ p ∧ p + 140 = m
/-- While they are summed. -/
def Mt (W : World) (gx g gr n : Nat) (key top : ByteArray) (b b' : Bs) (T : Nat → ByteArray) (v : Value) (m gm : Nat) (p : Nat) (R : Asn) (z : World) : Prop := ∃ (c : Nat) (M : ByteArray → Option ByteArray), c ≤ p ∧ Bth W.heap.size W z gx g gr 2 b b' 0 (n : Int) key top (star (mapT gm c M) (star (rowK 9 1 v m (strs m T)) R)) ∧ Met T M p
theorem Tryz.info9tl : (Tryz.prog.info? 9).map (fun i => (i.zero, i.size, i.bytes)) = some (some (.string noB), 1, 16) := by kernel_rfl
theorem strs_join (m k : Nat) (f h : Nat → ByteArray) : strs m f ++ strs k h = strs (m + k) fun i => if i < m then f i else h (i - m) := by
  unfold strs
  rw [List.range_add, List.map_append, List.map_map]
  congr 1
  · exact List.map_congr_left fun j hj => by
      show _ = Value.string (if j < m then f j else h (j - m))
      rw [if_pos (List.mem_range.1 hj)]
  · exact List.map_congr_left fun j hj => by
      show _ = Value.string (if m + j < m then f (m + j) else h (m + j - m))
      rw [if_neg (by omega), show m + j - m = j by omega]
section
variable {W z z' : World} {gx g gr gw gd d n k j m gm p : Nat} {key top t : ByteArray} {b b' : Bs} {l C T : Nat → ByteArray} {v : Value} {R : Asn}
theorem Ty.below (hR : Firm R) (h : Ty W gx g gr gd n key top l v m R z) (hb : Below z.heap.size z z') : Ty W gx g gr gd n key top l v m R z' := by
  obtain ⟨b, b', T, l2, h1, h2⟩ := h
  exact ⟨b, b', T, l2, h1.below ((firm_rowK _ _ _ _ _).star hR) hb, h2⟩
theorem Ty.low (h : Ty W gx g gr gd n key top l v m R z) : Below W.heap.size W z := by obtain ⟨b, b', T, l2, h1, h2⟩ := h; exact h1.low
theorem Ty.boxed (hR : Firm R) (h : Ty W gx g gr gd n key top l v m R z) (row : List Value) : Ty W gx g gr gd n key top l v m (star (blkA z.heap.size 32 row) R) (z.alloc (.cells row.toArray 32)) := by
  obtain ⟨b, b', T, l2, h1, h2⟩ := h
  have h3 := Hold.newBlk (bth_firm ((firm_rowK _ _ _ _ _).star hR)) h1 32 row.toArray
  rw [List.toList_toArray] at h3
  exact ⟨b, b', T, l2, Bth.swapR h3.back4, h2⟩
theorem Ty.unbox {X : Asn} (h : Ty W gx g gr gd n key top l v m (star X R) z) : Ty W gx g gr gd n key top l v m R z := by
  obtain ⟨b, b', T, l2, h1, h2⟩ := h
  exact ⟨b, b', T, l2, (Bth.swapR h1).dropR, h2⟩
theorem Ty.box {ga : Nat} {row : List Value} (h : Ty W gx g gr gd n key top l v m (star (blkA ga 32 row) R) z) : Blk z ga 32 row := by
  obtain ⟨b, b', T, l2, h1, h2⟩ := h
  exact Hold.blk (Hold.right (Hold.right (Hold.right (Hold.right h1))))
theorem Ty.at {a : Option Addr} {c : Nat} (h : Ty W gx g gr gd n key top l (.slice a m c) m R z) (hj : j < m) : ∃ t g0, a = some ⟨g0, 0, none⟩ ∧ z.cell? ⟨g0, j, none⟩ = some (.string t) ∧ t.size ≤ 2048 := by
  obtain ⟨b, b', T, l2, h1, h2, h3, h4, h5⟩ := h
  obtain ⟨g0, e1, e2⟩ := owns_cell (Hold.rowK (Hold.right (Hold.right (Hold.right h1)))) (strs_at m T j hj)
  exact ⟨T j, g0, e1, e2, h5 j⟩
theorem Ty.push (hR : Firm R) (h : Ty W gx g gr gd n key top l v m R z) (h140 : 140 ≤ m) (hm : m ≤ 1000) {s : ByteArray} (hs : s.size ≤ 2048) :
    ∃ a c z', (Builtin.append_ #[30, 30] 30 #[v, .slice (some ⟨z.heap.size, 0, none⟩) 1 1]).run Tryz.prog (z.alloc (.cells #[.string s] 9)) = .ok (.slice a (m + 1) c) z' ∧ Ty W gx g gr gd n key top l (.slice a (m + 1) c) (m + 1) R z' := by
  obtain ⟨b, b', T, l2, h1, h2, h3, h4, h5⟩ := h
  have e : strs m T = strs m fun i => if i = m then s else T i := strs_eq m fun i hi => by rw [if_neg (by omega)]
  rw [e] at h1
  obtain ⟨a, c, z', e1, e2⟩ := push_str17 ((firm_blk _ _ _).star ((firm_bnk _ _ _ _ _).star ((firm_rbk _ _ _ _ _).star hR))) (Hold.pull4 h1) hm s (if_pos rfl)
  exact ⟨a, c, z', e1, b, b', _, l2, Hold.back4 e2, h2, h3, fun i hi => by show (if i = m then s else T i) = l i; rw [if_neg (by omega)]; exact h4 i hi, fun i => by
    show (if i = m then s else T i).size ≤ 2048
    split
    · exact hs
    · exact h5 i⟩
theorem Ty.tamper (hR : Firm R) (h : Ty W gx g gr gd n key top l v m R z) (at_ : Int) {s : ByteArray} (hs : s.size ≤ 2048) :
    Calls Tryz.prog 19 #[.pointer (some ⟨gd, 0, none⟩), .int .i64 at_, .string s] z fun e w' => ∃ x, e = .returned (.bool x) ∧ Ty W gx g gr gd n key top l v m R w' := by
  obtain ⟨b, b', T, l2, h1, h2, h3, h4, h5⟩ := h
  have hc := Bth.tamper (j := 0) ((firm_rowK _ _ _ _ _).star hR) h1 (by decide) at_ s (by rw [h2.q]; exact Nat.zero_le _)
  rw [h3] at hc
  refine hc.mono ?_
  rintro e w' ⟨rfl, h6⟩
  obtain ⟨l', h7⟩ := h2.tamper at_ s hs
  exact ⟨_, rfl, _, b', T, l', h6, h7, by rw [tpB_at]; exact h3, h4, h5⟩
theorem ty_first (hR : Firm R) (h : Bth W.heap.size W z gx g gr 2 b b' 0 (n : Int) key top R) (hL : Liv 2 0 b l) :
    Calls Tryz.prog 18 #[.pointer (some ⟨(b.D 0).g, 0, none⟩)] z fun e w' => e = .returned (.slice (some ⟨z.heap.size, 0, none⟩) 140 140) ∧ Ty W gx g gr (b.D 0).g n key top l (.slice (some ⟨z.heap.size, 0, none⟩) 140 140) 140 R w' := by
  refine (Bth.image h (by decide) hL).mono ?_
  rintro e w' ⟨rfl, h1, h2⟩
  refine ⟨rfl, b, b', l, l, (Hold.newRow (bth_firm hR) h h2 (blk_owns h1 (by simp [strs]) (by decide) (Nat.le_refl _))).back4, hL, rfl, fun _ _ => rfl, hL.sz⟩
theorem Ty.image (hR : Firm R) (h : Ty W gx g gr gd n key top l v m R z) (h140 : 140 ≤ m) (hm : m ≤ 1000) :
    Calls Tryz.prog 18 #[.pointer (some ⟨gd, 0, none⟩)] z fun e w' => e = .returned (.slice (some ⟨z.heap.size, 0, none⟩) 140 140) ∧ ∃ a c z' q, q = m + 140 ∧ (Builtin.append_ #[30, 30] 30 #[v, .slice (some ⟨z.heap.size, 0, none⟩) 140 140]).run Tryz.prog w' = .ok (.slice a q c) z' ∧ Tx W gx g gr n key top l (.slice a q c) q R z' := by
  obtain ⟨b, b', T, l2, h1, h2, h3, h4, h5⟩ := h
  have hc := Bth.image h1 (by decide) h2
  rw [h3] at hc
  refine hc.mono ?_
  rintro e w' ⟨rfl, k1, k2⟩
  refine ⟨rfl, ?_⟩
  have h6 := Bth.below ((firm_rowK _ _ _ _ _).star hR) h1 k2
  obtain ⟨v', z', hrun, h7⟩ := rowK_app ((firm_blk _ _ _).star ((firm_bnk _ _ _ _ _).star ((firm_rbk _ _ _ _ _).star hR))) 30 9 30 _ 1 16 Tryz.underlying30 Tryz.info9tl rfl (by decide) (by decide) (Hold.pull4 h6) ⟨z.heap.size, 0, none⟩ 140 140 (strs 140 l2) (by simp [strs]) (fun j u hu => by
    rw [Go.WideShapes.add_plain, Nat.zero_add]
    exact k1.cell hu) (fun u hu => by
    unfold strs at hu
    obtain ⟨i, _, rfl⟩ := List.mem_map.1 hu
    rfl) (by omega)
  obtain ⟨a, c, rfl⟩ := own_form h7.rowK
  rw [strs_join] at h7
  refine ⟨a, c, z', m + 140, rfl, hrun, b, b', _, l2, m, Hold.back4 h7, h2, fun i hi => ?_, fun i hi => ?_, fun i => ?_, h140, rfl⟩
  · show (if i < m then T i else _) = _
    rw [if_pos (by omega)]; exact h4 i hi
  · show (if m + i < m then T (m + i) else l2 (m + i - m)) = _
    rw [if_neg (by omega), show m + i - m = i by omega]
  · show (if i < m then T i else l2 (i - m)).size ≤ 2048
    split
    · exact h5 i
    · exact h2.sz _
theorem Mt.new (hR : Firm R) (h : Bth W.heap.size W z gx g gr 2 b b' 0 (n : Int) key top (star (rowK 9 1 v m (strs m T)) R)) : Mt W gx g gr n key top b b' T v m z.heap.size 0 R (z.alloc (.map #[] 0)) :=
  ⟨0, fun _ => none, Nat.le_refl _, (Hold.maptNew (bth_firm ((firm_rowK _ _ _ _ _).star hR)) h).back4, met_none _ _⟩
theorem Mt.below (hR : Firm R) (h : Mt W gx g gr n key top b b' T v m gm p R z) (hb : Below z.heap.size z z') : Mt W gx g gr n key top b b' T v m gm p R z' := by
  obtain ⟨c, M, h1, h2, h3⟩ := h
  exact ⟨c, M, h1, h2.below ((firm_mapT _ _ _).star ((firm_rowK _ _ _ _ _).star hR)) hb, h3⟩
theorem Mt.low (h : Mt W gx g gr n key top b b' T v m gm p R z) : Below W.heap.size W z := by obtain ⟨c, M, h1, h2, h3⟩ := h; exact h2.low
theorem Mt.at {a : Option Addr} {c : Nat} (h : Mt W gx g gr n key top b b' T (.slice a m c) m gm p R z) (hj : j < m) : ∃ g0, a = some ⟨g0, 0, none⟩ ∧ z.cell? ⟨g0, j, none⟩ = some (.string (T j)) := by
  obtain ⟨c', M, h1, h2, h3⟩ := h
  exact owns_cell (Hold.rowK (Hold.right (Hold.right (Hold.right (Hold.right h2))))) (strs_at m T j hj)
theorem star_in {P Q S U : Asn} {w : World} {F : Nat → Prop} (h : star P (star Q (star S U)) w F) : star Q (star S (star P U)) w F := star_monoR (star_swap h) fun F h => star_swap h
theorem star_out {P Q S U : Asn} {w : World} {F : Nat → Prop} (h : star Q (star S (star P U)) w F) : star P (star Q (star S U)) w F := star_swap (star_monoR h fun F h => star_swap h)
theorem Mt.lit (hR : Firm R) (h : Mt W gx g gr n key top b b' T v m gm p R z) (L : List Value) : Mt W gx g gr n key top b b' T v m gm p (star (blkA z.heap.size 9 L) R) (z.alloc (.cells L.toArray 9)) := by
  obtain ⟨c, M, h1, h2, h3⟩ := h
  have h4 := Hold.newBlk (bth_firm ((firm_mapT _ _ _).star ((firm_rowK _ _ _ _ _).star hR))) h2 9 L.toArray
  rw [List.toList_toArray] at h4
  exact ⟨c, M, h1, Hold.monoR h4.back4 fun F h => star_monoR h fun F h => star_monoR h fun F h => star_in h, h3⟩
theorem Mt.unlit {X : Asn} (h : Mt W gx g gr n key top b b' T v m gm p (star X R) z) : Mt W gx g gr n key top b b' T v m gm p R z := by
  obtain ⟨c, M, h1, h2, h3⟩ := h
  have h4 : Bth W.heap.size W z gx g gr 2 b b' 0 (n : Int) key top (star X (star (mapT gm c M) (star (rowK 9 1 v m (strs m T)) R))) := Hold.monoR h2 fun F h => star_monoR h fun F h => star_monoR h fun F h => star_out h
  exact ⟨c, M, h1, h4.dropR, h3⟩
theorem Mt.two {gl : Nat} {L : List Value} (h : Mt W gx g gr n key top b b' T v m gm p (star (blkA gl 9 L) R) z) : Blk z gl 9 L := by
  obtain ⟨c, M, h1, h2, h3⟩ := h
  exact Hold.blk (Hold.right (Hold.right (Hold.right (Hold.right (Hold.right h2)))))
theorem Mt.look (hR : Firm R) (h : Mt W gx g gr n key top b b' T v m gm p R z) (hp : p ≤ 1000) (hT : ∀ i, (T i).size ≤ 2048) {i k : Nat} (hk : k < 2) (hpk : p = 2 * i + k) :
    (∃ t : ByteArray, (Instr.lookup 62 (.map (some gm)) (.string (digest (kx T i k))) true).run Tryz.prog z = .ok (.tuple #[.string t, .bool true]) z ∧ t ≠ kx T i k) ∨
    ((Instr.lookup 62 (.map (some gm)) (.string (digest (kx T i k))) true).run Tryz.prog z = .ok (.tuple #[.string (kx T i k), .bool true]) z ∧ ∃ z', (Instr.mapUpdate 62 (.map (some gm)) (.string (digest (kx T i k))) (.string (kx T i k))).run Tryz.prog z = .ok () z' ∧ Mt W gx g gr n key top b b' T v m gm (p + 1) R z') ∨
    ((Instr.lookup 62 (.map (some gm)) (.string (digest (kx T i k))) true).run Tryz.prog z = .ok (.tuple #[.string noB, .bool false]) z ∧ ∃ z', (Instr.mapUpdate 62 (.map (some gm)) (.string (digest (kx T i k))) (.string (kx T i k))).run Tryz.prog z = .ok () z' ∧ Mt W gx g gr n key top b b' T v m gm (p + 1) R z') := by
  obtain ⟨c, M, h1, h2, h3⟩ := h
  have hd : (digest (kx T i k)).size ≤ maxLen := by rw [digest_size]; unfold maxLen; omega
  have hx : (kx T i k).size ≤ maxLen := by
    unfold kx kB
    rw [ByteArray.size_append]
    have := hT i
    have h1 : (if k = 0 then (⟨#[0]⟩ : ByteArray) else ⟨#[1]⟩).size = 1 := by split <;> rfl
    rw [h1]; unfold maxLen; omega
  have hm : MapT z gm c M := Hold.mapt (Hold.right (Hold.right (Hold.right h2)))
  have hput : M (digest (kx T i k)) = none ∨ M (digest (kx T i k)) = some (kx T i k) → ∃ z', (Instr.mapUpdate 62 (.map (some gm)) (.string (digest (kx T i k))) (.string (kx T i k))).run Tryz.prog z = .ok () z' ∧ Mt W gx g gr n key top b b' T v m gm (p + 1) R z' := fun hM => by
    obtain ⟨z', hrun, h4⟩ := Hold.maptPut ((firm_blk _ _ _).star ((firm_bnk _ _ _ _ _).star ((firm_rbk _ _ _ _ _).star ((firm_rowK _ _ _ _ _).star hR)))) (Hold.pull4 h2) (by omega) hd hx
    exact ⟨z', hrun, c + 1, _, by omega, h4.back4, h3.put hk hpk hM⟩
  cases hM : M (digest (kx T i k)) with
  | none => exact .inr (.inr ⟨hm.lookNone hd hM, hput (.inl hM)⟩)
  | some t =>
    by_cases e : t = kx T i k
    · subst e; exact .inr (.inl ⟨hm.look hd hM, hput (.inr hM)⟩)
    · exact .inl ⟨t, hm.look hd hM, e⟩
/-- At the end. -/
theorem Mt.done (h : Mt W gx g gr n key top b b' T v m gm p R z) : (∃ M, Met T M p) ∧ Bth W.heap.size W z gx g gr 2 b b' 0 (n : Int) key top R := by
  obtain ⟨c, M, h1, h2, h3⟩ := h
  exact ⟨⟨M, h3⟩, h2.dropR.dropR⟩
theorem tl_wget {l2 : Nat → ByteArray} {t : ByteArray} (h : Bth W.heap.size W z gx g gr 2 b b' 0 (n : Int) key top R) (ht : Tabs z) (hL : Liv 2 0 b l2) (hT : InT l d (sl0 t) C) (hn : 2 ^ d = n) (hd : 1 ≤ d ∧ d ≤ 4) (hC : ∀ j, j < n → C j = ceT key j) (hk : key.size = 32)
    {M : ByteArray → Option ByteArray} (hm : Met T M (2 * m)) (hp : 140 ≤ p ∧ p + 140 = m) (h1 : ∀ i, i < 140 → T i = l i) (h2 : ∀ i, i < 140 → T (p + i) = l2 i) {s : Nat} (hs : s < n) :
    Calls Tryz.prog 15 #[slV (.pointer (some ⟨g, 0, none⟩)) 0 (n : Int) key, .string t, .int .i64 (s : Int)] z fun e w' => ∃ (X : ByteArray) (E : Int), e = .returned (.tuple #[.string X, .int .i64 E]) ∧ ((E = 0 ∧ X = wtT s) ∨ (E ≠ 0 ∧ X = noB)) ∧ Below z.heap.size z w' := by
  have hf := faultIs_any (good_yes (i := 0) h.bk (by decide) hn hd hk) (s : Int)
  rw [show slE17 (n : Int) (s : Int) = 0 from if_neg (by omega)] at hf
  refine (sget_any (i := 0) h.bk ht (by decide) (by decide) (by rw [hL.n]; exact Nat.le_refl _) hL.size hn hd hk t hs hf).mono ?_
  rintro e w' ⟨e1, e2⟩
  obtain ⟨q1, q2⟩ := tl_get hL hT hn hd hC hm (by omega) (by omega) h1 h2 hs
  refine ⟨_, _, e1, ?_, e2⟩
  by_cases e0 : slGE (rdS b.p (b.D 0)) (eR b.p (b.D 0)) d s t (opE key (plc 0 s)) = 0
  · exact .inl ⟨e0, q1 e0⟩
  · exact .inr ⟨e0, q2 e0⟩
end
end Go.Proofs.YtnhkkhiajiiahaaGreatDoor
