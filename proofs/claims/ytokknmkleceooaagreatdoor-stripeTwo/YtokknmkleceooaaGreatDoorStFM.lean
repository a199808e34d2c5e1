import Derived.Test.YtokknmkleceooaaGreatDoorSlRM
import Derived.Test.YtokknmkleceooaaGreatDoorSlWakes
namespace Go.Proofs.YtokknmkleceooaaGreatDoor
open Go.RowKit Go.PlainAid
set_option linter.unusedVariables false
set_option maxRecDepth 20000
def gtE (b : Bs) (i d : Nat) (key top : ByteArray) (k : Int) : Int := if slE17 ((2 ^ d : Nat) : Int) k = 0 then slGE (rdS b.p (b.D i)) (eR b.p (b.D i)) d k.toNat top (opE key (plc i k.toNat)) else 2
def gtT (b : Bs) (i d : Nat) (key top : ByteArray) (k : Int) : ByteArray := if slE17 ((2 ^ d : Nat) : Int) k = 0 then slGT (rdS b.p (b.D i)) (eR b.p (b.D i)) d k.toNat top (opT key (plc i k.toNat)) else noB
def Okn (N : Nat) (b : Bs) : Prop := ∀ j, j < N → (b.D j).n = 140 ∧ (∀ a, ((b.D j).l a).size ≤ 2048) ∧ ∀ w ∈ (b.D j).q, w.2.size ≤ 2048
theorem Okn.rd {N : Nat} {b : Bs} (h : Okn N b) {i : Nat} (hi : i < N) (a : Nat) : (rdS b.p (b.D i) a).size ≤ 2048 := rdS_size (h i hi).2.1 (h i hi).2.2 a
theorem slE_in {n : Nat} {k : Int} (he : slE17 (n : Int) k = 0) : ∃ s : Nat, k = (s : Int) ∧ s < n := by
  unfold slE17 at he
  by_cases e : k < 0 ∨ (n : Int) ≤ k
  · rw [if_pos e] at he; cases he
  · exact ⟨k.toNat, by omega, by omega⟩
theorem slE_two {n : Nat} {k : Int} (he : slE17 (n : Int) k ≠ 0) : slE17 (n : Int) k = 2 := by
  unfold slE17 at he ⊢
  by_cases e : k < 0 ∨ (n : Int) ≤ k
  · rw [if_pos e]
  · rw [if_neg e] at he; exact absurd rfl he
theorem sgetN {N : Nat} {b : Bs} (hO : Okn N b) {i d : Nat} (hi : i < N) (hN : N ≤ 12) (hd : 1 ≤ d ∧ d ≤ 4) {key : ByteArray} (hk : key.size = 32) (top : ByteArray) (k : Int) {z : World} {g : Nat} (hz : Bk z g N b.D b.s b.p) (ht : Tabs z) : Calls Tryz.prog 23 #[slV (.pointer (some ⟨g, 0, none⟩)) (i : Int) ((2 ^ d : Nat) : Int) key, .string top, .int .i64 k] z fun e w' => e = .returned (.tuple #[.string (gtT b i d key top k), .int .i64 (gtE b i d key top k)]) ∧ Below z.heap.size z w' := by
  unfold gtT gtE
  by_cases he : slE17 ((2 ^ d : Nat) : Int) k = 0
  · rw [if_pos he, if_pos he]
    obtain ⟨s, rfl, hs⟩ := slE_in he
    rw [Int.toNat_natCast]
    exact sget_any hz ht hi (by omega) (by rw [(hO i hi).1]; exact Nat.le_refl _) (hO.rd hi) rfl hd hk top hs (by have := faultIs_any (good_yes hz hi rfl hd hk) (s : Int); rwa [he] at this)
  · rw [if_neg he, if_neg he]
    have := faultIs_any (good_yes hz hi rfl hd hk) k
    rw [slE_two he] at this
    exact sget_err this (by decide) top
def Smn (N : Nat) (b b' : Bs) : Prop := b.p = b'.p ∧ ∀ j, j < N → (b.D j).n = (b'.D j).n ∧ (b.D j).l = (b'.D j).l ∧ (b.D j).q = (b'.D j).q ∧ (b.D j).dead = (b'.D j).dead
theorem Smn.rd {N : Nat} {b b' : Bs} (h : Smn N b b') {i : Nat} (hi : i < N) : rdS b'.p (b'.D i) = rdS b.p (b.D i) ∧ eR b'.p (b'.D i) = eR b.p (b.D i) := by
  obtain ⟨h1, h2⟩ := h
  obtain ⟨e1, e2, e3, e4⟩ := h2 i hi
  refine ⟨?_, ?_⟩
  · funext a; unfold rdS; rw [h1, e1, e2, e3, e4]
  · unfold Go.Proofs.YtokknmkleceooaaGreatDoor.eR; rw [h1, e4]
theorem Smn.get {N : Nat} {b b' : Bs} (h : Smn N b b') {i : Nat} (hi : i < N) (d : Nat) (key top : ByteArray) (k : Int) : gtT b' i d key top k = gtT b i d key top k ∧ gtE b' i d key top k = gtE b i d key top k := by
  obtain ⟨h1, h2⟩ := h.rd hi
  unfold gtT gtE
  rw [h1, h2]
  exact ⟨rfl, rfl⟩
theorem Smn.okn {N : Nat} {b b' : Bs} (h : Smn N b b') (ho : Okn N b) : Okn N b' := fun j hj => by
  obtain ⟨e1, e2, e3, e4⟩ := h.2 j hj
  rw [← e1, ← e2, ← e3]
  exact ho j hj
theorem stD_other {N i : Nat} (hi : i < N) (p : Option Nat) (D : Nat → Dk) (d : Dk) {j : Nat} (hj : j ≠ i) : stD N p (i : Int) D d j = D j := by
  unfold stD
  rw [if_neg (out_not N i hi)]
  by_cases hp : p = some 0
  · rw [if_pos hp]
  · rw [if_neg hp, Int.toNat_natCast, updD_ne _ _ _ _ hj]
theorem apR_other {N i : Nat} (hi : i < N) {j : Nat} (hj : j ≠ i) : ∀ (q : List Wr) (b : Bs), (apR N i b q).2.D j = b.D j
  | [], b => stD_other hi _ _ _ hj
  | w :: r, b => by
    have h1 : (apW N i b w).D j = b.D j := stD_other hi _ _ _ hj
    by_cases e : apE N i b w = 0
    · rw [apR_ok e, apR_other hi hj r, h1]
    · rw [apR_bad e]; exact h1
theorem Liv.other {N i j : Nat} (hi : i < N) (hj : j ≠ i) {b : Bs} {l : Nat → ByteArray} (h : Liv N j b l) (q : List Wr) (hp : (apR N i b q).2.p = none) : Liv N j (apR N i b q).2 l := by
  have e := apR_other hi hj q b
  exact ⟨hp, by rw [e]; exact h.dead, by rw [e]; exact h.n, by rw [e]; exact h.q, by rw [e]; exact h.ll, h.sz⟩
theorem fresh_liv {N i : Nat} {b : Bs} (hp : b.p = none) (h : Fresh (b.D i) 140) : Liv N i b (fun _ => noB) :=
  ⟨hp, h.2.2.2, by rw [h.1, newN140], h.2.2.1, h.2.1, fun _ => by show noB.size ≤ _; decide⟩
theorem put_new {N i d slot : Nat} (hi : i < N) (hd : 1 ≤ d ∧ d ≤ 4) (hs : slot < 2 ^ d) {b : Bs} (hL : Liv N i b (fun _ => noB)) {c : ByteArray} (hc : c.size ≤ 2032) :
    (apR N i b (blW (2 ^ d))).1 = 0 ∧ Liv N i (apR N i b (blW (2 ^ d))).2 (app (fun _ => noB) (blW (2 ^ d))) ∧ InT (app (fun _ => noB) (blW (2 ^ d))) d (sl0 (tdg eL (2 ^ d) 1)) (fun _ => noB) ∧
    (apR N i (apR N i b (blW (2 ^ d))).2 (slW (pS (apR N i b (blW (2 ^ d))).2 i d (tdg eL (2 ^ d) 1) [((slot : Int), c)]))).1 = 0 ∧
    ∃ l', Liv N i (apR N i (apR N i b (blW (2 ^ d))).2 (slW (pS (apR N i b (blW (2 ^ d))).2 i d (tdg eL (2 ^ d) 1) [((slot : Int), c)]))).2 l' ∧ InT l' d (sl0 (pS (apR N i b (blW (2 ^ d))).2 i d (tdg eL (2 ^ d) 1) [((slot : Int), c)]).top) (fun s => if s = slot then c else noB) := by
  obtain ⟨h1, h2⟩ := hL.apply hi (bl_wok rfl hd.2)
  have h3 := inT_begin rfl hd (fun _ => noB)
  obtain ⟨h4, h5, l', h6, h7⟩ := h2.change hi hd.2 h3 (cs := [((slot : Int), c)]) (fun p hp => by
    rcases List.mem_cons.1 hp with rfl | h
    · exact ⟨⟨by show (0 : Int) ≤ (slot : Int); omega, by show (slot : Int) < ((2 ^ d : Nat) : Int); omega⟩, hc⟩
    · cases h)
  refine ⟨h1, h2, h3, h5, l', h6, ?_⟩
  have e : upL (fun _ => noB) [((slot : Int), c)] = fun s => if s = slot then c else noB := by
    show (fun j => if j = ((slot : Int)).toNat then c else noB) = _
    rw [Int.toNat_natCast]
  rw [e] at h7
  exact h7
structure LyS (N k d slot : Nat) (b b' : Bs) (C P : Nat → ByteArray) : Prop where
  p : b.p = none
  p' : b'.p = none
  done : ∀ j, j < k → ∃ l, Liv N j b l ∧ InT l d (sl0 (P j)) (fun s => if s = slot then C j else noB)
  same : ∀ j, j < k → (b'.D j).n = 140 ∧ (b'.D j).l = (b.D j).l ∧ (b'.D j).q = [] ∧ (b'.D j).dead = false
  rest : ∀ j, k ≤ j → j < N → Fresh (b.D j) 140 ∧ Fresh (b'.D j) 140
  few : Few17 N b (k * 100)
theorem LyS.next {N k d slot : Nat} {b b' : Bs} {C P : Nat → ByteArray} (h : LyS N k d slot b b' C P) (hk : k < N) (hd : 1 ≤ d ∧ d ≤ 4) (hs : slot < 2 ^ d) (hC : (C k).size ≤ 2032) {b2 b2' : Bs} {t : ByteArray}
    (e2 : (apR N k (apR N k b (blW (2 ^ d))).2 (slW (pS (apR N k b (blW (2 ^ d))).2 k d (tdg eL (2 ^ d) 1) [((slot : Int), C k)]))).2 = b2) (et : (pS (apR N k b (blW (2 ^ d))).2 k d (tdg eL (2 ^ d) 1) [((slot : Int), C k)]).top = t)
    (hp' : b2'.p = none) (hD : ∀ j, j ≠ k → b2'.D j = b'.D j) (hk' : (b2'.D k).n = 140 ∧ (b2'.D k).l = (b2.D k).l ∧ (b2'.D k).q = [] ∧ (b2'.D k).dead = false) : LyS N (k + 1) d slot b2 b2' C (fun j => if j = k then t else P j) := by
  subst e2 et
  obtain ⟨h1, h2, h3, h4, l', h5, h6⟩ := put_new hk hd hs (fresh_liv h.p (h.rest k (Nat.le_refl _) hk).1) hC
  have o1 : ∀ j, j ≠ k → (apR N k (apR N k b (blW (2 ^ d))).2 (slW (pS (apR N k b (blW (2 ^ d))).2 k d (tdg eL (2 ^ d) 1) [((slot : Int), C k)]))).2.D j = b.D j := fun j hj => by rw [apR_other hk hj, apR_other hk hj]
  have f0 := few_r hk (blW (2 ^ d)) h.few
  have f1 := few_r hk (slW (pS (apR N k b (blW (2 ^ d))).2 k d (tdg eL (2 ^ d) 1) [((slot : Int), C k)])) f0
  have hw := slW_few (pS (apR N k b (blW (2 ^ d))).2 k d (tdg eL (2 ^ d) 1) [((slot : Int), C k)])
  have hb : (blW (2 ^ d)).length ≤ 31 := by rw [blW_length]; have := pow_le16 d hd.2; omega
  refine ⟨h5.p, hp', fun j hj => ?_, fun j hj => ?_, fun j hj hjN => ?_, ⟨Nat.le_trans f1.1 (by omega), fun j hj => Nat.le_trans (f1.2 j hj) (by omega)⟩⟩
  · by_cases e : j = k
    · subst e
      exact ⟨l', h5, by rw [if_pos rfl]; exact h6⟩
    · obtain ⟨l, a1, a2⟩ := h.done j (by omega)
      refine ⟨l, (a1.other hk e _ h2.p).other hk e _ h5.p, by rw [if_neg e]; exact a2⟩
  · by_cases e : j = k
    · subst e; exact hk'
    · rw [hD j e, o1 j e]; exact h.same j (by omega)
  · rw [hD j (by omega), o1 j (by omega)]; exact h.rest j (by omega) hjN
structure Sh where
  g : Nat
  i : Int
  n : Int
  key : ByteArray
  top : ByteArray
  u : Bool
def Sh.L (s : Sh) : List Value := [.pointer (some ⟨s.g, 0, none⟩), .int .i64 s.i, .int .i64 s.n, .string s.key, .string s.top, .bool s.u]
def Sh.at (s : Sh) (g : Nat) : Sh := { s with g := g }
theorem shelf_one (g : Nat) (i n : Int) (k p : ByteArray) (u : Bool) : ∀ v ∈ ([.pointer (some ⟨g, 0, none⟩), .int .i64 i, .int .i64 n, .string k, .string p, .bool u] : List Value), v.oneCell' = true := fun v hv => by
  simp only [List.mem_cons, List.not_mem_nil, or_false] at hv
  rcases hv with rfl | rfl | rfl | rfl | rfl | rfl <;> rfl
def shL (S : Nat → Sh) : Nat → List Value
  | 0 => []
  | k + 1 => shL S k ++ (S k).L
theorem shL_length (S : Nat → Sh) : ∀ k, (shL S k).length = k * 6
  | 0 => rfl
  | k + 1 => by
    show (shL S k ++ (S k).L).length = _
    rw [List.length_append, shL_length S k, Nat.succ_mul]; rfl
theorem shL_congr {S S' : Nat → Sh} : ∀ {k}, (∀ i, i < k → S i = S' i) → shL S k = shL S' k
  | 0, _ => rfl
  | k + 1, h => by
    show shL S k ++ (S k).L = shL S' k ++ (S' k).L
    rw [shL_congr fun i hi => h i (by omega), h k (by omega)]
theorem shL_at (S : Nat → Sh) : ∀ (k i j : Nat) (v : Value), i < k → (S i).L[j]? = some v → (shL S k)[i * 6 + j]? = some v
  | 0, i, j, v, hi, _ => by omega
  | k + 1, i, j, v, hi, hv => by
    have hj : j < 6 := by
      have := (List.getElem?_eq_some_iff.1 hv).1
      exact this
    show (shL S k ++ (S k).L)[i * 6 + j]? = _
    by_cases e : i < k
    · rw [List.getElem?_append_left (by rw [shL_length]; omega)]
      exact shL_at S k i j v e hv
    · obtain rfl : i = k := by omega
      rw [List.getElem?_append_right (by rw [shL_length]; omega), shL_length, Nat.add_sub_cancel_left]
      exact hv
def ShAt (w : World) (h n : Nat) (S : Nat → Sh) : Prop := ∀ z, Below w.heap.size w z → ∀ i, i < n → z.rangeAt h (i * 6) (S i).L
theorem ShAt.below {w w' : World} {h n : Nat} {S : Nat → Sh} (H : ShAt w h n S) (hb : Below w.heap.size w w') : ShAt w' h n S := fun z hz => H z (hb.trans (hz.mono hb.size))
theorem shAt_own {w : World} {T h n c k : Nat} {S : Nat → Sh} (H : w.ownsRow 0 T 6 (.slice (some ⟨h, 0, none⟩) k c) k (shL S k)) (hn : n ≤ k) : ShAt w h n S := fun z hz i hi j v hv => by
  have hb : h < w.heap.size := (H.lt h rfl).2
  have h1 := H.cellAt (i * 6 + j) (by
    have hj := (List.getElem?_eq_some_iff.1 hv).1
    have hj' : j < 6 := hj
    omega)
  rw [shL_at S k i j v (by omega) hv] at h1
  rw [hz.cell (p := ⟨h, i * 6 + j, none⟩) hb]
  exact h1
theorem push_wide {B : Nat} {w0 w : World} {R : Asn} (hR : Firm R) (sl T ty : TypeId) (z : Value) (K by_ : Nat) (hu : Tryz.prog.underlying sl = some (.slice T)) (hT : (Tryz.prog.info? T).map (fun i => (i.zero, i.size, i.bytes)) = some (some z, K, by_)) (hz : z.cells.size = K) (hK : 0 < K) (hby : by_ ≤ 100)
    {v : Value} {m : Nat} {xs : List Value} (h : Hold B w0 w (star (rowK T K v m xs) R)) (hm : m ≤ 1000) {gn : Nat} {row : List Value} (hb : Blk w gn T row) (hl : row.length = K) (h1 : ∀ u ∈ row, u.oneCell' = true) :
    ∃ a c w', (Builtin.append_ #[sl, sl] ty #[v, .slice (some ⟨gn, 0, none⟩) 1 1]).run Tryz.prog w = .ok (.slice a (m + 1) c) w' ∧ Hold B w0 w' (star (rowK T K (.slice a (m + 1) c) (m + 1) (xs ++ row)) R) := by
  obtain ⟨i0, hi, hz0, hz1, hz2⟩ := info_parts hT
  have hbt : (m + 1) * by_ ≤ 140737488355328 := Nat.le_trans (Nat.mul_le_mul (show m + 1 ≤ 1001 by omega) hby) (by decide)
  obtain ⟨v', w', hrun, hown, hgrow, _, hat⟩ := run_append_own_at (P := Tryz.prog) w 0 sl ty T i0 z K by_ hu hi hz0 hz1 hz2 hz hK v m xs h.rowK ⟨gn, 0, none⟩ 1 1 row (by omega) (fun j u hj => by
    rw [Go.WideShapes.add_plain, Nat.zero_add]
    exact hb.cell hj) h1 (by unfold maxLen; omega) hbt (Nat.zero_le _)
  have h3 : Hold B w0 w' (star (rowK T K v' (m + 1) (xs ++ row)) R) := by
    obtain ⟨g1, g2, F, ⟨G, H, h3, h4, h5, h6⟩, h7⟩ := h
    refine Hold.turned hR g1 g2 h4 h5 (fun k hk => h7 k ((h6 k).2 hk)) ⟨fun k => v'.ownBlock = some k, ⟨hown, fun k => Iff.rfl⟩, (Kept.refl G w).grown hgrow (fun k e => .inl ((h3.2 k).2 e)), fun k hk => ?_⟩
    rcases hat with e | e
    · exact .inl ((h3.2 k).2 (by rw [← e]; exact hk))
    · rw [e] at hk; cases hk; exact .inr (Nat.le_refl _)
  obtain ⟨a, c, rfl⟩ := own_form h3.rowK
  exact ⟨a, c, w', hrun, h3⟩
theorem Tryz.infoShelf : (Tryz.prog.info? 47).map (fun i => (i.zero, i.size, i.bytes)) = some (some (.agg #[.pointer none, .int .i64 0, .int .i64 0, .string noB, .string noB, .bool false]), 6, 64) := by kernel_rfl
theorem Tryz.infoRShelf : (Tryz.prog.info? 54).map (fun i => (i.zero, i.size, i.bytes)) = some (some (.agg #[.pointer none, .int .i64 0, .int .i64 0, .string noB, .string noB, .bool false]), 6, 64) := by kernel_rfl
def lyX (gr N : Nat) (b' : Bs) (vl vm vc : Value) (k : Nat) (S : Nat → Sh) (F : Nat → ByteArray) : Asn := star (rkA gr N b') (star (rowK 47 6 vl k (shL S k)) (star (rowK 54 6 vm k (shL (fun i => (S i).at gr) k)) (rowK 9 1 vc N (strs N F))))
def Ly (B : Nat) (w0 z : World) (g gr N : Nat) (b b' : Bs) (vl vm vc : Value) (k : Nat) (S : Nat → Sh) (F : Nat → ByteArray) (R : Asn) : Prop := Hold B w0 z (star (bkA g N b) (star R (lyX gr N b' vl vm vc k S F)))
section
variable {B : Nat} {w0 z z' : World} {g gr N k : Nat} {b b' : Bs} {vl vm vc : Value} {S : Nat → Sh} {F : Nat → ByteArray} {R A : Asn}
theorem lyX_firm : Firm (lyX gr N b' vl vm vc k S F) := (firm_rbk _ _ _ _ _).star ((firm_rowK _ _ _ _ _).star ((firm_rowK _ _ _ _ _).star (firm_rowK _ _ _ _ _)))
theorem ly_firm (hR : Firm R) : Firm (star (bkA g N b) (star R (lyX gr N b' vl vm vc k S F))) := (firm_bnk _ _ _ _ _).star (hR.star lyX_firm)
theorem Ly.below (h : Ly B w0 z g gr N b b' vl vm vc k S F R) (hR : Firm R) (hb : Below z.heap.size z z') : Ly B w0 z' g gr N b b' vl vm vc k S F R := Hold.below h (ly_firm hR) hb
theorem Ly.low (h : Ly B w0 z g gr N b b' vl vm vc k S F R) : Below B w0 z := Hold.low h
theorem Ly.size (h : Ly B w0 z g gr N b b' vl vm vc k S F R) : B ≤ z.heap.size := Hold.size h
theorem Ly.bk (h : Ly B w0 z g gr N b b' vl vm vc k S F R) : Bk z g N b.D b.s b.p := Hold.bk h
theorem Ly.push (h : Hold B w0 z (star A (star (bkA g N b) (star R (lyX gr N b' vl vm vc k S F))))) : Ly B w0 z g gr N b b' vl vm vc k S F (star A R) := h.swap.monoR fun F h => star_unassoc h
theorem Ly.pop (h : Ly B w0 z g gr N b b' vl vm vc k S F (star A R)) : Hold B w0 z (star A (star (bkA g N b) (star R (lyX gr N b' vl vm vc k S F)))) := Hold.swap (Hold.monoR h fun F h => star_assoc h)
theorem Ly.drop (h : Ly B w0 z g gr N b b' vl vm vc k S F (star A R)) : Ly B w0 z g gr N b b' vl vm vc k S F R := h.pop.right
theorem Ly.swap {A' : Asn} (h : Ly B w0 z g gr N b b' vl vm vc k S F (star A (star A' R))) : Ly B w0 z g gr N b b' vl vm vc k S F (star A' (star A R)) := Hold.monoR h fun F h => star_monoL h fun F h => star_swap h
theorem Ly.blk {gb : Nat} {T : TypeId} {L : List Value} (h : Ly B w0 z g gr N b b' vl vm vc k S F (star (blkA gb T L) R)) : Blk z gb T L := Hold.blk h.pop
theorem Ly.blk2 {gb : Nat} {T : TypeId} {L : List Value} (h : Ly B w0 z g gr N b b' vl vm vc k S F (star A (star (blkA gb T L) R))) : Blk z gb T L := h.swap.blk
theorem Ly.newBlk (h : Ly B w0 z g gr N b b' vl vm vc k S F R) (hR : Firm R) (T : TypeId) (L : List Value) : Ly B w0 (z.alloc (.cells L.toArray T)) g gr N b b' vl vm vc k S F (star (blkA z.heap.size T L) R) := by
  have := Hold.newBlk (ly_firm hR) h T L.toArray
  rw [List.toList_toArray] at this
  exact Ly.push this
theorem Ly.newRow (h : Ly B w0 z g gr N b b' vl vm vc k S F R) (hR : Firm R) {T : TypeId} {K m : Nat} {v : Value} {xs : List Value} (hb : Below z.heap.size z z') (hr : z'.ownsRow z.heap.size T K v m xs) : Ly B w0 z' g gr N b b' vl vm vc k S F (star (rowK T K v m xs) R) := Ly.push (Hold.newRow (ly_firm hR) h hb hr)
theorem Ly.apply (hR : Firm R) {i : Nat} {n : Int} {key : ByteArray} (hg : GoodIs z (slV (.pointer (some ⟨g, 0, none⟩)) (i : Int) n key) true) (hi : i < N) {v : Value} {q : List Wr} (h : Ly B w0 z g gr N b b' vl vm vc k S F (star (rowK 144 2 v q.length (pairs q)) R)) {M : Nat} (hf : Few17 N b M) (hM : M + q.length ≤ 100000) :
    Calls Tryz.prog 36 #[slV (.pointer (some ⟨g, 0, none⟩)) (i : Int) n key, v] z fun e w' => e = .returned (.int .i64 (apR N i b q).1) ∧ Ly B w0 w' g gr N (apR N i b q).2 b' vl vm vc k S F (star (rowK 144 2 v q.length (pairs q)) R) := by
  refine (sapply_any (hR.star lyX_firm) hg (Hold.monoR h fun F h => star_assoc h) hi hf hM).mono ?_
  rintro e w' ⟨rfl, h2⟩
  exact ⟨rfl, h2.monoR fun F h => star_unassoc h⟩
theorem Ly.rk (h : Ly B w0 z g gr N b b' vl vm vc k S F R) : Rk z gr N b'.D b'.s b'.p := Hold.rk (Hold.right (Hold.right h))
theorem Ly.l (h : Ly B w0 z g gr N b b' vl vm vc k S F R) : z.ownsRow 0 47 6 vl k (shL S k) := Hold.rowK (Hold.right (Hold.right (Hold.right h)))
theorem Ly.m (h : Ly B w0 z g gr N b b' vl vm vc k S F R) : z.ownsRow 0 54 6 vm k (shL (fun i => (S i).at gr) k) := Hold.rowK (Hold.right (Hold.right (Hold.right (Hold.right h))))
theorem Ly.c (h : Ly B w0 z g gr N b b' vl vm vc k S F R) : z.ownsRow 0 9 1 vc N (strs N F) := Hold.rowK ((Hold.addNought (Hold.right (Hold.right (Hold.right (Hold.right (Hold.right h)))))).comm)
theorem Ly.pushL (hR : Firm R) (h : Ly B w0 z g gr N b b' vl vm vc k S F R) (hk : k ≤ 1000) {gn : Nat} {s : Sh} (hb : Blk z gn 47 s.L) (hs : S k = s) :
    ∃ a c w', (Builtin.append_ #[36, 36] 36 #[vl, .slice (some ⟨gn, 0, none⟩) 1 1]).run Tryz.prog z = .ok (.slice a (k + 1) c) w' ∧ Hold B w0 w' (star (rowK 47 6 (.slice a (k + 1) c) (k + 1) (shL S (k + 1))) (star (bkA g N b) (star R (star (rkA gr N b') (star (rowK 54 6 vm k (shL (fun i => (S i).at gr) k)) (rowK 9 1 vc N (strs N F))))))) := by
  have h1 := Hold.pull4 h
  obtain ⟨a, c, w', hrun, h2⟩ := push_wide ((firm_bnk _ _ _ _ _).star (hR.star ((firm_rbk _ _ _ _ _).star ((firm_rowK _ _ _ _ _).star (firm_rowK _ _ _ _ _))))) 36 47 36 _ 6 64 Tryz.underlying36 Tryz.infoShelf rfl (by decide) (by decide) h1 hk hb rfl (shelf_one _ _ _ _ _ _)
  refine ⟨a, c, w', hrun, ?_⟩
  rw [← hs] at h2
  exact h2
theorem Ly.pushM (hR : Firm R) {vl' : Value} (h : Hold B w0 z (star (rowK 47 6 vl' (k + 1) (shL S (k + 1))) (star (bkA g N b) (star R (star (rkA gr N b') (star (rowK 54 6 vm k (shL (fun i => (S i).at gr) k)) (rowK 9 1 vc N (strs N F)))))))) (hk : k ≤ 1000) {gn : Nat} {s : Sh} (hb : Blk z gn 54 (s.at gr).L) (hs : S k = s) :
    ∃ a c w', (Builtin.append_ #[37, 37] 37 #[vm, .slice (some ⟨gn, 0, none⟩) 1 1]).run Tryz.prog z = .ok (.slice a (k + 1) c) w' ∧ Ly B w0 w' g gr N b b' vl' (.slice a (k + 1) c) vc (k + 1) S F R := by
  have h1 := Hold.pull5 h
  obtain ⟨a, c, w', hrun, h2⟩ := push_wide ((firm_rowK _ _ _ _ _).star ((firm_bnk _ _ _ _ _).star (hR.star ((firm_rbk _ _ _ _ _).star (firm_rowK _ _ _ _ _))))) 37 54 37 _ 6 64 Tryz.underlying37 Tryz.infoRShelf rfl (by decide) (by decide) h1 hk hb rfl (shelf_one _ _ _ _ _ _)
  refine ⟨a, c, w', hrun, ?_⟩
  rw [← hs] at h2
  have h3 := Hold.back5 h2
  exact (Hold.back4 h3 : Hold B w0 w' _)
end
end Go.Proofs.YtokknmkleceooaaGreatDoor
