import Derived.Test.YtokknmkleceooaaGreatDoorStLay
import Derived.Test.YtokknmkleceooaaGreatDoorStBlk
namespace Go.Proofs.YtokknmkleceooaaGreatDoor
open Go.RowKit Go.PlainAid
set_option linter.unusedVariables false
set_option maxRecDepth 20000
section
variable {B : Nat} {w0 w : World} {T : TypeId} {K n c : Nat} {xs : List Value} {X : Asn}
theorem rowK_at {g : Nat} (h : w.ownsRow 0 T K (.slice (some ⟨g, 0, none⟩) n c) n xs) {i : Nat} {u : Value} (hu : xs[i]? = some u) : w.cell? ⟨g, i, none⟩ = some u ∧ w.frozen? ⟨g, i, none⟩ = false := by
  have hl := h.1
  rcases h.2 with ⟨h1, h2⟩ | ⟨g', cap, cur, h1, _, h3, _, _, _, h4⟩
  · cases h1
  · cases h1
    have hi : i < n * K := by
      rcases Nat.lt_or_ge i (n * K) with h | h
      · exact h
      · rw [List.getElem?_eq_none (by omega)] at hu; cases hu
    have hb : Blk w g T cur.toList := h3
    refine ⟨hb.cell ?_, hb.frozen i⟩
    rw [← h4, List.getElem?_take, if_pos hi] at hu; exact hu
theorem rowK_set {g : Nat} (hX : Firm X) (h : Hold B w0 w (star (rowK T K (.slice (some ⟨g, 0, none⟩) n c) n xs) X)) (i : Nat) (hi : i < n * K) (v : Value) : Hold B w0 (w.setCell ⟨g, i, none⟩ v) (star (rowK T K (.slice (some ⟨g, 0, none⟩) n c) n (xs.set i v)) X) := by
  have hl := h.rowK.1
  rcases h.rowK.2 with ⟨h1, h2⟩ | ⟨g', cap, cur, h1, hb0, h3, h5, h6, h7, h4⟩
  · cases h1
  · cases h1
    have hk : Hold B w0 w (star (blkA g T cur.toList) X) := h.monoL fun F hF => ⟨h3, fun k => by rw [hF.2 k]; exact ⟨fun e => (Option.some.inj e).symm, fun e => by rw [e]; rfl⟩⟩
    have hs := hk.setBlk hX i v
    have hb : Blk _ g T (cur.toList.set i v) := hs.blk
    refine hs.monoL fun F hF => ⟨⟨by rw [List.length_set]; exact hl, .inr ⟨g, c, (cur.toList.set i v).toArray, rfl, hb0, hb, h5, h6, ?_, ?_⟩⟩, fun k => by rw [hF.2 k]; exact ⟨fun e => by rw [e]; rfl, fun e => (Option.some.inj e).symm⟩⟩
    · simpa using h7
    · rw [← h4, List.take_set]
end
def shX (g n : Nat) (P : Nat → ByteArray) (u : Nat → Bool) (i : Nat) : Sh := ⟨g, (i : Int), (n : Int), kB19, P i, u i⟩
theorem shL_set (S : Nat → Sh) (i j : Nat) (v : Value) (s : Sh) (hs : s.L = (S i).L.set j v) (hj : j < 6) : ∀ k, i < k → (shL S k).set (i * 6 + j) v = shL (fun x => if x = i then s else S x) k
  | 0, h => by omega
  | k + 1, h => by
    show (shL S k ++ (S k).L).set (i * 6 + j) v = shL _ k ++ (if k = i then s else S k).L
    by_cases e : i = k
    · subst e
      rw [if_pos rfl, List.set_append_right _ _ (by rw [shL_length]; omega), shL_length, Nat.add_sub_cancel_left, hs]
      rw [shL_congr (S := fun x => if x = i then s else S x) (S' := S) fun x hx => by rw [if_neg (by omega)]]
    · rw [if_neg (fun h => e h.symm), List.set_append_left _ _ (by rw [shL_length]; omega), shL_set S i j v s hs hj k (by omega)]
def feE (b : Bs) (d : Nat) (P : Nat → ByteArray) (u : Nat → Bool) (t : Int) (i : Nat) : Int := if u i = true then gtE b i d kB19 (P i) t else 11
def feT (b : Bs) (d : Nat) (P : Nat → ByteArray) (u : Nat → Bool) (t : Int) (i : Nat) : ByteArray := if u i = true then gtT b i d kB19 (P i) t else noB
theorem own_any6 {w : World} {b T K N : Nat} {v : Value} {xs : List Value} (h : w.ownsRow b T K v N xs) (hN : 1 ≤ N) : ∃ g c, v = .slice (some ⟨g, 0, none⟩) N c := by
  rcases h.2 with ⟨h0, h1⟩ | ⟨g, cap, cur, e, _⟩
  · omega
  · exact ⟨g, cap, e⟩
theorem opT_size (key a c : ByteArray) : (opT key a c).size ≤ 32 + c.size := by
  unfold opT
  split
  · rw [zB_size]; omega
  · split
    · exact Nat.zero_le _
    · split
      · rw [crB_size, ByteArray.size_extract, ByteArray.size_extract]; omega
      · exact Nat.zero_le _
theorem slGT_size {rd : Nat → ByteArray} {E : Int} {d s : Nat} {top : ByteArray} {key a : ByteArray} (h : ∀ a, (rd a).size ≤ 2048) : (slGT rd E d s top (opT key a)).size ≤ 3000 := by
  unfold slGT
  split
  · have := opT_size key a (rd (120 + s))
    have := h (120 + s)
    omega
  · exact Nat.zero_le _
theorem gtT_size {N : Nat} {b : Bs} (hO : Okn N b) {i d : Nat} (hi : i < N) (key top : ByteArray) (t : Int) : (gtT b i d key top t).size ≤ 3000 := by
  unfold gtT
  split
  · exact slGT_size (hO.rd hi)
  · exact Nat.zero_le _
theorem feT_size {N d : Nat} {b : Bs} {P : Nat → ByteArray} {u : Nat → Bool} (hO : Okn N b) {i : Nat} (hi : i < N) (t : Int) : (feT b d P u t i).size ≤ 9223372036854775807 := by
  unfold feT
  split
  · exact Nat.le_trans (gtT_size hO hi _ _ _) (by decide)
  · exact Nat.zero_le _
def Lw (B : Nat) (w0 z : World) (g gr N : Nat) (b b' : Bs) (vl vm vc : Value) (S S' : Nat → Sh) (F : Nat → ByteArray) (R : Asn) : Prop := Hold B w0 z (star (bkA g N b) (star R (star (rkA gr N b') (star (rowK 47 6 vl N (shL S N)) (star (rowK 54 6 vm N (shL S' N)) (rowK 9 1 vc N (strs N F)))))))
def faB (b : Bs) (i : Nat) : Bs := ⟨updD b.D i ⟨(b.D i).g, (b.D i).n, fun _ => noB, [], true⟩, b.s, b.p⟩
section
variable {B : Nat} {w0 z z' : World} {g gr N n d : Nat} {b b' : Bs} {vl vm vc : Value} {S S' : Nat → Sh} {F : Nat → ByteArray} {R A : Asn} {P : Nat → ByteArray} {u : Nat → Bool}
theorem lw_firm (hR : Firm R) : Firm (star (bkA g N b) (star R (star (rkA gr N b') (star (rowK 47 6 vl N (shL S N)) (star (rowK 54 6 vm N (shL S' N)) (rowK 9 1 vc N (strs N F))))))) := (firm_bnk _ _ _ _ _).star (hR.star ((firm_rbk _ _ _ _ _).star ((firm_rowK _ _ _ _ _).star ((firm_rowK _ _ _ _ _).star (firm_rowK _ _ _ _ _)))))
theorem Ly.lw {S : Nat → Sh} (h : Ly B w0 z g gr N b b' vl vm vc N S F R) : Lw B w0 z g gr N b b' vl vm vc S (fun i => (S i).at gr) F R := h
theorem Lw.below (hR : Firm R) (h : Lw B w0 z g gr N b b' vl vm vc S S' F R) (hb : Below z.heap.size z z') : Lw B w0 z' g gr N b b' vl vm vc S S' F R := Hold.below h (lw_firm hR) hb
theorem Lw.low (h : Lw B w0 z g gr N b b' vl vm vc S S' F R) : Below B w0 z := Hold.low h
theorem Lw.size (h : Lw B w0 z g gr N b b' vl vm vc S S' F R) : B ≤ z.heap.size := Hold.size h
theorem Lw.bk (h : Lw B w0 z g gr N b b' vl vm vc S S' F R) : Bk z g N b.D b.s b.p := Hold.bk h
theorem Lw.rk (h : Lw B w0 z g gr N b b' vl vm vc S S' F R) : Rk z gr N b'.D b'.s b'.p := Hold.rk (Hold.right (Hold.right h))
theorem Lw.l (h : Lw B w0 z g gr N b b' vl vm vc S S' F R) : z.ownsRow 0 47 6 vl N (shL S N) := Hold.rowK (Hold.right (Hold.right (Hold.right h)))
theorem Lw.m (h : Lw B w0 z g gr N b b' vl vm vc S S' F R) : z.ownsRow 0 54 6 vm N (shL S' N) := Hold.rowK (Hold.right (Hold.right (Hold.right (Hold.right h))))
theorem Lw.c (h : Lw B w0 z g gr N b b' vl vm vc S S' F R) : z.ownsRow 0 9 1 vc N (strs N F) := Hold.rowK ((Hold.addNought (Hold.right (Hold.right (Hold.right (Hold.right (Hold.right h)))))).comm)
theorem Lw.disk (h : Lw B w0 z g gr N b b' vl vm vc S S' F R) {i : Nat} (hi : i < N) : Calls Tryz.prog 24 #[.pointer (some ⟨g, 0, none⟩), .int .i64 (i : Int)] z fun e w' => e = .returned (.pointer (some ⟨(b.D i).g, 0, none⟩)) ∧ w' = z := bdisk_in h i hi
theorem Lw.fail (hR : Firm R) (h : Lw B w0 z g gr N b b' vl vm vc S S' F R) {i : Nat} (hi : i < N) : Calls Tryz.prog 25 #[.pointer (some ⟨(b.D i).g, 0, none⟩)] z fun e w' => e = .returned (.tuple #[]) ∧ Lw B w0 w' g gr N (faB b i) b' vl vm vc S S' F R := by
  have h1 := Hold.openD h i hi
  refine (h_fail ((firm_bnkX _).star (hR.star ((firm_rbk _ _ _ _ _).star ((firm_rowK _ _ _ _ _).star ((firm_rowK _ _ _ _ _).star (firm_rowK _ _ _ _ _)))))) h1).mono ?_
  rintro e w' ⟨rfl, h2⟩
  exact ⟨rfl, Hold.shutD i hi ⟨(b.D i).g, (b.D i).n, fun _ => noB, [], true⟩ rfl h2⟩
theorem Lw.cell {hl c : Nat} (h : Lw B w0 z g gr N b b' (.slice (some ⟨hl, 0, none⟩) N c) vm vc S S' F R) {i j : Nat} {v : Value} (hi : i < N) (hv : (S i).L[j]? = some v) : z.cell? ⟨hl, i * 6 + j, none⟩ = some v ∧ z.frozen? ⟨hl, i * 6 + j, none⟩ = false := rowK_at h.l (shL_at S N i j v hi hv)
theorem Lw.chunk {hc c : Nat} (h : Lw B w0 z g gr N b b' vl vm (.slice (some ⟨hc, 0, none⟩) N c) S S' F R) {i : Nat} (hi : i < N) : z.cell? ⟨hc, i, none⟩ = some (.string (F i)) := (rowK_at h.c (strs_at N F i hi)).1
theorem Lw.unuse {hl c : Nat} (hR : Firm R) (h : Lw B w0 z g gr N b b' (.slice (some ⟨hl, 0, none⟩) N c) vm vc (shX g n P u) S' F R) {i : Nat} (hi : i < N) : Lw B w0 (z.setCell ⟨hl, i * 6 + 5, none⟩ (.bool false)) g gr N b b' (.slice (some ⟨hl, 0, none⟩) N c) vm vc (shX g n P fun j => if j = i then false else u j) S' F R := by
  have h1 := rowK_set ((firm_bnk _ _ _ _ _).star (hR.star ((firm_rbk _ _ _ _ _).star ((firm_rowK _ _ _ _ _).star (firm_rowK _ _ _ _ _))))) (Hold.pull4 h) (i * 6 + 5) (by omega) (.bool false)
  rw [shL_set (shX g n P u) i 5 (.bool false) ⟨g, (i : Int), (n : Int), kB19, P i, false⟩ rfl (by decide) N hi] at h1
  rw [shL_congr (S' := shX g n P fun j => if j = i then false else u j) fun x hx => by
    show (if x = i then _ else shX g n P u x) = (⟨g, (x : Int), (n : Int), kB19, P x, if x = i then false else u x⟩ : Sh)
    by_cases e : x = i
    · rw [if_pos e, if_pos e, e]
    · rw [if_neg e, if_neg e]; rfl] at h1
  exact (Hold.back4 h1 : Hold _ _ _ _)
theorem Lw.fetch (h : Lw B w0 z g gr N b b' vl vm vc S S' F R) (hO : Okn N b) (hN : N ≤ 12) (hn : 2 ^ d = n) (hd : 1 ≤ d ∧ d ≤ 4) (ht : Tabs z) (t : Int) {i : Nat} (hi : i < N) : FetchS z (shX g n P u i) t (feT b d P u t i) (feE b d P u t i) := by
  subst hn
  unfold FetchS
  show FetchIs z g (i : Int) ((2 ^ d : Nat) : Int) kB19 (P i) (u i) t _ _
  unfold feT feE
  cases hu : u i with
  | true =>
    rw [if_pos rfl, if_pos rfl]
    exact fetch_yes fun z' hz => sgetN hO hi hN hd rfl (P i) t (h.bk.below hz) (ht.below hz ht.lt)
  | false =>
    rw [if_neg (by decide), if_neg (by decide)]
    exact fetch_no _ _ _ _ _ _ _
section
variable {hl c : Nat}
theorem Lw.load (h : Lw B w0 z g gr N b b' (.slice (some ⟨hl, 0, none⟩) N c) vm vc (shX g n P u) S' F R) (hO : Okn N b) (hN : N ≤ 12) (hn : 2 ^ d = n) (hd : 1 ≤ d ∧ d ≤ 4) (ht : Tabs z) (t : Int) :
    Calls Tryz.prog 17 #[.slice (some ⟨hl, 0, none⟩) N c, .int .i64 t] z fun e w' => Below z.heap.size z w' ∧ ∃ v1 v2 er G, e = .returned (.tuple #[v1, v2, .int .i64 er]) ∧ LdR N (feT b d P u t) (feE b d P u t) er G ∧ (er ≠ 0 → v1 = .slice none 0 0 ∧ v2 = .slice none 0 0) ∧
      (er = 0 → w'.ownsRow z.heap.size 9 1 v1 N (strs N G) ∧ w'.ownsRow z.heap.size 3 1 v2 (misL (fun i => decide (feE b d P u t i = 0)) N).length (nmsL (misL (fun i => decide (feE b d P u t i = 0)) N))) :=
  load_any hl c N t z (by omega) (shX g n P u) (feT b d P u t) (feE b d P u t) (shAt_own h.l (Nat.le_refl _)) (fun i hi => h.fetch hO hN hn hd ht t hi) (fun i hi => feT_size hO hi t)
theorem Lw.one (h : Lw B w0 z g gr N b b' (.slice (some ⟨hl, 0, none⟩) N c) vm vc (shX g n P u) S' F R) (hO : Okn N b) (hN : N ≤ 12) (hn : 2 ^ d = n) (hd : 1 ≤ d ∧ d ≤ 4) (ht : Tabs z) (t ch : Int) :
    Calls Tryz.prog 19 #[.slice (some ⟨hl, 0, none⟩) N c, .int .i64 t, .int .i64 ch] z fun e w' => Below z.heap.size z w' ∧ ∃ s er, e = .returned (.tuple #[.string s, .int .i64 er]) ∧ OnR N (feT b d P u t) (feE b d P u t) ch s er :=
  one_any hl c N t ch z (by omega) (shX g n P u) (feT b d P u t) (feE b d P u t) (shAt_own h.l (Nat.le_refl _)) (fun i hi => h.fetch hO hN hn hd ht t hi) (fun i hi => feT_size hO hi t)
theorem Lw.whole (h : Lw B w0 z g gr N b b' (.slice (some ⟨hl, 0, none⟩) N c) vm vc (shX g n P u) S' F R) (hO : Okn N b) (hN : N ≤ 12) (hn : 2 ^ d = n) (hd : 1 ≤ d ∧ d ≤ 4) (ht : Tabs z) (t : Int) :
    Calls Tryz.prog 21 #[.slice (some ⟨hl, 0, none⟩) N c, .int .i64 t] z fun e w' => Below z.heap.size z w' ∧ e = .returned (.bool (whB N (feT b d P u t) (feE b d P u t))) :=
  whole_any hl c N t z (by omega) (shX g n P u) (feT b d P u t) (feE b d P u t) (shAt_own h.l (Nat.le_refl _)) (fun i hi => h.fetch hO hN hn hd ht t hi) (fun i hi => feT_size hO hi t)
end
end
theorem get_lv {N i d slot : Nat} {b : Bs} {l : Nat → ByteArray} {top : ByteArray} {F : Nat → ByteArray} (hL : Liv N i b l) (hd : d ≤ 4) (hs : slot < 2 ^ d) (hT : InT l d (sl0 top) (fun s => if s = slot then ceC slot F i else noB)) : gtE b i d kB19 top (slot : Int) = 0 ∧ gtT b i d kB19 top (slot : Int) = F i := by
  have he : slE17 ((2 ^ d : Nat) : Int) (slot : Int) = 0 := if_neg (by omega)
  have h := hL.get hd hT hs (opE kB19 (plc i slot)) (opT kB19 (plc i slot))
  rw [if_pos rfl] at h
  have h2 := op_seal kB19 (nonc i) (plc i slot) (F i) (nonc_size i)
  unfold gtE gtT
  rw [if_pos he, if_pos he, Int.toNat_natCast, h.1, h.2]
  exact h2
theorem get_dead {b : Bs} {i d : Nat} {key top : ByteArray} {s : Nat} (hs : s < 2 ^ d) (hp : b.p ≠ some 0) (hD : (b.D i).dead = true) : gtE b i d key top (s : Int) = 20 := by
  have he : slE17 ((2 ^ d : Nat) : Int) (s : Int) = 0 := if_neg (by omega)
  unfold gtE slGE
  have hr : Go.Proofs.YtokknmkleceooaaGreatDoor.eR b.p (b.D i) = 20 := by unfold Go.Proofs.YtokknmkleceooaaGreatDoor.eR errD; rw [if_neg hp, hD, if_pos rfl]
  rw [if_pos he, hr, if_neg (by decide)]
theorem ld_back {n : Nat} {T : Nat → ByteArray} {E : Nat → Int} {er : Int} {G F : Nat → ByteArray} (hn : 4 ≤ n ∧ n ≤ 10) (hE : ∀ i, i < n → E i ≠ 21) (hc : n - 2 ≤ cnt (fun i => decide (E i = 0)) n) (hT : ∀ i, i < n → E i = 0 → T i = mkC (n - 2) F i) (h : LdR n T E er G) : er = 0 ∧ G = fun i => mkC (n - 2) F i := by
  rcases h with ⟨a1, _⟩ | ⟨_, ⟨i, ai, a2⟩, _⟩ | ⟨_, _, a3⟩
  · exact absurd hn a1
  · exact absurd a2 (hE i ai)
  · have hk : ∀ r, r < cnt (fun i => decide (E i = 0)) n → (T (kidx (fun i => decide (E i = 0)) n r)).size = 32 := fun r hr => by
      obtain ⟨b1, b2, b3⟩ := kidx_spec _ hr
      rw [hT _ b1 (by simpa using b2), mkC_size]
    rcases a3 with ⟨b1, _⟩ | ⟨_, b2, _⟩ | ⟨_, _, rfl, D, b3, rfl⟩
    · omega
    · exact absurd (mea_zero.2 ⟨fun c hc' => by show (T _).size = (T _).size; rw [hk c hc', hk 0 (by omega)], by show (T _).size ≤ _; rw [hk 0 (by omega)]; decide⟩) b2
    · refine ⟨rfl, ?_⟩
      rw [hk 0 (by omega)] at b3 ⊢
      funext i
      refine strE_congr fun c hc' => ?_
      have b4 : Fits (n - 2) (fun i => decide (E i = 0)) 32 (fun i => teE (T i)) (fun i => teE (F i)) := fun x hx hu c hc => by
        have hu' : E x = 0 := by
          unfold used at hu
          simp only [Bool.and_eq_true, decide_eq_true_eq] at hu
          exact hu.1
        show _ = teE (T x) c
        rw [hT x (by omega) hu']
        unfold mkC
        rw [teE_strE 32 _ c hc]
      exact fits_all (by omega) (by rw [show n - 2 + 2 = n by omega]; exact hc) b3 b4 i c hc'
end Go.Proofs.YtokknmkleceooaaGreatDoor
