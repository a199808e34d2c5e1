import Derived.Test.YtokknmkleceooaaGreatDoorStFM
import Derived.Test.YtokknmkleceooaaGreatDoorMatN
namespace Go.Proofs.YtokknmkleceooaaGreatDoor
open Go.RowKit Go.PlainAid
set_option linter.unusedVariables false
set_option maxRecDepth 20000
theorem txt_of_blk {z : World} {gi m : Nat} {f : Nat → ByteArray} {G : Nat → Prop} (h : blkA gi 9 (strs m f) z G) : txt (.slice (some ⟨gi, 0, none⟩) m m) m f z G :=
  ⟨⟨_, _, rfl, Nat.le_refl _, .inr ⟨gi, 0, rfl, h.1.lt, fun i hi => by rw [Nat.zero_add]; exact h.1.cell (strs_at m f i hi)⟩⟩, fun a n c e _ => by cases e; exact (h.2 gi).2 rfl, fun k hk => by rw [(h.2 k).1 hk]; exact h.1.lt⟩
theorem prepN {N : Nat} {b : Bs} {i d n : Nat} {z : World} {g : Nat} {key top : ByteArray} {l C : Nat → ByteArray} (hb : Bk z g N b.D b.s b.p) (ht : Tabs z) (hL : Liv N i b l) (hi : i < N) (hn : 2 ^ d = n) (hd : 1 ≤ d ∧ d ≤ 4) (hk : key.size = 32) (hT : InT l d (sl0 top) C) {a : Option Addr} {c : Nat} {cs : List (Int × ByteArray)} (hcg : Cg z 92 a cs) (hm : cs.length ≤ 100) (hc : Cok n cs) :
    Calls Tryz.prog 37 #[slV (.pointer (some ⟨g, 0, none⟩)) (i : Int) (n : Int) key, .string top, .slice a cs.length c] z fun e w' => ∃ v, e = .returned (.tuple #[v, .string (pS b i d top cs).top, .int .i64 0]) ∧ w'.ownsRow z.heap.size 144 2 v (slW (pS b i d top cs)).length (pairs (slW (pS b i d top cs))) ∧ Below z.heap.size z w' := by
  have h := sprep_any hb ht hi (by rw [hL.n]; exact Nat.le_refl _) hn hd (good_yes hb hi hn hd hk) top hcg (c := c) hm hc.rf
  have h0 := (hL.change hi hd.2 hT (cs := cs) (by rw [hn]; exact hc)).1
  refine h.mono ?_
  rintro e w' ⟨_, h2, h3⟩
  obtain ⟨v, e1, e2⟩ := h2 h0
  exact ⟨v, e1, e2, h3⟩
section
variable {B : Nat} {w0 z z' : World} {g gr N k : Nat} {b b' : Bs} {vl vm vc : Value} {S : Nat → Sh} {F : Nat → ByteArray} {R A : Asn}
theorem Ly.disk (h : Ly B w0 z g gr N b b' vl vm vc k S F R) {i : Nat} (hi : i < N) : Calls Tryz.prog 24 #[.pointer (some ⟨g, 0, none⟩), .int .i64 (i : Int)] z fun e w' => e = .returned (.pointer (some ⟨(b.D i).g, 0, none⟩)) ∧ w' = z := bdisk_in h i hi
theorem Ly.image (hR : Firm R) (h : Ly B w0 z g gr N b b' vl vm vc k S F R) {i : Nat} (hi : i < N) {l : Nat → ByteArray} (hL : Liv N i b l) :
    Calls Tryz.prog 39 #[.pointer (some ⟨(b.D i).g, 0, none⟩)] z fun e w' => ∃ gi, e = .returned (.slice (some ⟨gi, 0, none⟩) 140 140) ∧ Ly B w0 w' g gr N b b' vl vm vc k S F (star (blkA gi 9 (strs 140 l)) R) ∧ Below z.heap.size z w' := by
  obtain ⟨G, hG⟩ := (Hold.openD h i hi).dsk
  rw [hL.dead, hL.n, hL.q, hL.ll] at hG
  refine (image_any hG).mono ?_
  rintro e w' ⟨rfl, h1, h2⟩
  exact ⟨_, rfl, Ly.push (Hold.new (ly_firm hR) h h2 (G := fun k => k = z.heap.size) ⟨h1, fun k => Iff.rfl⟩ (fun k hk => by rw [hk]; exact Nat.le_refl _)), h2⟩
theorem rbkX_near {G : Nat → Prop} {D : Nat → Dk} {s : Nat} {p : Option Nat} {i gd cap : Nat} (h : rbkX gr N D s p i z G) (hc : z.cell? ⟨gr, 0, none⟩ = some (.slice (some ⟨gd, 0, none⟩) N cap)) : G gr ∧ G gd := by
  obtain ⟨_, gd', cap', J1, J2, j1, ⟨J3, J4, j3, _, _, j5⟩, _, j6⟩ := h
  have h0 := j1.1.cell (i := 0) rfl
  rw [hc] at h0
  cases h0
  exact ⟨(j6 _).2 (.inl ((j1.2 _).2 rfl)), (j6 _).2 (.inr ((j5 _).2 (.inl ((j3.2 _).2 rfl))))⟩
theorem Ly.restore (hR : Firm R) {gi i : Nat} {l : Nat → ByteArray} (h : Ly B w0 z g gr N b b' vl vm vc k S F (star (blkA gi 9 (strs 140 l)) R)) (hi : i < N) (hn : (b'.D i).n = 140) (hd : (b'.D i).dead = false) (hl : ∀ a, a < 140 → (l a).size ≤ 2048)
    {gd cap : Nat} {u : Value} (c0 : z.cell? ⟨gr, 0, none⟩ = some (.slice (some ⟨gd, 0, none⟩) N cap)) (c1 : z.cell? ⟨gd, i, none⟩ = some u) :
    Calls Tryz.prog 38 #[.pointer (some ⟨(b'.D i).g, 0, none⟩), .slice (some ⟨gi, 0, none⟩) 140 140] z fun e w' => e = .returned (.tuple #[]) ∧ Ly B w0 w' g gr N b ⟨updD b'.D i ⟨(b'.D i).g, 140, l, [], false⟩, b'.s, b'.p⟩ vl vm vc k S F R ∧ (w'.cell? ⟨gr, 0, none⟩ = some (.slice (some ⟨gd, 0, none⟩) N cap) ∧ w'.cell? ⟨gd, i, none⟩ = some u) := by
  have h1 := Hold.openR (Hold.pull4 (Ly.pop h)) i hi
  have h2 := (h1.monoR fun F h => star_swap h).monoR fun F h => star_monoL h fun F h => txt_of_blk h
  have hF : Firm (star (txt (.slice (some ⟨gi, 0, none⟩) 140 140) 140 l) (star (rbkX gr N b'.D b'.s b'.p i) (star (bkA g N b) (star R (star (rowK 47 6 vl k (shL S k)) (star (rowK 54 6 vm k (shL (fun i => (S i).at gr) k)) (rowK 9 1 vc N (strs N F)))))))) := (firm_txt _ _ _).star ((firm_rbkX _).star ((firm_bnk _ _ _ _ _).star (hR.star ((firm_rowK _ _ _ _ _).star ((firm_rowK _ _ _ _ _).star (firm_rowK _ _ _ _ _))))))
  obtain ⟨g1, g2, F0, ⟨G, H, h3, h4, h5, h6⟩, h7⟩ := h2
  have hX : H gr ∧ H gd := by
    obtain ⟨I, J, _, i2, _, i4⟩ := id h4
    obtain ⟨I2, J2, k1, _, _, k4⟩ := i2
    obtain ⟨a1, a2⟩ := rbkX_near k1 c0
    exact ⟨(i4 _).2 (.inr ((k4 _).2 (.inl a1))), (i4 _).2 (.inr ((k4 _).2 (.inl a2)))⟩
  have hv : TextsAt z (.slice (some ⟨gi, 0, none⟩) 140 140) 140 l ∧ ∀ k, k = gi → H k := by
    obtain ⟨I, J, i1, _, _, i4⟩ := id h4
    exact ⟨i1.1, fun k hk => (i4 k).2 (.inl (by rw [hk]; exact i1.2.1 ⟨gi, 0, none⟩ 140 140 rfl (by decide)))⟩
  have h3' : RefAt z G (b'.D i).g (b'.D i).n (b'.D i).l (b'.D i).q (b'.D i).dead := h3
  refine (refRestore_any h3' _ 140 l hv.1 (by decide) (fun a n c e e0 hg => by cases e; exact h5 _ hg (hv.2 _ rfl))).mono ?_
  rintro e w' ⟨rfl, hT⟩
  have hK : Kept G z w' := by
    obtain ⟨F', _, hK, _⟩ := id hT
    exact hK
  have h8 : Hold B w0 w' (star (rdk ⟨(b'.D i).g, 140, l, [], false⟩) _) := Hold.turned hF g1 g2 h4 h5 (fun k hk => h7 k ((h6 k).2 hk)) (hT.mono fun F' h' => by
    rw [hn, hd] at h'
    refine RefAt.congr h' fun a ha => ?_
    show restL 140 l a = l a
    unfold restL
    rw [if_pos ⟨ha, hl a ha⟩])
  have h9 := Hold.shutR i hi ⟨(b'.D i).g, 140, l, [], false⟩ rfl (Hold.rid h8)
  refine ⟨rfl, (Hold.back3 h9 : Hold B w0 w' _), ?_, ?_⟩
  · rw [hK.cell (p := ⟨gr, 0, none⟩) (mcell_lt c0) (fun hg => h5 _ hg hX.1)]; exact c0
  · rw [hK.cell (p := ⟨gd, i, none⟩) (mcell_lt c1) (fun hg => h5 _ hg hX.2)]; exact c1
theorem Ly.rAt (h : Ly B w0 z g gr N b b' vl vm vc k S F R) {i : Nat} (hi : i < N) : ∃ gd cap, z.cell? ⟨gr, 0, none⟩ = some (.slice (some ⟨gd, 0, none⟩) N cap) ∧ z.cell? ⟨gd, i, none⟩ = some (.pointer (some ⟨(b'.D i).g, 0, none⟩)) := Hold.rbkAt (Hold.pull3 h) i hi
theorem newB_in {N : Nat} (h : 1 ≤ N ∧ N ≤ 12) : newB (N : Int) = N := by
  unfold newB
  rw [if_neg (by omega), if_neg (by omega), Int.toNat_natCast]
theorem star_nought {P : Asn} {w : World} {F : Nat → Prop} (h : P w F) : star nought P w F := ⟨fun _ => False, F, fun _ h => h, h, fun _ h => h.elim, fun k => ⟨.inr, fun h => h.elim (fun h => h.elim) id⟩⟩
theorem Ly.start {D D' : Nat → Dk} (h : Hold B w0 z (star (rbk gr N D' 0 none) (star (bnk g N D 0 none) (rowK 9 1 vc N (strs N F))))) : Ly B w0 z g gr N ⟨D, 0, none⟩ ⟨D', 0, none⟩ (.slice none 0 0) (.slice none 0 0) vc 0 S F nought :=
  h.swap.monoR fun G h => star_nought (star_monoR h fun G h => star_nil17 (star_nil17 h))
theorem Ly.congr {S' : Nat → Sh} (h : Ly B w0 z g gr N b b' vl vm vc k S F R) (e : ∀ i, i < k → S i = S' i) : Ly B w0 z g gr N b b' vl vm vc k S' F R := by
  unfold Ly lyX at h
  rw [shL_congr e, shL_congr (S := fun i => (S i).at gr) (S' := fun i => (S' i).at gr) fun i hi => by rw [e i hi]] at h
  exact h
theorem Ly.chunk {k' cc : Nat} (h : Ly B w0 z g gr N b b' vl vm (.slice (some ⟨k', 0, none⟩) N cc) k S F R) {i : Nat} (hi : i < N) : z.cell? ⟨k', i, none⟩ = some (.string (F i)) := by
  have := h.c.cellAt i (by omega)
  rw [this]; exact strs_at N F i hi
theorem Ly.dropAll (h : Ly B w0 z g gr N b b' vl vm vc k S F (star A (star R nought))) : Ly B w0 z g gr N b b' vl vm vc k S F nought := h.drop.drop
def LyH (B : Nat) (w0 z : World) (g gr N : Nat) (b b' : Bs) (vl vm vc : Value) (k : Nat) (S : Nat → Sh) (F : Nat → ByteArray) (R : Asn) : Prop := Hold B w0 z (star (rowK 47 6 vl (k + 1) (shL S (k + 1))) (star (bkA g N b) (star R (star (rkA gr N b') (star (rowK 54 6 vm k (shL (fun i => (S i).at gr) k)) (rowK 9 1 vc N (strs N F)))))))
theorem Ly.part (h : Ly B w0 z g gr N b b' vl vm vc k S F R) : Hold B w0 z R := (Hold.right h).left
theorem LyH.part (h : LyH B w0 z g gr N b b' vl vm vc k S F R) : Hold B w0 z R := (Hold.right (Hold.right h)).left
theorem LyH.newBlk (h : LyH B w0 z g gr N b b' vl vm vc k S F R) (hR : Firm R) (T : TypeId) (L : List Value) : LyH B w0 (z.alloc (.cells L.toArray T)) g gr N b b' vl vm vc k S F (star (blkA z.heap.size T L) R) := by
  have h1 := Hold.newBlk ((firm_rowK _ _ _ _ _).star ((firm_bnk _ _ _ _ _).star (hR.star ((firm_rbk _ _ _ _ _).star ((firm_rowK _ _ _ _ _).star (firm_rowK _ _ _ _ _)))))) h T L.toArray
  rw [List.toList_toArray] at h1
  exact (Hold.back3 h1).monoR fun F h => star_monoR h fun F h => star_unassoc h
end
theorem two_blks {B : Nat} {w0 z : World} {ga gb : Nat} {T T' : TypeId} {p q : Value} {i n i' n' : Int} {k k' : ByteArray} (h : Hold B w0 z (star (blkA gb T' [q, .int .i64 i', .int .i64 n', .string k']) (star (blkA ga T [p, .int .i64 i, .int .i64 n, .string k]) nought))) :
    (z.cell? ⟨ga, 0, none⟩ = some p ∧ z.cell? ⟨ga, 1, none⟩ = some (.int .i64 i) ∧ z.cell? ⟨ga, 2, none⟩ = some (.int .i64 n) ∧ z.cell? ⟨ga, 3, none⟩ = some (.string k)) ∧ (z.cell? ⟨gb, 0, none⟩ = some q ∧ z.cell? ⟨gb, 1, none⟩ = some (.int .i64 i') ∧ z.cell? ⟨gb, 2, none⟩ = some (.int .i64 n') ∧ z.cell? ⟨gb, 3, none⟩ = some (.string k')) := by
  have h1 := h.blk
  have h2 := (Hold.right h).blk
  exact ⟨⟨h2.cell (i := 0) rfl, h2.cell (i := 1) rfl, h2.cell (i := 2) rfl, h2.cell (i := 3) rfl⟩, ⟨h1.cell (i := 0) rfl, h1.cell (i := 1) rfl, h1.cell (i := 2) rfl, h1.cell (i := 3) rfl⟩⟩
end Go.Proofs.YtokknmkleceooaaGreatDoor
