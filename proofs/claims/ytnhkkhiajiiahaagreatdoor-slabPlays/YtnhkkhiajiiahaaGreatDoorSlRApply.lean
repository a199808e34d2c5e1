import Derived.Test.YtnhkkhiajiiahaaGreatDoorSlRGood
namespace Go.Proofs.YtnhkkhiajiiahaaGreatDoor
open Go.RowKit Go.PlainAid
set_option linter.unusedVariables false
set_option maxRecDepth 20000
set_option maxHeartbeats 1000000 in
theorem rapply_form {w:World}{pv:Value}{i n:Int}{key:ByteArray}(hg:RGoodIs w (slV pv i n key) false)(v:Value):Calls Tryz.prog 28 #[slV pv i n key,v] w fun e w'=>e=.returned (.int .i64 4)∧Below w.heap.size w w':=by
 have hb:Hid (Below w.heap.size w (w.alloc (.cells #[pv,.int .i64 i,.int .i64 n,.string key] 44))):=(Below.refl _ _).alloc (Nat.le_refl _) _
 have hB:Hid (Blk _ _ _ _):=Blk.box w 44 [pv,.int .i64 i,.int .i64 n,.string key]
 have hc:Hid (Calls _ _ _ _ _):=hg _ hb.out
 have hz:Hid ((Tryz.prog.info? 44).map (·.size)=some 4):=Tryz.size44
 go_enter Tryz.func28,Tryz.ntmps28
 go_wp2_with(first
  |(refine wpList_load_blk rfl 44 _ rfl w.heap.size rfl 44 [pv,.int .i64 i,.int .i64 n,.string key] _ hB.out Tryz.underlying44 rfl hz.out ?_)
  |(go_at_call 63;refine hc.out.mono ?_;rintro e w1 ⟨rfl,hw⟩;have L1:Hid (Below w.heap.size w w1):=hb.out.trans (hw.mono hb.out.size);clear hw))
 go_ret
 exact⟨rfl,L1.out⟩
def Ry (B:Nat)(w0 w:World)(g N gb:Nat)(b:Bs)(sb:List Value)(v:Value)(m:Nat)(q:List Wr)(R:Asn):Prop:=Hold B w0 w (star (rkA g N b) (star (blkA gb 44 sb) (star (rowK 130 2 v m (pairs q)) R)))
section
variable {B:Nat}{w0 w w':World}{g N gb:Nat}{b:Bs}{sb:List Value}{v:Value}{m:Nat}{q:List Wr}{R:Asn}
theorem ry_firm (hR:Firm R):Firm (star (blkA gb 44 sb) (star (rowK 130 2 v m (pairs q)) R)):=(firm_blk _ _ _).star ((firm_rowK _ _ _ _ _).star hR)
theorem Ry.below (hR:Firm R)(h:Ry B w0 w g N gb b sb v m q R)(hb:Below w.heap.size w w'):Ry B w0 w' g N gb b sb v m q R:=Hold.below h ((firm_rbk _ _ _ _ _).star (ry_firm hR)) hb
theorem Ry.box (h:Ry B w0 w g N gb b sb v m q R):Blk w gb 44 sb:=(Hold.right h).blk
theorem Ry.row (h:Ry B w0 w g N gb b sb v m q R):w.ownsRow 0 130 2 v m (pairs q):=(Hold.right (Hold.right h)).rowK
theorem Ry.back (h:Ry B w0 w g N gb b sb v m q R):Hold B w0 w (star (rkA g N b) (star (rowK 130 2 v m (pairs q)) R)):=by
 have h1:=Hold.monoR h fun F h=>star_comm h
 obtain⟨a1,a2,F,⟨G,H,a3,⟨G2,H2,a4,a5,a6,a7⟩,a8,a9⟩,a10⟩:=h1
 refine⟨a1,a2,fun k=>G k∨G2 k,⟨G,G2,a3,a4,fun k hg hg2=>a8 k hg ((a7 k).2 (.inl hg2)),fun k=>Iff.rfl⟩,?_⟩
 rintro k (hk|hk)
 ·exact a10 k ((a9 k).2 (.inl hk))
 exact a10 k ((a9 k).2 (.inr ((a7 k).2 (.inl hk))))
theorem Ry.write (hR:Firm R)(h:Ry B w0 w g N gb b sb v m q R){i:Nat}(hs:b.s≤1000000000)(hq:∀j,j<N→(b.D j).q.length≤1000000)(p:Wr):Calls Tryz.prog 66 #[.pointer (some ⟨g,0,none⟩),.int .i64 (i:Int),.int .i64 (p.1:Int),.string p.2] w fun e w'=>e=.returned (.int .i64 (apE N i b p))∧Ry B w0 w' g N gb (apW N i b p) sb v m q R:=by
 have h1:=rwrite_any (ry_firm hR) h hs hq (i:Int) (p.1:Int) p.2
 rw[Int.toNat_natCast]at h1
 exact h1
theorem Ry.flush (hR:Firm R)(h:Ry B w0 w g N gb b sb v m q R){i:Nat}(hs:b.s≤1000000000)(hq:∀j,j<N→(b.D j).q.length≤1000000):Calls Tryz.prog 67 #[.pointer (some ⟨g,0,none⟩),.int .i64 (i:Int)] w fun e w'=>e=.returned (.int .i64 (stE N b.p (i:Int) (errD (b.D i).dead)))∧Ry B w0 w' g N gb (apF N i b) sb v m q R:=by
 have h1:=rflush_any (ry_firm hR) h hs hq (i:Int)
 rw[Int.toNat_natCast]at h1
 exact h1
theorem Ry.start (hR:Firm R)(h:Hold B w0 w (star (rkA g N b) (star (rowK 130 2 v m (pairs q)) R)))(sb:List Value):Ry B w0 (w.alloc (.cells sb.toArray 44)) g N w.heap.size b sb v m q R:=by
 have:=(h.newBlk ((firm_rbk _ _ _ _ _).star ((firm_rowK _ _ _ _ _).star hR)) 44 sb.toArray).swap
 rwa[List.toList_toArray]at this
end
set_option maxHeartbeats 2000000 in
theorem rapply_any {B:Nat}{w0 w:World}{R:Asn}(hR:Firm R){g N i:Nat}{n:Int}{key:ByteArray}(hg:RGoodIs w (slV (.pointer (some ⟨g,0,none⟩)) (i:Int) n key) true){b:Bs}{v:Value}{q:List Wr}(h:Hold B w0 w (star (rkA g N b) (star (rowK 130 2 v q.length (pairs q)) R)))(hi:i<N){M:Nat}(hf:Few17 N b M)(hM:M+q.length≤100000):
 Calls Tryz.prog 28 #[slV (.pointer (some ⟨g,0,none⟩)) (i:Int) n key,v] w fun e w'=>e=.returned (.int .i64 (apR N i b q).1)∧Hold B w0 w' (star (rkA g N (apR N i b q).2) (star (rowK 130 2 v q.length (pairs q)) R)):=by
 have hb:Hid (Below w.heap.size w (w.alloc (.cells #[.pointer (some ⟨g,0,none⟩),.int .i64 (i:Int),.int .i64 n,.string key] 44))):=(Below.refl _ _).alloc (Nat.le_refl _) _
 have hB:Hid (Blk _ _ _ _):=Blk.box w 44 [.pointer (some ⟨g,0,none⟩),.int .i64 (i:Int),.int .i64 n,.string key]
 have hc:Hid (Calls _ _ _ _ _):=hg _ hb.out
 have hz:Hid ((Tryz.prog.info? 44).map (·.size)=some 4):=Tryz.size44
 have H0:Hid (Ry B w0 _ g N w.heap.size b [.pointer (some ⟨g,0,none⟩),.int .i64 (i:Int),.int .i64 n,.string key] v q.length q R):=Ry.start hR h _
 obtain⟨a,c,rfl⟩:=owns_form h.right.rowK
 have HF:Hid (Few17 N b M):=hf
 have HR:Hid (Firm R):=hR
 obtain⟨X,hX⟩:∃X,apR N i b q=X:=⟨_,rfl⟩
 rw[hX]
 have HAP:Hid (apR N i b q=X):=hX
 have Hq:Hid (∀k p,q[k]?=some p→q.drop k=p::q.drop (k+1)):=fun k p hk=>by
  obtain⟨h1,h2⟩:=List.getElem?_eq_some_iff.1 hk
  rw[List.drop_eq_getElem_cons h1,h2]
 generalize hql:q.length=m at*
 have HQL:Hid (q.length=m):=hql
 clear hX h hg hf hql
 go_enter Tryz.func28,Tryz.ntmps28
 go_wp2_with(first
  |(refine wpList_load_blk rfl 44 _ rfl w.heap.size rfl 44 [.pointer (some ⟨g,0,none⟩),.int .i64 (i:Int),.int .i64 n,.string key] _ hB.out Tryz.underlying44 rfl hz.out ?_)
  |(go_at_call 63;refine hc.out.mono ?_;rintro e w1 ⟨rfl,hw⟩;have H1:Hid (Ry B w0 w1 g N w.heap.size b [.pointer (some ⟨g,0,none⟩),.int .i64 (i:Int),.int .i64 n,.string key] (.slice a m c) m q R):=H0.out.below HR.out hw;clear hw H0))
 go_loopw[6] (fun j wr=>∃(k:Nat) (b':Bs),k≤m∧j=.int .i64 (k:Int)∧Hid (Few17 N b' (M+k))∧Hid (apR N i b' (q.drop k)=X)∧Hid (Ry B w0 wr g N w.heap.size b' [.pointer (some ⟨g,0,none⟩),.int .i64 (i:Int),.int .i64 n,.string key] (.slice a m c) m q R)) (fun j _=>m-(intOf j).toNat)
 case atStart=>exact⟨0,b,Nat.zero_le _,rfl,HF.out,HAP.out,H1.out⟩
 case round=>
  clear H1 HF HAP hc hB
  obtain⟨k,b',hk,rfl,hf',hap,hh⟩:=hrel
  by_cases hlt:k<m
  ·have hk':(k:Int)<(m:Int):=by omega
   obtain⟨p,hp⟩:∃p,q[k]?=some p:=⟨_,List.getElem?_eq_getElem (by have:=HQL.out;omega)⟩
   have HAT:Hid (∀z b2,Ry B w0 z g N w.heap.size b2 [.pointer (some ⟨g,0,none⟩),.int .i64 (i:Int),.int .i64 n,.string key] (.slice a m c) m q R→∃gq,a=some ⟨gq,0,none⟩∧z.cell? ⟨gq,k*2,none⟩=some (.int .i64 (p.1:Int))∧z.cell? ⟨gq,k*2+1,none⟩=some (.string p.2)∧z.cell? ⟨w.heap.size,0,none⟩=some (.pointer (some ⟨g,0,none⟩))∧z.cell? ⟨w.heap.size,1,none⟩=some (.int .i64 (i:Int))):=fun z b2 hz=>by
    obtain⟨gq,e,hr⟩:=pairs_range hz.row hp
    exact⟨gq,e,hr 0 _ rfl,hr 1 _ rfl,hz.box.cell (i:=0) rfl,hz.box.cell (i:=1) rfl⟩
   have hh1:Hid (Ry B w0 wr.drew g N w.heap.size b' [.pointer (some ⟨g,0,none⟩),.int .i64 (i:Int),.int .i64 n,.string key] (.slice a m c) m q R):=hh.out.below HR.out (Below.refl _ _).drew
   have hwr:=hh1.out.write HR.out (i:=i) (by have:=hf'.out.1;omega) (fun j hj=>by have:=hf'.out.2 j hj;omega) p
   obtain⟨gq,hgq,f0,f1,f2,f3⟩:=HAT.out _ _ hh1.out
   subst hgq
   have HAU:Hid (∀z b2,Ry B w0 z g N w.heap.size b2 [.pointer (some ⟨g,0,none⟩),.int .i64 (i:Int),.int .i64 n,.string key] (.slice (some ⟨gq,0,none⟩) m c) m q R→z.cell? ⟨gq,k*2,none⟩=some (.int .i64 (p.1:Int))∧z.cell? ⟨gq,k*2+1,none⟩=some (.string p.2)∧z.cell? ⟨w.heap.size,0,none⟩=some (.pointer (some ⟨g,0,none⟩))∧z.cell? ⟨w.heap.size,1,none⟩=some (.int .i64 (i:Int))):=fun z b2 hz=>by
    obtain⟨g',e,h⟩:=HAT.out z b2 hz
    cases e;exact h
   have hfn:Hid (Few17 N (apW N i b' p) (M+(k+1))):=few_w hi hf'.out p
   have hcons:=Hq.out k p hp
   have hs0:Hid (_∧_∧_∧_):=HAU.out _ _ hh1.out
   clear HAT
   by_cases hE:apE N i b' p=0
   ·have hap2:Hid (apR N i (apW N i b' p) (q.drop (k+1))=X):=by show _=_;rw[←hap.out,hcons,apR_ok hE]
    rw[hE]at hwr
    clear hap hh hcons hE
    go_wp2
    refine wp_region_noPanic ?_
    refine wp_region_held_drew (S:=fun z:World=>z.cell? ⟨gq,k*2,none⟩=some (.int .i64 (p.1:Int))∧z.cell? ⟨gq,k*2+1,none⟩=some (.string p.2)∧z.cell? ⟨w.heap.size,0,none⟩=some (.pointer (some ⟨g,0,none⟩))∧z.cell? ⟨w.heap.size,1,none⟩=some (.int .i64 (i:Int))) (by kernel_rfl) hs0.out (fun hHeld=>?_)
    refine tkH 0 ?_;go_simp
    refine tkH 1 ?_;go_simp
    refine tkH 2 ?_;go_simp
    refine tkH 3 ?_;go_simp
    refine tkH 4 ?_;go_simp
    refine tkH 5 ?_;go_simp
    refine tkH 6 ?_;go_simp
    refine tkH 7 ?_;go_simp
    refine tkH 8 ?_;go_simp
    refine tkH 9 ?_;go_simp
    refine tkH 10 ?_;go_simp
    refine tkH 11 ?_;go_simp
    refine tkH 12 ?_;go_simp
    refine tkH 13 ?_;go_simp
    refine rdH 14 fun K hK=>?_
    go_simp
    go_at_call 66
    refine hwr.mono ?_
    rintro e w3 ⟨rfl,h3⟩
    have H3:Hid (Ry B w0 w3 g N w.heap.size (apW N i b' p) [.pointer (some ⟨g,0,none⟩),.int .i64 (i:Int),.int .i64 n,.string key] (.slice (some ⟨gq,0,none⟩) m c) m q R):=h3
    clear h3 hwr hh1
    refine hK.out _ _ (HAU.out _ _ H3.out) (fun hHeld=>?_)
    clear hK K
    refine tkH 15 ?_;go_simp
    refine wpAnyH_done (by kernel_rfl) ?_ _
    refine NoPanic.normal ?_
    go_wp2
    go_roundw
    case rel=>exact⟨k+1,_,by omega,by go_num,hfn.out,hap2.out,H3.out⟩
    case measure=>simp[intOf];omega
   have hX:Hid (X=(apE N i b' p,apW N i b' p)):=by show _=_;rw[←hap.out,hcons,apR_bad hE]
   generalize apE N i b' p=E at*
   have hE':(E !=0)=true:=by simpa using hE
   clear hap hh hcons
   go_wp2
   refine wp_region_noPanic ?_
   refine wp_region_held_drew (S:=fun z:World=>z.cell? ⟨gq,k*2,none⟩=some (.int .i64 (p.1:Int))∧z.cell? ⟨gq,k*2+1,none⟩=some (.string p.2)∧z.cell? ⟨w.heap.size,0,none⟩=some (.pointer (some ⟨g,0,none⟩))∧z.cell? ⟨w.heap.size,1,none⟩=some (.int .i64 (i:Int))) (by kernel_rfl) hs0.out (fun hHeld=>?_)
   refine tkH 0 ?_;go_simp
   refine tkH 1 ?_;go_simp
   refine tkH 2 ?_;go_simp
   refine tkH 3 ?_;go_simp
   refine tkH 4 ?_;go_simp
   refine tkH 5 ?_;go_simp
   refine tkH 6 ?_;go_simp
   refine tkH 7 ?_;go_simp
   refine tkH 8 ?_;go_simp
   refine tkH 9 ?_;go_simp
   refine tkH 10 ?_;go_simp
   refine tkH 11 ?_;go_simp
   refine tkH 12 ?_;go_simp
   refine tkH 13 ?_;go_simp
   refine rdH 14 fun K hK=>?_
   go_simp
   go_at_call 66
   refine hwr.mono ?_
   rintro e w3 ⟨rfl,h3⟩
   have H3:Hid (Ry B w0 w3 g N w.heap.size (apW N i b' p) [.pointer (some ⟨g,0,none⟩),.int .i64 (i:Int),.int .i64 n,.string key] (.slice (some ⟨gq,0,none⟩) m c) m q R):=h3
   clear h3 hwr hh1
   refine hK.out _ _ (HAU.out _ _ H3.out) (fun hHeld=>?_)
   clear hK K
   refine tkH 15 ?_;go_simp
   refine wpAnyH_done (by kernel_rfl) ?_ _
   refine NoPanic.normal ?_
   go_wp2
   go_ret
   exact⟨by rw[hX.out];rfl,by rw[hX.out];exact H3.out.back⟩
  obtain rfl:k=m:=by omega
  have hk':¬(k:Int)<(k:Int):=by omega
  have hX:Hid (X=(stE N b'.p (i:Int) (errD (b'.D i).dead),apF N i b')):=by
   show _=_
   rw[←hap.out,List.drop_eq_nil_of_le (by have:=HQL.out;omega)];rfl
  have hfl:=hh.out.flush HR.out (i:=i) (by have:=hf'.out.1;omega) (fun j hj=>by have:=hf'.out.2 j hj;omega)
  have c0:=hh.out.box.cell (i:=0) rfl
  have c1:=hh.out.box.cell (i:=1) rfl
  generalize stE N b'.p (i:Int) (errD (b'.D i).dead)=E at*
  clear hap hh
  go_wp2_with(go_at_call 67;refine hfl.mono ?_;rintro e w3 ⟨rfl,h3⟩;have H3:Hid (Ry B w0 w3 g N w.heap.size (apF N i b') [.pointer (some ⟨g,0,none⟩),.int .i64 (i:Int),.int .i64 n,.string key] (.slice a k c) k q R):=h3;clear h3 hfl)
  go_ret
  exact⟨by rw[hX.out];rfl,by rw[hX.out];exact H3.out.back⟩
end Go.Proofs.YtnhkkhiajiiahaaGreatDoor
