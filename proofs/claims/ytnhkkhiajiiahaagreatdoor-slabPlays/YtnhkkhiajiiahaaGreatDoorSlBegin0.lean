import Derived.Test.YtnhkkhiajiiahaaGreatDoorSlFact
namespace Go.Proofs.YtnhkkhiajiiahaaGreatDoor
open Go.RowKit Go.PlainAid
set_option linter.unusedVariables false
set_option maxRecDepth 20000
def Sm (N:Nat)(b b':Bs):Prop:=b.s=b'.s∧b.p=b'.p∧∀j,j<N→(b.D j).n=(b'.D j).n∧(b.D j).l=(b'.D j).l∧(b.D j).q=(b'.D j).q∧(b.D j).dead=(b'.D j).dead
theorem Sm.w {N i:Nat}(hi:i<N){b b':Bs}(h:Sm N b b')(w:Wr):apE N i b w=apE N i b' w∧Sm N (apW N i b w) (apW N i b' w):=by
 obtain⟨h1,h2,h3⟩:=h
 obtain⟨e1,e2,e3,e4⟩:=h3 i hi
 refine⟨by unfold apE;rw[h2,e4,e1],⟨by show stS _ _ _ _=stS _ _ _ _;rw[h1,h2],by show stP _ _ _=stP _ _ _;rw[h2],fun j hj=>?_⟩⟩
 show((stD N b.p (i:Int) b.D (putD (b.D i) (w.1:Int) w.2)) j).n=((stD N b'.p (i:Int) b'.D (putD (b'.D i) (w.1:Int) w.2)) j).n∧((stD N b.p (i:Int) b.D (putD (b.D i) (w.1:Int) w.2)) j).l=((stD N b'.p (i:Int) b'.D (putD (b'.D i) (w.1:Int) w.2)) j).l∧((stD N b.p (i:Int) b.D (putD (b.D i) (w.1:Int) w.2)) j).q=((stD N b'.p (i:Int) b'.D (putD (b'.D i) (w.1:Int) w.2)) j).q∧((stD N b.p (i:Int) b.D (putD (b.D i) (w.1:Int) w.2)) j).dead=((stD N b'.p (i:Int) b'.D (putD (b'.D i) (w.1:Int) w.2)) j).dead
 unfold stD
 rw[if_neg (out_not N i hi),if_neg (out_not N i hi),h2]
 by_cases hp:b'.p=some 0
 ·rw[if_pos hp,if_pos hp];exact h3 j hj
 rw[if_neg hp,if_neg hp,Int.toNat_natCast]
 by_cases e:j=i
 ·subst e
  rw[updD_same,updD_same]
  exact⟨e1,e2,by show putQ _ _ _ _ _=putQ _ _ _ _ _;rw[e3,e4,e1],e4⟩
 rw[updD_ne _ _ _ _ e,updD_ne _ _ _ _ e];exact h3 j hj
theorem Sm.f {N i:Nat}(hi:i<N){b b':Bs}(h:Sm N b b'):stE N b.p (i:Int) (errD (b.D i).dead)=stE N b'.p (i:Int) (errD (b'.D i).dead)∧Sm N (apF N i b) (apF N i b'):=by
 obtain⟨h1,h2,h3⟩:=h
 obtain⟨e1,e2,e3,e4⟩:=h3 i hi
 refine⟨by rw[h2,e4],⟨by show stS _ _ _ _=stS _ _ _ _;rw[h1,h2],by show stP _ _ _=stP _ _ _;rw[h2],fun j hj=>?_⟩⟩
 show((stD N b.p (i:Int) b.D (flushD (b.D i))) j).n=((stD N b'.p (i:Int) b'.D (flushD (b'.D i))) j).n∧((stD N b.p (i:Int) b.D (flushD (b.D i))) j).l=((stD N b'.p (i:Int) b'.D (flushD (b'.D i))) j).l∧((stD N b.p (i:Int) b.D (flushD (b.D i))) j).q=((stD N b'.p (i:Int) b'.D (flushD (b'.D i))) j).q∧((stD N b.p (i:Int) b.D (flushD (b.D i))) j).dead=((stD N b'.p (i:Int) b'.D (flushD (b'.D i))) j).dead
 unfold stD
 rw[if_neg (out_not N i hi),if_neg (out_not N i hi),h2]
 by_cases hp:b'.p=some 0
 ·rw[if_pos hp,if_pos hp];exact h3 j hj
 rw[if_neg hp,if_neg hp,Int.toNat_natCast]
 by_cases e:j=i
 ·subst e
  rw[updD_same,updD_same]
  exact⟨e1,by show flushL _ _ _=flushL _ _ _;rw[e2,e3,e4],by show flushQ _ _=flushQ _ _;rw[e3,e4],e4⟩
 rw[updD_ne _ _ _ _ e,updD_ne _ _ _ _ e];exact h3 j hj
theorem Sm.r {N i:Nat}(hi:i<N):∀(q:List Wr) {b b':Bs},Sm N b b'→(apR N i b q).1=(apR N i b' q).1∧Sm N (apR N i b q).2 (apR N i b' q).2
 |[],b,b',h=>h.f hi
 |w::r,b,b',h=>by
  obtain⟨h1,h2⟩:=h.w hi w
  by_cases e:apE N i b w=0
  ·rw[apR_ok e,apR_ok (by rw[←h1];exact e)];exact Sm.r hi r h2
  rw[apR_bad e,apR_bad (by rw[←h1];exact e)];exact⟨h1,h2⟩
theorem Few17.sm {N:Nat}{b b':Bs}{m:Nat}(h:Few17 N b m)(hs:Sm N b b'):Few17 N b' m:=⟨by rw[←hs.1];exact h.1,fun j hj=>by rw[←(hs.2.2 j hj).2.2.1];exact h.2 j hj⟩
section
variable {w:World}{P Q R T U V:Asn}{F:Nat→Prop}{B:Nat}{w0:World}
theorem star_pull3 (h:star P (star Q (star R T)) w F):star R (star P (star Q T)) w F:=star_swap (star_monoR h fun F h=>star_swap h)
theorem Hold.rid (h:Hold B w0 w (star P (star Q R))):Hold B w0 w (star P R):=by
 obtain⟨a1,a2,F,⟨G,H,a3,⟨G2,H2,a4,a5,a6,a7⟩,a8,a9⟩,a10⟩:=h
 refine⟨a1,a2,fun k=>G k∨H2 k,⟨G,H2,a3,a5,fun k hg hg2=>a8 k hg ((a7 k).2 (.inr hg2)),fun k=>Iff.rfl⟩,?_⟩
 rintro k (hk|hk)
 ·exact a10 k ((a9 k).2 (.inl hk))
 exact a10 k ((a9 k).2 (.inr ((a7 k).2 (.inr hk))))
end
set_option maxHeartbeats 1000000 in
theorem samew_any {w:World}{q:List Wr}{a a':Option Addr}{c c' b1 b2:Nat}(h1:w.ownsRow b1 104 2 (.slice a q.length c) q.length (pairs q))(h2:w.ownsRow b2 130 2 (.slice a' q.length c') q.length (pairs q))(hm:q.length≤1000):Calls Tryz.prog 27 #[.slice a q.length c,.slice a' q.length c'] w fun e w'=>e=.returned (.bool true)∧Below w.heap.size w w':=by
 have H1:Hid (w.ownsRow b1 104 2 (.slice a q.length c) q.length (pairs q)):=h1
 have H2:Hid (w.ownsRow b2 130 2 (.slice a' q.length c') q.length (pairs q)):=h2
 have HA:Hid (∀z k p,Below w.heap.size w z→q[k]?=some p→(∃g g',a=some ⟨g,0,none⟩∧a'=some ⟨g',0,none⟩∧z.cell? ⟨g,k*2,none⟩=some (.int .i64 (p.1:Int))∧z.cell? ⟨g,k*2+1,none⟩=some (.string p.2)∧z.cell? ⟨g',k*2,none⟩=some (.int .i64 (p.1:Int))∧z.cell? ⟨g',k*2+1,none⟩=some (.string p.2))):=fun z k p hz hp=>by
  obtain⟨g,e,hr⟩:=pairs_range (owns_kept h1 (Kept.ofBelow (F:=fun _=>False) hz) (fun _ _ h=>h)) hp
  obtain⟨g',e',hr'⟩:=pairs_range (owns_kept h2 (Kept.ofBelow (F:=fun _=>False) hz) (fun _ _ h=>h)) hp
  exact⟨g,g',e,e',hr 0 _ rfl,hr 1 _ rfl,hr' 0 _ rfl,hr' 1 _ rfl⟩
 have HQ:Hid (∀k,k<q.length→∃p,q[k]?=some p):=fun k hk=>⟨_,List.getElem?_eq_getElem hk⟩
 generalize q.length=m at*
 clear h1 h2 H1 H2
 go_enter Tryz.func27,Tryz.ntmps27
 go_wp2
 go_loopw[13] (fun j wr=>∃k:Nat,k≤m∧j=.int .i64 (k:Int)∧Hid (Below w.heap.size w wr)) (fun j _=>m-(intOf j).toNat)
 case atStart=>exact⟨0,Nat.zero_le _,rfl,Below.refl _ _⟩
 case round=>
  obtain⟨k,hk,rfl,hh⟩:=hrel
  by_cases hlt:k<m
  ·have hk':(k:Int)<(m:Int):=by omega
   obtain⟨p,hp⟩:=HQ.out k hlt
   obtain⟨g,g',e,e',f0,f1,f2,f3⟩:=HA.out wr k p hh.out hp
   subst e e'
   clear hp
   obtain⟨p1,p2⟩:=p
   simp only at f0 f1 f2 f3
   generalize(p1:Int)=A at*
   go_wp2
   go_quiet(fail)
   go_wp2
   go_roundw
   case rel=>exact⟨k+1,by omega,by go_num,below_drewN hh.out _⟩
   case measure=>simp[intOf];omega
  obtain rfl:k=m:=by omega
  have hk':¬(k:Int)<(k:Int):=by omega
  go_wp2
  go_ret
  exact⟨rfl,hh.out⟩
def btL (g gr:Nat)(i n:Int)(key top:ByteArray):List Value:=[.pointer (some ⟨g,0,none⟩),.int .i64 i,.int .i64 n,.string key,.pointer (some ⟨gr,0,none⟩),.int .i64 i,.int .i64 n,.string key,.string top]
def Bth (B:Nat)(w0 z:World)(gx g gr N:Nat)(b b':Bs)(i n:Int)(key top:ByteArray)(R:Asn):Prop:=Hold B w0 z (star (blkA gx 46 (btL g gr i n key top)) (star (bkA g N b) (star (rkA gr N b') R)))
section
variable {B:Nat}{w0 z z':World}{gx g gr N:Nat}{b b':Bs}{i n:Int}{key top:ByteArray}{R:Asn}
theorem bth_firm (hR:Firm R):Firm (star (blkA gx 46 (btL g gr i n key top)) (star (bkA g N b) (star (rkA gr N b') R))):=(firm_blk _ _ _).star ((firm_bnk _ _ _ _ _).star ((firm_rbk _ _ _ _ _).star hR))
theorem Bth.below (hR:Firm R)(h:Bth B w0 z gx g gr N b b' i n key top R)(hb:Below z.heap.size z z'):Bth B w0 z' gx g gr N b b' i n key top R:=Hold.below h (bth_firm hR) hb
theorem Bth.blk (h:Bth B w0 z gx g gr N b b' i n key top R):Blk z gx 46 (btL g gr i n key top):=Hold.blk h
theorem Bth.bk (h:Bth B w0 z gx g gr N b b' i n key top R):Bk z g N b.D b.s b.p:=Hold.bk (Hold.right h)
theorem Bth.rk (h:Bth B w0 z gx g gr N b b' i n key top R):Rk z gr N b'.D b'.s b'.p:=Hold.rk (Hold.right (Hold.right h))
theorem Bth.low (h:Bth B w0 z gx g gr N b b' i n key top R):Below B w0 z:=Hold.low h
theorem Bth.size (h:Bth B w0 z gx g gr N b b' i n key top R):B≤z.heap.size:=Hold.size h
theorem Bth.a (h:Bth B w0 z gx g gr N b b' i n key top R):z.rangeAt gx 0 [.pointer (some ⟨g,0,none⟩),.int .i64 i,.int .i64 n,.string key]:=fun j v hv=>by
 match j,hv with
 |0,hv=>cases hv;exact h.blk.cell (i:=0) rfl
 |1,hv=>cases hv;exact h.blk.cell (i:=1) rfl
 |2,hv=>cases hv;exact h.blk.cell (i:=2) rfl
 |3,hv=>cases hv;exact h.blk.cell (i:=3) rfl
 |j+4,hv=>simp at hv
theorem Bth.r (h:Bth B w0 z gx g gr N b b' i n key top R):z.rangeAt gx 4 [.pointer (some ⟨gr,0,none⟩),.int .i64 i,.int .i64 n,.string key]:=fun j v hv=>by
 match j,hv with
 |0,hv=>cases hv;exact h.blk.cell (i:=4) rfl
 |1,hv=>cases hv;exact h.blk.cell (i:=5) rfl
 |2,hv=>cases hv;exact h.blk.cell (i:=6) rfl
 |3,hv=>cases hv;exact h.blk.cell (i:=7) rfl
 |j+4,hv=>simp at hv
theorem Bth.setTop (hR:Firm R)(h:Bth B w0 z gx g gr N b b' i n key top R)(t:ByteArray):Bth B w0 (z.setCell ⟨gx,8,none⟩ (.string t)) gx g gr N b b' i n key t R:=
 Hold.setBlk ((firm_bnk _ _ _ _ _).star ((firm_rbk _ _ _ _ _).star hR)) h 8 (.string t)
theorem Bth.apply (hR:Firm R){k:Nat}(hi:i=(k:Int))(hg:GoodIs z (slV (.pointer (some ⟨g,0,none⟩)) i n key) true)(hk:k<N){v:Value}{q:List Wr}{v2:Value}{q2:List Wr}(h:Bth B w0 z gx g gr N b b' i n key top (star (rowK 104 2 v q.length (pairs q)) R)){M:Nat}(hf:Few17 N b M)(hM:M+q.length≤100000):
 Calls Tryz.prog 14 #[slV (.pointer (some ⟨g,0,none⟩)) i n key,v] z fun e w'=>e=.returned (.int .i64 (apR N k b q).1)∧Bth B w0 w' gx g gr N (apR N k b q).2 b' i n key top (star (rowK 104 2 v q.length (pairs q)) R):=by
 subst hi
 have h1:Hold B w0 z (star (bkA g N b) (star (rowK 104 2 v q.length (pairs q)) (star (blkA gx 46 (btL g gr (k:Int) n key top)) (star (rkA gr N b') R)))):=(Hold.swap h).monoR fun F h=>star_pull3 h
 refine(sapply_any ((firm_blk _ _ _).star ((firm_rbk _ _ _ _ _).star hR)) hg h1 hk hf hM).mono ?_
 rintro e w' ⟨rfl,h2⟩
 refine⟨rfl,?_⟩
 exact(h2.monoR fun F h=>star_monoR (star_swap h) fun F h=>star_swap h).swap
theorem Bth.rapply (hR:Firm R){k:Nat}(hi:i=(k:Int))(hg:RGoodIs z (slV (.pointer (some ⟨gr,0,none⟩)) i n key) true)(hk:k<N){v:Value}{q:List Wr}(h:Bth B w0 z gx g gr N b b' i n key top (star (rowK 130 2 v q.length (pairs q)) R)){M:Nat}(hf:Few17 N b' M)(hM:M+q.length≤100000):
 Calls Tryz.prog 28 #[slV (.pointer (some ⟨gr,0,none⟩)) i n key,v] z fun e w'=>e=.returned (.int .i64 (apR N k b' q).1)∧Bth B w0 w' gx g gr N b (apR N k b' q).2 i n key top (star (rowK 130 2 v q.length (pairs q)) R):=by
 subst hi
 have h1:Hold B w0 z (star (rkA gr N b') (star (rowK 130 2 v q.length (pairs q)) (star (blkA gx 46 (btL g gr (k:Int) n key top)) (star (bkA g N b) R)))):=(Hold.pull3 h).monoR fun F h=>star_pull3 h
 refine(rapply_any ((firm_blk _ _ _).star ((firm_bnk _ _ _ _ _).star hR)) hg h1 hk hf hM).mono ?_
 rintro e w' ⟨rfl,h2⟩
 refine⟨rfl,?_⟩
 exact(h2.monoR fun F h=>star_monoR (star_swap h) fun F h=>star_swap h).back3
theorem Bth.swapR {X Y:Asn}(h:Bth B w0 z gx g gr N b b' i n key top (star X (star Y R))):Bth B w0 z gx g gr N b b' i n key top (star Y (star X R)):=Hold.monoR h fun F h=>star_monoR h fun F h=>star_monoR h fun F h=>star_swap h
theorem Bth.cells (h:Bth B w0 z gx g gr N b b' i n key top R):z.cell? ⟨gx,0,none⟩=some (.pointer (some ⟨g,0,none⟩))∧z.cell? ⟨gx,1,none⟩=some (.int .i64 i)∧z.cell? ⟨gx,2,none⟩=some (.int .i64 n)∧z.cell? ⟨gx,3,none⟩=some (.string key)∧z.cell? ⟨gx,4,none⟩=some (.pointer (some ⟨gr,0,none⟩))∧z.cell? ⟨gx,5,none⟩=some (.int .i64 i)∧z.cell? ⟨gx,6,none⟩=some (.int .i64 n)∧z.cell? ⟨gx,7,none⟩=some (.string key):=
 ⟨h.blk.cell (i:=0) rfl,h.blk.cell (i:=1) rfl,h.blk.cell (i:=2) rfl,h.blk.cell (i:=3) rfl,h.blk.cell (i:=4) rfl,h.blk.cell (i:=5) rfl,h.blk.cell (i:=6) rfl,h.blk.cell (i:=7) rfl⟩
theorem Bth.dropR {X:Asn}(h:Bth B w0 z gx g gr N b b' i n key top (star X R)):Bth B w0 z gx g gr N b b' i n key top R:=by
 have h1:=(Hold.pull4 h).right
 exact h1
end
end Go.Proofs.YtnhkkhiajiiahaaGreatDoor
