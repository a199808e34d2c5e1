import Derived.Test.YtokknmkleceooaaGreatDoorStWakes
namespace Go.Proofs.YtokknmkleceooaaGreatDoor
set_option linter.unusedVariables false
set_option maxRecDepth 20000
set_option maxHeartbeats 8000000
open Go.Proofs.Tryz
open Go.RowKit Go.PlainAid
def rbkF (g N:Nat)(D:Nat->Dk)(s:Nat)(p:Option Nat)(i gd cap:Nat):Asn:=λw F=>Fit N p/\star (blkA g 98 [.slice (some ⟨gd,0,none⟩) N cap,.int .i64 (s:Int),.int .i64 (pr p)]) (star (rowA 95 (.slice (some ⟨gd,0,none⟩) N cap) N (ptrs N D)) (each (λj=>j<N/\j≠i) λi=>rdk (D i))) w F
theorem c0k (g N:Nat)(D:Nat->Dk)(s:Nat)(p:Option Nat)(i gd cap:Nat):Firm (rbkF g N D s p i gd cap):=
 ⟨λ⟨hN,h⟩ hk hd=>⟨hN,((a0e _ _ _).star ((a3x _ _ _ _).star (a1c λ_=>a3m _))).kept h hk hd⟩,λ⟨hN,h⟩=>((a0e _ _ _).star ((a3x _ _ _ _).star (a1c λ_=>a3m _))).bound h⟩
theorem e2k {B:Nat}{w0 w:World}{g N:Nat}{D:Nat->Dk}{s:Nat}{p:Option Nat}{R:Asn}(h:Hold B w0 w (star (rbk g N D s p) R))(i:Nat)(hi:i<N):∃gd cap,Hold B w0 w (star (rdk (D i)) (star (rbkF g N D s p i gd cap) R)):=by
 obtain⟨x1,x2,F,⟨G,H,⟨hN,gd,cap,h3⟩,h4⟩,h7⟩:=h;have h1:=a0n h3 (λF h=>a0n h (λF h=>b4a (S:=λj=>j<N) (P:=λi=>rdk (D i)) i hi h));obtain⟨G1,H1,g1,g2,g3⟩:=a0q (a0n h1 (λF h=>a0q h));have h5:Hold B w0 w (star (star (rdk (D i)) (rbkF g N D s p i gd cap)) R):=⟨x1,x2,F,⟨G,H,⟨G1,H1,g1,⟨hN,g2⟩,g3⟩,h4⟩,h7⟩;exact⟨gd,cap,h5.assoc⟩
theorem d5p {B:Nat}{w0 w:World}{g N:Nat}{D:Nat->Dk}{s:Nat}{p:Option Nat}{P R:Asn}{i gd cap:Nat}(h:Hold B w0 w (star P (star (rbkF g N D s p i gd cap) R)))(j:Nat)(hj:j<N):w.cell? ⟨g,0,none⟩=some (.slice (some ⟨gd,0,none⟩) N cap)/\w.cell? ⟨gd,j,none⟩=some (.pointer (some ⟨(D j).g,0,none⟩)):=by
 obtain⟨x1,x2,F,⟨G,H,⟨hN,h3⟩,h4⟩,h7⟩:=h.right;obtain⟨G0,k0,_⟩:=a8x h3;obtain⟨G1,k1,_⟩:=b0p h3;obtain⟨G2,k2,_⟩:=a8x k1;exact⟨k0.1.cell (i:=0) rfl,by rw[World.ownsRow.cellAt k2.1 j (by omega),c3d N _ j hj]⟩
theorem e2c {B:Nat}{w0 w:World}{g N:Nat}{D:Nat->Dk}{s:Nat}{p:Option Nat}{R:Asn}{i gd cap:Nat}(hi:i<N)(d:Dk)(hg:d.g=(D i).g)(h:Hold B w0 w (star (rdk d) (star (rbkF g N D s p i gd cap) R))):Hold B w0 w (star (rbk g N (updD D i d) s p) R):=
 Hold.shutR i hi d hg (h.monoR λF h=>a2s h λF h=>⟨h.1,gd,cap,h.2⟩)
def taB (b:Bs)(i:Nat)(at_:Int)(s:BA):Bs:=⟨updD b.D i (c7r (b.D i) at_ s),b.s,b.p⟩
def rfB (b:Bs)(i:Nat):Bs:=⟨updD b.D i ⟨(b.D i).g,(b.D i).n,(b.D i).l,[],true⟩,b.s,b.p⟩
section
variable {B:Nat}{w0 z z':World}{g gr N n d:Nat}{b b':Bs}{vl vm vc:Value}{S S':Nat->Sh}{F:Nat->BA}{R A:Asn}{P:Nat->BA}{u:Nat->Bool}
theorem Lw.tamper (hR:Firm R)(h:Lw B w0 z g gr N b b' vl vm vc S S' F R){i:Nat}(hi:i<N)(at_:Int)(s:BA)(hq:(b.D i).q.length<=1000000):Calls prog 40 #[.pointer (some ⟨(b.D i).g,0,none⟩),.int .i64 at_,.string s] z λe w'=>e=.returned (.bool (b4p (b.D i).dead (b.D i).n at_ s))/\Lw B w0 w' g gr N (taB b i at_ s) b' vl vm vc S S' F R:=by
 have h1:=Hold.openD h i hi;refine(d9n ((a9w _).star (hR.star ((a2z _ _ _ _ _).star ((a0d _ _ _ _ _).star ((a0d _ _ _ _ _).star (a0d _ _ _ _ _)))))) h1 at_ s hq).mono ?_;rintro e w' ⟨rfl,h2⟩;exact⟨rfl,Hold.shutD i hi (c7r (b.D i) at_ s) rfl h2⟩
theorem Lw.rdisk (h:Lw B w0 z g gr N b b' vl vm vc S S' F R){i:Nat}(hi:i<N):∃gd cap,z.cell? ⟨gr,0,none⟩=some (.slice (some ⟨gd,0,none⟩) N cap)/\z.cell? ⟨gd,i,none⟩=some (.pointer (some ⟨(b'.D i).g,0,none⟩)):=Hold.rbkAt (Hold.pull3 h) i hi
theorem Lw.rtamper (hR:Firm R)(h:Lw B w0 z g gr N b b' vl vm vc S S' F R){i:Nat}(hi:i<N)(at_:Int)(s:BA)(hq:(b'.D i).q.length<=1000000){gd cp:Nat}(k1:z.cell? ⟨gr,0,none⟩=some (.slice (some ⟨gd,0,none⟩) N cp)):
 Calls prog 41 #[.pointer (some ⟨(b'.D i).g,0,none⟩),.int .i64 at_,.string s] z λe w'=>e=.returned (.bool (b4p (b'.D i).dead (b'.D i).n at_ s))/\Lw B w0 w' g gr N b (taB b' i at_ s) vl vm vc S S' F R/\w'.cell? ⟨gr,0,none⟩=some (.slice (some ⟨gd,0,none⟩) N cp)/\w'.cell? ⟨gd,i,none⟩=some (.pointer (some ⟨(b'.D i).g,0,none⟩)):=by
 obtain⟨gd',cap',h2⟩:=e2k (Hold.pull3 h) i hi;have h3:=(d5p h2 i hi).1;rw[k1]at h3
 cases h3
 refine(d4k ((c0k _ _ _ _ _ _ _ _).star ((a2f _ _ _ _ _).star (hR.star ((a0d _ _ _ _ _).star ((a0d _ _ _ _ _).star (a0d _ _ _ _ _)))))) h2 at_ s hq).mono ?_;rintro e w' ⟨rfl,h4⟩;exact⟨rfl,Hold.back3 (e2c hi (c7r (b'.D i) at_ s) rfl h4),d5p h4 i hi⟩
theorem Lw.rfail (hR:Firm R)(h:Lw B w0 z g gr N b b' vl vm vc S S' F R){i:Nat}(hi:i<N):Calls prog 42 #[.pointer (some ⟨(b'.D i).g,0,none⟩)] z λe w'=>e=.returned (.tuple #[])/\Lw B w0 w' g gr N b (rfB b' i) vl vm vc S S' F R:=by
 obtain⟨gd',cap',h2⟩:=e2k (Hold.pull3 h) i hi;refine(e5p ((c0k _ _ _ _ _ _ _ _).star ((a2f _ _ _ _ _).star (hR.star ((a0d _ _ _ _ _).star ((a0d _ _ _ _ _).star (a0d _ _ _ _ _)))))) h2).mono ?_;rintro e w' ⟨rfl,h4⟩;exact⟨rfl,Hold.back3 (e2c hi ⟨(b'.D i).g,(b'.D i).n,(b'.D i).l,[],true⟩ rfl h4)⟩
theorem Lw.mcell {hm c:Nat}(h:Lw B w0 z g gr N b b' vl (.slice (some ⟨hm,0,none⟩) N c) vc S S' F R){i j:Nat}{v:Value}(hi:i<N)(hv:(S' i).L[j]?=some v):z.cell? ⟨hm,i*6+j,none⟩=some v/\z.frozen? ⟨hm,i*6+j,none⟩=false:=c2n h.m (c5b S' N i j v hi hv)
theorem Lw.set {hl c:Nat}(hR:Firm R)(h:Lw B w0 z g gr N b b' (.slice (some ⟨hl,0,none⟩) N c) vm vc S S' F R){i j:Nat}(hi:i<N)(hj:j<6){v:Value}{s:Sh}(hs:s.L=(S i).L.set j v):Lw B w0 (z.setCell ⟨hl,i*6+j,none⟩ v) g gr N b b' (.slice (some ⟨hl,0,none⟩) N c) vm vc (λx=>if x=i then s else S x) S' F R:=by
 have h1:=b6k ((a2f _ _ _ _ _).star (hR.star ((a2z _ _ _ _ _).star ((a0d _ _ _ _ _).star (a0d _ _ _ _ _))))) (Hold.pull4 h) (i*6+j) (by omega) v;rw[b6d S i j v s hs hj N hi]at h1;exact(Hold.back4 h1:Hold _ _ _ _)
theorem Lw.mset {hm c:Nat}(hR:Firm R)(h:Lw B w0 z g gr N b b' vl (.slice (some ⟨hm,0,none⟩) N c) vc S S' F R){i j:Nat}(hi:i<N)(hj:j<6){v:Value}{s:Sh}(hs:s.L=(S' i).L.set j v):Lw B w0 (z.setCell ⟨hm,i*6+j,none⟩ v) g gr N b b' vl (.slice (some ⟨hm,0,none⟩) N c) vc S (λx=>if x=i then s else S' x) F R:=by
 have h1:=b6k ((a2f _ _ _ _ _).star (hR.star ((a2z _ _ _ _ _).star ((a0d _ _ _ _ _).star (a0d _ _ _ _ _))))) (Hold.pull5 h) (i*6+j) (by omega) v;rw[b6d S' i j v s hs hj N hi]at h1;exact(Hold.back5 h1:Hold _ _ _ _)
theorem Lw.congr {T T':Nat->Sh}(h:Lw B w0 z g gr N b b' vl vm vc S S' F R)(e:∀x,x<N->S x=T x)(e':∀x,x<N->S' x=T' x):Lw B w0 z g gr N b b' vl vm vc T T' F R:=by
 unfold Lw at h⊢;rw[<-a4q e,<-a4q e'];exact h
theorem Lw.box (hR:Firm R)(h:Lw B w0 z g gr N b b' vl vm vc S S' F R)(T:TypeId)(X:Array Value):Lw B w0 (z.alloc (.cells X T)) g gr N b b' vl vm vc S S' F (star (blkA z.heap.size T X.toList) R):=
 (Hold.swap (Hold.newBlk (d3q hR) h T X)).monoR λF h=>a1z h
theorem Lw.unbox {gx:Nat}{T:TypeId}{L:List Value}(h:Lw B w0 z g gr N b b' vl vm vc S S' F (star (blkA gx T L) R)):Lw B w0 z g gr N b b' vl vm vc S S' F R:=
 (Hold.swap (Hold.monoR h λF h=>a7d h)).right
theorem Lw.boxed {gx:Nat}{T:TypeId}{L:List Value}(h:Lw B w0 z g gr N b b' vl vm vc S S' F (star (blkA gx T L) R)):Blk z gx T L:=Hold.blk (Hold.left (Hold.right h))
end
structure Hd (N:Nat)(b b':Bs):Prop where
 p:b.p=none
 p':b'.p=none
 n:∀j,j<N->(b.D j).n=140/\(b'.D j).n=140
 q:∀j,j<N->(b.D j).q=[]/\(b'.D j).q=[]
 dead:∀j,j<N->(b'.D j).dead=(b.D j).dead
 l:∀j,j<N->(b.D j).dead=false->(b'.D j).l=(b.D j).l
 sz:∀j,j<N->∀a,((b.D j).l a).size<=2048
 sz':∀j,j<N->∀a,((b'.D j).l a).size<=2048
section
variable {N d slot k:Nat}{b b':Bs}{C P:Nat->BA}
theorem LyS.hd (h:LyS N N d slot b b' C P):Hd N b b':=by
 refine⟨h.p,h.p',λj hj=>?_,λj hj=>?_,λj hj=>?_,λj hj hd=>?_,λj hj a=>?_,λj hj a=>?_⟩
 ·obtain⟨l,h1,_⟩:=h.done j hj;exact⟨h1.n,(h.same j hj).1⟩
 ·obtain⟨l,h1,_⟩:=h.done j hj;exact⟨h1.q,(h.same j hj).2.2.1⟩
 ·obtain⟨l,h1,_⟩:=h.done j hj;rw[h1.dead];exact(h.same j hj).2.2.2
 ·exact(h.same j hj).2.1
 ·exact(h.okn j hj).2.1 a
 ·rw[(h.same j hj).2.1];exact(h.okn j hj).2.1 a
theorem Hd.okn (h:Hd N b b'):Okn N b:=λj hj=>⟨(h.n j hj).1,h.sz j hj,λw hw=>by rw[(h.q j hj).1]at hw;cases hw⟩
theorem Hd.fail (h:Hd N b b')(i:Nat):Hd N (faB b i) (rfB b' i):=by
 have e1:(faB b i).D i=⟨(b.D i).g,(b.D i).n,λ_=>noB,[],true⟩:=by show updD b.D i _ i=_;exact a0r _ _ _
 have e2:∀j,j≠i->(faB b i).D j=b.D j:=λj hj=>by show updD b.D i _ j=_;exact a1g _ _ _ _ hj
 have f1:(rfB b' i).D i=⟨(b'.D i).g,(b'.D i).n,(b'.D i).l,[],true⟩:=by show updD b'.D i _ i=_;exact a0r _ _ _
 have f2:∀j,j≠i->(rfB b' i).D j=b'.D j:=λj hj=>by show updD b'.D i _ j=_;exact a1g _ _ _ _ hj
 refine⟨h.p,h.p',λj hj=>?_,λj hj=>?_,λj hj=>?_,λj hj hd=>?_,λj hj a=>?_,λj hj a=>?_⟩<;>by_cases e:j=i
 ·subst e;rw[e1,f1];exact h.n j hj
 ·rw[e2 j e,f2 j e];exact h.n j hj
 ·subst e;rw[e1,f1];exact⟨rfl,rfl⟩
 ·rw[e2 j e,f2 j e];exact h.q j hj
 ·subst e;rw[e1,f1]
 ·rw[e2 j e,f2 j e];exact h.dead j hj
 ·subst e;rw[e1]at hd;cases hd
 ·rw[e2 j e,f2 j e];rw[e2 j e]at hd;exact h.l j hj hd
 ·subst e;rw[e1];show noB.size<=_;decide
 ·rw[e2 j e];exact h.sz j hj a
 ·subst e;rw[f1];exact h.sz' j hj a
 ·rw[f2 j e];exact h.sz' j hj a
theorem c8x (a:Nat):others a []=[]:=rfl
theorem Hd.tamper (h:Hd N b b'){i:Nat}(hi:i<N)(at_:Int){s:BA}(hs:s.size<=2048):Hd N (taB b i at_ s) (taB b' i at_ s):=by
 have e1:(taB b i at_ s).D i=c7r (b.D i) at_ s:=by show updD b.D i _ i=_;exact a0r _ _ _
 have e2:∀j,j≠i->(taB b i at_ s).D j=b.D j:=λj hj=>by show updD b.D i _ j=_;exact a1g _ _ _ _ hj
 have f1:(taB b' i at_ s).D i=c7r (b'.D i) at_ s:=by show updD b'.D i _ i=_;exact a0r _ _ _
 have f2:∀j,j≠i->(taB b' i at_ s).D j=b'.D j:=λj hj=>by show updD b'.D i _ j=_;exact a1g _ _ _ _ hj
 have hq:∀(dk:Dk),dk.q=[]->(c7r dk at_ s).q=[]:=λdk hk=>by
  show b2v dk.q dk.dead dk.n at_ s=[];unfold b2v;rw[hk]
  split
  ·exact c8x _
  ·rfl
 refine⟨h.p,h.p',λj hj=>?_,λj hj=>?_,λj hj=>?_,λj hj hd=>?_,λj hj a=>?_,λj hj a=>?_⟩<;>by_cases e:j=i
 ·subst e;rw[e1,f1];exact h.n j hj
 ·rw[e2 j e,f2 j e];exact h.n j hj
 ·subst e;rw[e1,f1];exact⟨hq _ (h.q j hj).1,hq _ (h.q j hj).2⟩
 ·rw[e2 j e,f2 j e];exact h.q j hj
 ·subst e;rw[e1,f1];exact h.dead j hj
 ·rw[e2 j e,f2 j e];exact h.dead j hj
 ·subst e;rw[e1]at hd;have hd':(b.D j).dead=false:=hd;rw[e1,f1];show a8c (b'.D j).l (b'.D j).dead (b'.D j).n at_ s=a8c (b.D j).l (b.D j).dead (b.D j).n at_ s;rw[h.l j hj hd',h.dead j hj,(h.n j hj).1,(h.n j hj).2]
 ·rw[e2 j e,f2 j e];rw[e2 j e]at hd;exact h.l j hj hd
 ·subst e;rw[e1];show(a8c (b.D j).l (b.D j).dead (b.D j).n at_ s a).size<=2048;unfold a8c
  split
  ·unfold upd;show(if a=at_.toNat then s else(b.D j).l a).size<=2048
   split
   ·exact hs
   ·exact h.sz j hj a
  ·exact h.sz j hj a
 ·rw[e2 j e];exact h.sz j hj a
 ·subst e;rw[f1];show(a8c (b'.D j).l (b'.D j).dead (b'.D j).n at_ s a).size<=2048;unfold a8c
  split
  ·unfold upd;show(if a=at_.toNat then s else(b'.D j).l a).size<=2048
   split
   ·exact hs
   ·exact h.sz' j hj a
  ·exact h.sz' j hj a
 ·rw[f2 j e];exact h.sz' j hj a
end
section
variable {B:Nat}{w0 z:World}{g gr N n hl cl hm cm gx i:Nat}{b b':Bs}{vc:Value}{F:Nat->BA}{R:Asn}{P:Nat->BA}{u:Nat->Bool}{d k a:Int}{c:BA}
def Lh (B:Nat)(w0 z:World)(g gr N n hl cl hm cm:Nat)(b b':Bs)(vc:Value)(P:Nat->BA)(u:Nat->Bool)(F:Nat->BA)(R:Asn):Prop:=Lw B w0 z g gr N b b' (.slice (some ⟨hl,0,none⟩) N cl) (.slice (some ⟨hm,0,none⟩) N cm) vc (shX g n P u) (λi=>(shX g n P u i).at gr) F R
abbrev haL (d k a:Int)(c:BA):List Value:=[.int .i64 d,.int .i64 k,.int .i64 a,.string c]
theorem Lh.hc (h:Lh B w0 z g gr N n hl cl hm cm b b' vc P u F (star (blkA gx 41 (haL d k a c)) R))(hi:i<N):(z.cell? ⟨hl,i*6,none⟩=some (.pointer (some ⟨g,0,none⟩))/\z.cell? ⟨hm,i*6,none⟩=some (.pointer (some ⟨gr,0,none⟩)))/\z.cell? ⟨gx,0,none⟩=some (.int .i64 d)/\z.cell? ⟨gx,1,none⟩=some (.int .i64 k)/\z.cell? ⟨gx,2,none⟩=some (.int .i64 a)/\z.cell? ⟨gx,3,none⟩=some (.string c):=by
 have hB:=Lw.boxed h;exact⟨⟨(Lw.cell h (i:=i) (j:=0) hi rfl).1,(Lw.mcell h (i:=i) (j:=0) hi rfl).1⟩,hB.cell (i:=0) rfl,hB.cell (i:=1) rfl,hB.cell (i:=2) rfl,hB.cell (i:=3) rfl⟩
theorem Lh.use (hR:Firm R)(h:Lh B w0 z g gr N n hl cl hm cm b b' vc P u F R)(hi:i<N):
 ((z.cell? ⟨hl,i*6+5,none⟩=some (.bool (u i))/\z.frozen? ⟨hl,i*6+5,none⟩=false)/\
 (z.setCell ⟨hl,i*6+5,none⟩ (.bool false)).cell? ⟨hm,i*6+5,none⟩=some (.bool (u i))/\(z.setCell ⟨hl,i*6+5,none⟩ (.bool false)).frozen? ⟨hm,i*6+5,none⟩=false)/\
 Lh B w0 ((z.setCell ⟨hl,i*6+5,none⟩ (.bool false)).setCell ⟨hm,i*6+5,none⟩ (.bool false)) g gr N n hl cl hm cm b b' vc P (λj=>if j=i then false else u j) F R:=by
 have h1:=Lw.set hR h (i:=i) (j:=5) (v:=.bool false) (s:=⟨g,(i:Int),(n:Int),kB19,P i,false⟩) hi (by decide) rfl;have h2:=Lw.mset hR h1 (i:=i) (j:=5) (v:=.bool false) (s:=⟨gr,(i:Int),(n:Int),kB19,P i,false⟩) hi (by decide) rfl;refine⟨⟨Lw.cell h (i:=i) (j:=5) hi rfl,Lw.mcell h1 (i:=i) (j:=5) hi rfl⟩,h2.congr (λx _=>?_) (λx _=>?_)⟩
 ·show(if x=i then _ else shX g n P u x)=(⟨g,(x:Int),(n:Int),kB19,P x,if x=i then false else u x⟩:Sh);by_cases e:x=i
  ·rw[qp e,qp e,e]
  ·rw[qn e,qn e];rfl
 ·show(if x=i then _ else(shX g n P u x).at gr)=(⟨gr,(x:Int),(n:Int),kB19,P x,if x=i then false else u x⟩:Sh);by_cases e:x=i
  ·rw[qp e,qp e,e]
  ·rw[qn e,qn e];rfl
theorem Lh.top {T:TypeId}{L:List Value}(hR:Firm (star (blkA gx T L) R))(h:Lh B w0 z g gr N n hl cl hm cm b b' vc P u F (star (blkA gx T L) R))(hi:i<N)(c:BA):
 (((z.cell? ⟨hl,i*6+4,none⟩=some (.string (P i))/\z.frozen? ⟨hl,i*6+4,none⟩=false)/\z.cell? ⟨hm,i*6+4,none⟩=some (.string (P i))/\z.frozen? ⟨hm,i*6+4,none⟩=false)/\
 ((z.setCell ⟨hl,i*6+4,none⟩ (.string c)).cell? ⟨hm,i*6+4,none⟩=some (.string (P i))/\(z.setCell ⟨hl,i*6+4,none⟩ (.string c)).frozen? ⟨hm,i*6+4,none⟩=false)/\
 (z.setCell ⟨hm,i*6+4,none⟩ (.string c)).cell? ⟨hl,i*6+4,none⟩=some (.string (P i))/\(z.setCell ⟨hm,i*6+4,none⟩ (.string c)).frozen? ⟨hl,i*6+4,none⟩=false)/\
 Lh B w0 ((z.setCell ⟨hl,i*6+4,none⟩ (.string c)).setCell ⟨hm,i*6+4,none⟩ (.string c)) g gr N n hl cl hm cm b b' vc (λj=>if j=i then c else P j) u F (star (blkA gx T L) R)/\
 Lh B w0 ((z.setCell ⟨hm,i*6+4,none⟩ (.string c)).setCell ⟨hl,i*6+4,none⟩ (.string c)) g gr N n hl cl hm cm b b' vc (λj=>if j=i then c else P j) u F (star (blkA gx T L) R)/\
 Blk (z.setCell ⟨hl,i*6+4,none⟩ (.string c)) gx T L/\Blk (z.setCell ⟨hm,i*6+4,none⟩ (.string c)) gx T L:=by
 have h1:=Lw.set hR h (i:=i) (j:=4) (v:=.string c) (s:=⟨g,(i:Int),(n:Int),kB19,c,u i⟩) hi (by decide) rfl;have h2:=Lw.mset hR h1 (i:=i) (j:=4) (v:=.string c) (s:=⟨gr,(i:Int),(n:Int),kB19,c,u i⟩) hi (by decide) rfl;have h3:=Lw.mset hR h (i:=i) (j:=4) (v:=.string c) (s:=⟨gr,(i:Int),(n:Int),kB19,c,u i⟩) hi (by decide) rfl;have h4:=Lw.set hR h3 (i:=i) (j:=4) (v:=.string c) (s:=⟨g,(i:Int),(n:Int),kB19,c,u i⟩) hi (by decide) rfl;have e1:∀x,x<N->(if x=i then(⟨g,(i:Int),(n:Int),kB19,c,u i⟩:Sh)else shX g n P u x)=shX g n (λj=>if j=i then c else P j) u x:=λx _=>by
  show _=(⟨g,(x:Int),(n:Int),kB19,if x=i then c else P x,u x⟩:Sh);by_cases e:x=i
  ·rw[qp e,qp e,e]
  ·rw[qn e,qn e];rfl
 have e2:∀x,x<N->(if x=i then(⟨gr,(i:Int),(n:Int),kB19,c,u i⟩:Sh)else(shX g n P u x).at gr)=(shX g n (λj=>if j=i then c else P j) u x).at gr:=λx _=>by
  show _=(⟨gr,(x:Int),(n:Int),kB19,if x=i then c else P x,u x⟩:Sh);by_cases e:x=i
  ·rw[qp e,qp e,e]
  ·rw[qn e,qn e];rfl
 exact⟨⟨⟨Lw.cell h (i:=i) (j:=4) hi rfl,Lw.mcell h (i:=i) (j:=4) hi rfl⟩,Lw.mcell h1 (i:=i) (j:=4) hi rfl,Lw.cell h3 (i:=i) (j:=4) hi rfl⟩,h2.congr e1 e2,h4.congr e1 e2,h1.boxed,h3.boxed⟩
end
def Un (i:Nat)(b bq:Bs)(P P':Nat->BA)(u u':Nat->Bool):Prop:=∀j,j≠i->bq.D j=b.D j/\P' j=P j/\u' j=u j
def hmI (N:Nat)(k:Int):Nat:=k.toNat%N
theorem d9l {B:Nat}{w0 z:World}{g gr N n hl cl hm cm:Nat}{b b':Bs}{vc:Value}{F:Nat->BA}{R:Asn}{P:Nat->BA}{u:Nat->Bool}(hR:Firm R)(h:Lh B w0 z g gr N n hl cl hm cm b b' vc P u F R)(hH:Hd N b b')(hN:1<=N/\N<=12)
 (d k a:Int)(c:BA)(hd:-9223372036854775808<=d/\d<=9223372036854775807)(hk:-9223372036854775808<=k/\k<=9223372036854775807)(ha:-9223372036854775808<=a/\a<=9223372036854775807)(hc:c.size<=9223372036854775807):
 Calls prog 14 #[.slice (some ⟨hl,0,none⟩) N cl,.slice (some ⟨hm,0,none⟩) N cm,.agg #[.int .i64 d,.int .i64 k,.int .i64 a,.string c]] z λe w'=>e=.returned (.tuple #[])/\∃bq bq' P' u',Lh B w0 w' g gr N n hl cl hm cm bq bq' vc P' u' F R/\Hd N bq bq'/\Un (hmI N k) b bq P P' u u':=by
 obtain⟨i,hi⟩:∃i,hmI N k=i:=⟨_,rfl⟩;have eB:i<N:=by rw[<-hi];exact Nat.mod_lt _ (by omega)
 have hiN':(i:Int)<(N:Int):=by omega
 obtain⟨y,hy⟩:∃y:Nat,k.toNat=y:=⟨_,rfl⟩;have m1:(if 0<k then k else 0)=(y:Int):=by split<;>omega
 have m2:max 0 k=(y:Int):=by omega
 have m4:(y:Int).tmod (N:Int)=(i:Int):=by rw[Int.tmod_eq_emod_of_nonneg (by omega)];rw[<-hi];unfold hmI;rw[hy];exact(Int.natCast_emod y N).symm
 have m5:¬(N:Int)=0:=by omega
 rw[hi];obtain⟨M,hM1,hM2,hM3⟩:∃q:Nat,(if(100:Int)<(c.size:Int)then(100:Int)else(c.size:Int))=(q:Int)/\q<=c.size/\q<=100:=⟨min c.size 100,by split<;>omega,by omega,by omega⟩;have hM4:min (c.size:Int) 100=(M:Int):=by rw[<-hM1];split<;>omega
 have hM5:(M:Int)<=(c.size:Int):=by omega
 have HH:Hid (Hd N b b'):=hH;have eG:Hid (∀gx,Firm (star (blkA gx 41 (haL d k a c)) R)):=λgx=>(a0e _ _ _).star hR;have H1:Hid (Lh B w0 (z.alloc (.cells #[.int .i64 d,.int .i64 k,.int .i64 a,.string c] 41)) g gr N n hl cl hm cm b b' vc P u F (star (blkA z.heap.size 41 (haL d k a c)) R)):=Lw.box hR h _ _;obtain⟨q,hq⟩:∃q,bits BinOp.and IntKind.i64 d 3=q:=⟨_,rfl⟩;clear hH hR h hy hi;go_enter func14,ntmps14;go_upto_region 1 with fail
 generalize z.alloc (.cells #[.int .i64 d,.int .i64 k,.int .i64 a,.string c] 41)=z1 at*;generalize z.heap.size=gx at*;obtain⟨⟨c0,c1⟩,x0,x1,x2,x3⟩:=H1.out.hc eB;by_cases q0:q=0
 ·subst q0;go_upto_region 5 with fail
  have HQ:Hid ((b.D i).q=[]/\(b'.D i).q=[]):=HH.out.q i eB;have gH:Hid ((c.extract 0 M).size<=2048):=by show _<=_;rw[ByteArray.size_extract];omega
  have H2:Hid (Lh B w0 z1.drew g gr N n hl cl hm cm b b' vc P u F (star (blkA gx 41 (haL d k a c)) R)):=Lw.below (eG.out gx) H1.out (qw _ _).drew;clear H1 c0 c1 x0 x1 x2 x3;have cR:=H2.out.hc eB;refine wp_region_noPanic ?_;refine wp_region_held_drew (S:=λy:World=>(y.cell? ⟨hl,i*6,none⟩=some (.pointer (some ⟨g,0,none⟩))/\y.cell? ⟨hm,i*6,none⟩=some (.pointer (some ⟨gr,0,none⟩)))/\y.cell? ⟨gx,0,none⟩=some (.int .i64 d)/\y.cell? ⟨gx,1,none⟩=some (.int .i64 k)/\y.cell? ⟨gx,2,none⟩=some (.int .i64 a)/\y.cell? ⟨gx,3,none⟩=some (.string c)) (by kernel_rfl) cR (λp8=>?_);refine tkH 0 ?_;go_simp;refine tkH 1 ?_;go_simp;refine tkH 2 ?_;go_simp;refine tkH 3 ?_;go_simp;refine tkH 4 ?_;go_simp;refine tkH 5 ?_;go_simp;refine tkH 6 ?_;go_simp;refine tkH 8 ?_;go_simp;refine tkH 9 ?_;go_simp;refine tkH 10 ?_;go_simp;refine tkH 11 ?_;go_simp;refine tkH 12 ?_;go_simp;refine tkH 13 ?_;go_simp;refine tkH 14 ?_;go_simp;refine tkH 15 ?_;go_simp;refine tkH 16 ?_;go_simp;refine rdH 7 λK hK=>?_;go_simp;go_at_call 24;refine(Lw.disk H2.out eB).mono ?_;rintro x w1 ⟨rfl,hw⟩;rw[hw];clear hw w1;refine hK.out _ _ (H2.out.hc eB) (λp8=>?_);clear hK K;refine rdH 17 λK hK=>?_;go_simp;go_at_call 40;refine(Lw.tamper (eG.out gx) H2.out eB a (c.extract 0 M) (by rw[HQ.out.1];decide)).mono ?_;rintro x w3 ⟨rfl,h3⟩;have H3:Hid (Lh B w0 w3 g gr N n hl cl hm cm (taB b i a (c.extract 0 M)) b' vc P u F (star (blkA gx 41 (haL d k a c)) R)):=h3;clear h3 H2 cR;refine hK.out _ _ (H3.out.hc eB) (λp8=>?_);clear hK K;refine wpAnyH_done (by kernel_rfl) ?_ _;refine NoPanic.normal ?_;go_wp2_with fail;have H4:Hid (Lh B w0 w3.drew g gr N n hl cl hm cm (taB b i a (c.extract 0 M)) b' vc P u F (star (blkA gx 41 (haL d k a c)) R)):=Lw.below (eG.out gx) H3.out (qw _ _).drew;clear H3;obtain⟨gd,cp,k1,k2⟩:=Lw.rdisk H4.out eB;have cR:=And.intro (H4.out.hc eB) (And.intro k1 k2);refine wp_region_noPanic ?_;refine wp_region_held_drew (S:=λy:World=>((y.cell? ⟨hl,i*6,none⟩=some (.pointer (some ⟨g,0,none⟩))/\y.cell? ⟨hm,i*6,none⟩=some (.pointer (some ⟨gr,0,none⟩)))/\y.cell? ⟨gx,0,none⟩=some (.int .i64 d)/\y.cell? ⟨gx,1,none⟩=some (.int .i64 k)/\y.cell? ⟨gx,2,none⟩=some (.int .i64 a)/\y.cell? ⟨gx,3,none⟩=some (.string c))/\y.cell? ⟨gr,0,none⟩=some (.slice (some ⟨gd,0,none⟩) N cp)/\y.cell? ⟨gd,i,none⟩=some (.pointer (some ⟨(b'.D i).g,0,none⟩))) (by kernel_rfl) cR (λp8=>?_);refine tkH 0 ?_;go_simp;refine tkH 1 ?_;go_simp;refine tkH 2 ?_;go_simp;refine tkH 3 ?_;go_simp;refine tkH 4 ?_;go_simp;refine tkH 5 ?_;go_simp;refine tkH 6 ?_;go_simp;refine tkH 7 ?_;go_simp;refine tkH 8 ?_;go_simp;refine tkH 9 ?_;go_simp;refine tkH 10 ?_;go_simp;refine tkH 11 ?_;go_simp;refine tkH 12 ?_;go_simp;refine tkH 13 ?_;go_simp;refine tkH 14 ?_;go_simp;refine tkH 15 ?_;go_simp;refine tkH 16 ?_;go_simp;refine tkH 17 ?_;go_simp;refine tkH 18 ?_;go_simp;refine tkH 19 ?_;go_simp;refine tkH 20 ?_;go_simp;refine rdH 21 λK hK=>?_;go_simp;go_at_call 41;refine(Lw.rtamper (eG.out gx) H4.out eB a (c.extract 0 M) (by rw[HQ.out.2];decide) k1).mono ?_;rintro x w5 ⟨rfl,h5,k3,k4⟩;have H5:Hid (Lh B w0 w5 g gr N n hl cl hm cm (taB b i a (c.extract 0 M)) (taB b' i a (c.extract 0 M)) vc P u F (star (blkA gx 41 (haL d k a c)) R)):=h5;clear h5 H4 cR;refine hK.out _ _ ⟨H5.out.hc eB,k3,k4⟩ (λp8=>?_);clear hK K;refine wpAnyH_done (by kernel_rfl) ?_ _;refine NoPanic.normal ?_;go_wp2_with fail;go_end0;exact⟨rfl,taB b i a (c.extract 0 M),taB b' i a (c.extract 0 M),P,u,Lw.unbox H5.out,HH.out.tamper eB a gH.out,λj hj=>⟨a1g _ _ _ _ hj,rfl,rfl⟩⟩
 ·by_cases q1:q=1
  ·subst q1;have sV:=Lw.fail (eG.out gx) H1.out eB;have lF:Hid (Calls _ _ _ _ _):=sV;have sZ:=Lw.disk H1.out eB;clear sV;go_upto_region 9 with(first
    |(go_at_call 24;refine sZ.mono ?_;rintro e wa ⟨rfl,aP⟩;rw[aP];clear aP wa)
    |(go_at_call 25;refine lF.out.mono ?_;rintro e z2 ⟨rfl,h2⟩;have H2:Hid (Lh B w0 z2 g gr N n hl cl hm cm (faB b i) b' vc P u F (star (blkA gx 41 (haL d k a c)) R)):=h2;clear h2 lF H1 sZ c0 c1 x0 x1 x2 x3))
   obtain⟨⟨c0,c1⟩,-⟩:=H2.out.hc eB;obtain⟨gd,cp,k1,k2⟩:=Lw.rdisk H2.out eB;have qG:=Lw.rfail (eG.out gx) H2.out eB;have HRF:Hid (Calls _ _ _ _ _):=qG;clear qG;go_wp2_with(go_at_call 42;refine HRF.out.mono ?_;rintro e z3 ⟨rfl,h3⟩;have H3:Hid (Lh B w0 z3 g gr N n hl cl hm cm (faB b i) (rfB b' i) vc P u F (star (blkA gx 41 (haL d k a c)) R)):=h3;clear h3 HRF H2 c0 c1 k1 k2);go_end0;exact⟨rfl,faB b i,rfB b' i,P,u,Lw.unbox H3.out,HH.out.fail i,λj hj=>⟨a1g _ _ _ _ hj,rfl,rfl⟩⟩
  ·by_cases q2:q=2
   ·subst q2;obtain⟨⟨⟨s1,s2⟩,s3,s4⟩,h5⟩:=Lh.use (eG.out gx) H1.out eB;have H5:Hid (Lh B w0 _ g gr N n hl cl hm cm b b' vc P (λj=>if j=i then false else u j) F (star (blkA gx 41 (haL d k a c)) R)):=h5;clear h5;go_wp2_with fail;go_end0;exact⟨rfl,b,b',P,_,Lw.unbox H5.out,HH.out,λj hj=>⟨rfl,rfl,qn hj⟩⟩
   ·have e0:(q==0)=false:=(by simp[q0]);have e1:(q==1)=false:=(by simp[q1]);have e2:(q==2)=false:=(by simp[q2]);clear q0 q1 q2;go_upto_region 3 with fail
    obtain⟨⟨⟨⟨s1,s2⟩,s3,s4⟩,⟨s5,s6⟩,s7,s8⟩,h5,h6,hb5,hb6⟩:=Lh.top (eG.out gx) H1.out eB c;have x3l:=hb5.cell (i:=3) rfl;have x3m:=hb6.cell (i:=3) rfl;have H5:Hid (Lh B w0 _ g gr N n hl cl hm cm b b' vc (λj=>if j=i then c else P j) u F (star (blkA gx 41 (haL d k a c)) R)):=h5;have H6:Hid (Lh B w0 _ g gr N n hl cl hm cm b b' vc (λj=>if j=i then c else P j) u F (star (blkA gx 41 (haL d k a c)) R)):=h6;clear h5 h6 hb5 hb6 H1;go_region
    all_goals(go_wp2_with fail;go_end0;exact⟨rfl,b,b',_,u,Lw.unbox (by first|exact Lw.below (eG.out gx) H5.out (qw _ _).drew|exact Lw.below (eG.out gx) H6.out (qw _ _).drew|exact H5.out|exact H6.out),HH.out,λj hj=>⟨rfl,qn hj,rfl⟩⟩)
end Go.Proofs.YtokknmkleceooaaGreatDoor
