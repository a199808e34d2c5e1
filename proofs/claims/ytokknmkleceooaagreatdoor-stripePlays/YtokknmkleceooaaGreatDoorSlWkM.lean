import Derived.Test.YtokknmkleceooaaGreatDoorSlRM
namespace Go.Proofs.YtokknmkleceooaaGreatDoor
set_option linter.unusedVariables false
set_option maxRecDepth 20000
set_option maxHeartbeats 8000000
open Go.Proofs.Tryz
open Go.RowKit Go.PlainAid
structure Liv (N i:Nat)(b:Bs)(l:Nat->BA):Prop where
 p:b.p=none
 dead:(b.D i).dead=false
 n:(b.D i).n=140
 q:(b.D i).q=[]
 ll:(b.D i).l=l
 sz:∀a,(l a).size<=2048
theorem Liv.er0 {N i:Nat}{b:Bs}{l:Nat->BA}(h:Liv N i b l):eR b.p (b.D i)=0:=by
 unfold Go.Proofs.YtokknmkleceooaaGreatDoor.eR errD;rw[h.p,h.dead];rfl
theorem Liv.rd {N i:Nat}{b:Bs}{l:Nat->BA}(h:Liv N i b l){a:Nat}(ha:a<140):rdS b.p (b.D i) a=l a:=by
 rw[e7o h.er0 (by rw[h.n];exact ha),h.q,h.ll];rfl
theorem c5g {p:Option Nat}{d:Dk}(hl:∀a,(d.l a).size<=2048)(hq:∀w∈d.q,w.2.size<=2048)(a:Nat):(rdS p d a).size<=2048:=by
 unfold rdS;by_cases e:p=some 0
 ·rw[qp e];exact Nat.zero_le _
 ·rw[qn e];unfold b1t;by_cases e2:errA d.dead d.n (a:Int)=0
  ·rw[qp e2,Int.toNat_natCast];rcases e2y d.q a d.l with h|⟨w,hw,_,h⟩
   ·rw[h];exact hl a
   ·rw[h];exact hq w hw
  ·rw[qn e2];exact Nat.zero_le _
theorem Liv.size {N i:Nat}{b:Bs}{l:Nat->BA}(h:Liv N i b l)(a:Nat):(rdS b.p (b.D i) a).size<=2048:=c5g (λa=>by rw[h.ll];exact h.sz a) (λw hw=>by rw[h.q]at hw;cases hw) a
def Wok (q:List Wr):Prop:=∀w∈q,w.1<140/\w.2.size<=2048
theorem e9v {N i:Nat}(hi:i<N):∀(q:List Wr) {b:Bs},b.p=none->(b.D i).dead=false->(b.D i).n=140->Wok q->(apR N i b q).1=0/\(apR N i b q).2.p=none/\((apR N i b q).2.D i).dead=false/\((apR N i b q).2.D i).n=140/\((apR N i b q).2.D i).q=[]/\((apR N i b q).2.D i).l=app (app (b.D i).l (b.D i).q) q
 |[],b,hp,hd,hn,hq=>by
  rw[e6m];have hD:(apF N i b).D i=a4w (b.D i):=by
   show stD N b.p (i:Int) b.D (a4w (b.D i)) i=_;unfold stD;rw[qn (a2o N i hi),hp,qn (λh=>by cases h),Int.toNat_natCast,a0r]
  refine⟨?_,?_,?_,?_,?_,?_⟩
  ·show stE N b.p (i:Int) (errD (b.D i).dead)=0;unfold stE;rw[qn (a2o N i hi),hp,qn (λh=>by cases h),hd];rfl
  ·show stP N b.p (i:Int)=none;unfold stP;rw[qn (a2o N i hi),hp];rfl
  ·rw[hD];exact hd
  ·rw[hD];exact hn
  ·rw[hD];show a5c (b.D i).q (b.D i).dead=[];rw[hd];rfl
  ·rw[hD];show a9u (b.D i).l (b.D i).q (b.D i).dead=_;rw[hd];rfl
 |w::r,b,hp,hd,hn,hq=>by
  obtain⟨w1,w2⟩:=hq w (List.mem_cons_self ..);have hE:errW (b.D i).dead (b.D i).n (w.1:Int) w.2=0:=by
   unfold errW;rw[hd,hn,a6a 140 w.1 w1,qp rfl,qn (by omega)]
  have hA:apE N i b w=0:=by
   unfold apE stE;rw[qn (a2o N i hi),hp,qn (λh=>by cases h),hE]
  rw[c1c hA];have hD:(apW N i b w).D i=putD (b.D i) (w.1:Int) w.2:=by
   show stD N b.p (i:Int) b.D (putD (b.D i) (w.1:Int) w.2) i=_;unfold stD;rw[qn (a2o N i hi),hp,qn (λh=>by cases h),Int.toNat_natCast,a0r]
  have hQ:((apW N i b w).D i).q=(b.D i).q++[w]:=by
   rw[hD];show putQ (b.D i).q (b.D i).dead (b.D i).n (w.1:Int) w.2=_;unfold putQ;rw[hE,qp rfl,Int.toNat_natCast]
  have hL:((apW N i b w).D i).l=(b.D i).l:=by rw[hD];rfl
  have h:=e9v hi r (b:=apW N i b w) (by
   show stP N b.p (i:Int)=none;unfold stP;rw[qn (a2o N i hi),hp];rfl) (by rw[hD];exact hd) (by rw[hD];exact hn) (λx hx=>hq x (List.mem_cons_of_mem _ hx))
  rw[hQ,hL,b2p]at h;exact h
theorem e1l {l:Nat->BA}{q:List Wr}(hl:∀a,(l a).size<=2048)(hq:Wok q)(a:Nat):(app l q a).size<=2048:=by
 rcases e2y q a l with h|⟨w,hw,_,h⟩
 ·rw[h];exact hl a
 ·rw[h];exact(hq w hw).2
theorem Liv.apply {N i:Nat}{b:Bs}{l:Nat->BA}(h:Liv N i b l)(hi:i<N){q:List Wr}(hq:Wok q):(apR N i b q).1=0/\Liv N i (apR N i b q).2 (app l q):=by
 obtain⟨h1,h2,h3,h4,h5,h6⟩:=e9v hi q h.p h.dead h.n hq;rw[h.q,h.ll]at h6;exact⟨h1,⟨h2,h3,h4,h5,h6,e1l h.sz hq⟩⟩
theorem InT.congr {rd rd':Nat->BA}{d:Nat}{top:BA}{C:Nat->BA}(h:InT rd d (sl0 top) C)(hd:d<=4)(e:∀a,a<140->rd a=rd' a):InT rd' d (sl0 top) C:=by
 have hp:=a1f d hd;refine⟨λi i1 i2=>?_,λj hj=>?_,h.2.2⟩
 ·have:=h.1 i i1 i2;show rd' (100+i)=_;rw[<-e _ (by omega)];exact this
 ·have:=h.2.1 j hj;show rd' (120+j)=_;rw[<-e _ (by omega)];exact this
def upL (C:Nat->BA):List (Int×BA)->Nat->BA
 |[]=>C
 |p::r=>upL (λj=>if j=p.1.toNat then p.2 else C j) r
def Szd (S:Sl):Prop:=(∀i p,S.ch i=some p->i<16/\p.size=64)/\∀j c,S.ce j=some c->j<16/\c.size<=2032
theorem d7h (top:BA):Szd (sl0 top):=⟨λi p h=>(by cases h),λj c h=>(by cases h)⟩
theorem e4t {rd:Nat->BA}{E:Int}{S:Sl}{d s:Nat}(h:ovE rd E S d s=0)(hE:E=0\/E≠0):(∃t,fol d s (slk rd S d s) S.top d=some t):=by
 unfold ovE at h;by_cases e:E=0\/allC S d s
 ·rw[qp e]at h
  cases hf:fol d s (slk rd S d s) S.top d with
  |none=>rw[hf]at h;cases h
  |some t=>exact⟨t,rfl⟩
 ·rw[qn e]at h;exact absurd (.inl h) e
theorem Szd.step {rd:Nat->BA}{E:Int}{S:Sl}{d s:Nat}{c:BA}(h:Szd S)(hd:d<=4)(hs:s<2^d)(hc:c.size<=2032)(ho:ovE rd E S d s=0):Szd (sl1 rd S d s c):=by
 have hp:=a1f d hd;obtain⟨t,ht⟩:=e4t ho (Decidable.em _);have h64:=c0h ht;refine⟨λi p hi=>?_,λj x hj=>?_⟩
 ·have hi':slCh rd S d s c i=some p:=hi;by_cases e:∃k,k<d/\i=nd d s k
  ·obtain⟨k,hk,rfl⟩:=e;rw[c2j rd S d s c k hs hk]at hi'
   cases hi'
   exact⟨by have:=(a2u d s k hk hs).2;omega,c5p _ _ _ _ (a8l _) _ (h64 k hk)⟩
  ·rw[b6c rd S d s c i (λk hk he=>e ⟨k,hk,he⟩)]at hi';exact h.1 i p hi'
 ·have hj':(if j=s then some c else S.ce j)=some x:=hj;by_cases e:j=s
  ·rw[qp e]at hj';cases hj';exact⟨by omega,hc⟩
  ·rw[qn e]at hj';exact h.2 j x hj'
def Cok (n:Nat)(l:List (Int×BA)):Prop:=∀p∈l,(0<=p.1/\p.1<(n:Int))/\p.2.size<=2032
theorem Cok.rf {n:Nat}:∀{l:List (Int×BA)},Cok n l->rfE (n:Int) l=0
 |[],_=>rfl
 |p::r,h=>by
  obtain⟨⟨h1,h2⟩,h3⟩:=h p (List.mem_cons_self ..);show(if slE17 (n:Int) p.1=0 then(if 2032<p.2.size then 5 else rfE (n:Int) r)else slE17 (n:Int) p.1)=0;have e:slE17 (n:Int) p.1=0:=by unfold slE17;rw[qn (by omega)]
  rw[qp e,qn (by omega)];exact Cok.rf (λq hq=>h q (List.mem_cons_of_mem _ hq))
theorem Szd.prR {rd:Nat->BA}{E:Int}{d:Nat}(hd:d<=4):∀(l:List (Int×BA)) {S:Sl},Szd S->Cok (2^d) l->Szd (prR rd E d S l).2
 |[],S,h,_=>h
 |p::r,S,h,hc=>by
  obtain⟨⟨h1,h2⟩,h3⟩:=hc p (List.mem_cons_self ..);by_cases e:ovE rd E S d p.1.toNat=0
  ·rw[d2m e];exact Szd.prR hd r (h.step hd (by omega) h3 e) (λq hq=>hc q (List.mem_cons_of_mem _ hq))
  ·rw[d2n e];exact h
theorem InT.prR {rd:Nat->BA}{d:Nat}(hd:d<=4):∀(l:List (Int×BA)) {S:Sl} {C:Nat->BA},InT rd d S C->Cok (2^d) l->(Go.Proofs.YtokknmkleceooaaGreatDoor.prR rd 0 d S l).1=0/\InT rd d (Go.Proofs.YtokknmkleceooaaGreatDoor.prR rd 0 d S l).2 (upL C l)
 |[],S,C,h,_=>⟨rfl,h⟩
 |p::r,S,C,h,hc=>by
  obtain⟨⟨h1,h2⟩,h3⟩:=hc p (List.mem_cons_self ..);have hs:p.1.toNat<2^d:=by omega
  rw[d2m (h.ovE hd hs)];exact InT.prR hd r (h.step hd hs p.2) (λq hq=>hc q (List.mem_cons_of_mem _ hq))
theorem c2i {o:Nat}{f:Nat->Option BA}{w:Wr}:∀m,w∈slL o f m->∃k,k<m/\w.1=o+k/\f k=some w.2
 |0,h=>by cases h
 |m+1,h=>by
  have h':w∈slL o f m++(match f m with|some p=>[(o+m,p)]|none=>[]):=h;rcases List.mem_append.1 h' with h1|h1
  ·obtain⟨k,a,b⟩:=c2i m h1;exact⟨k,by omega,b⟩
  ·cases hf:f m with
   |none=>rw[hf]at h1;cases h1
   |some p=>
    rw[hf]at h1;rcases List.mem_cons.1 h1 with e|e
    ·rw[e];exact⟨m,by omega,rfl,hf⟩
    ·cases e
theorem Szd.wok {S:Sl}(h:Szd S):Wok (slW S):=λw hw=>by
 unfold slW at hw;rcases List.mem_append.1 hw with h1|h1
 ·obtain⟨k,a,b,c⟩:=c2i 16 h1;have:=(h.1 k w.2 c).2;omega
 ·obtain⟨k,a,b,c⟩:=c2i 16 h1;have:=(h.2 k w.2 c).2;omega
theorem d6a {n:Nat}{w:Wr}:∀k,w∈blP n k->∃j,1<=j/\j<=k/\w=(100+j,tpr eL n j)
 |0,h=>by cases h
 |k+1,h=>by
  have h':w∈blP n k++[(100+(k+1),tpr eL n (k+1))]:=h;rcases List.mem_append.1 h' with h1|h1
  ·obtain⟨j,a,b,c⟩:=d6a k h1;exact⟨j,a,by omega,c⟩
  ·rcases List.mem_cons.1 h1 with e|e
   ·exact⟨k+1,by omega,by omega,e⟩
   ·cases e
theorem d6b {w:Wr}:∀k,w∈blC k->∃j,j<k/\w=(120+j,noB)
 |0,h=>by cases h
 |k+1,h=>by
  have h':w∈blC k++[(120+k,noB)]:=h;rcases List.mem_append.1 h' with h1|h1
  ·obtain⟨j,a,b⟩:=d6b k h1;exact⟨j,by omega,b⟩
  ·rcases List.mem_cons.1 h1 with e|e
   ·exact⟨k,by omega,e⟩
   ·cases e
theorem e9q {d n:Nat}(hn:2^d=n)(hd:d<=4):Wok (blW n):=λw hw=>by
 have h16:n<=16:=by rw[<-hn];exact a1f d hd
 unfold blW at hw;rcases List.mem_append.1 hw with h1|h1
 ·obtain⟨j,a,b,rfl⟩:=d6a _ h1;refine⟨by show 100+j<140;omega,?_⟩;show(tpr eL n j).size<=2048;rw[d2l eL n j h16 a (by omega) (λ_ _=>a8l _)];decide
 ·obtain⟨j,a,rfl⟩:=d6b _ h1;exact⟨by show 120+j<140;omega,by show noB.size<=_;decide⟩
theorem d6j {n:Nat}(f:Nat->BA):∀k a,app f (blP n k) a=if 100<a/\a<=100+k then tpr eL n (a-100)else f a
 |0,a=>by rw[qn (by omega)];rfl
 |k+1,a=>by
  show app f (blP n k++[(100+(k+1),tpr eL n (k+1))]) a=_;rw[b2p];unfold upd;by_cases e:a=100+(k+1)
  ·rw[qp e,qp (by omega),show a-100=k+1 by omega]
  ·rw[qn e,d6j f k a];by_cases e2:100<a/\a<=100+k
   ·rw[qp e2,qp (by omega)]
   ·rw[qn e2,qn (by omega)]
theorem c4s (f:Nat->BA):∀k a,app f (blC k) a=if 120<=a/\a<120+k then noB else f a
 |0,a=>by rw[qn (by omega)];rfl
 |k+1,a=>by
  show app f (blC k++[(120+k,noB)]) a=_;rw[b2p];unfold upd;by_cases e:a=120+k
  ·rw[qp e,qp (by omega)]
  ·rw[qn e,c4s f k a];by_cases e2:120<=a/\a<120+k
   ·rw[qp e2,qp (by omega)]
   ·rw[qn e2,qn (by omega)]
theorem d4d {d n:Nat}(hn:2^d=n)(hd:1<=d/\d<=4)(f:Nat->BA):InT (app f (blW n)) d (sl0 (tdg eL n 1)) (λ_=>noB):=by
 have h16:n<=16:=by rw[<-hn];exact a1f d hd.2
 subst hn;refine d4c _ d _ (λi i1 i2=>?_) (λj hj=>?_) rfl
 ·unfold blW;rw[a4n,c4s,qn (by omega),d6j,qp (by omega),show 100+i-100=i by omega];rfl
 ·unfold blW;rw[a4n,c4s,qp (by omega)]
theorem Liv.change {N i:Nat}{b:Bs}{l:Nat->BA}(h:Liv N i b l)(hi:i<N){d:Nat}(hd:d<=4){top:BA}{C:Nat->BA}(hT:InT l d (sl0 top) C){cs:List (Int×BA)}(hc:Cok (2^d) cs):
 (prR (rdS b.p (b.D i)) (eR b.p (b.D i)) d (sl0 top) cs).1=0/\(apR N i b (slW (prR (rdS b.p (b.D i)) (eR b.p (b.D i)) d (sl0 top) cs).2)).1=0/\
 ∃l',Liv N i (apR N i b (slW (prR (rdS b.p (b.D i)) (eR b.p (b.D i)) d (sl0 top) cs).2)).2 l'/\InT l' d (sl0 (prR (rdS b.p (b.D i)) (eR b.p (b.D i)) d (sl0 top) cs).2.top) (upL C cs):=by
 have hT2:InT (rdS b.p (b.D i)) d (sl0 top) C:=hT.congr hd (λa ha=>(h.rd ha).symm);rw[h.er0];obtain⟨h1,h2⟩:=InT.prR hd cs hT2 hc;have hz:=(d7h top).prR (rd:=rdS b.p (b.D i)) (E:=0) hd cs hc;obtain⟨h3,h4⟩:=h.apply hi hz.wok;refine⟨h1,h3,_,h4,?_⟩;refine(h2.applied hd).congr hd (λa ha=>?_);exact c1a _ 140 _ _ (λi hi=>h.rd hi) a ha
theorem Liv.get {N i:Nat}{b:Bs}{l:Nat->BA}(h:Liv N i b l){d:Nat}(hd:d<=4){top:BA}{C:Nat->BA}(hT:InT l d (sl0 top) C){s:Nat}(hs:s<2^d)(oe:BA->Int)(ot:BA->BA):
 slGE (rdS b.p (b.D i)) (eR b.p (b.D i)) d s top oe=oe (C s)/\slGT (rdS b.p (b.D i)) (eR b.p (b.D i)) d s top ot=ot (C s):=by
 rw[h.er0];exact(hT.congr hd (λa ha=>(h.rd ha).symm)).get hd hs oe ot
def Sm (N:Nat)(b b':Bs):Prop:=b.s=b'.s/\b.p=b'.p/\∀j,j<N->(b.D j).n=(b'.D j).n/\(b.D j).l=(b'.D j).l/\(b.D j).q=(b'.D j).q/\(b.D j).dead=(b'.D j).dead
theorem Sm.w {N i:Nat}(hi:i<N){b b':Bs}(h:Sm N b b')(w:Wr):apE N i b w=apE N i b' w/\Sm N (apW N i b w) (apW N i b' w):=by
 obtain⟨h1,h2,h3⟩:=h;obtain⟨e1,e2,e3,e4⟩:=h3 i hi;refine⟨by unfold apE;rw[h2,e4,e1],⟨by show stS _ _ _ _=stS _ _ _ _;rw[h1,h2],by show stP _ _ _=stP _ _ _;rw[h2],λj hj=>?_⟩⟩;show((stD N b.p (i:Int) b.D (putD (b.D i) (w.1:Int) w.2)) j).n=((stD N b'.p (i:Int) b'.D (putD (b'.D i) (w.1:Int) w.2)) j).n/\((stD N b.p (i:Int) b.D (putD (b.D i) (w.1:Int) w.2)) j).l=((stD N b'.p (i:Int) b'.D (putD (b'.D i) (w.1:Int) w.2)) j).l/\((stD N b.p (i:Int) b.D (putD (b.D i) (w.1:Int) w.2)) j).q=((stD N b'.p (i:Int) b'.D (putD (b'.D i) (w.1:Int) w.2)) j).q/\((stD N b.p (i:Int) b.D (putD (b.D i) (w.1:Int) w.2)) j).dead=((stD N b'.p (i:Int) b'.D (putD (b'.D i) (w.1:Int) w.2)) j).dead;unfold stD;rw[qn (a2o N i hi),qn (a2o N i hi),h2];by_cases hp:b'.p=some 0
 ·rw[qp hp,qp hp];exact h3 j hj
 ·rw[qn hp,qn hp,Int.toNat_natCast];by_cases e:j=i
  ·subst e;rw[a0r,a0r];exact⟨e1,e2,by show putQ _ _ _ _ _=putQ _ _ _ _ _;rw[e3,e4,e1],e4⟩
  ·rw[a1g _ _ _ _ e,a1g _ _ _ _ e];exact h3 j hj
theorem Sm.f {N i:Nat}(hi:i<N){b b':Bs}(h:Sm N b b'):stE N b.p (i:Int) (errD (b.D i).dead)=stE N b'.p (i:Int) (errD (b'.D i).dead)/\Sm N (apF N i b) (apF N i b'):=by
 obtain⟨h1,h2,h3⟩:=h;obtain⟨e1,e2,e3,e4⟩:=h3 i hi;refine⟨by rw[h2,e4],⟨by show stS _ _ _ _=stS _ _ _ _;rw[h1,h2],by show stP _ _ _=stP _ _ _;rw[h2],λj hj=>?_⟩⟩;show((stD N b.p (i:Int) b.D (a4w (b.D i))) j).n=((stD N b'.p (i:Int) b'.D (a4w (b'.D i))) j).n/\((stD N b.p (i:Int) b.D (a4w (b.D i))) j).l=((stD N b'.p (i:Int) b'.D (a4w (b'.D i))) j).l/\((stD N b.p (i:Int) b.D (a4w (b.D i))) j).q=((stD N b'.p (i:Int) b'.D (a4w (b'.D i))) j).q/\((stD N b.p (i:Int) b.D (a4w (b.D i))) j).dead=((stD N b'.p (i:Int) b'.D (a4w (b'.D i))) j).dead;unfold stD;rw[qn (a2o N i hi),qn (a2o N i hi),h2];by_cases hp:b'.p=some 0
 ·rw[qp hp,qp hp];exact h3 j hj
 ·rw[qn hp,qn hp,Int.toNat_natCast];by_cases e:j=i
  ·subst e;rw[a0r,a0r];exact⟨e1,by show a9u _ _ _=a9u _ _ _;rw[e2,e3,e4],by show a5c _ _=a5c _ _;rw[e3,e4],e4⟩
  ·rw[a1g _ _ _ _ e,a1g _ _ _ _ e];exact h3 j hj
theorem Sm.r {N i:Nat}(hi:i<N):∀(q:List Wr) {b b':Bs},Sm N b b'->(apR N i b q).1=(apR N i b' q).1/\Sm N (apR N i b q).2 (apR N i b' q).2
 |[],b,b',h=>h.f hi
 |w::r,b,b',h=>by
  obtain⟨h1,h2⟩:=h.w hi w;by_cases e:apE N i b w=0
  ·rw[c1c e,c1c (by rw[<-h1];exact e)];exact Sm.r hi r h2
  ·rw[b8d e,b8d (by rw[<-h1];exact e)];exact⟨h1,h2⟩
section
variable {w:World}{P Q R T U V:Asn}{F:Nat->Prop}{B:Nat}{w0:World}
theorem Hold.rid (h:Hold B w0 w (star P (star Q R))):Hold B w0 w (star P R):=by
 obtain⟨a1,a2,F,⟨G,H,a3,⟨G2,H2,a4,a5,a6,a7⟩,a8,a9⟩,a10⟩:=h;refine⟨a1,a2,λk=>G k\/H2 k,⟨G,H2,a3,a5,λk hg hg2=>a8 k hg ((a7 k).2 (.inr hg2)),λk=>Iff.rfl⟩,?_⟩;rintro k (hk|hk)
 ·exact a10 k ((a9 k).2 (.inl hk))
 ·exact a10 k ((a9 k).2 (.inr ((a7 k).2 (.inr hk))))
end
theorem d3g:newN 140=140:=by decide
theorem b2i {w:World}{g N:Nat}{b:Bs}(h:Bk w g N b.D b.s b.p){i d n:Nat}(hi:i<N)(hn:2^d=n)(hd:1<=d/\d<=4){key:BA}(hk:key.size=32):GoodIs w (slV (.pointer (some ⟨g,0,none⟩)) (i:Int) (n:Int) key) true:=by
 have h1:=d4p h (i:Int) (n:Int) key
 rwa[decide_eq_true (show shpS (n:Int) key/\¬Out N (i:Int)from⟨⟨by have:=b0t hd.1 hd.2;rw[hn]at this;unfold a4u at this;omega,hk⟩,a2o N i hi⟩)]at h1
theorem b9d {w:World}{g N:Nat}{b:Bs}(h:Rk w g N b.D b.s b.p){i d n:Nat}(hi:i<N)(hn:2^d=n)(hd:1<=d/\d<=4){key:BA}(hk:key.size=32):RGoodIs w (slV (.pointer (some ⟨g,0,none⟩)) (i:Int) (n:Int) key) true:=by
 have h1:=c8f h (i:Int) (n:Int) key
 rwa[decide_eq_true (show shpS (n:Int) key/\¬Out N (i:Int)from⟨⟨by have:=b0t hd.1 hd.2;rw[hn]at this;unfold a4u at this;omega,hk⟩,a2o N i hi⟩)]at h1
section
variable {B:Nat}{w0 z:World}{gx g gr:Nat}{b b':Bs}{i d n:Nat}{key top:BA}{R:Asn}{l:Nat->BA}{C:Nat->BA}
theorem e0g {pv:Value}{i n:Int}{key:BA}{z:World}(hg:GoodIs z (slV pv i n key) true){k:Int}(h0:0<=k)(h1:k<n):b4o z (slV pv i n key) k 0:=by
 have:=a8o hg k
 rwa[show slE17 n k=0 from qn (by omega)]at this
def pS (b:Bs)(i d:Nat)(top:BA)(cs:List (Int×BA)):Sl:=(prR (rdS b.p (b.D i)) (eR b.p (b.D i)) d (sl0 top) cs).2
theorem d1e (S:Sl):(slW S).length<=32:=by
 unfold slW;rw[List.length_append,a5i,a5i];have h1:=a5n S.ch;have h2:=a5n S.ce;omega
end
theorem Cg.one (w:World)(s:Int)(c:BA):Cg (w.alloc (.cells #[.int .i64 s,.string c] 92)) 92 (some ⟨w.heap.size,0,none⟩) [(s,c)]:=by
 refine .inr ⟨w.heap.size,0,rfl,by simp,λi p hp=>?_⟩
 match i,hp with
 |0,hp=>
  cases hp
  intro j v hv;exact(Blk.new w 92 #[.int .i64 s,.string c]).cell (by simpa using hv)
 |i+1,hp=>simp at hp
end Go.Proofs.YtokknmkleceooaaGreatDoor
