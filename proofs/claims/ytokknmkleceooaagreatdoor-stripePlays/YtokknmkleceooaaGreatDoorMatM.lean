import Derived.Test.YtokknmkleceooaaGreatDoorGfM
import Derived.Test.YtokknmkleceooaaGreatDoorRows
import Derived.WalkKit
import Derived.ProofKit
import Derived.OpenShut
import Derived.WalkLawsBesides
import Derived.WalkSpells
import Derived.Below
import Derived.OwnWalk
import Derived.Laws.OwnMore
import Derived.Deep.QuietTactic
import Derived.BigQuiet
import Derived.Test.YtokknmkleceooaaGreatDoorBaseM
import Derived.Deep.RegionWith
import Derived.Deep.RegionHeld3
import Derived.Laws.CopyOwn
import Derived.BigRegion
namespace Go.Proofs.YtokknmkleceooaaGreatDoor
set_option linter.unusedVariables false
set_option maxRecDepth 20000
set_option maxHeartbeats 8000000
open Go.Proofs.Tryz
structure E where
 v:Nat
 h:v<256
theorem E.same {a b:E}(h:a.v=b.v):a=b:=by
 cases a;cases b;simp only at h;subst h;rfl
instance:Add E:=⟨λa b=>⟨a.v^^^b.v,Nat.xor_lt_two_pow (n:=8) a.h b.h⟩⟩
instance:Mul E:=⟨λa b=>⟨gm a.v b.v,b4u _ _ a.h⟩⟩
instance:OfNat E 0:=⟨⟨0,by decide⟩⟩
instance:OfNat E 1:=⟨⟨1,by decide⟩⟩
def E.inv (a:E):E:=⟨gi a.v,b7n _ a.h⟩
theorem E.zero_v:(0:E).v=0:=rfl
theorem E.one_v:(1:E).v=1:=rfl
theorem E.zero_of {a:E}(h:a.v=0):a=0:=E.same h
theorem E.ne_v {a:E}(h:a≠0):a.v≠0:=λe=>h (E.zero_of e)
theorem E.add_comm (a b:E):a+b=b+a:=E.same (Nat.xor_comm _ _)
theorem E.add_assoc (a b c:E):a+b+c=a+(b+c):=E.same (Nat.xor_assoc _ _ _)
theorem E.add_zero (a:E):a+0=a:=E.same (Nat.xor_zero _)
theorem E.zero_add (a:E):0+a=a:=E.same (Nat.zero_xor _)
theorem E.add_self (a:E):a+a=0:=E.same (Nat.xor_self _)
theorem E.mul_comm (a b:E):a*b=b*a:=E.same (a6s _ _ a.h b.h)
theorem E.mul_assoc (a b c:E):a*b*c=a*(b*c):=E.same (a7k _ _ _ a.h b.h c.h).symm
theorem E.mul_add (a b c:E):a*(b+c)=a*b+a*c:=E.same (a6q _ _ _)
theorem E.add_mul (a b c:E):(a+b)*c=a*c+b*c:=E.same (a6r _ _ _)
theorem E.mul_one (a:E):a*1=a:=E.same (b5q _)
theorem E.one_mul (a:E):1*a=a:=E.same (a9m _ a.h)
theorem E.mul_zero (a:E):a*0=0:=E.same (b1a _)
theorem E.zero_mul (a:E):0*a=0:=E.same (b5y _ a.h)
theorem E.mul_inv (a:E)(h:a≠0):a*a.inv=1:=E.same (c9f _ a.h (E.ne_v h))
theorem E.inv_ne (a:E)(h:a≠0):a.inv≠0:=λe=>e2r a.v a.h (E.ne_v h) (congrArg E.v e)
theorem E.mul_ne (a b:E)(ha:a≠0)(hb:b≠0):a*b≠0:=λe=>by
 rcases(b5r a.v b.v a.h b.h).1 (congrArg E.v e)with h|h
 ·exact ha (E.zero_of h)
 ·exact hb (E.zero_of h)
theorem E.one_ne:(1:E)≠0:=λe=>by have:=congrArg E.v e;cases this
instance:Std.Associative (α:=E) (·+·):=⟨E.add_assoc⟩
instance:Std.Commutative (α:=E) (·+·):=⟨E.add_comm⟩
instance:Std.Associative (α:=E) (·*·):=⟨E.mul_assoc⟩
instance:Std.Commutative (α:=E) (·*·):=⟨E.mul_comm⟩
theorem E.of_add {a b:E}(h:a+b=0):a=b:=by
 have:a+b+b=b:=by rw[h,E.zero_add]
 rwa[E.add_assoc,E.add_self,E.add_zero]at this
def S (n:Nat)(f:Nat->E):E:=
 match n with
 |0=>0
 |k+1=>S k f+f k
theorem a0w {n:Nat}{f g:Nat->E}(h:∀i,i<n->f i=g i):S n f=S n g:=by
 induction n with
 |zero=>rfl
 |succ k ih=>simp only[S];rw[ih λi hi=>h i (by omega),h k (by omega)]
theorem c6z {n:Nat}{f:Nat->E}(h:∀i,i<n->f i=0):S n f=0:=by
 induction n with
 |zero=>rfl
 |succ k ih=>simp only[S];rw[ih λi hi=>h i (by omega),h k (by omega),E.add_zero]
theorem d0e (n:Nat)(f g:Nat->E):S n (λi=>f i+g i)=S n f+S n g:=by
 induction n with
 |zero=>exact(E.add_zero 0).symm
 |succ k ih=>simp only[S];rw[ih];ac_rfl
theorem c7a (n:Nat)(a:E)(f:Nat->E):S n (λi=>a*f i)=a*S n f:=by
 induction n with
 |zero=>exact(E.mul_zero a).symm
 |succ k ih=>simp only[S];rw[ih,E.mul_add]
theorem e3b (n:Nat)(a:E)(f:Nat->E):S n (λi=>f i*a)=S n f*a:=by
 induction n with
 |zero=>exact(E.zero_mul a).symm
 |succ k ih=>simp only[S];rw[ih,E.add_mul]
theorem e3a (n m:Nat)(f:Nat->Nat->E):S n (λi=>S m (λj=>f i j))=S m (λj=>S n (λi=>f i j)):=by
 induction n with
 |zero=>exact(c6z λ_ _=>rfl).symm
 |succ k ih=>simp only[S];rw[ih,d0e]
theorem d0d {n i:Nat}{f:Nat->E}(hi:i<n)(h:∀k,k<n->k≠i->f k=0):S n f=f i:=by
 induction n with
 |zero=>omega
 |succ k ih=>
  simp only[S];by_cases e:i=k
  ·subst e;rw[c6z λj hj=>h j (by omega) (by omega),E.zero_add]
  ·rw[ih (by omega) λj hj=>h j (by omega),h k (by omega) (by omega),E.add_zero]
abbrev Mx:=Nat->Nat->E
def idM:Mx:=λr c=>if r=c then 1 else 0
def mulM (n:Nat)(A B:Mx):Mx:=λr c=>S n λk=>A r k*B k c
theorem c4v {n r:Nat}(hr:r<n)(f:Nat->E):S n (λk=>idM r k*f k)=f r:=by
 rw[d0d hr λk _ hk=>by simp[idM,Ne.symm hk,E.zero_mul]];simp[idM,E.one_mul]
theorem f0c {n c:Nat}(hc:c<n)(f:Nat->E):S n (λk=>f k*idM k c)=f c:=by
 rw[d0d hc λk _ hk=>by simp[idM,hk,E.mul_zero]];simp[idM,E.mul_one]
theorem c9a (n m:Nat)(A B C:Mx)(r c:Nat):mulM m (mulM n A B) C r c=mulM n A (mulM m B C) r c:=by
 unfold mulM;rw[a0w (g:=λj=>S n λk=>A r k*B k j*C j c) λj _=>(e3b n _ _).symm,
  a0w (n:=n) (g:=λk=>S m λj=>A r k*(B k j*C j c)) λk _=>(c7a m _ _).symm,e3a]
 exact a0w λk _=>a0w λj _=>E.mul_assoc _ _ _
def a9a (i:Nat)(s:E)(W:Mx):Mx:=λr c=>if r=i then s*W i c else W r c
def addR (i j:Nat)(s:E)(W:Mx):Mx:=λr c=>if r=j then W j c+s*W i c else W r c
inductive Reach (n m:Nat)(W:Mx):Mx->Prop
 |refl:Reach n m W W
 |same {U V:Mx}:Reach n m W U->(∀r,r<n->∀c,c<m->V r c=U r c)->Reach n m W V
 |scale {U:Mx} (i:Nat) (s:E):Reach n m W U->i<n->s≠0->Reach n m W (a9a i s U)
 |add {U:Mx} (i j:Nat) (s:E):Reach n m W U->i<n->j<n->i≠j->Reach n m W (addR i j s U)
theorem Reach.trans {n m:Nat}{W U V:Mx}(h:Reach n m W U)(k:Reach n m U V):Reach n m W V:=by
 induction k with
 |refl=>exact h
 |same _ e ih=>exact .same ih e
 |scale i s _ hi hs ih=>exact .scale i s ih hi hs
 |add i j s _ hi hj qL ih=>exact .add i j s ih hi hj qL
theorem Reach.symm {n m:Nat}{W U:Mx}(h:Reach n m W U):Reach n m U W:=by
 induction h with
 |refl=>exact .refl
 |@same U V _ e ih=>exact(Reach.same (U:=V) .refl λr hr c hc=>(e r hr c hc).symm).trans ih
 |@scale U i s _ hi hs ih=>
  refine((Reach.scale i s.inv Reach.refl hi (E.inv_ne s hs)).same (V:=U) λr _ c _=>?_).trans ih;simp only[a9a];by_cases e:r=i
  ·subst e;rw[qp rfl,qp trivial,<-E.mul_assoc,E.mul_comm s.inv,E.mul_inv s hs,E.one_mul]
  ·rw[qn e,qn e]
 |@add U i j s _ hi hj qL ih=>
  refine((Reach.add i j s Reach.refl hi hj qL).same (V:=U) λr _ c _=>?_).trans ih;simp only[addR];by_cases e:r=j
  ·subst e;rw[qp rfl,qp trivial,qn qL,E.add_assoc,E.add_self,E.add_zero]
  ·rw[qn e,qn e]
def b1r (i j:Nat)(W:Mx):Mx:=λr c=>if r=i then W j c else if r=j then W i c else W r c
theorem Reach.swap {n m:Nat}{W U:Mx}(h:Reach n m W U)(i j:Nat)(hi:i<n)(hj:j<n):Reach n m W (b1r i j U):=by
 by_cases e:i=j
 ·subst e;refine h.same λr _ c _=>?_;simp only[b1r];by_cases e:r=i
  ·subst e;rw[qp rfl]
  ·rw[qn e,qn e]
 ·refine(((h.add i j 1 hi hj e).add j i 1 hj hi (Ne.symm e)).add i j 1 hi hj e).same λr _ c _=>?_;simp only[b1r,addR,E.one_mul];by_cases e1:r=i
  ·subst e1;simp only[if_true,qn e];rw[<-E.add_assoc,E.add_comm (U r c),E.add_assoc,E.add_self,E.add_zero]
  ·by_cases e2:r=j
   ·subst e2;simp only[if_true,qn e1,qn e];have:U r c+U i c+(U i c+(U r c+U i c))=(U r c+U r c)+(U i c+U i c)+U i c:=(by ac_rfl);rw[this,E.add_self,E.add_self,E.add_zero,E.zero_add]
   ·simp only[qn e1,qn e2]
theorem Reach.comb {n m:Nat}{W U:Mx}(h:Reach n m W U):∃F:Mx,∀r,r<n->∀c,c<m->U r c=S n λk=>F r k*W k c:=by
 induction h with
 |refl=>exact⟨idM,λr hr c _=>(c4v hr λk=>W k c).symm⟩
 |same _ e ih=>
  obtain⟨F,hF⟩:=ih;exact⟨F,λr hr c hc=>(e r hr c hc).trans (hF r hr c hc)⟩
 |scale i s _ hi hs ih=>
  obtain⟨F,hF⟩:=ih;refine⟨a9a i s F,λr hr c hc=>?_⟩;simp only[a9a];by_cases e:r=i
  ·subst e;simp only[if_true];rw[hF r hr c hc,<-c7a];exact a0w λk _=>(E.mul_assoc _ _ _).symm
  ·simp only[qn e];exact hF r hr c hc
 |add i j s _ hi hj qL ih=>
  obtain⟨F,hF⟩:=ih;refine⟨addR i j s F,λr hr c hc=>?_⟩;simp only[addR];by_cases e:r=j
  ·subst e;simp only[if_true];rw[hF r hr c hc,hF i hi c hc,<-c7a,<-d0e];exact a0w λk _=>by rw[E.add_mul,E.mul_assoc]
  ·simp only[qn e];exact hF r hr c hc
def a6g (n:Nat)(A:Mx):Mx:=λr c=>if c<n then A r c else idM r (c-n)
def a7s (n:Nat)(W:Mx):Mx:=λr c=>W r (n+c)
theorem c8m {n:Nat}{A U:Mx}(h:Reach n (2*n) (a6g n A) U)(hu:∀r,r<n->∀c,c<n->U r c=idM r c):
 (∀r,r<n->∀c,c<n->mulM n (a7s n U) A r c=idM r c)/\(∀r,r<n->∀c,c<n->mulM n A (a7s n U) r c=idM r c):=by
 constructor
 ·intro r hr c hc;obtain⟨F,hF⟩:=h.comb;have h1:∀j,j<n->a7s n U r j=F r j:=λj hj=>by
   have:=hF r hr (n+j) (by omega);simp only[a6g,qn (show ¬n+j<n by omega),Nat.add_sub_cancel_left]at this;rw[f0c hj]at this;exact this
  have h2:=hF r hr c (by omega);simp only[a6g,qp hc]at h2;rw[hu r hr c hc]at h2;rw[h2];exact a0w λk hk=>by rw[h1 k hk]
 ·intro r hr c hc;obtain⟨F,hF⟩:=h.symm.comb;have h1:∀j,j<n->A r j=F r j:=λj hj=>by
   have:=hF r hr j (by omega);simp only[a6g,qp hj]at this;rw[this,a0w (g:=λk=>F r k*idM k j) λk hk=>by rw[hu k hk j hj],f0c hj]
  have h2:=hF r hr (n+c) (by omega);simp only[a6g,qn (show ¬n+c<n by omega),Nat.add_sub_cancel_left]at h2;rw[h2];exact a0w λk hk=>by rw[h1 k hk];rfl
theorem b9j {n m c:Nat}{A U:Mx}(h:Reach n m A U)(hm:n<=m)(hc:c<n)(hu:∀r,r<n->∀j,j<c->U r j=idM r j)
 (hz:∀r,c<=r->r<n->U r c=0):∃v:Nat->E,v c=1/\∀r,r<n->S n (λj=>A r j*v j)=0:=by
 refine⟨λj=>if j<c then U j c else if j=c then 1 else 0,by simp,λr hr=>?_⟩;obtain⟨F,hF⟩:=h.symm.comb;rw[a0w (g:=λj=>S n λk=>F r k*(U k j*(if j<c then U j c else if j=c then 1 else 0))) λj hj=>by
  rw[hF r hr j (by omega),<-e3b];exact a0w λk _=>E.mul_assoc _ _ _,e3a]
 refine c6z λk hk=>?_;rw[c7a];have:S n (λj=>U k j*(if j<c then U j c else if j=c then 1 else 0))=0:=by
  have e:∀j,j<n->U k j*(if j<c then U j c else if j=c then 1 else 0)=(if k<c then idM k j*U j c else 0)+idM c j*U k j:=by
   intro j hj;by_cases h1:j<c
   ·rw[qp h1,hu k hk j h1];have:idM c j=0:=(by simp[idM];intro;omega);rw[this,E.zero_mul,E.add_zero];by_cases h2:k<c
    ·rw[qp h2]
    ·rw[qn h2];have:idM k j=0:=(by simp[idM];intro;omega);rw[this,E.zero_mul]
   ·rw[qn h1];by_cases h2:j=c
    ·subst h2;rw[qp rfl,E.mul_one];have:idM j j=1:=(by simp[idM]);rw[this,E.one_mul];by_cases h3:k<j
     ·have:idM k j=0:=(by simp[idM];intro;omega);rw[qp h3,this,E.zero_mul,E.zero_add]
     ·rw[qn h3,E.zero_add]
    ·rw[qn h2,E.mul_zero];have:idM c j=0:=(by simp[idM];intro;omega);rw[this,E.zero_mul,E.add_zero];by_cases h3:k<c
     ·have:idM k j=0:=(by simp[idM];intro;omega);rw[qp h3,this,E.zero_mul]
     ·rw[qn h3]
  rw[a0w e,d0e,c4v hc];by_cases h3:k<c
  ·rw[a0w (g:=λj=>idM k j*U j c) λj _=>qp h3,c4v hk,E.add_self]
  ·rw[a0w (g:=λ_=>0) λj _=>qn h3,c6z λ_ _=>rfl,hz k (by omega) hk,E.add_zero]
 rw[this,E.mul_zero]
def skip (c k:Nat):Nat:=if k<c then k else k+1
def D (n:Nat)(M:Mx):E:=
 match n with
 |0=>1
 |k+1=>S (k+1) λc=>M 0 c*D k λr j=>M (r+1) (skip c j)
def pw (a:E)(n:Nat):E:=⟨gp a.v n,a7o _ _ a.h⟩
open Go.RowKit
theorem a0p {w:World}{b o:Nat}{v:Value}(h:w.cell? ⟨b,o,none⟩=some v):b<w.heap.size:=by
 rcases Nat.lt_or_ge b w.heap.size with h'|h'
 ·exact h'
 ·simp[World.cell?,Array.getElem?_eq_none h']at h
def Vals (w:World)(a:Option Addr)(n:Nat)(V:Nat->Value):Prop:=
 n=0\/∃b o,a=some ⟨b,o,none⟩/\∀i,i<n->w.cell? ⟨b,o+i,none⟩=some (V i)
theorem Vals.below {w w':World}{a:Option Addr}{n base:Nat}{V:Nat->Value}(h:Vals w a n V)(hb:Below base w w')(hs:w.heap.size<=base):Vals w' a n V:=by
 rcases h with h|⟨b,o,rfl,h⟩
 ·exact .inl h
 ·exact .inr ⟨b,o,rfl,λi hi=>(hb.cell (p:=⟨b,o+i,none⟩) (Nat.lt_of_lt_of_le (a0p (h i hi)) hs)).trans (h i hi)⟩
def a1w (x:E):Value:=.int .u8 (x.v:Int)
def e1s (w:World)(a:Option Addr)(n:Nat)(f:Nat->E):Prop:=Vals w a n λi=>a1w (f i)
def MatIn (w:World)(a:Option Addr)(n:Nat)(L:Nat->Nat)(X:Mx)(AR:Nat->Option Addr)(CR:Nat->Nat):Prop:=
 Vals w a n (λr=>.slice (AR r) (L r) (CR r))/\∀r,r<n->L r<=maxLen/\e1s w (AR r) (L r) (X r)
def MatAt (w:World)(a:Option Addr)(n:Nat)(L:Nat->Nat)(X:Mx):Prop:=∃AR CR,MatIn w a n L X AR CR
theorem MatIn.below {w w':World}{a:Option Addr}{n:Nat}{L:Nat->Nat}{X:Mx}{AR:Nat->Option Addr}{CR:Nat->Nat}(h:MatIn w a n L X AR CR)(hb:Below w.heap.size w w'):MatIn w' a n L X AR CR:=
 ⟨h.1.below hb (ql _),λr hr=>⟨(h.2 r hr).1,(h.2 r hr).2.below hb (ql _)⟩⟩
theorem MatAt.below {w w':World}{a:Option Addr}{n:Nat}{L:Nat->Nat}{X:Mx}(h:MatAt w a n L X)(hb:Below w.heap.size w w'):MatAt w' a n L X:=by
 obtain⟨AR,CR,h⟩:=h;exact⟨AR,CR,h.below hb⟩
def c0j (p:Nat->Bool)(n:Nat):Nat->Int
 |0=>-1
 |k+1=>if p (n-(k+1))then(n-(k+1):Nat)else c0j p n k
def first(p:Nat->Bool)(n:Nat):Int:=c0j p n n
theorem c4g (p:Nat->Bool)(n k:Nat)(hk:k<=n):(c0j p n k=-1/\∀i,n-k<=i->i<n->p i=false)\/∃i:Nat,c0j p n k=i/\i<n/\p i=true/\∀j,n-k<=j->j<i->p j=false:=by
 induction k with
 |zero=>exact .inl ⟨rfl,λi h1 h2=>by omega⟩
 |succ k ih=>
  unfold c0j;by_cases h:p (n-(k+1))=true
  ·rw[qp h];exact .inr ⟨_,rfl,by omega,h,λj h1 h2=>by omega⟩
  ·rw[qn h];have h':p (n-(k+1))=false:=(by simpa using h);rcases ih (by omega)with⟨h1,h2⟩|⟨i,h1,h2,h3,h4⟩
   ·refine .inl ⟨h1,λi h3 h4=>?_⟩;by_cases e:i=n-(k+1)
    ·rw[e];exact h'
    ·exact h2 i (by omega) h4
   ·refine .inr ⟨i,h1,h2,h3,λj h5 h6=>?_⟩;by_cases e:j=n-(k+1)
    ·rw[e];exact h'
    ·exact h4 j (by omega) h6
theorem a5o (p:Nat->Bool)(n:Nat):(first p n=-1/\∀i,i<n->p i=false)\/∃i:Nat,first p n=i/\i<n/\p i=true/\∀j,j<i->p j=false:=by
 rcases c4g p n n (ql _)with⟨h1,h2⟩|⟨i,h1,h2,h3,h4⟩
 ·exact .inl ⟨h1,λi hi=>h2 i (by omega) hi⟩
 ·exact .inr ⟨i,h1,h2,h3,λj hj=>h4 j (by omega) hj⟩
theorem a9r (K:Nat)(hK:K=157\/K=216)(cap:Array Value)(a:Option Addr)(n ca:Nat)(V:Nat->Value)(p:Nat->Bool)(w:World)(hn:n<=maxLen)(ha:Vals w a n V)
 (hp:∀r,r<n->Calls prog K (#[V r]++cap) w λe w'=>e=.returned (.bool (p r))/\w'=w):
 Calls prog 198 #[.slice a n ca,.func (.func K) #[] cap] w λe w'=>e=.returned (.int .i64 (first p n))/\w'=w:=by
 unfold maxLen at hn;have hs:=a5o p n;generalize first p n=z at hs
 rcases hK with rfl|rfl
 all_goals
  go_enter func198,ntmps198;go_wp2_with fail;go_loop [8] (λi=>∃k:Nat,k<=n/\i=.int .i64 k/\∀j,j<k->p j=false) (λi=>(n:Nat)-(intOf i).toNat)
  case atStart=>exact⟨0,Nat.zero_le _,rfl,λj hj=>by omega⟩
  case round=>
   obtain⟨k,hk,rfl,y7⟩:=hrel;by_cases p9:k<n
   ·rcases ha with h0|⟨b,o,rfl,ha⟩
    ·omega
    have x5:=ha k p9;go_wp2_with fail;refine(hp k p9).mono ?_;rintro e w' ⟨rfl,rfl⟩
    cases bH:p k
    ·go_wp2_with fail;go_round
     case rel=>exact⟨k+1,by omega,by go_num,λj hj=>by
      by_cases e:j=k
      ·rw[e];exact bH
      ·exact y7 j (by omega)⟩
     case measure=>simp[intOf];omega
    ·have hz:z=(k:Int):=by
      rcases hs with⟨_,h2⟩|⟨i,h1,h2,h3,h4⟩
      ·rw[h2 k p9]at bH;cases bH
      ·rw[h1];rcases Nat.lt_trichotomy i k with h|h|h
       ·rw[y7 i h]at h3;cases h3
       ·rw[h]
       ·rw[h4 k h]at bH;cases bH
     subst hz;go_wp2_with fail;go_ret;exact⟨rfl,rfl⟩
   ·have hz:z=-1:=by
     rcases hs with⟨h1,_⟩|⟨i,h1,h2,h3,h4⟩
     ·exact h1
     ·rw[y7 i (by omega)]at h3;cases h3
    subst hz;go_wp2_with fail;go_ret;exact⟨rfl,rfl⟩
def Gd (n:Nat)(L:Nat->Nat):Prop:=1<=n/\n<=16/\1<=L 0/\L 0<=16/\∀r,r<n->L r=L 0
theorem a1t (n:Int)(g:Bool)(hg:g=true↔(1<=n/\n<=16))(w:World):Calls prog 155 #[.int .i64 n] w λe w'=>e=.returned (.bool g)/\w'=w:=by
 by_cases h1:1<=n
 ·by_cases h2:n<=16
  ·obtain rfl:g=true:=hg.2 ⟨h1,h2⟩;clear hg;go_enter func155,ntmps155;go_wp2;go_ret;exact⟨rfl,rfl⟩
  ·obtain rfl:g=false:=by
    cases g with
    |false=>rfl
    |true=>exact absurd (hg.1 rfl).2 h2
   clear hg;go_enter func155,ntmps155;go_wp2;go_ret;exact⟨rfl,rfl⟩
 ·obtain rfl:g=false:=by
   cases g with
   |false=>rfl
   |true=>exact absurd (hg.1 rfl).1 h1
  clear hg;go_enter func155,ntmps155;go_wp2;go_ret;exact⟨rfl,rfl⟩
theorem d4q (ar:Option Addr)(l cr m c:Nat)(w:World)(hl:l<=maxLen)(hm:w.cell? ⟨m,0,none⟩=some (.int .i64 (c:Int))):
 Calls prog 157 #[.slice ar l cr,.pointer (some ⟨m,0,none⟩)] w λe w'=>e=.returned (.bool (l !=c))/\w'=w:=by
 unfold maxLen at hl;obtain⟨q,hq⟩:∃q,(l !=c)=q:=⟨_,rfl⟩;have hq':((l:Int) !=(c:Int))=q:=by
  rw[<-hq];by_cases h:l=c
  ·subst h;simp
  ·have h1:(l !=c)=true:=(by simpa using h);have h2:((l:Int) !=(c:Int))=true:=(by simp;omega);rw[h1,h2]
 rw[hq];clear hq;go_enter func157,ntmps157;go_wp2;go_ret;exact⟨by rw[<-hq'];rfl,rfl⟩
theorem b1v (cap:Array Value)(a:Option Addr)(n ca:Nat)(V:Nat->Value)(p:Nat->Bool)(w:World)(hn:n<=maxLen)(ha:Vals w a n V)
 (hp:∀r,r<n->Calls prog 157 (#[V r]++cap) w λe w'=>e=.returned (.bool (p r))/\w'=w)(g:Bool)(hg:g=true↔∃r,r<n/\p r=true):
 Calls prog 156 #[.slice a n ca,.func (.func 157) #[] cap] w λe w'=>e=.returned (.bool g)/\w'=w:=by
 have hi:=a9r 157 (by decide) cap a n ca V p w hn ha hp;have hs:=a5o p n;generalize first p n=z at hs hi
 have hz:decide ((0:Int)<=z)=g:=by
  rcases hs with⟨h1,h2⟩|⟨i,h1,h2,h3,h4⟩
  ·cases g with
   |false=>rw[h1];decide
   |true=>
    obtain⟨r,hr,h⟩:=hg.1 rfl;rw[h2 r hr]at h;cases h
  ·rw[hg.2 ⟨i,h2,h3⟩,h1];exact decide_eq_true (by omega)
 clear hs hg hp ha;go_enter func156,ntmps156;go_wp2_with fail;go_at_call 198;refine hi.mono ?_;rintro e w' ⟨rfl,rfl⟩;go_wp2_with fail;go_ret;exact⟨by rw[<-hz];rfl,rfl⟩
theorem a7j (a:Option Addr)(n ca:Nat)(L:Nat->Nat)(X:Mx)(w:World)(hn:n<=maxLen)(ha:MatAt w a n L X)(g:Bool)(hg:g=true↔Gd n L):
 Calls prog 106 #[.slice a n ca] w λe w'=>e=.returned (.bool g)/\Below w.heap.size w w':=by
 obtain⟨AR,CR,hv,hr⟩:=ha;have hn':=hn;unfold maxLen at hn;have hmf:∀(fn:Fn) (first cap:Array Value) (w:World),(Instr.makeFunc fn first cap).run prog w=.ok (.func fn first cap) w:=λ_ _ _ _=>rfl;have no:∀P:Prop,(Gd n L->P)->¬P->g=false:=λP h1 h2=>by
  cases g with
  |false=>rfl
  |true=>exact absurd (h1 (hg.1 rfl)) h2
 by_cases h1:1<=n/\n<=16
 ·rcases hv with h0|⟨b,o,rfl,hv⟩
  ·omega
  obtain⟨ar0,l0,cr0,hc0,HL⟩:∃ar l cr,w.cell? ⟨b,o,none⟩=some (.slice ar l cr)/\Hid (L 0=l):=⟨_,_,_,hv 0 (by omega),(rfl:L 0=L 0)⟩;have hl0:l0<=9223372036854775807:=by have:=(hr 0 (by omega)).1;rw[HL.out]at this;unfold maxLen at this;omega
  by_cases h2:1<=l0/\l0<=16
  ·have p9:b<w.heap.size:=a0p hc0;have t8:Below w.heap.size w (w.alloc (.cells #[.int .i64 (l0:Int)] 3 (0,0))):=
    (qw _ _).alloc (ql _) _
   have cO:=λ(w1:World) (h:Below w.heap.size w w1) (hm:w1.cell? ⟨w.heap.size,0,none⟩=some (.int .i64 (l0:Int)))=>
    b1v #[.pointer (some ⟨w.heap.size,0,none⟩)] (some ⟨b,o,none⟩) n ca (λr=>.slice (AR r) (L r) (CR r)) (λr=>L r !=l0) w1 hn'
     (Vals.below (.inr ⟨b,o,rfl,hv⟩) h (ql _)) (λr h=>d4q (AR r) (L r) (CR r) w.heap.size l0 w1 (hr r h).1 hm) (!g) (by
      have e:g=true↔∀r,r<n->L r=l0:=by
       rw[hg];unfold Gd;rw[HL.out];exact⟨λh=>h.2.2.2.2,λh=>⟨h1.1,h1.2,h2.1,h2.2,h⟩⟩
      cases g with
      |true=>
       have h':=e.1 rfl;simp only[Bool.not_true,Bool.false_eq_true,false_iff,not_exists,not_and];intro r h hh;rw[h' r h]at hh;simp at hh
      |false=>
       simp only[Bool.not_false,true_iff];apply Classical.byContradiction;intro hh;have:(false:Bool)=true:=e.2 λr h=>by
        apply Classical.byContradiction;intro h3;exact hh ⟨r,h,by simpa using h3⟩
       cases this)
   clear hg no hv hr;have hb1:∀w,Calls prog 155 #[.int .i64 (n:Int)] w λe w'=>e=.returned (.bool true)/\w'=w:=λw=>a1t n true (by simp;omega) w;have hb2:∀w,Calls prog 155 #[.int .i64 (l0:Int)] w λe w'=>e=.returned (.bool true)/\w'=w:=λw=>a1t l0 true (by simp;omega) w;go_enter func106,ntmps106;go_wp2_with fail;go_at_call 155;refine(hb1 _).mono ?_;rintro e w' ⟨rfl,rfl⟩;go_wp2_with fail;go_at_call 155;refine(hb2 _).mono ?_;rintro e w' ⟨rfl,rfl⟩;go_wp2_with fail;go_at_call 156;refine(cO _ t8 (by go_simp)).mono ?_;rintro e w' ⟨rfl,rfl⟩;go_wp2_with fail;go_ret;exact⟨by simp,t8⟩
  ·obtain rfl:=no (1<=L 0/\L 0<=16) (λh=>⟨h.2.2.1,h.2.2.2.1⟩) (by rw[HL.out];exact h2);clear hg no hv hr;have hb1:∀w,Calls prog 155 #[.int .i64 (n:Int)] w λe w'=>e=.returned (.bool true)/\w'=w:=λw=>a1t n true (by simp;omega) w;have hb2:∀w,Calls prog 155 #[.int .i64 (l0:Int)] w λe w'=>e=.returned (.bool false)/\w'=w:=λw=>a1t l0 false (by simp;omega) w;go_enter func106,ntmps106;go_wp2_with fail;go_at_call 155;refine(hb1 _).mono ?_;rintro e w' ⟨rfl,rfl⟩;go_wp2_with fail;go_at_call 155;refine(hb2 _).mono ?_;rintro e w' ⟨rfl,rfl⟩;go_wp2_with fail;go_ret;exact⟨rfl,qw _ _⟩
 ·obtain rfl:=no (1<=n/\n<=16) (λh=>⟨h.1,h.2.1⟩) h1;clear hg no hv hr;have hb1:∀w,Calls prog 155 #[.int .i64 (n:Int)] w λe w'=>e=.returned (.bool false)/\w'=w:=λw=>a1t n false (by simp;omega) w;go_enter func106,ntmps106;go_wp2_with fail;go_at_call 155;refine(hb1 _).mono ?_;rintro e w' ⟨rfl,rfl⟩;go_wp2_with fail;go_ret;exact⟨rfl,qw _ _⟩
theorem a6l {w w':World}{base:Nat}{e:TypeId}{size g n cap B:Nat}{xs:List Value}(h:w.ownsRow base e size (.slice (some ⟨g,0,none⟩) n cap) n xs)(hb:Below B w w')(hg:g<B):
 w'.ownsRow base e size (.slice (some ⟨g,0,none⟩) n cap) n xs:=by
 refine⟨h.1,?_⟩;rcases h.2 with⟨hn,_⟩|⟨g',cap',cur,hv,hg0,hg',rest⟩
 ·cases hn
 ·cases hv
  exact .inr ⟨_,_,cur,rfl,hg0,(hb.block _ hg).trans hg',rest⟩
theorem a2j {w:World}{base:Nat}{e:TypeId}{size g n cap:Nat}{xs:List Value}(h:w.ownsRow base e size (.slice (some ⟨g,0,none⟩) n cap) n xs):base<=g/\g<w.heap.size:=h.lt g rfl
def a0l (m:Nat)(f:Nat->E):List Value:=(List.range m).map λc=>a1w (f c)
def rowV (m:Nat)(G:Nat->Nat)(r:Nat):Value:=.slice (some ⟨G r,0,none⟩) m m
structure OwnM (w:World)(base g n m k:Nat)(G:Nat->Nat)(X:Mx):Prop where
 top:w.ownsRow base 22 1 (.slice (some ⟨g,0,none⟩) n n) n (filled n k (rowV m G) (.slice none 0 0))
 rows:∀r,r<k->g<G r/\w.ownsRow base 5 1 (.slice (some ⟨G r,0,none⟩) m m) m (a0l m (X r))
 up:∀i j,i<j->j<k->G i<G j
theorem OwnM.mat {w:World}{base g n m:Nat}{G:Nat->Nat}{X:Mx}(h:OwnM w base g n m n G X)(hm:m<=maxLen):MatAt w (some ⟨g,0,none⟩) n (λ_=>m) X:=by
 refine⟨λr=>some ⟨G r,0,none⟩,λ_=>m,.inr ⟨g,0,rfl,λr hr=>?_⟩,λr hr=>⟨hm,.inr ⟨G r,0,rfl,λc hc=>?_⟩⟩⟩
 ·have:=h.top.cellAt r (by omega);rw[a1m]at this;rw[Nat.zero_add,this];simp[hr,rowV]
 ·have hc':c<m:=hc;have:=(h.rows r hr).2.cellAt c (by omega);rw[Nat.zero_add,this];simp[hc',a0l]
theorem info22:(prog.info? 22).map (λi=>(i.zero,i.size,i.bytes))=some (some (.slice none 0 0),1,24):=by kernel_rfl
theorem c6h (K:Nat)(hK:K=184\/K=162)(cap:Array Value)(n m:Nat)(h1:1<=n)(h2:n<=16)(h3:1<=m)(h4:m<=16)(X:Mx)(w:World)
 (aL:∀r,r<n->∀c,c<m->∀w1,Below w.heap.size w w1->Calls prog K (#[.int .i64 (r:Int),.int .i64 (c:Int)]++cap) w1 λe w'=>e=.returned (a1w (X r c))/\w'=w1):
 Calls prog 161 #[.int .i64 (n:Int),.int .i64 (m:Int),.func (.func K) #[] cap] w λe w'=>∃g G,e=.returned (.slice (some ⟨g,0,none⟩) n n)/\OwnM w' w.heap.size g n m n G X/\Below w.heap.size w w':=by
 obtain⟨i0,hi,hz0,hz1,hz2⟩:=info_parts info5;obtain⟨j0,hj,hy0,hy1,hy2⟩:=info_parts info22;have iP:Hid (∀r,r<n->∀c,c<m->∀w1,Below w.heap.size w w1->Calls prog K (#[.int .i64 (r:Int),.int .i64 (c:Int)]++cap) w1 λe w'=>e=.returned (a1w (X r c))/\w'=w1):=aL;clear aL;rcases hK with rfl|rfl
 all_goals
  go_enter func161,ntmps161;go_wp2_with(at_make;refine wpList_make_full _ rfl _ _ 134 rfl w.heap.size 22 j0 (.slice none 0 0) 1 underlying134 hj hy0 hy1 _ _ _ _ n rfl rfl ?c0 ?c1 ?c2 ?c3 ?c4 ?_)
  case c0=>rfl
  case c1=>rfl
  case c2=>rw[hy2];omega
  case c3=>unfold maxLen;omega
  case c4=>exact ql _
  intro w1 q8 q9;have t8:Below w.heap.size w w1:=(qw _ _).grown q9 (ql _) (λk h=>by cases h);rw[toList_madeCells_one,<-a1l n (rowV m λ_=>0)]at q8;go_wp2_with fail;go_loopw[14] (λi wr=>∃k:Nat,k<=n/\i=.int .i64 k/\Below w.heap.size w wr/\∃G,OwnM wr w.heap.size w.heap.size n m k G X) (λi _=>(n:Nat)-(intOf i).toNat)
  case atStart=>exact⟨0,Nat.zero_le _,rfl,t8,λ_=>0,⟨q8,λr hr=>by omega,λi j _ _=>by omega⟩⟩
  case round=>
   obtain⟨k,hk,rfl,x6,G,hO⟩:=hrel;by_cases p9:k<n
   ·obtain⟨v0,x5⟩:∃v0,wr.cell? ⟨w.heap.size,k,none⟩=some v0:=by
     rw[hO.top.cellAt k (by omega)];exact⟨_,List.getElem?_eq_getElem (by simp[filled];exact p9)⟩
    have eC:=hO.top.frozenAt k;obtain⟨g',hg'⟩:∃g',wr.heap.size=g':=⟨_,rfl⟩;have cL:w.heap.size<g':=(by rw[<-hg'];exact(a2j hO.top).2);go_wp2_with(at_make;refine wpList_make_full _ rfl _ _ 22 rfl w.heap.size 5 i0 (.int .u8 0) 1 underlying22 hi hz0 hz1 _ _ _ _ m rfl rfl ?c0 ?c1 ?c2 ?c3 ?c4 ?_)
    case c0=>rfl
    case c1=>rfl
    case c2=>rw[hz2];omega
    case c3=>unfold maxLen;omega
    case c4=>exact x6.size
    intro w2 aB bQ;have aV:Below g' wr w2:=(by rw[<-hg'];exact(qw _ _).grown bQ (ql _) (λk h=>by cases h));rw[toList_madeCells_one,<-a1l m (λc=>a1w (X k c))]at aB;have cX:=a6l hO.top aV cL;have hc2:w2.cell? ⟨w.heap.size,k,none⟩=some v0:=(aV.cell (p:=⟨w.heap.size,k,none⟩) cL).trans x5;have hf2:=cX.frozenAt k;have fM:=cX.stored k (.slice (some ⟨g',0,none⟩) m m);go_wp2_with fail;obtain⟨w3,hw3⟩:∃w3,w3=w2.setCell ⟨w.heap.size,k,none⟩ (.slice (some ⟨g',0,none⟩) m m):=⟨_,rfl⟩;rw[<-hw3]at fM⊢;have dV:Below w.heap.size w w3:=(by rw[hw3];exact(x6.trans (aV.mono (by rw[<-hg'];exact x6.size))).setCell (ql _) _);have aU:w3.ownsRow w.heap.size 5 1 (.slice (some ⟨g',0,none⟩) m m) m (filled m 0 (λc=>a1w (X k c)) (.int .u8 0)):=by
     rw[hw3];exact ownsRow_setCell_other aB (by simp[Value.ownBlock];omega) _
    have gE:∀r,r<k->w3.ownsRow w.heap.size 5 1 (.slice (some ⟨G r,0,none⟩) m m) m (a0l m (X r)):=λr hr=>by
     have h0:=hO.rows r hr;rw[hw3];exact ownsRow_setCell_other (a6l h0.2 aV (by rw[<-hg'];exact(a2j h0.2).2)) (by simp[Value.ownBlock];omega) _
    have hc3:=fM.1.cellAt k (by omega);rw[List.getElem?_set_self (by simp[filled];exact p9)]at hc3;clear hw3 hc2 hf2 cX aB q8 x5 eC;go_loopw[27] (λi wi=>∃j:Nat,j<=m/\i=.int .i64 j/\Below g' w3 wi/\wi.ownsRow w.heap.size 5 1 (.slice (some ⟨g',0,none⟩) m m) m (filled m j (λc=>a1w (X k c)) (.int .u8 0))) (λi _=>(m:Nat)-(intOf i).toNat)
    case atStart=>exact⟨0,Nat.zero_le _,rfl,qw _ _,aU⟩
    case round=>
     obtain⟨j,hj,rfl,kY,rU⟩:=hrel;have tH:wr.cell? ⟨w.heap.size,k,none⟩=some (.slice (some ⟨g',0,none⟩) m m):=(kY.cell (p:=⟨w.heap.size,k,none⟩) cL).trans hc3;by_cases lS:j<m
     ·obtain⟨v1,hv1⟩:∃v1,wr.cell? ⟨g',j,none⟩=some v1:=by
       rw[rU.cellAt j (by omega)];exact⟨_,List.getElem?_eq_getElem (by simp[filled];exact lS)⟩
      have hfi:=rU.frozenAt j;have hsi:=rU.stored j (a1w (X k j));rw[a2i m j (λc=>a1w (X k c)) _ lS]at hsi;have x8:=λw1 h=>iP.out k p9 j lS w1 h;unfold a1w at x8;have hbw:Below w.heap.size w wr:=dV.trans (kY.mono (by omega));go_wp2_with fail
      go_region_with((first|go_at_call 184|go_at_call 162);refine(x8 _ (by first|exact hbw|exact hbw.drew)).mono ?_;rintro e w' ⟨rfl,rfl⟩)
      all_goals
       go_wp2_with fail;go_roundw
       case rel=>exact⟨j+1,by omega,by go_num,(kY.setCell (ql _) _).drew,hsi.1.drew⟩
       case measure=>simp[intOf];omega
     ·have pN:j=m:=(by omega);subst pN;rw[a1m]at rU;go_wp2_with fail;go_roundw
      case rel=>
       refine⟨k+1,by omega,by go_num,dV.trans (kY.mono (by omega)),λr=>if r<k then G r else g',?_,?_,?_⟩
       ·have h5:filled n (k+1) (rowV j λr=>if r<k then G r else g') (.slice none 0 0)=(filled n k (rowV j G) (.slice none 0 0)).set k (.slice (some ⟨g',0,none⟩) j j):=by
         have h6:filled n k (rowV j G) (.slice none 0 0)=filled n k (rowV j λr=>if r<k then G r else g') (.slice none 0 0):=by
          unfold filled;refine List.map_congr_left λi _=>?_;by_cases e:i<k
          ·simp[e,rowV]
          ·simp[e]
         rw[h6,<-a2i n k _ _ p9];simp[rowV]
        rw[h5];exact a6l fM.1 kY cL
       ·intro r hr;by_cases e:r<k
        ·simp only[qp e];have h0:=hO.rows r e;exact⟨h0.1,a6l (gE r e) kY (by rw[<-hg'];exact(a2j h0.2).2)⟩
        ·obtain rfl:r=k:=(by omega);simp only[qn e];exact⟨cL,rU⟩
       ·intro i l h5 h6;by_cases e:l<k
        ·simp only[qp e,qp (show i<k by omega)];exact hO.up i l h5 e
        ·simp only[qn e,qp (show i<k by omega)];rw[<-hg'];exact(a2j (hO.rows i (by omega)).2).2
      case measure=>simp[intOf];omega
   ·have aM:k=n:=(by omega);subst aM;go_wp2_with fail;go_ret;exact⟨_,G,rfl,hO,x6⟩
theorem a0g {w w':World}{base:Nat}{e:TypeId}{size:Nat}{v:Value}{n:Nat}{xs:List Value}(h:w.ownsRow base e size v n xs)(hb:Below w.heap.size w w'):w'.ownsRow base e size v n xs:=by
 refine⟨h.1,?_⟩;rcases h.2 with hn|⟨g,cap,cur,rfl,hg0,hg,rest⟩
 ·exact .inl hn
 ·exact .inr ⟨g,cap,cur,rfl,hg0,(hb.block g (Array.getElem?_eq_some_iff.1 hg).1).trans hg,rest⟩
theorem a1r {w:World}{b b':Nat}{e e':TypeId}{z z' n n':Nat}{v v':Value}{xs xs':List Value}(h:w.ownsRow b e z v n xs)(h':w.ownsRow b' e' z' v' n' xs')(he:e≠e'):
 v'.ownBlock=none\/v'.ownBlock≠v.ownBlock:=by
 rcases h'.2 with⟨rfl,_⟩|⟨g',cap',cur',rfl,_,hg',_⟩
 ·exact .inl rfl
 ·refine .inr λhh=>?_;rcases h.2 with⟨rfl,_⟩|⟨g,cap,cur,rfl,_,hg,_⟩
  ·cases hh
  ·have:g'=g:=Option.some.inj hh;subst this;rw[hg]at hg'
   cases hg'
   exact he rfl
theorem a0v {w:World}{base:Nat}{e:TypeId}{v:Value}{n:Nat}{xs:List Value}(h:w.ownsRow base e 1 v n xs)(f:Nat->Value)(hx:∀i,i<n->xs[i]?=some (f i)):
 ∃a cap,v=.slice a n cap/\n<=maxLen/\Vals w a n f:=by
 have hc:=h;rcases h.2 with⟨rfl,h0⟩|⟨g,cap,cur,rfl,hb,hg,h1,h2,_⟩
 ·subst h0;exact⟨none,0,rfl,Nat.zero_le _,.inl rfl⟩
 ·refine⟨_,cap,rfl,Nat.le_trans h1 h2,.inr ⟨g,0,rfl,λi hi=>?_⟩⟩;rw[Nat.zero_add,hc.cellAt i (by omega),hx i hi]
theorem a2c (m:Nat)(f:Nat->E):(a0l m f).length=m:=by simp[a0l]
theorem a1b (m:Nat)(f:Nat->E)(i:Nat)(h:i<m):(a0l m f)[i]?=some (a1w (f i)):=by simp[a0l,h]
theorem b4i (m:Nat)(f:Nat->E):a0l (m+1) f=a0l m f++[a1w (f m)]:=by
 unfold a0l;rw[List.range_succ,List.map_append];rfl
def slA:Value->Option Addr
 |.slice a _ _=>a
 |_=>none
def slC:Value->Nat
 |.slice _ _ c=>c
 |_=>0
def AccM (w:World)(base:Nat)(vo:Value)(k:Nat)(L:Nat->Nat)(X:Mx):Prop:=
 ∃R:Nat->Value,w.ownsRow base 22 1 vo k ((List.range k).map R)/\∀r,r<k->w.ownsRow base 5 1 (R r) (L r) (a0l (L r) (X r))
theorem AccM.nil (w:World)(base:Nat)(L:Nat->Nat)(X:Mx):AccM w base (.slice none 0 0) 0 L X:=
 ⟨λ_=>undef,World.ownsRow_nil _ _ _ _,λr hr=>by omega⟩
theorem AccM.below {w w':World}{base:Nat}{vo:Value}{k:Nat}{L:Nat->Nat}{X:Mx}(h:AccM w base vo k L X)(hb:Below w.heap.size w w'):AccM w' base vo k L X:=by
 obtain⟨R,h1,h2⟩:=h;exact⟨R,a0g h1 hb,λr hr=>a0g (h2 r hr) hb⟩
theorem AccM.mat {w:World}{base:Nat}{vo:Value}{k:Nat}{L:Nat->Nat}{X:Mx}(h:AccM w base vo k L X):∃a cap,vo=.slice a k cap/\k<=maxLen/\MatAt w a k L X:=by
 obtain⟨R,h1,h2⟩:=h;obtain⟨a,cap,rfl,hk,hv⟩:=a0v h1 R (λi hi=>by simp[hi]);refine⟨a,cap,rfl,hk,λr=>slA (R r),λr=>slC (R r),?_,λr hr=>?_⟩
 ·rcases hv with h0|⟨b,o,rfl,hv⟩
  ·exact .inl h0
  ·refine .inr ⟨b,o,rfl,λi hi=>?_⟩;obtain⟨a',c',e,_,_⟩:=a0v (h2 i hi) _ (λj hj=>a1b _ _ j hj);show _=some (Value.slice (slA (R i)) (L i) (slC (R i)));rw[hv i hi,e];rfl
 ·obtain⟨a',c',e,hl,hv'⟩:=a0v (h2 r hr) _ (λj hj=>a1b _ _ j hj);refine⟨hl,?_⟩;show e1s w (slA (R r)) (L r) (X r);rw[e];exact hv'
theorem AccM.push {w w1 w':World}{base:Nat}{vo vo' v:Value}{k:Nat}{L:Nat->Nat}{X:Mx}{R:Nat->Value}
 (h2:∀r,r<k->w.ownsRow base 5 1 (R r) (L r) (a0l (L r) (X r)))(hv:w.ownsRow base 5 1 v (L k) (a0l (L k) (X k)))(h1:w.ownsRow base 22 1 vo k ((List.range k).map R))
 (hb:Below w.heap.size w w1)(q8:w'.ownsRow base 22 1 vo' (k+1) ((List.range k).map R++[v]))(hg:w1.grownBy w' vo.ownBlock):AccM w' base vo' (k+1) L X:=by
 refine⟨λr=>if r<k then R r else v,?_,λr hr=>?_⟩
 ·have:(List.range (k+1)).map (λr=>if r<k then R r else v)=(List.range k).map R++[v]:=by
   rw[List.range_succ,List.map_append];congr 1
   ·exact List.map_congr_left λr hr=>by simp[List.mem_range.1 hr]
   ·simp
  rw[this];exact q8
 ·by_cases e:r<k
  ·simp only[qp e];exact(a0g (h2 r e) hb).kept hg (a1r (a0g h1 hb) (a0g (h2 r e) hb) (by decide))
  ·obtain rfl:r=k:=(by omega);simp only[qn e];exact(a0g hv hb).kept hg (a1r (a0g h1 hb) (a0g hv hb) (by decide))
theorem b7j (r c:Nat)(w:World)(hr:r<16)(hc:c<16):Calls prog 184 #[.int .i64 (r:Int),.int .i64 (c:Int)] w λe w'=>e=.returned (a1w (idM r c))/\w'=w:=by
 by_cases h:r=c
 ·subst h;have:idM r r=1:=by simp[idM]
  rw[this];go_enter func184,ntmps184;go_wp2;go_ret;exact⟨rfl,rfl⟩
 ·have:idM r c=0:=by simp[idM,h]
  rw[this];have h':((r:Int)==(c:Int))=false:=by simp;omega
  go_enter func184,ntmps184;go_wp2;go_ret;exact⟨rfl,rfl⟩
def two:E:=⟨2,by decide⟩
def powM:Mx:=λr c=>pw two (r*c)
theorem c1t (r c:Nat)(w:World)(hr:r<16)(hc:c<16):Calls prog 162 #[.int .i64 (r:Int),.int .i64 (c:Int)] w λe w'=>e=.returned (a1w (powM r c))/\w'=w:=by
 have oZ:r*c<=15*15:=Nat.mul_le_mul (by omega) (by omega);obtain⟨p,hp⟩:∃p:Nat,r*c=p:=⟨_,rfl⟩;have hp':(r:Int)*(c:Int)=(p:Int):=by rw[<-hp];simp
 have jG:=c0d 2 (by decide) (p:Int) (by omega) (by omega) w;rw[c6c 2 p (by decide)]at jG;have e:a1w (powM r c)=.int .u8 (gp 2 p:Int):=by unfold powM a1w pw two;rw[hp]
 rw[e];rw[hp]at oZ;clear hp e;go_enter func162,ntmps162;go_wp2_with fail;go_at_call 163;refine jG.mono ?_;rintro e w' ⟨rfl,rfl⟩;go_wp2_with fail;go_ret;exact⟨rfl,rfl⟩
theorem b9y (n:Int)(w:World)(h0:-9223372036854775808<=n)(h1:n<=9223372036854775807):
 Calls prog 134 #[.int .i64 n] w λe w'=>Below w.heap.size w w'/\((¬(1<=n/\n<=16)/\e=.returned (.tuple #[.slice none 0 0,.int .i64 2]))\/
  ∃(k:Nat) (g:Nat) (G:Nat->Nat),n=k/\1<=k/\k<=16/\e=.returned (.tuple #[.slice (some ⟨g,0,none⟩) k k,.int .i64 0])/\OwnM w' w.heap.size g k k k G idM):=by
 by_cases h:1<=n/\n<=16
 ·obtain⟨k,rfl⟩:∃k:Nat,n=(k:Int):=⟨n.toNat,by omega⟩;have aX:∀w,Calls prog 155 #[.int .i64 (k:Int)] w λe w'=>e=.returned (.bool true)/\w'=w:=λw=>a1t k true (by simp;omega) w;have hf:=c6h 184 (by decide) #[] k k (by omega) (by omega) (by omega) (by omega) idM w λr hr c hc w1 _=>by
   have:=b7j r c w1 (by omega) (by omega);simpa using this
  clear h0 h1;go_enter func134,ntmps134;go_wp2_with fail;go_at_call 155;refine(aX _).mono ?_;rintro e w' ⟨rfl,rfl⟩;go_wp2_with fail;go_at_call 161;refine hf.mono ?_;rintro e w2 ⟨g,G,rfl,hO,hb⟩;go_wp2_with fail;go_ret2;exact⟨hb,.inr ⟨k,g,G,rfl,by omega,by omega,rfl,hO⟩⟩
 ·have aX:∀w,Calls prog 155 #[.int .i64 n] w λe w'=>e=.returned (.bool false)/\w'=w:=λw=>a1t n false (by simp;omega) w;go_enter func134,ntmps134;go_wp2_with fail;go_at_call 155;refine(aX _).mono ?_;rintro e w' ⟨rfl,rfl⟩;go_wp2_with fail;go_ret2;exact⟨qw _ _,.inl ⟨h,rfl⟩⟩
theorem c7i (n m:Int)(w:World)(h0:-9223372036854775808<=n)(h1:n<=9223372036854775807)(h2:-9223372036854775808<=m)(h3:m<=9223372036854775807):
 Calls prog 109 #[.int .i64 n,.int .i64 m] w λe w'=>Below w.heap.size w w'/\((¬(1<=n/\n<=16/\1<=m/\m<=16)/\e=.returned (.tuple #[.slice none 0 0,.int .i64 2]))\/
  ∃(k l:Nat) (g:Nat) (G:Nat->Nat),n=k/\m=l/\1<=k/\k<=16/\1<=l/\l<=16/\e=.returned (.tuple #[.slice (some ⟨g,0,none⟩) k k,.int .i64 0])/\OwnM w' w.heap.size g k l k G powM):=by
 by_cases h:1<=n/\n<=16
 ·have aX:∀w,Calls prog 155 #[.int .i64 n] w λe w'=>e=.returned (.bool true)/\w'=w:=λw=>a1t n true (by simp;omega) w;by_cases h':1<=m/\m<=16
  ·obtain⟨k,rfl⟩:∃k:Nat,n=(k:Int):=⟨n.toNat,by omega⟩;obtain⟨l,rfl⟩:∃l:Nat,m=(l:Int):=⟨m.toNat,by omega⟩;have pO:∀w,Calls prog 155 #[.int .i64 (l:Int)] w λe w'=>e=.returned (.bool true)/\w'=w:=λw=>a1t l true (by simp;omega) w;have hf:=c6h 162 (by decide) #[] k l (by omega) (by omega) (by omega) (by omega) powM w λr hr c hc w1 _=>by
    have:=c1t r c w1 (by omega) (by omega);simpa using this
   clear h0 h1 h2 h3;go_enter func109,ntmps109;go_wp2_with fail;go_at_call 155;refine(aX _).mono ?_;rintro e w' ⟨rfl,rfl⟩;go_wp2_with fail;go_at_call 155;refine(pO _).mono ?_;rintro e w' ⟨rfl,rfl⟩;go_wp2_with fail;go_at_call 161;refine hf.mono ?_;rintro e w2 ⟨g,G,rfl,hO,hb⟩;go_wp2_with fail;go_ret2;exact⟨hb,.inr ⟨k,l,g,G,rfl,rfl,by omega,by omega,by omega,by omega,rfl,hO⟩⟩
  ·have pO:∀w,Calls prog 155 #[.int .i64 m] w λe w'=>e=.returned (.bool false)/\w'=w:=λw=>a1t m false (by simp;omega) w;go_enter func109,ntmps109;go_wp2_with fail;go_at_call 155;refine(aX _).mono ?_;rintro e w' ⟨rfl,rfl⟩;go_wp2_with fail;go_at_call 155;refine(pO _).mono ?_;rintro e w' ⟨rfl,rfl⟩;go_wp2_with fail;go_ret2;exact⟨qw _ _,.inl ⟨λhh=>h' ⟨hh.2.2.1,hh.2.2.2⟩,rfl⟩⟩
 ·have aX:∀w,Calls prog 155 #[.int .i64 n] w λe w'=>e=.returned (.bool false)/\w'=w:=λw=>a1t n false (by simp;omega) w;go_enter func109,ntmps109;go_wp2_with fail;go_at_call 155;refine(aX _).mono ?_;rintro e w' ⟨rfl,rfl⟩;go_wp2_with fail;go_ret2;exact⟨qw _ _,.inl ⟨λhh=>h ⟨hh.1,hh.2.1⟩,rfl⟩⟩
theorem MatIn.cell {w:World}{a:Option Addr}{n:Nat}{L:Nat->Nat}{X:Mx}{AR:Nat->Option Addr}{CR:Nat->Nat}(h:MatIn w a n L X AR CR)(r c:Nat)(hr:r<n)(hc:c<L r):
 ∃b o b' o',a=some ⟨b,o,none⟩/\AR r=some ⟨b',o',none⟩/\w.cell? ⟨b,o+r,none⟩=some (.slice (some ⟨b',o',none⟩) (L r) (CR r))/\w.cell? ⟨b',o'+c,none⟩=some (.int .u8 ((X r c).v:Int)):=by
 obtain⟨h1,h2⟩:=h;rcases h1 with h0|⟨b,o,rfl,h1⟩
 ·omega
 ·rcases(h2 r hr).2 with h0|⟨b',o',e,h3⟩
  ·omega
  ·refine⟨b,o,b',o',rfl,e,?_,h3 c hc⟩;have:=h1 r hr;simp only[e]at this;exact this
theorem a9o {n:Nat}{L:Nat->Nat}(h:Gd n L):(true=true↔Gd n L):=⟨λ_=>h,λ_=>rfl⟩
theorem c5s {n:Nat}{L:Nat->Nat}(h:¬Gd n L):(false=true↔Gd n L):=by simp[h]
open Go.RowKit Go.PlainAid
def b3r (m:Nat)(f:Nat->E):List Int:=(List.range m).map λi=>((f i).v:Int)
def strE (m:Nat)(f:Nat->E):BA:=strOfNums (b3r m f)
theorem a5a (m:Nat)(f:Nat->E):(b3r m f).length=m:=by simp[b3r]
theorem c3l (m:Nat)(f:Nat->E):∀x∈b3r m f,0<=x/\x<=255:=by
 intro x hx;obtain⟨i,_,rfl⟩:=List.mem_map.1 hx;have:=(f i).h;omega
theorem a0j (m:Nat)(f:Nat->E):(strE m f).size=m:=by unfold strE;rw[strOfNums_size,a5a]
theorem a6z (m:Nat)(f:Nat->E)(i:Nat)(h:i<m):bt (strE m f) i=((f i).v:Int):=by
 unfold strE;rw[a3q _ (c3l m f) i (by rw[a5a];exact h)];simp[b3r]
theorem a1j {m:Nat}{f g:Nat->E}(h:∀i,i<m->f i=g i):strE m f=strE m g:=by
 unfold strE b3r;congr 1;exact List.map_congr_left λi hi=>by rw[h i (List.mem_range.1 hi)]
theorem a8f (x:E)(m:Nat)(f:Nat->E):b1h x.v (strE m f)=strE m λi=>x*f i:=by
 apply a2q
 ·rw[b3b,a0j,a0j]
 ·intro i hi;rw[b3b,a0j]at hi;rw[d5v x.v x.h _ i (by rw[a0j];exact hi),a6z _ _ i hi];unfold gb;rw[a6z _ _ i hi,Int.toNat_natCast];rfl
theorem b8k (m:Nat)(f g:Nat->E):xorB (strE m f) (strE m g)=strE m λi=>f i+g i:=by
 apply a2q
 ·rw[a4a,a0j,a0j,a0j,Nat.min_self]
 ·intro i hi;rw[a4a,a0j,a0j,Nat.min_self]at hi;rw[b7u _ _ i (by rw[a0j,a0j,Nat.min_self];exact hi),a6z _ _ i hi,a6z _ _ i hi,a6z _ _ i hi,Int.toNat_natCast,Int.toNat_natCast];rfl
theorem c7s (m:Nat)(f:Nat->E):((strE m f).data.map λb=>Value.int .u8 b.toNat).toList=a0l m f:=by
 unfold strE strOfNums b3r a0l a1w;simp only[List.map_map,Array.toList_map];apply List.map_congr_left;intro i _;have:=(f i).h;simp only[Function.comp,Int.toNat_natCast];congr 1;rw[UInt8.toNat_ofNat'];omega
theorem c6o {w:World}{base g m cap:Nat}{f:Nat->E}(h:w.ownsRow base 5 1 (.slice (some ⟨g,0,none⟩) m cap) m (a0l m f)):
 (convert 22 9 (.slice (some ⟨g,0,none⟩) m cap)).run prog w=.ok (.string (strE m f)) w:=
 run_convert_bytes_arg (P:=prog) w 22 5 underlying22 underlying5 g 0 m cap (b3r m f) (a5a m f) (λi hi=>by
  rw[Nat.zero_add,h.cellAt i (by omega),a1b m f i hi];simp[b3r,List.getD,hi,a1w]) 9 underlying9
theorem a9b (w:World)(g m:Nat)(f:Nat->E)(cur:Array Value)(ty:TypeId)(hg:w.heap[g]?=some (.cells cur 5 (0,0)))(hc:cur.size=m):
 (Builtin.copy_ #[22,9] ty #[.slice (some ⟨g,0,none⟩) m m,.string (strE m f)]).run prog w=.ok (goInt m) (w.setRow g (a0l m f).toArray):=by
 obtain⟨i0,hi,hz0,hz1,hz2⟩:=info_parts info5;have hst:=run_storeCells_at prog g 0 5 (a0l m f) 0 cur w hg (by rw[a2c];omega) (λv hv=>by
  obtain⟨i,_,rfl⟩:=List.mem_map.1 hv;rfl)
 rw[show cur.toList.take (0+0)++a0l m f++cur.toList.drop (0+0+(a0l m f).length)=a0l m f by
  rw[a2c];simp;omega]at hst
 have hce:=c7s m f;simp[Builtin.copy_,run_underlying underlying22,Builtin.lenOf,Builtin.firstCells,sizeOf,typeInfo,hi,a0j];rw[Array.toList_map]at hce;have ht:(a0l m f).take m=a0l m f:=List.take_of_length_le (by rw[a2c];exact ql _);simp[hce,ht,hst]
theorem c0b (w:World)(g:Nat)(cs:Array Value):w.grownBy (w.setRow g cs) (some g):=
 ⟨rfl,rfl,rfl,by simp,λk _ hk=>setRow_other w g k cs λe=>hk (by rw[e])⟩
theorem a6k {w:World}{base g m:Nat}{xs:List Value}(h:w.ownsRow base 5 1 (.slice (some ⟨g,0,none⟩) m m) m xs):∃cur,w.heap[g]?=some (.cells cur 5 (0,0))/\cur.size=m/\cur.toList=xs/\base<=g/\m<=maxLen:=by
 rcases h.2 with⟨hn,_⟩|⟨g',cap',cur,hv,hg0,hg',h1,h2,h3,h4⟩
 ·cases hn
 ·cases hv
  refine⟨cur,hg',by omega,?_,hg0,h2⟩;rw[<-h4,List.take_of_length_le (by simp;omega)]
theorem d2t {w:World}{base g m:Nat}{xs:List Value}(hg:w.heap[g]?=some (.cells xs.toArray 5 (0,0)))(hb:base<=g)(hl:xs.length=m)(hm:m<=maxLen):w.ownsRow base 5 1 (.slice (some ⟨g,0,none⟩) m m) m xs:=
 ⟨by omega,.inr ⟨g,m,xs.toArray,rfl,hb,hg,ql _,hm,by simp;exact hl,by rw[<-hl];simp⟩⟩
theorem c3h {w:World}{base g m:Nat}{xs:List Value}{f:Nat->E}(h:w.ownsRow base 5 1 (.slice (some ⟨g,0,none⟩) m m) m xs):(w.setRow g (a0l m f).toArray).ownsRow base 5 1 (.slice (some ⟨g,0,none⟩) m m) m (a0l m f):=by
 obtain⟨cur,h1,h2,h3,h4,h5⟩:=a6k h;exact d2t (setRow_heap w g _ _ 5 _ h1) h4 (a2c m f) h5
def a2m (c:Nat)(X:Mx)(k:Nat):Mx:=λr j=>if r<k/\r≠c then X r j+X r c*X c j else X r j
theorem b1g (c:Nat)(X:Mx):a2m c X 0=X:=by funext r j;simp[a2m]
theorem b8y {n m c:Nat}{X:Mx}(hc:c<n):∀k,k<=n->Reach n m X (a2m c X k):=by
 intro k
 induction k with
 |zero=>intro _;rw[b1g];exact .refl
 |succ k ih=>
  intro hk;by_cases e:k=c
  ·refine(ih (by omega)).same λr _ j _=>?_;simp only[a2m];by_cases h:r<k/\r≠c
   ·rw[qp h,qp ⟨by omega,h.2⟩]
   ·rw[qn h,qn (by omega)]
  ·refine((ih (by omega)).add c k (X k c) hc (by omega) (Ne.symm e)).same λr _ j _=>?_;simp only[a2m,addR];by_cases h:r=k
   ·subst h;rw[qp ⟨by omega,e⟩,qp rfl,qn (by omega),qn (by omega)]
   ·rw[qn h];by_cases h':r<k/\r≠c
    ·rw[qp h',qp ⟨by omega,h'.2⟩]
    ·rw[qn h',qn (by omega)]
def a4t (c p:Nat)(X:Mx):Mx:=a9a c (X p c).inv (b1r c p X)
theorem c9g {n m c p:Nat}{X:Mx}(hc:c<n)(kX:c<=p)(hp:p<n)(y6:X p c≠0)(eO:∀r,r<n->∀j,j<c->X r j=idM r j):
 Reach n m X (a2m c (a4t c p X) n)/\∀r,r<n->∀j,j<c+1->a2m c (a4t c p X) n r j=idM r j:=by
 have h1:Reach n m X (a4t c p X):=(Reach.refl.swap c p hc hp).scale c _ hc (E.inv_ne _ y6);refine⟨h1.trans (b8y hc n (ql _)),λr hr j hj=>?_⟩;have z1:∀q,c<=q->q<n->∀j,j<c->X q j=0:=λq h1 h2 j hj=>by
  rw[eO q h2 j hj];simp[idM];omega
 have pc:a4t c p X c c=1:=by
  simp only[a4t,a9a,b1r,if_true];rw[E.mul_comm,E.mul_inv _ y6]
 have pz:∀j,j<c->a4t c p X c j=0:=λj hj=>by
  simp only[a4t,a9a,b1r,if_true];rw[z1 p kX hp j hj,E.mul_zero]
 have pr:∀r,r<n->r≠c->∀j,j<c->a4t c p X r j=idM r j:=λr hr oZ j hj=>by
  simp only[a4t,a9a,b1r,qn oZ];by_cases e:r=p
  ·subst e;rw[qp rfl,z1 c (ql _) hc j hj];simp[idM];omega
  ·rw[qn e,eO r hr j hj]
 simp only[a2m];by_cases e:r=c
 ·subst e;rw[qn (by omega)];by_cases h:j=r
  ·subst h;rw[pc];simp[idM]
  ·rw[pz j (by omega)];simp[idM,Ne.symm h]
 ·rw[qp ⟨hr,e⟩];by_cases h:j=c
  ·subst h;rw[pc,E.mul_one,E.add_self];simp[idM,e]
  ·rw[pz j (by omega),E.mul_zero,E.add_zero,pr r hr e j (by omega)]
structure OwnW (w:World)(base g n m:Nat)(G:Nat->Nat)(X:Mx):Prop where
 top:w.ownsRow base 22 1 (.slice (some ⟨g,0,none⟩) n n) n ((List.range n).map (rowV m G))
 rows:∀r,r<n->w.ownsRow base 5 1 (.slice (some ⟨G r,0,none⟩) m m) m (a0l m (X r))
 inj:∀i j,i<n->j<n->G i=G j->i=j
theorem OwnM.wide {w:World}{base g n m:Nat}{G:Nat->Nat}{X:Mx}(h:OwnM w base g n m n G X):OwnW w base g n m G X:=
 ⟨by have:=h.top;rwa[a1m]at this,λr hr=>(h.rows r hr).2,λi j hi hj e=>by
  rcases Nat.lt_trichotomy i j with h1|h1|h1
  ·have:=h.up i j h1 hj;omega
  ·exact h1
  ·have:=h.up j i h1 hi;omega⟩
theorem OwnW.below {w w':World}{base g n m:Nat}{G:Nat->Nat}{X:Mx}(h:OwnW w base g n m G X)(hb:Below w.heap.size w w'):OwnW w' base g n m G X:=
 ⟨a0g h.top hb,λr hr=>a0g (h.rows r hr) hb,h.inj⟩
theorem OwnW.cellTop {w:World}{base g n m:Nat}{G:Nat->Nat}{X:Mx}(h:OwnW w base g n m G X)(r:Nat)(hr:r<n):w.cell? ⟨g,r,none⟩=some (.slice (some ⟨G r,0,none⟩) m m):=by
 rw[h.top.cellAt r (by omega)];simp[hr,rowV]
theorem OwnW.cell {w:World}{base g n m:Nat}{G:Nat->Nat}{X:Mx}(h:OwnW w base g n m G X)(r c:Nat)(hr:r<n)(hc:c<m):w.cell? ⟨G r,c,none⟩=some (.int .u8 ((X r c).v:Int)):=by
 rw[(h.rows r hr).cellAt c (by omega),a1b m _ c hc];rfl
theorem OwnW.laid {w:World}{base g n m:Nat}{G:Nat->Nat}{X:Mx}(h:OwnW w base g n m G X)(k:Nat)(hk:k<n)(f:Nat->E):
 OwnW (w.setRow (G k) (a0l m f).toArray) base g n m G (λr=>if r=k then f else X r):=by
 have hg:=c0b w (G k) (a0l m f).toArray;refine⟨h.top.kept hg ?_,λr hr=>?_,h.inj⟩
 ·have:=a1r (h.rows k hk) h.top (by decide);exact this
 ·by_cases e:r=k
  ·subst e;simp only[if_true];exact c3h (h.rows r hr)
  ·simp only[qn e];refine(h.rows r hr).kept hg (.inr λhh=>e (h.inj r k hr hk (Option.some.inj hh)))
theorem c2l (g m c pc:Nat)(X:Nat->E)(base:Nat)(w:World)(hm:m<=100)(hc:c<m)(hr:w.ownsRow base 5 1 (.slice (some ⟨g,0,none⟩) m m) m (a0l m X))(hp:w.cell? ⟨pc,0,none⟩=some (.int .i64 (c:Int)))
 (q:Bool)(hq:q=true↔X c≠0):Calls prog 216 #[.slice (some ⟨g,0,none⟩) m m,.pointer (some ⟨pc,0,none⟩)] w λe w'=>e=.returned (.bool q)/\w'=w:=by
 have x5:w.cell? ⟨g,c,none⟩=some (.int .u8 ((X c).v:Int)):=by
  rw[hr.cellAt c (by omega),a1b m _ c hc];rfl
 obtain⟨x,hx⟩:∃x,(X c).v=x:=⟨_,rfl⟩;rw[hx]at x5;have hq':((x:Int) !=0)=q:=by
  by_cases e:X c=0
  ·have h0:x=0:=(by rw[<-hx,e];rfl);subst h0
   cases q with
   |false=>rfl
   |true=>exact absurd e (hq.1 rfl)
  ·have h0:x≠0:=(by rw[<-hx];exact E.ne_v e);rw[hq.2 e];simp;omega
 clear hx hq hr;go_enter func216,ntmps216;go_wp2;go_ret;exact⟨by rw[<-hq'];rfl,rfl⟩
def sw (c p r:Nat):Nat:=if r=c then p else if r=p then c else r
theorem d7i {c p r n:Nat}(hc:c<n)(hp:p<n)(hr:r<n):sw c p r<n:=by unfold sw;split<;>(try split)<;>omega
theorem e7e (c p i j:Nat)(h:sw c p i=sw c p j):i=j:=by
 unfold sw at h
 repeat' split at h
 all_goals omega
theorem OwnW.swapped {w:World}{base g n m:Nat}{G:Nat->Nat}{X:Mx}(h:OwnW w base g n m G X)(c p:Nat)(hc:c<n)(hp:p<n):
 OwnW ((w.setCell ⟨g,c,none⟩ (.slice (some ⟨G p,0,none⟩) m m)).setCell ⟨g,p,none⟩ (.slice (some ⟨G c,0,none⟩) m m)) base g n m (λr=>G (sw c p r)) (λr=>X (sw c p r)):=by
 have ne:∀r,r<n->(Value.slice (some ⟨G r,0,none⟩) m m).ownBlock≠some g:=λr hr=>by
  rcases a1r h.top (h.rows r hr) (by decide)with h0|h0
  ·cases h0
  ·exact h0
 refine⟨?_,λr hr=>?_,λi j hi hj e=>?_⟩
 ·have h1:=(h.top.stored c (.slice (some ⟨G p,0,none⟩) m m)).1;have h2:=(h1.stored p (.slice (some ⟨G c,0,none⟩) m m)).1;have e:(((List.range n).map (rowV m G)).set c (.slice (some ⟨G p,0,none⟩) m m)).set p (.slice (some ⟨G c,0,none⟩) m m)=(List.range n).map (rowV m λr=>G (sw c p r)):=by
   apply List.ext_getElem
   ·simp
   ·intro i h3 h4;rw[List.getElem_set,List.getElem_set];simp only[List.getElem_map,List.getElem_range,rowV,sw];by_cases e1:p=i
    ·subst e1;by_cases e2:p=c
     ·subst e2;simp
     ·simp[e2]
    ·by_cases e2:c=i
     ·subst e2;simp[e1]
     ·simp[e1,e2,Ne.symm e1,Ne.symm e2]
  rw[e]at h2;exact h2
 ·have hr':=d7i hc hp hr;exact ownsRow_setCell_other (ownsRow_setCell_other (h.rows _ hr') (ne _ hr') _) (ne _ hr') _
 ·exact e7e c p i j (h.inj _ _ (d7i hc hp hi) (d7i hc hp hj) e)
theorem OwnW.congr {w:World}{base g n m:Nat}{G:Nat->Nat}{X Y:Mx}(h:OwnW w base g n m G X)(e:∀r,r<n->∀j,j<m->Y r j=X r j):OwnW w base g n m G Y:=
 ⟨h.top,λr hr=>by
   have:a0l m (Y r)=a0l m (X r):=List.map_congr_left λj hj=>(by rw[e r hr j (List.mem_range.1 hj)]);rw[this];exact h.rows r hr,h.inj⟩
theorem c7w (base g n m c:Nat)(G:Nat->Nat)(X:Mx)(w:World)(h1:1<=n)(h2:n<=16)(hm:m=2*n)(hc:c<n)(hO:OwnW w base g n m G X)(aC:base<=w.heap.size)(eO:∀r,r<n->∀j,j<c->X r j=idM r j):
 Calls prog 182 #[.slice (some ⟨g,0,none⟩) n n,.int .i64 (c:Int)] w λe w'=>Below base w w'/\
  ((e=.returned (.bool false)/\∀r,c<=r->r<n->X r c=0)\/
   (e=.returned (.bool true)/\∃G' X',OwnW w' base g n m G' X'/\Reach n m X X'/\∀r,r<n->∀j,j<c+1->X' r j=idM r j)):=by
 have hmf:∀(fn:Fn) (first cap:Array Value) (w:World),(Instr.makeFunc fn first cap).run prog w=.ok (.func fn first cap) w:=λ_ _ _ _=>rfl;have oH:Below w.heap.size w (w.alloc (.cells #[.int .i64 (c:Int)] 3 (0,0))):=(qw _ _).alloc (ql _) _;have hpc:(w.alloc (.cells #[.int .i64 (c:Int)] 3 (0,0))).cell? ⟨w.heap.size,0,none⟩=some (.int .i64 (c:Int)):=by go_simp
 have hsA:(w.alloc (.cells #[.int .i64 (c:Int)] 3 (0,0))).heap.size=w.heap.size+1:=by simp
 have lA:=hO.below oH;generalize hwA:w.alloc (.cells #[.int .i64 (c:Int)] 3 (0,0))=wA at oH hpc hsA lA;have HWA:Hid (w.alloc (.cells #[.int .i64 (c:Int)] 3 (0,0))=wA):=hwA;clear hwA;have dF:c<m:=by omega
 have hm2:m<=32:=by omega
 have HM:Hid (m=2*n):=hm;clear hm;obtain⟨l,hl⟩:∃l,n-c=l:=⟨_,rfl⟩;have fU:=a9r 216 (by decide) #[.pointer (some ⟨w.heap.size,0,none⟩)] (some ⟨g,c,none⟩) l l (λr=>rowV m G (c+r)) (λr=>(X (c+r) c).v !=0) wA (by unfold maxLen;omega)
  (.inr ⟨g,c,rfl,λr hr=>lA.cellTop (c+r) (by omega)⟩) (λr hr=>c2l (G (c+r)) m c w.heap.size (X (c+r)) base wA (by omega) dF (lA.rows (c+r) (by omega)) hpc _ (by
    simp only[bne_iff_ne];exact⟨λh e=>h (by rw[e];rfl),λh=>E.ne_v h⟩))
 have hs:=a5o (λr=>(X (c+r) c).v !=0) l;generalize first (λr=>(X (c+r) c).v !=0) l=z at fU hs
 rcases hs with⟨rfl,hz⟩|⟨i,rfl,hi,y6,_⟩
 ·have HZ:Hid (∀i,i<l->((λr=>(X (c+r) c).v !=0) i)=false):=hz;clear hz;go_enter func182,ntmps182;go_wp2_with fail;rw[HWA.out];go_at_call 198;refine fU.mono ?_;rintro e w' ⟨rfl,rfl⟩;go_wp2_with fail;go_ret;refine⟨oH.mono aC,.inl ⟨rfl,λr hr1 hr2=>?_⟩⟩;have:=HZ.out (r-c) (by omega);simp only[bne_eq_false_iff_eq]at this;rw[show c+(r-c)=r by omega]at this;exact E.zero_of this
 ·obtain⟨p,hp⟩:∃p,c+i=p:=⟨_,rfl⟩;have fP:X p c≠0:=by
   simp only[bne_iff_ne]at y6;rw[hp]at y6;exact λe=>y6 (by rw[e];rfl)
  have nL:p<n:=by omega
  have kX:(c:Int)+(i:Int)=(p:Int):=by omega
  have hi0:¬(i:Int)<0:=by omega
  have hpn':(p:Int)<(n:Int):=by omega
  have hcn':(c:Int)<(n:Int):=by omega
  have eH:=lA.cellTop c hc;have hcp':=lA.cellTop p nL;have hf1:=lA.top.frozenAt c;have hf2:=lA.top.frozenAt p;obtain⟨v',hv'⟩:∃v',(wA.setCell ⟨g,c,none⟩ (.slice (some ⟨G p,0,none⟩) m m)).cell? ⟨g,p,none⟩=some v':=by
   rw[(lA.top.stored c (.slice (some ⟨G p,0,none⟩) m m)).1.cellAt p (by omega)];exact⟨_,List.getElem?_eq_getElem (by simp;exact nL)⟩
  have aY:g<w.heap.size:=(a2j hO.top).2;have rO:(wA.setCell ⟨g,c,none⟩ (.slice (some ⟨G p,0,none⟩) m m)).cell? ⟨w.heap.size,0,none⟩=some (.int .i64 (c:Int)):=by
   rw[World.cell?_setCell_far _ _ _ _ (by simp;omega)];exact hpc
  have iN:OwnW (((wA.setCell ⟨g,c,none⟩ (.slice (some ⟨G p,0,none⟩) m m)).setCell ⟨g,p,none⟩ (.slice (some ⟨G c,0,none⟩) m m)).drew) base g n m (λr=>G (sw c p r)) (λr=>X (sw c p r)):=by
   have h:=lA.swapped c p hc nL;exact⟨h.top.drew,λr hr=>(h.rows r hr).drew,h.inj⟩
  have hbB:Below base w (((wA.setCell ⟨g,c,none⟩ (.slice (some ⟨G p,0,none⟩) m m)).setCell ⟨g,p,none⟩ (.slice (some ⟨G c,0,none⟩) m m)).drew):=
   (((oH.mono aC).setCell (a2j hO.top).1 _).setCell (a2j hO.top).1 _).drew
  have hpB:(((wA.setCell ⟨g,c,none⟩ (.slice (some ⟨G p,0,none⟩) m m)).setCell ⟨g,p,none⟩ (.slice (some ⟨G c,0,none⟩) m m)).drew).cell? ⟨w.heap.size,0,none⟩=some (.int .i64 (c:Int)):=by
   show((wA.setCell ⟨g,c,none⟩ (.slice (some ⟨G p,0,none⟩) m m)).setCell ⟨g,p,none⟩ (.slice (some ⟨G c,0,none⟩) m m)).cell? _=_;rw[World.cell?_setCell_far _ _ _ _ (by simp;omega)];exact rO
  generalize qF:((wA.setCell ⟨g,c,none⟩ (.slice (some ⟨G p,0,none⟩) m m)).setCell ⟨g,p,none⟩ (.slice (some ⟨G c,0,none⟩) m m)).drew=wB at iN hbB hpB;have HWB:Hid (((wA.setCell ⟨g,c,none⟩ (.slice (some ⟨G p,0,none⟩) m m)).setCell ⟨g,p,none⟩ (.slice (some ⟨G c,0,none⟩) m m)).drew=wB):=qF;clear qF;have eY:∀r,r<n->G (sw c p r)<w.heap.size:=λr hr=>(a2j (hO.rows _ (d7i hc nL hr))).2;generalize hG1:(λr=>G (sw c p r))=G1 at iN;have HG1:Hid ((λr=>G (sw c p r))=G1):=hG1;have HGL:Hid (∀r,r<n->G1 r<w.heap.size):=λr hr=>by rw[<-hG1];exact eY r hr
  clear hG1 eY;have hX1:∀r j,X (sw c p r) j=b1r c p X r j:=λr j=>by
   unfold sw b1r;split
   ·rfl
   ·split<;>rfl
  generalize hX1':(λr=>X (sw c p r))=X1 at iN;have HX1:Hid (∀r j,X1 r j=b1r c p X r j):=λr j=>by rw[<-hX1'];exact hX1 r j
  clear hX1 hX1';have hxc:X1 c c=X p c:=by rw[HX1.out];simp[b1r]
  have qT:Hid (X1 c c≠0):=(by rw[hxc];exact fP:X1 c c≠0);clear hxc;have k1:=iN.cellTop c hc;have k2:=iN.cell c c hc dF;have iB:=λw=>d4s (X1 c c).v (X1 c c).h (E.ne_v qT.out) w;have dR:=λw=>a8m (X1 c c).inv.v (X1 c c).inv.h (strE m (X1 c)) w (by rw[a0j];unfold maxLen;omega) (by rw[a0j];omega);rw[a8f]at dR;have jC:∀w,Calls prog 159 #[.int .u8 (gi (X1 c c).v:Int),.string (strE m (X1 c))] w λe w'=>e=.returned (.string (strE m λj=>(X1 c c).inv*X1 c j))/\Below w.heap.size w w':=dR;clear dR;have aK:=λq=>c6o (w:=wB.drewN q) (iN.rows c hc);have HRC:=iN.rows c hc;have HCP:Hid (∀w2,OwnW w2 base g n m G1 X1->∀ty,(Builtin.copy_ #[22,9] ty #[.slice (some ⟨G1 c,0,none⟩) m m,.string (strE m λj=>(X1 c c).inv*X1 c j)]).run prog w2=.ok (goInt m) (w2.setRow (G1 c) (a0l m λj=>(X1 c c).inv*X1 c j).toArray)):=λw2 h ty=>by
   obtain⟨cur,e1,e2,_⟩:=a6k (h.rows c hc);exact a9b w2 (G1 c) m _ cur ty e1 e2
  generalize hsC:strE m (X1 c)=sC at jC aK;have HSC:Hid (strE m (X1 c)=sC):=hsC;clear hsC;generalize hsP:(strE m λj=>(X1 c c).inv*X1 c j)=sP at jC HCP;have HSP:Hid ((strE m λj=>(X1 c c).inv*X1 c j)=sP):=hsP;clear hsP;generalize(X1 c c).v=xv at k2 iB jC;have HCPL:Hid (c<=p):=(by omega:c<=p);have uN:Hid (∀r,r<n->∀j,j<c->X r j=idM r j):=eO;have HNE':Hid (X p c≠0):=fP;clear y6 hp eO fP;go_enter func182,ntmps182;go_wp2_with fail;rw[HWA.out];go_at_call 198;refine fU.mono ?_;rintro e w' ⟨rfl,rfl⟩;clear fU;go_wp2_with fail;go_region;clear eH hcp' hf1 hf2 hv' rO hpc;rw[HWB.out];go_wp2_with fail
  go_quiet((go_at_call 217;exact Calls.quiet_of_same (iB _)))
  go_wp2_with fail;go_at_call 159;refine(jC _).mono ?_;rintro e w2 ⟨rfl,hb2⟩;have hO2:OwnW w2 base g n m G1 X1:=OwnW.below (w:=wB.drewN nq) ⟨iN.top,iN.rows,iN.inj⟩ hb2;have tF:=HCP.out w2 hO2;have k3:=hO2.cellTop c hc;have hp2:w2.cell? ⟨w.heap.size,0,none⟩=some (.int .i64 (c:Int)):=(hb2.cell (p:=⟨w.heap.size,0,none⟩) (a0p hpB)).trans hpB;have hO3:=hO2.laid c hc λj=>(X1 c c).inv*X1 c j;have hp3:(w2.setRow (G1 c) (a0l m λj=>(X1 c c).inv*X1 c j).toArray).cell? ⟨w.heap.size,0,none⟩=some (.int .i64 (c:Int)):=by
   rw[cell_setRow_other _ _ _ _ (by have:=HGL.out c hc;simp;omega)];exact hp2
  have hb3:Below base w (w2.setRow (G1 c) (a0l m λj=>(X1 c c).inv*X1 c j).toArray):=
   below_setRow (hbB.trans ((below_drewN (qw _ _) nq).trans (hb2.mono (Nat.le_trans aC hbB.size)))) (a2j (iN.rows c hc)).1 _
  go_wp2_with fail;generalize hw3:w2.setRow (G1 c) (a0l m λj=>(X1 c c).inv*X1 c j).toArray=w3 at hO3 hp3 hb3;have HW3:Hid (w2.setRow (G1 c) (a0l m λj=>(X1 c c).inv*X1 c j).toArray=w3):=hw3;clear hw3;obtain⟨X2,hX2⟩:∃X2:Mx,X2=λr=>if r=c then(λj=>(X1 c c).inv*X1 c j)else X1 r:=⟨_,rfl⟩;have hX2p:∀r j,X2 r j=a4t c p X r j:=λr j=>by
   rw[hX2];simp only[a4t,a9a];by_cases e:r=c
   ·subst e;simp only[if_true];rw[HX1.out,HX1.out];simp[b1r]
   ·simp only[qn e];exact HX1.out r j
  have rH:strE m (X2 c)=sP:=by rw[<-HSP.out,hX2];simp
  rw[<-hX2,<-b1g c X2]at hO3;have HX2:Hid (∀r j,X2 r j=a4t c p X r j):=hX2p;have uE:Hid (strE m (X2 c)=sP):=rH;have HGB:Hid (∀r,r<n->base<=G1 r):=λr hr=>(a2j (iN.rows r hr)).1;have HMF:Hid (1<=n):=h1;clear hX2 hX2p rH tF k3 hp2 hO2 k1 k2 iB jC aK HRC HCP iN hbB hpB lA hO hb2 hmf oH hsA HSP HSC HWB HW3 HX1 qT HG1 aY hi0 HWA;go_loopw[62] (λi wr=>∃k:Nat,k<=n/\i=.int .i64 k/\Below base w wr/\wr.cell? ⟨w.heap.size,0,none⟩=some (.int .i64 (c:Int))/\OwnW wr base g n m G1 (a2m c X2 k)) (λi _=>(n:Nat)-(intOf i).toNat)
  case atStart=>exact⟨0,Nat.zero_le _,rfl,hb3,hp3,hO3⟩
  case round=>
   obtain⟨k,hk,rfl,aS,bH,kH⟩:=hrel;by_cases p9:k<n
   ·have kk:=kH.cellTop k p9;by_cases nU:k=c
    ·subst nU;have t1:((k:Int) !=(k:Int))=false:=(by simp);go_wp2_with fail;go_roundw
     case rel=>exact⟨k+1,by omega,by go_num,aS,bH,kH.congr λr _ j _=>by
      simp only[a2m];by_cases h:r<k/\r≠k
      ·rw[qp h,qp ⟨by omega,h.2⟩]
      ·rw[qn h,qn (by omega)]⟩
     case measure=>simp[intOf];omega
    ·have t1:((k:Int) !=(c:Int))=true:=(by simp;omega);have x9:=kH.rows k p9;have e0:a2m c X2 k k=X2 k:=(by funext j;simp[a2m]);rw[e0]at x9;have kx:wr.cell? ⟨G1 k,c,none⟩=some (.int .u8 ((X2 k c).v:Int)):=by
      rw[x9.cellAt c (by omega),a1b m _ c dF];rfl
     have tG:(c:Int)<(m:Int):=(by omega);have HC:Hid (∀x,Below wr.heap.size wr x->(convert 22 9 (.slice (some ⟨G1 k,0,none⟩) m m)).run prog x=.ok (.string (strE m (X2 k))) x):=λx hx=>c6o (a0g x9 hx);have HD:Hid (∀x,Below wr.heap.size wr x->∀ty,(Builtin.copy_ #[22,9] ty #[.slice (some ⟨G1 k,0,none⟩) m m,.string (strE m λj=>X2 k j+X2 k c*X2 c j)]).run prog x=.ok (goInt m) (x.setRow (G1 k) (a0l m λj=>X2 k j+X2 k c*X2 c j).toArray)):=λx hx ty=>by
      obtain⟨cur,e1,e2,_⟩:=a6k (a0g x9 hx);exact a9b x (G1 k) m _ cur ty e1 e2
     have hs1:∀x,Calls prog 159 #[.int .u8 ((X2 k c).v:Int),.string sP] x λe w'=>e=.returned (.string (strE m λj=>X2 k c*X2 c j))/\Below x.heap.size x w':=λx=>by
      have:=a8m (X2 k c).v (X2 k c).h (strE m (X2 c)) x (by rw[a0j];unfold maxLen;omega) (by rw[a0j];omega);rw[a8f,uE.out]at this;exact this
     have hs2:∀x,Calls prog 160 #[.string (strE m (X2 k)),.string (strE m λj=>X2 k c*X2 c j)] x λe w'=>e=.returned (.string (strE m λj=>X2 k j+X2 k c*X2 c j))/\Below x.heap.size x w':=λx=>by
      have:=c1o (strE m (X2 k)) (strE m λj=>X2 k c*X2 c j) x (by rw[a0j];unfold maxLen;omega) (by rw[a0j];unfold maxLen;omega) (by rw[a0j];omega);rw[b8k]at this;exact this
     have hdr:Below wr.heap.size wr wr.drew:=(qw _ _).drew;have fH:=HC.out wr (qw _ _);have hcv':=HC.out wr.drew hdr;have HE:Hid (∀x,Below wr.heap.size wr x->Below base w (x.setRow (G1 k) (a0l m λj=>X2 k j+X2 k c*X2 c j).toArray)/\(x.setRow (G1 k) (a0l m λj=>X2 k j+X2 k c*X2 c j).toArray).cell? ⟨w.heap.size,0,none⟩=some (.int .i64 (c:Int))/\
      OwnW (x.setRow (G1 k) (a0l m λj=>X2 k j+X2 k c*X2 c j).toArray) base g n m G1 (a2m c X2 (k+1))):=λx hx=>by
      refine⟨below_setRow (aS.trans (hx.mono (Nat.le_trans aC aS.size))) (HGB.out k p9) _,?_,?_⟩
      ·rw[cell_setRow_other _ _ _ _ (by have:=HGL.out k p9;simp;omega)];exact(hx.cell (p:=⟨w.heap.size,0,none⟩) (a0p bH)).trans bH
      ·refine((kH.below hx).laid k p9 _).congr λr _ j _=>?_;simp only[a2m];by_cases h:r=k
       ·subst h;rw[qp ⟨by omega,nU⟩,qp rfl]
       ·simp only[qn h];simp only[a2m];by_cases h':r<k/\r≠c
        ·rw[qp h',qp ⟨by omega,h'.2⟩]
        ·rw[qn h',qn (by omega)]
     generalize hsK:strE m (X2 k)=sK at HC hs2 fH hcv';generalize hsS:(strE m λj=>X2 k c*X2 c j)=sS at hs1 hs2;generalize hsX:(strE m λj=>X2 k j+X2 k c*X2 c j)=sX at HD hs2;generalize(X2 k c).v=xk at kx hs1;generalize(a0l m λj=>X2 k j+X2 k c*X2 c j).toArray=arr at HD HE;clear hsK hsS hsX kH aS x9 e0 HGB HGL uE;go_wp2_with fail;refine wp_region_noPanic ?_;refine wp_region_held_drew (S:=λx=>x.cell? ⟨w.heap.size,0,none⟩=some (.int .i64 (c:Int))) (by kernel_rfl) bH (λp8=>?_);refine tkH 0 ?_;go_simp;refine tkH 1 ?_;go_simp;refine tkH 3 ?_;go_simp;refine tkH 4 ?_;go_simp;refine tkH 5 ?_;go_simp;refine tkH 7 ?_;go_simp;refine wpAnyH_ready (rs:=[2,6]) (by kernel_rfl) (by simp) (AllReadyH.cons rfl (λK hK=>?_) (AllReadyH.cons rfl (λK hK=>?_) AllReadyH.nil))
     ·go_simp;refine hK.out _ _ bH (λp8=>?_);clear hK K;refine rdH 6 λK hK=>?_;go_simp;refine hK.out _ _ bH (λp8=>?_);clear hK K;refine rdH 8 λK hK=>?_;go_simp;go_at_call 159;refine(hs1 _).mono ?_;rintro e w4 ⟨rfl,hb4⟩;have hx4:=hdr.trans hb4;have tC:=HC.out w4 hx4;have hp4:w4.cell? ⟨w.heap.size,0,none⟩=some (.int .i64 (c:Int)):=(hx4.cell (p:=⟨w.heap.size,0,none⟩) (a0p bH)).trans bH;refine hK.out _ _ hp4 (λp8=>?_);clear hK K;refine rdH 9 λK hK=>?_;go_simp;go_at_call 160;refine(hs2 _).mono ?_;rintro e w5 ⟨rfl,hb5⟩;have hx5:=hx4.trans (hb5.mono hx4.size);have tE:=HD.out w5 hx5;have hp5:w5.cell? ⟨w.heap.size,0,none⟩=some (.int .i64 (c:Int)):=(hx5.cell (p:=⟨w.heap.size,0,none⟩) (a0p bH)).trans bH;refine hK.out _ _ hp5 (λp8=>?_);clear hK K;refine rdH 10 λK hK=>?_;go_simp;refine hK.out _ _ (HE.out _ hx5).2.1 (λp8=>?_);clear hK K;refine wpAnyH_done (by kernel_rfl) ?_ _;show Exit.inBlock 1 _ Exit.normal _ _;go_wp2_with fail;go_roundw
      case rel=>
       obtain⟨e1,e2,e3⟩:=HE.out _ hx5;exact⟨k+1,by omega,by go_num,e1,e2,e3⟩
      case measure=>simp[intOf];omega
     ·go_simp;refine hK.out _ _ bH (λp8=>?_);clear hK K;refine wpAnyH_ready (rs:=[2,8]) (by kernel_rfl) (by simp) (AllReadyH.cons rfl (λK hK=>?_) (AllReadyH.cons rfl (λK hK=>?_) AllReadyH.nil))
      ·go_simp;refine hK.out _ _ bH (λp8=>?_);clear hK K;refine rdH 8 λK hK=>?_;go_simp;go_at_call 159;refine(hs1 _).mono ?_;rintro e w4 ⟨rfl,hb4⟩;have hx4:=hdr.trans hb4;have tC:=HC.out w4 hx4;have hp4:w4.cell? ⟨w.heap.size,0,none⟩=some (.int .i64 (c:Int)):=(hx4.cell (p:=⟨w.heap.size,0,none⟩) (a0p bH)).trans bH;refine hK.out _ _ hp4 (λp8=>?_);clear hK K;refine rdH 9 λK hK=>?_;go_simp;go_at_call 160;refine(hs2 _).mono ?_;rintro e w5 ⟨rfl,hb5⟩;have hx5:=hx4.trans (hb5.mono hx4.size);have tE:=HD.out w5 hx5;have hp5:w5.cell? ⟨w.heap.size,0,none⟩=some (.int .i64 (c:Int)):=(hx5.cell (p:=⟨w.heap.size,0,none⟩) (a0p bH)).trans bH;refine hK.out _ _ hp5 (λp8=>?_);clear hK K;refine rdH 10 λK hK=>?_;go_simp;refine hK.out _ _ (HE.out _ hx5).2.1 (λp8=>?_);clear hK K;refine wpAnyH_done (by kernel_rfl) ?_ _;show Exit.inBlock 1 _ Exit.normal _ _;go_wp2_with fail;go_roundw
       case rel=>
        obtain⟨e1,e2,e3⟩:=HE.out _ hx5;exact⟨k+1,by omega,by go_num,e1,e2,e3⟩
       case measure=>simp[intOf];omega
      ·go_simp;go_at_call 159;refine(hs1 _).mono ?_;rintro e w4 ⟨rfl,hb4⟩;have hx4:=hdr.trans hb4;have tC:=HC.out w4 hx4;have hp4:w4.cell? ⟨w.heap.size,0,none⟩=some (.int .i64 (c:Int)):=(hx4.cell (p:=⟨w.heap.size,0,none⟩) (a0p bH)).trans bH;refine hK.out _ _ hp4 (λp8=>?_);clear hK K;refine rdH 2 λK hK=>?_;go_simp;refine hK.out _ _ hp4 (λp8=>?_);clear hK K;refine rdH 9 λK hK=>?_;go_simp;go_at_call 160;refine(hs2 _).mono ?_;rintro e w5 ⟨rfl,hb5⟩;have hx5:=hx4.trans (hb5.mono hx4.size);have tE:=HD.out w5 hx5;have hp5:w5.cell? ⟨w.heap.size,0,none⟩=some (.int .i64 (c:Int)):=(hx5.cell (p:=⟨w.heap.size,0,none⟩) (a0p bH)).trans bH;refine hK.out _ _ hp5 (λp8=>?_);clear hK K;refine rdH 10 λK hK=>?_;go_simp;refine hK.out _ _ (HE.out _ hx5).2.1 (λp8=>?_);clear hK K;refine wpAnyH_done (by kernel_rfl) ?_ _;show Exit.inBlock 1 _ Exit.normal _ _;go_wp2_with fail;go_roundw
       case rel=>
        obtain⟨e1,e2,e3⟩:=HE.out _ hx5;exact⟨k+1,by omega,by go_num,e1,e2,e3⟩
       case measure=>simp[intOf];omega
   ·have aM:k=n:=(by omega);subst aM;have e:X2=a4t c p X:=(by funext r j;exact HX2.out r j);subst e;obtain⟨g1,g2⟩:=c9g (m:=m) hc HCPL.out nL HNE'.out uN.out;have HR:Hid (Reach k m X (a2m c (a4t c p X) k)):=g1;have HT:Hid (∀r,r<k->∀j,j<c+1->a2m c (a4t c p X) k r j=idM r j):=g2;clear g1 g2;go_wp2_with fail;go_ret;exact⟨aS,.inr ⟨rfl,G1,_,kH,HR.out,HT.out⟩⟩
def b0z (m n:Nat)(f:Nat->E):List Value:=filled m n (λj=>a1w (f j)) (.int .u8 0)
theorem b1l (m n:Nat)(f:Nat->E):(b0z m n f).length=m:=by simp[b0z,filled]
theorem b6i (w:World)(g m n ca:Nat)(a:Addr)(f:Nat->E)(cur:Array Value)(ty:TypeId)(hg:w.heap[g]?=some (.cells cur 5 (0,0)))(hc:cur.toList=List.replicate m (.int .u8 0))(hn:n<=m)
 (hs:∀j v,(a0l n f)[j]?=some v->w.cell? (a.add j)=some v):
 (Builtin.copy_ #[22,22] ty #[.slice (some ⟨g,0,none⟩) m m,.slice (some a) n ca]).run prog w=.ok (goInt n) (w.setRow g (b0z m n f).toArray):=by
 have aA:cur.size=m:=by rw[<-Array.length_toList,hc];simp
 have h:=run_copy_row (P:=prog) w 22 22 ty 5 g 0 m m a n ca cur 5 (a0l n f) underlying22 (by obtain⟨i0,hi,hz0,hz1,hz2⟩:=info_parts info5;rw[hi];simp[hz1]) hg
  (by rw[a2c];exact(Nat.min_eq_left hn).symm) hs (by rw[a2c];omega) (λv hv=>by
   obtain⟨i,_,rfl⟩:=List.mem_map.1 hv;rfl)
 rw[a2c]at h;rw[h];congr 3;rw[hc];unfold b0z filled a0l;apply List.ext_getElem
 ·simp;omega
 ·intro i h1 h2;simp only[List.getElem_map,List.getElem_range];by_cases e:i<n
  ·rw[qp e];simp[e]
  ·rw[qn e];simp only[List.take_zero,List.nil_append];rw[List.getElem_append_right (by simp;omega)];simp
theorem d9m (m n k:Nat)(A:Mx)(hm:m=2*n)(hk:k<n):(b0z m n (A k)).set (n+k) (.int .u8 1)=a0l m (a6g n A k):=by
 unfold b0z filled a0l;apply List.ext_getElem
 ·simp
 ·intro i h1 h2;rw[List.getElem_set];simp only[List.getElem_map,List.getElem_range,a6g];by_cases e:n+k=i
  ·subst e;rw[qp rfl,qn (by omega)];simp[idM,a1w,E.one_v]
  ·rw[qn e];by_cases e':i<n
   ·rw[qp e',qp e']
   ·rw[qn e',qn e'];have:¬k=i-n:=(by omega);simp[idM,this,a1w,E.zero_v]
theorem b1u {w:World}{base g m:Nat}{xs ys:List Value}(h:w.ownsRow base 5 1 (.slice (some ⟨g,0,none⟩) m m) m xs)(hl:ys.length=m):(w.setRow g ys.toArray).ownsRow base 5 1 (.slice (some ⟨g,0,none⟩) m m) m ys:=by
 obtain⟨cur,h1,h2,h3,h4,h5⟩:=a6k h;exact d2t (setRow_heap w g _ _ 5 _ h1) h4 hl h5
theorem d0m (a:Option Addr)(n ca m:Nat)(L:Nat->Nat)(A:Mx)(w:World)(h1:1<=n)(h2:n<=16)(hm:m=2*n)(hA:MatAt w a n L A)(hL:∀r,r<n->L r=n):
 Calls prog 181 #[.slice a n ca] w λe w'=>∃g G,e=.returned (.slice (some ⟨g,0,none⟩) n n)/\OwnM w' w.heap.size g n m n G (a6g n A)/\Below w.heap.size w w':=by
 obtain⟨i0,hi,hz0,hz1,hz2⟩:=info_parts info5;obtain⟨j0,hj,hy0,hy1,hy2⟩:=info_parts info22;have hm1:m<=32:=by omega
 have hm2:(2:Int)*(n:Int)=(m:Int):=by omega
 have HM:Hid (m=2*n):=hm;clear hm;obtain⟨AR,CR,hA⟩:=hA;obtain⟨ba,oa,_,_,rfl,_,_,_⟩:=hA.cell 0 0 (by omega) (by rw[hL 0 (by omega)];omega);have HA:Hid (∀k,k<n->∃b' o' cr,w.cell? ⟨ba,oa+k,none⟩=some (.slice (some ⟨b',o',none⟩) n cr)/\∀c,c<n->w.cell? ⟨b',o'+c,none⟩=some (a1w (A k c))):=λk hk=>by
  obtain⟨b,o,b',o',e1,e2,e3,_⟩:=hA.cell k 0 hk (by rw[hL k hk];omega)
  cases e1
  rw[hL k hk]at e3;refine⟨b',o',_,e3,λc hc=>?_⟩;obtain⟨_,_,b2,o2,_,f2,_,f4⟩:=hA.cell k c hk (by rw[hL k hk];exact hc);rw[e2]at f2
  cases f2
  exact f4
 clear hA hL;go_enter func181,ntmps181;go_wp2_with(at_make;refine wpList_make_full _ rfl _ _ 134 rfl w.heap.size 22 j0 (.slice none 0 0) 1 underlying134 hj hy0 hy1 _ _ _ _ n rfl rfl ?c0 ?c1 ?c2 ?c3 ?c4 ?_)
 case c0=>rfl
 case c1=>rfl
 case c2=>rw[hy2];omega
 case c3=>unfold maxLen;omega
 case c4=>exact ql _
 intro w1 q8 q9;have t8:Below w.heap.size w w1:=(qw _ _).grown q9 (ql _) (λk h=>by cases h);rw[toList_madeCells_one,<-a1l n (rowV m λ_=>0)]at q8;go_wp2_with fail;go_loopw[12] (λi wr=>∃k:Nat,k<=n/\i=.int .i64 k/\Below w.heap.size w wr/\∃G,OwnM wr w.heap.size w.heap.size n m k G (a6g n A)) (λi _=>(n:Nat)-(intOf i).toNat)
 case atStart=>exact⟨0,Nat.zero_le _,rfl,t8,λ_=>0,⟨q8,λr hr=>by omega,λi j _ _=>by omega⟩⟩
 case round=>
  obtain⟨k,hk,rfl,x6,G,hO⟩:=hrel;by_cases p9:k<n
  ·obtain⟨v0,x5⟩:∃v0,wr.cell? ⟨w.heap.size,k,none⟩=some v0:=by
    rw[hO.top.cellAt k (by omega)];exact⟨_,List.getElem?_eq_getElem (by simp[filled];exact p9)⟩
   have eC:=hO.top.frozenAt k;obtain⟨g',hg'⟩:∃g',wr.heap.size=g':=⟨_,rfl⟩;have cL:w.heap.size<g':=(by rw[<-hg'];exact(a2j hO.top).2);go_wp2_with(at_make;refine wpList_make_full _ rfl _ _ 22 rfl w.heap.size 5 i0 (.int .u8 0) 1 underlying22 hi hz0 hz1 _ _ _ _ m rfl rfl ?c0 ?c1 ?c2 ?c3 ?c4 ?_)
   case c0=>rfl
   case c1=>rfl
   case c2=>rw[hz2];omega
   case c3=>unfold maxLen;omega
   case c4=>exact x6.size
   intro w2 aB bQ;have aV:Below g' wr w2:=(by rw[<-hg'];exact(qw _ _).grown bQ (ql _) (λk h=>by cases h));rw[toList_madeCells_one,<-a1l m (λc=>a1w (A k c))]at aB;have cX:=a6l hO.top aV cL;have hc2:w2.cell? ⟨w.heap.size,k,none⟩=some v0:=(aV.cell (p:=⟨w.heap.size,k,none⟩) cL).trans x5;have hf2:=cX.frozenAt k;have fM:=cX.stored k (.slice (some ⟨g',0,none⟩) m m);go_wp2_with fail;obtain⟨w3,hw3⟩:∃w3,w3=w2.setCell ⟨w.heap.size,k,none⟩ (.slice (some ⟨g',0,none⟩) m m):=⟨_,rfl⟩;rw[<-hw3]at fM⊢;have dV:Below w.heap.size w w3:=(by rw[hw3];exact(x6.trans (aV.mono (by rw[<-hg'];exact x6.size))).setCell (ql _) _);have aU:w3.ownsRow w.heap.size 5 1 (.slice (some ⟨g',0,none⟩) m m) m (List.replicate m (.int .u8 0)):=by
    rw[hw3];rw[a1l]at aB;exact ownsRow_setCell_other aB (by simp[Value.ownBlock];omega) _
   have gE:∀r,r<k->w3.ownsRow w.heap.size 5 1 (.slice (some ⟨G r,0,none⟩) m m) m (a0l m (a6g n A r)):=λr hr=>by
    have h0:=hO.rows r hr;rw[hw3];exact ownsRow_setCell_other (a6l h0.2 aV (by rw[<-hg'];exact(a2j h0.2).2)) (by simp[Value.ownBlock];omega) _
   have hc3:=fM.1.cellAt k (by omega);rw[List.getElem?_set_self (by simp[filled];exact p9)]at hc3;obtain⟨b',o',cr,e3,dA⟩:=HA.out k p9;have ha3:w3.cell? ⟨ba,oa+k,none⟩=some (.slice (some ⟨b',o',none⟩) n cr):=(dV.cell (p:=⟨ba,oa+k,none⟩) (a0p e3)).trans e3;obtain⟨cur,u1,u2,u3,u4,u5⟩:=a6k aU;have kX:∀ty,(Builtin.copy_ #[22,22] ty #[.slice (some ⟨g',0,none⟩) m m,.slice (some ⟨b',o',none⟩) n cr]).run prog w3.drew=.ok (goInt n) (w3.drew.setRow g' (b0z m n (A k)).toArray):=λty=>
    b6i w3.drew g' m n cr ⟨b',o',none⟩ (A k) cur ty u1 u3 (by have:=HM.out;omega) (λj v hv=>by
     have hj:j<n:=by
      rcases Nat.lt_or_ge j n with h|h
      ·exact h
      ·rw[List.getElem?_eq_none (by rw[a2c];exact h)]at hv;cases hv
     rw[a1b n _ j hj]at hv
     cases hv
     have q:=dA j hj;rw[show((⟨b',o',none⟩:Addr).add j)=⟨b',o'+j,none⟩from by simp[Addr.add]];exact(dV.cell (p:=⟨b',o'+j,none⟩) (a0p q)).trans q)
   have hbal:ba<w.heap.size:=a0p e3;have hk1:(w3.drew.setRow g' (b0z m n (A k)).toArray).cell? ⟨w.heap.size,k,none⟩=some (.slice (some ⟨g',0,none⟩) m m):=by
    rw[cell_setRow_other _ _ _ _ (by simp;omega)];exact hc3
   have hk2:(w3.drew.setRow g' (b0z m n (A k)).toArray).cell? ⟨ba,oa+k,none⟩=some (.slice (some ⟨b',o',none⟩) n cr):=by
    rw[cell_setRow_other _ _ _ _ (by simp;omega)];exact ha3
   have dS:(w3.drew.setRow g' (b0z m n (A k)).toArray).ownsRow w.heap.size 5 1 (.slice (some ⟨g',0,none⟩) m m) m (b0z m n (A k)):=
    b1u (w:=w3.drew) aU.drew (b1l _ _ _)
   have hb34:Below g' w3 (w3.drew.setRow g' (b0z m n (A k)).toArray):=below_setRow (qw _ _).drew (ql _) _;generalize w3.drew.setRow g' (b0z m n (A k)).toArray=w4 at kX hk1 hk2 dS hb34;clear hw3 hc2 hf2 cX aB q8 x5 eC u1 u2 u3 u5 aU dA e3;have p1:(n:Int)+(k:Int)=((n+k:Nat):Int):=(by omega);have rV:n+k<m:=(by have:=HM.out;omega);have hnk':((n+k:Nat):Int)<(m:Int):=(by omega);obtain⟨q,hq⟩:∃q,n+k=q:=⟨_,rfl⟩;rw[hq]at p1 rV hnk';obtain⟨v1,hv1⟩:∃v1,w4.cell? ⟨g',q,none⟩=some v1:=by
    rw[dS.cellAt q (by omega)];exact⟨_,List.getElem?_eq_getElem (by rw[b1l];exact rV)⟩
   have hf4:=dS.frozenAt q;have oS:=(dS.stored q (.int .u8 1)).1;rw[<-hq,d9m m n k A HM.out p9]at oS;rw[hq]at oS;have HQ:Hid (n+k=q):=hq;clear hq;go_wp2_with fail
   go_region_held3 (λx=>x.cell? ⟨w.heap.size,k,none⟩=some (.slice (some ⟨g',0,none⟩) m m)/\x.cell? ⟨ba,oa+k,none⟩=some (.slice (some ⟨b',o',none⟩) n cr)) (first|exact⟨hc3,ha3⟩|exact⟨hk1,hk2⟩) (fail)
   go_wp2_with fail;go_roundw
   case rel=>
    have hb35:Below g' w3 (w4.setCell ⟨g',q,none⟩ (.int .u8 1)):=hb34.setCell (ql _) _;refine⟨k+1,by omega,by go_num,dV.trans (hb35.mono (by omega)),λr=>if r<k then G r else g',?_,?_,?_⟩
    ·have h5:filled n (k+1) (rowV m λr=>if r<k then G r else g') (.slice none 0 0)=(filled n k (rowV m G) (.slice none 0 0)).set k (.slice (some ⟨g',0,none⟩) m m):=by
      have h6:filled n k (rowV m G) (.slice none 0 0)=filled n k (rowV m λr=>if r<k then G r else g') (.slice none 0 0):=by
       unfold filled;refine List.map_congr_left λi _=>?_;by_cases e:i<k
       ·simp[e,rowV]
       ·simp[e]
      rw[h6,<-a2i n k _ _ p9];simp[rowV]
     rw[h5];exact a6l fM.1 hb35 cL
    ·intro r hr;by_cases e:r<k
     ·simp only[qp e];have h0:=hO.rows r e;exact⟨h0.1,a6l (gE r e) hb35 (by rw[<-hg'];exact(a2j h0.2).2)⟩
     ·obtain rfl:r=k:=(by omega);simp only[qn e];exact⟨cL,oS⟩
    ·intro i l h5 h6;by_cases e:l<k
     ·simp only[qp e,qp (show i<k by omega)];exact hO.up i l h5 e
     ·simp only[qn e,qp (show i<k by omega)];rw[<-hg'];exact(a2j (hO.rows i (by omega)).2).2
   case measure=>simp[intOf];omega
  ·have aM:k=n:=(by omega);subst aM;go_wp2_with fail;go_ret;exact⟨_,G,rfl,hO,x6⟩
end Go.Proofs.YtokknmkleceooaaGreatDoor
