import Derived.WalkKit
import Derived.Laws.BitsAllLaws
import Derived.Test.YtokknmkleceooaaGreatDoorRows
import Derived.ProofKit
import Derived.OpenShut
import Derived.WalkLawsBesides
import Derived.Below
import Derived.OneCell
import Derived.OwnWalk
import Derived.Laws.OwnMore
import Derived.Test.YtokknmkleceooaaGreatDoorBaseM
namespace Go.Proofs.YtokknmkleceooaaGreatDoor
set_option linter.unusedVariables false
set_option maxRecDepth 20000
set_option maxHeartbeats 8000000
open Go.Proofs.Tryz
open Go.RowKit
def xt (a:Nat):Nat:=(a*2%256)^^^(a/128%2*29)
def gmK:Nat->Nat->Nat->Nat
 |0,_,_=>0
 |k+1,a,b=>(b%2*a)^^^gmK k (xt a) (b/2)
def gm (a b:Nat):Nat:=gmK 8 a b
def gp (a:Nat):Nat->Nat
 |0=>1
 |n+1=>gm (gp a n) a
theorem a3n (p q c:Nat)(hp:p<2)(hq:q<2):(p^^^q)*c=(p*c)^^^(q*c):=by
 have hp':p=0\/p=1:=by omega
 have hq':q=0\/q=1:=by omega
 rcases hp' with rfl|rfl<;>rcases hq' with rfl|rfl<;>simp
theorem d0v (p a b:Nat)(hp:p<2):p*(a^^^b)=(p*a)^^^(p*b):=by
 have hp':p=0\/p=1:=by omega
 rcases hp' with rfl|rfl<;>simp
theorem d6v (a b:Nat):(a^^^b)/2=(a/2)^^^(b/2):=by
 have:=Nat.xor_div_two_pow (a:=a) (b:=b) (n:=1);simpa using this
theorem c1n (a b:Nat):(a^^^b)%2=(a%2)^^^(b%2):=by
 have:=Nat.xor_mod_two_pow (a:=a) (b:=b) (n:=1);simpa using this
theorem a7b (a b c d:Nat):(a^^^b)^^^(c^^^d)=(a^^^c)^^^(b^^^d):=by
 rw[Nat.xor_assoc,Nat.xor_assoc,<-Nat.xor_assoc b c d,Nat.xor_comm b c,Nat.xor_assoc]
theorem e3f (a b:Nat):(a^^^b)*2=(a*2)^^^(b*2):=by
 have:=Nat.shiftLeft_xor_distrib (a:=a) (b:=b) (i:=1);simpa[Nat.shiftLeft_eq]using this
theorem e6r (a b:Nat):xt (a^^^b)=xt a^^^xt b:=by
 unfold xt;have h1:(a^^^b)*2%256=(a*2%256)^^^(b*2%256):=by
  have:=Nat.xor_mod_two_pow (a:=a*2) (b:=b*2) (n:=8);rw[e3f];simpa using this
 have h2:(a^^^b)/128%2=(a/128%2)^^^(b/128%2):=by
  have:=Nat.xor_div_two_pow (a:=a) (b:=b) (n:=7);rw[show(128:Nat)=2^7 from rfl,this,c1n]
 rw[h1,h2,a3n _ _ _ (by omega) (by omega),a7b]
theorem d9t (k a b c:Nat):gmK k (a^^^b) c=gmK k a c^^^gmK k b c:=by
 induction k generalizing a b c with
 |zero=>simp[gmK]
 |succ k ih=>simp only[gmK];rw[e6r,ih,d0v _ _ _ (by omega),a7b]
theorem d9s (k a b c:Nat):gmK k a (b^^^c)=gmK k a b^^^gmK k a c:=by
 induction k generalizing a b c with
 |zero=>simp[gmK]
 |succ k ih=>simp only[gmK];rw[d6v,c1n,ih,a3n _ _ _ (by omega) (by omega),a7b]
theorem a6r (a b c:Nat):gm (a^^^b) c=gm a c^^^gm b c:=d9t 8 a b c
theorem a6q (a b c:Nat):gm a (b^^^c)=gm a b^^^gm a c:=d9s 8 a b c
theorem b2j (k a:Nat):gmK k a 0=0:=by
 induction k generalizing a with
 |zero=>rfl
 |succ k ih=>simp only[gmK];rw[ih];simp
theorem e6s (a:Nat):xt a<256:=by
 unfold xt;exact Nat.xor_lt_two_pow (n:=8) (Nat.mod_lt _ (by omega)) (by omega)
theorem e8u (k a b:Nat)(h:a<256):gmK k a b<256:=by
 induction k generalizing a b with
 |zero=>simp[gmK]
 |succ k ih=>
  simp only[gmK];refine Nat.xor_lt_two_pow (n:=8) ?_ (ih _ _ (e6s a));have:b%2=0\/b%2=1:=by omega
  rcases this with e|e<;>rw[e]<;>omega
theorem b4u (a b:Nat)(h:a<256):gm a b<256:=e8u 8 a b h
theorem e3r:∀k,k<8->∀x,x<256->2^k<=x->x<2^(k+1)->x^^^2^k<2^k:=by decide+kernel
theorem a8k (f g:Nat->Nat)(hf:∀x y,f (x^^^y)=f x^^^f y)(hg:∀x y,g (x^^^y)=g x^^^g y)
 (h:∀i,i<8->f (2^i)=g (2^i))(x:Nat)(hx:x<256):f x=g x:=by
 have z:∀f:Nat->Nat,(∀x y,f (x^^^y)=f x^^^f y)->f 0=0:=by
  intro f hf;have:=hf 0 0;rw[Nat.xor_self]at this;rw[this,Nat.xor_self]
 have H:∀k,k<=8->∀x,x<2^k->f x=g x:=by
  intro k
  induction k with
  |zero=>
   intro _ x hx;have:x=0:=(by simpa using hx);subst this;rw[z f hf,z g hg]
  |succ k ih=>
   intro hk x hx;by_cases p9:x<2^k
   ·exact ih (by omega) x p9
   ·have h8:2^(k+1)<=2^8:=Nat.pow_le_pow_right (by omega) hk;have hd:=e3r k (by omega) x (by omega) (by omega) hx;have hx':x=(x^^^2^k)^^^2^k:=(by rw[Nat.xor_assoc,Nat.xor_self,Nat.xor_zero]);rw[hx',hf,hg,ih (by omega) _ hd,h k (by omega)]
 exact H 8 (by omega) x hx
theorem d5k:∀i,i<8->∀j,j<8->gm (2^i) (2^j)=gm (2^j) (2^i):=by decide+kernel
theorem c9x:∀i,i<8->∀j,j<8->∀k,k<8->gm (2^i) (gm (2^j) (2^k))=gm (gm (2^i) (2^j)) (2^k):=by decide+kernel
theorem a6s (a b:Nat)(ha:a<256)(hb:b<256):gm a b=gm b a:=by
 refine a8k (λa=>gm a b) (λa=>gm b a) (λx y=>a6r x y b) (λx y=>a6q b x y) (λi hi=>?_) a ha;exact a8k (λb=>gm (2^i) b) (λb=>gm b (2^i)) (λx y=>a6q _ x y) (λx y=>a6r x y _) (λj hj=>d5k i hi j hj) b hb
theorem a7k (a b c:Nat)(ha:a<256)(hb:b<256)(hc:c<256):gm a (gm b c)=gm (gm a b) c:=by
 refine a8k (λa=>gm a (gm b c)) (λa=>gm (gm a b) c) (λx y=>a6r x y _) (λx y=>by simp only[a6r]) (λi hi=>?_) a ha;refine a8k (λb=>gm (2^i) (gm b c)) (λb=>gm (gm (2^i) b) c) (λx y=>by simp only[a6r,a6q]) (λx y=>by simp only[a6r,a6q]) (λj hj=>?_) b hb;exact a8k (λc=>gm (2^i) (gm (2^j) c)) (λc=>gm (gm (2^i) (2^j)) c) (λx y=>by simp only[a6q]) (λx y=>by simp only[a6q]) (λk hk=>c9x i hi j hj k hk) c hc
theorem b5q (a:Nat):gm a 1=a:=by
 show(1%2*a)^^^gmK 7 (xt a) (1/2)=a;rw[show 1/2=0 from rfl,b2j];simp
theorem b1a (a:Nat):gm a 0=0:=b2j 8 a
theorem b5y (a:Nat)(ha:a<256):gm 0 a=0:=by rw[a6s 0 a (by omega) ha,b1a]
theorem a9m (a:Nat)(ha:a<256):gm 1 a=a:=by rw[a6s 1 a (by omega) ha,b5q]
theorem e8t (a:Nat):gm a 2=xt a:=by
 show(2%2*a)^^^((2/2%2*xt a)^^^gmK 6 (xt (xt a)) (2/2/2))=xt a;rw[show 2/2/2=0 from rfl,b2j];simp
theorem a7o (a n:Nat)(_ha:a<256):gp a n<256:=by
 induction n with
 |zero=>simp[gp]
 |succ n ih=>exact b4u _ _ ih
theorem c0c (a m n:Nat)(ha:a<256):gp a (m+n)=gm (gp a m) (gp a n):=by
 induction n with
 |zero=>simp[gp,b5q]
 |succ n ih=>rw[<-Nat.add_assoc];simp only[gp];rw[ih,a7k _ _ _ (a7o a m ha) (a7o a n ha) ha]
theorem e2o (a:Nat)(ha:a<256):gp a 1=a:=a9m a ha
theorem e8r (a n:Nat)(ha:a<256):gp (gm a a) n=gp a (2*n):=by
 induction n with
 |zero=>rfl
 |succ n ih=>
  rw[show 2*(n+1)=2*n+2 by omega,c0c a (2*n) 2 ha];simp only[gp];rw[ih,a9m a ha]
def p255 (a:Nat):Nat:=
 let p2:=gm (gm a a) a
 let p3:=gm (gm p2 p2) a
 let p4:=gm (gm p3 p3) a
 let p5:=gm (gm p4 p4) a
 let p6:=gm (gm p5 p5) a
 let p7:=gm (gm p6 p6) a
 gm (gm p7 p7) a
theorem e4q (a:Nat)(ha:a<256):p255 a=gp a 255:=by
 have st:∀n,gm (gm (gp a n) (gp a n)) a=gp a (2*n+1):=by
  intro n;rw[<-c0c a n n ha,show n+n=2*n by omega];rfl
 unfold p255;have e1:=st 1;rw[e2o a ha]at e1;simp only[e1,st]
theorem d8l:∀a,a<256->a≠0->p255 a=1:=by decide+kernel
theorem e2q (a:Nat)(ha:a<256)(h:a≠0):gp a 255=1:=by rw[<-e4q a ha];exact d8l a ha h
theorem e8s (a n:Nat)(ha:a<256)(h:a≠0):gp a (n%255)=gp a n:=by
 have g:∀q r,gp a (255*q+r)=gp a r:=by
  intro q
  induction q with
  |zero=>intro r;simp
  |succ q ih=>intro r;rw[show 255*(q+1)+r=255+(255*q+r) by omega,c0c a _ _ ha,e2q a ha h,a9m _ (a7o a _ ha),ih]
 conv=>rhs;rw[show n=255*(n/255)+n%255 by omega]
 rw[g]
theorem e5r (n:Nat)(h:n≠0):gp 0 n=0:=by
 obtain⟨m,rfl⟩:=Nat.exists_eq_succ_of_ne_zero h;exact b1a _
def gi (a:Nat):Nat:=gp a 254
theorem b7n (a:Nat)(ha:a<256):gi a<256:=a7o a _ ha
theorem c9f (a:Nat)(ha:a<256)(h:a≠0):gm a (gi a)=1:=by
 rw[a6s a _ ha (b7n a ha)];exact e2q a ha h
theorem d4r (a b:Nat)(ha:a<256)(hb:b<256)(h:gm a b=1):b=gi a:=by
 have hz:a≠0:=by rintro rfl;rw[b5y b hb]at h;omega
 have:gm (gi a) (gm a b)=gi a:=by rw[h,b5q]
 rw[a7k _ _ _ (b7n a ha) ha hb,a6s _ a (b7n a ha) ha,c9f a ha hz,a9m b hb]at this;exact this
theorem e2r (a:Nat)(ha:a<256)(h:a≠0):gi a≠0:=by
 intro e;have:=c9f a ha h;rw[e,b1a]at this;omega
theorem b5r (a b:Nat)(ha:a<256)(hb:b<256):gm a b=0↔a=0\/b=0:=by
 constructor
 ·intro h;by_cases hz:a=0
  ·exact .inl hz
  ·right
   have:gm (gi a) (gm a b)=0:=(by rw[h,b1a]);rw[a7k _ _ _ (b7n a ha) ha hb,a6s _ a (b7n a ha) ha,c9f a ha hz,a9m b hb]at this;exact this
 ·rintro(rfl|rfl)
  ·exact b5y b hb
  ·exact b1a a
theorem d9r (a n:Nat)(ha:a<256)(h:a≠0):gp a n≠0:=by
 induction n with
 |zero=>simp[gp]
 |succ n ih=>
  simp only[gp];rw[Ne,b5r _ _ (a7o a n ha) ha];rintro(e|e)
  ·exact ih e
  ·exact h e
def lgF:Nat->Nat->Nat->Nat
 |0,_,_=>0
 |k+1,p,a=>if p=a then 0 else lgF k (xt p) a+1
def lg (a:Nat):Nat:=lgF 255 1 a
theorem c6d (n:Nat):gp 2 (n+1)=xt (gp 2 n):=e8t _
theorem e8m (k n a:Nat)(h:lgF k (gp 2 n) a<k):gp 2 (n+lgF k (gp 2 n) a)=a:=by
 induction k generalizing n with
 |zero=>omega
 |succ k ih=>
  unfold lgF at h⊢
  split
  ·rename_i e;rw[Nat.add_zero];exact e
  ·rename_i e
   rw[qn e]at h;rw[<-c6d]at h⊢;have:=ih (n+1) (by omega);rw[show n+(lgF k (gp 2 (n+1)) a+1)=n+1+lgF k (gp 2 (n+1)) a by omega];exact this
theorem d3s (k n a j:Nat)(h:j<lgF k (gp 2 n) a):gp 2 (n+j)≠a:=by
 induction k generalizing n j with
 |zero=>simp[lgF]at h
 |succ k ih=>
  unfold lgF at h
  split at h
  ·omega
  ·rename_i e
   rw[<-c6d]at h
   match j with
   |0=>exact e
   |j+1=>have:=ih (n+1) j (by omega);rw[show n+(j+1)=n+1+j by omega];exact this
theorem e2n:∀a,a<256->a≠0->lg a<255:=by decide+kernel
theorem d2z:lgF 254 2 1=254:=by decide+kernel
theorem ex_lg (a:Nat)(ha:a<256)(h:a≠0):gp 2 (lg a)=a:=by
 have:=e8m 255 0 a (e2n a ha h);rw[Nat.zero_add]at this;exact this
theorem d2y (k:Nat)(h0:0<k)(h1:k<255):gp 2 k≠1:=by
 have e:gp 2 1=2:=by decide
 have:=d3s 254 1 1 (k-1) (by rw[e,d2z];omega);rw[show 1+(k-1)=k by omega]at this;exact this
theorem c0n (i j:Nat)(qL:i<j)(h:j-i<255):gp 2 i≠gp 2 j:=by
 intro e;have h2:gp 2 j=gm (gp 2 i) (gp 2 (j-i)):=by rw[<-c0c 2 _ _ (by omega),show i+(j-i)=j by omega]
 rw[<-e]at h2;have hi:=a7o 2 i (by omega);have hz:=d9r 2 i (by omega) (by omega);have h3:gm (gi (gp 2 i)) (gp 2 i)=gm (gi (gp 2 i)) (gm (gp 2 i) (gp 2 (j-i))):=by rw[<-h2]
 rw[a7k _ _ _ (b7n _ hi) hi (a7o 2 _ (by omega)),a6s _ (gp 2 i) (b7n _ hi) hi,c9f _ hi hz,a9m _ (a7o 2 _ (by omega))]at h3;exact d2y (j-i) (by omega) h h3.symm
theorem e9b (i j:Nat)(hi:i<255)(hj:j<255)(h:gp 2 i=gp 2 j):i=j:=by
 rcases Nat.lt_trichotomy i j with p9|e|p9
 ·exact absurd h (c0n i j p9 (by omega))
 ·exact e
 ·exact absurd h.symm (c0n j i p9 (by omega))
theorem e8l (n:Nat)(h:n<255):lg (gp 2 n)=n:=
 e9b _ _ (e2n _ (a7o 2 n (by omega)) (d9r 2 n (by omega) (by omega))) h (ex_lg _ (a7o 2 n (by omega)) (d9r 2 n (by omega) (by omega)))
theorem b1i {k:IntKind}{a b:Int}(h:a=b):Ending.returned (.int k a)=.returned (.int k b):=by rw[h]
theorem c0e (A B:Nat)(ha:A<256)(hb:B<256)(w:World):
 Calls prog 231 #[.int .u8 (A:Int),.int .u8 (B:Int)] w λe w'=>e=.returned (.int .u8 ((A^^^B:Nat):Int))/\w'=w:=by
 have h:=u8_xor_nat A B ha hb;go_enter func231,ntmps231;go_wp2;go_ret;exact⟨rfl,rfl⟩
theorem e9y:∀a,a<256->a&&&128=a/128*128:=by decide+kernel
theorem xt_hi (A:Nat)(h:128<=A)(h2:A<256):xt A=(A*2%256)^^^29:=by
 unfold xt;rw[show A/128%2=1 by omega]
theorem xt_lo (A:Nat)(h:A<128):xt A=A*2%256:=by
 unfold xt;rw[show A/128%2=0 by omega];simp
theorem b1m (A:Nat)(ha:A<256)(w:World):
 Calls prog 232 #[.int .u8 (A:Int)] w λe w'=>e=.returned (.int .u8 (xt A:Int))/\w'=w:=by
 have h:bits .and .u8 (A:Int) 128=((A/128*128:Nat):Int):=by
  rw[<-e9y A ha];exact u8_and_nat A 128 ha (by omega)
 by_cases hc:A<128
 ·have hx:=xt_lo A hc;rw[show A/128*128=0 by omega]at h;go_enter func232,ntmps232;go_wp2_with fail;go_ret;exact⟨b1i (by rw[hx];omega),rfl⟩
 ·have hx:=xt_hi A (by omega) ha;rw[show A/128*128=128 by omega]at h;go_enter func232,ntmps232;go_wp2_with fail;go_at_call 231;refine(c0e (A*2%256) 29 (by omega) (by omega) _).mono ?_;rintro e w' ⟨rfl,rfl⟩;go_wp2_with fail;go_ret;exact⟨b1i (by rw[hx]),rfl⟩
theorem d9u (k A B P:Nat)(hB:B≠0)(hk:B<2^k):
 ∃j,k=j+1/\B/2<2^j/\P^^^gmK k A B=(P^^^(B%2*A))^^^gmK j (xt A) (B/2):=by
 cases k with
 |zero=>omega
 |succ j=>exact⟨j,rfl,by rw[Nat.pow_succ]at hk;omega,by rw[Nat.xor_assoc];rfl⟩
theorem a4v (a b:Nat)(ha:a<256)(hb:b<256)(w:World):
 Calls prog 199 #[.int .u8 (a:Int),.int .u8 (b:Int)] w λe w'=>e=.returned (.int .u8 (gm a b:Int))/\w'=w:=by
 go_enter func199,ntmps199;go_wp2_with fail;go_loop [0,1,5] (λx y p=>∃k A B P:Nat,A<256/\B<256/\P<256/\B<2^k/\x=.int .u8 (A:Int)/\y=.int .u8 (B:Int)/\p=.int .u8 (P:Int)/\P^^^gmK k A B=gm a b) (λ_ y _=>(intOf y).toNat)
 case atStart=>exact⟨8,a,b,0,ha,hb,by omega,hb,rfl,rfl,rfl,by rw[Nat.zero_xor];rfl⟩
 case round=>
  obtain⟨k,A,B,P,hA,hB,hP,hk,rfl,rfl,rfl,hi⟩:=hrel;by_cases hz:B=0
  ·subst hz;go_wp2_with fail;go_ret;rw[b2j,Nat.xor_zero]at hi;exact⟨b1i (by rw[hi]),rfl⟩
  ·obtain⟨j,rfl,hj,hst⟩:=d9u k A B P hz hk;rw[hst]at hi;have HI:Hid ((P^^^(B%2*A))^^^gmK j (xt A) (B/2)=gm a b):=hi;have hx:=e6s A;clear hi hst hk;have h:bits .and .u8 (B:Int) 1=((B%2:Nat):Int):=by
    rw[<-nat_mask1 B];exact u8_and_nat B 1 hB (by omega)
   by_cases fO:B%2=0
   ·rw[fO]at h HI;go_wp2_with fail;go_at_call 232;refine(b1m A hA _).mono ?_;rintro e w' ⟨rfl,rfl⟩;go_wp2_with fail;go_round
    case rel=>exact⟨j,xt A,B/2,P,hx,by omega,hP,hj,rfl,rfl,rfl,by have:=HI.out;rw[Nat.zero_mul,Nat.xor_zero]at this;exact this⟩
    case measure=>simp[intOf];omega
   ·have dC:B%2=1:=(by omega);rw[dC]at h HI;go_wp2_with fail;go_at_call 231;refine(c0e P A hP hA _).mono ?_;rintro e w' ⟨rfl,rfl⟩;go_wp2_with fail;go_at_call 232;refine(b1m A hA _).mono ?_;rintro e w' ⟨rfl,rfl⟩;go_wp2_with fail;go_round
    case rel=>exact⟨j,xt A,B/2,P^^^A,hx,by omega,Nat.xor_lt_two_pow (n:=8) hP hA,hj,rfl,rfl,rfl,by have:=HI.out;rw[Nat.one_mul]at this;exact this⟩
    case measure=>simp[intOf];omega
def gpow (a:Nat)(n:Int):Nat:=if a=0/\n≠0 then 0 else gp a (n%255).toNat
theorem d4m (a:Nat)(n:Int)(h:a≠0):gpow a n=gp a (n%255).toNat:=by
 unfold gpow;rw[qn (λh'=>h h'.1)]
theorem c6c (a n:Nat)(ha:a<256):gpow a (n:Int)=gp a n:=by
 unfold gpow
 split
 ·rename_i h
  rw[h.1,e5r n (by omega)]
 ·rename_i h
  by_cases hz:a=0
  ·have:n=0:=(by omega);subst this;rfl
  ·rw[show((n:Int)%255).toNat=n%255 by omega,e8s a n ha hz]
theorem c0m (n:Int)(h0:-9223372036854775808<=n)(h1:n<=9223372036854775807)(w:World):
 Calls prog 200 #[.int .i64 n] w λe w'=>e=.returned (.int .i64 (n%255))/\w'=w:=by
 obtain⟨r,hr⟩:∃r,n.tmod 255=r:=⟨_,rfl⟩;have hb:-255<r/\r<255/\(r+255)%255=n%255:=by
  have e:=Int.tmod_eq_emod (a:=n) (b:=255);have:(255:Int).natAbs=255:=rfl
  split at e<;>omega
 have ht:(r+255).tmod 255=n%255:=by
  rw[Int.tmod_eq_emod_of_nonneg (by omega)];exact hb.2.2
 obtain⟨hb1,hb2,_⟩:=hb;go_enter func200,ntmps200;go_wp2_with fail;go_ret;exact⟨rfl,rfl⟩
theorem b4m (n:Int)(k:Nat)(hk:k<63):bits .and .i64 n (2^k-1:Nat)=n%(2^k:Nat):=by
 have hp:0<2^k:=Nat.pow_pos (by omega);have hp2:2^k<2^63:=Nat.pow_lt_pow_right (by omega) hk;have hd:2^k∣2^64:=Nat.pow_dvd_pow 2 (by omega);have h:(BitVec.ofInt 64 n&&&BitVec.ofInt 64 (2^k-1:Nat)).toNat=(n%(2^k:Nat)).toNat:=by
  rw[BitVec.toNat_and,BitVec.toNat_ofInt,BitVec.ofInt_natCast,BitVec.toNat_ofNat,Nat.mod_eq_of_lt (a:=2^k-1) (by omega),Nat.and_two_pow_sub_one_eq_mod];have e:n%(2^k:Nat)=(n%(2^64:Nat))%(2^k:Nat):=(Int.emod_emod_of_dvd n (Int.ofNat_dvd.2 hd)).symm;rw[e];obtain⟨m,hm⟩:∃m:Nat,n%(2^64:Nat)=(m:Int):=⟨(n%(2^64:Nat)).toNat,by omega⟩;rw[hm,Int.toNat_natCast,<-Int.natCast_emod,Int.toNat_natCast]
 show IntKind.i64.wrap ((BitVec.ofInt 64 n&&&BitVec.ofInt 64 (2^k-1:Nat)).toNat:Int)=_;have h0:0<=n%(2^k:Nat):=Int.emod_nonneg _ (by omega);have h1:n%(2^k:Nat)<(2^k:Nat):=Int.emod_lt_of_pos _ (by omega);rw[h,IntWalk.i64_in _ ⟨by omega,by omega⟩];omega
theorem d4n (a n:Nat)(ha:a<256)(h:n%2=0):gp (gm a a) (n/2)=gp a n:=by
 rw[e8r a _ ha,show 2*(n/2)=n by omega]
theorem e2p (p a n:Nat)(hp:p<256)(ha:a<256)(h:n%2=1):gm (gm p a) (gp (gm a a) (n/2))=gm p (gp a n):=by
 rw[e8r a _ ha,<-a7k p a _ hp ha (a7o a _ ha)];congr 1
 conv=>rhs;rw[show n=1+2*(n/2) by omega,c0c a _ _ ha,e2o a ha]
theorem c0d (a:Nat)(ha:a<256)(n:Int)(h0:-9223372036854775808<=n)(h1:n<=9223372036854775807)(w:World):
 Calls prog 163 #[.int .u8 (a:Int),.int .i64 n] w λe w'=>e=.returned (.int .u8 (gpow a n:Int))/\w'=w:=by
 obtain⟨R,hR⟩:∃R,gpow a n=R:=⟨_,rfl⟩;rw[hR];unfold gpow at hR;by_cases hz:a=0/\n≠0
 ·rw[qp hz]at hR;subst hR;obtain⟨rfl,hn⟩:=hz;have hn':(n !=0)=true:=by simpa using hn
  go_enter func163,ntmps163;go_wp2_with fail;go_ret;exact⟨rfl,rfl⟩
 ·rw[qn hz]at hR;have hz':¬((a:Int)=0/\¬n=0):=by omega
  obtain⟨K,hK⟩:∃K:Nat,n%255=(K:Int):=⟨(n%255).toNat,by omega⟩;have hK255:K<255:=by omega
  rw[hK,Int.toNat_natCast]at hR;have HR:Hid (gp a K=R):=hR;have HK:Hid (n%255=(K:Int)):=hK;clear hR hK;have start:Calls prog 200 #[.int .i64 n] w λe w'=>e=.returned (.int .i64 (K:Int))/\w'=w:=by
   rw[<-HK.out];exact c0m n h0 h1 w
  go_enter func163,ntmps163;by_cases ha0:a=0
  ·have hn0:n=0:=(by omega);subst ha0 hn0;go_wp2_with fail;go_at_call 200;refine start.mono ?_;rintro e w' ⟨rfl,rfl⟩;go_wp2_with fail;go_loop [0,5,6] (λx p k=>∃A P k':Nat,A<256/\P<256/\k'<=K/\x=.int .u8 (A:Int)/\p=.int .u8 (P:Int)/\k=.int .i64 (k':Int)/\gm P (gp A k')=R) (λ_ _ k=>(intOf k).toNat)
   case atStart=>exact⟨0,1,K,by omega,by omega,by omega,rfl,rfl,rfl,by rw[a9m _ (a7o _ _ (by omega))];exact HR.out⟩
   case round=>
    obtain⟨A,P,k,hA,hP,hk,rfl,rfl,rfl,hi⟩:=hrel;have HI:Hid (gm P (gp A k)=R):=hi;clear hi;have h:bits .and .i64 (k:Int) 1=((k%2:Nat):Int):=b4m (k:Int) 1 (by omega);by_cases hz:k=0
    ·subst hz;go_wp2_with fail;go_ret;exact⟨b1i (by rw[<-HI.out];simp only[gp];rw[b5q]),rfl⟩
    ·have sH:0<k:=(by omega);by_cases fO:k%2=0
     ·rw[fO]at h;go_wp2_with fail;go_at_call 199;refine(a4v A A hA hA _).mono ?_;rintro e w' ⟨rfl,rfl⟩;go_wp2_with fail;go_round
      case rel=>exact⟨gm A A,P,k/2,b4u _ _ hA,hP,by omega,rfl,rfl,by go_num,by rw[d4n A k hA fO];exact HI.out⟩
      case measure=>simp[intOf];omega
     ·have dC:k%2=1:=(by omega);rw[dC]at h;go_wp2_with fail;go_at_call 199;refine(a4v P A hP hA _).mono ?_;rintro e w' ⟨rfl,rfl⟩;go_wp2_with fail;go_at_call 199;refine(a4v A A hA hA _).mono ?_;rintro e w' ⟨rfl,rfl⟩;go_wp2_with fail;go_round
      case rel=>exact⟨gm A A,gm P A,k/2,b4u _ _ hA,b4u _ _ hP,by omega,rfl,rfl,by go_num,by rw[e2p P A k hP hA dC];exact HI.out⟩
      case measure=>simp[intOf];omega
  ·have haz:((a:Int)==0)=false:=(by simp;omega);go_wp2_with fail;go_at_call 200;refine start.mono ?_;rintro e w' ⟨rfl,rfl⟩;go_wp2_with fail;go_loop [0,5,6] (λx p k=>∃A P k':Nat,A<256/\P<256/\k'<=K/\x=.int .u8 (A:Int)/\p=.int .u8 (P:Int)/\k=.int .i64 (k':Int)/\gm P (gp A k')=R) (λ_ _ k=>(intOf k).toNat)
   case atStart=>exact⟨a,1,K,by omega,by omega,by omega,rfl,rfl,rfl,by rw[a9m _ (a7o _ _ (by omega))];exact HR.out⟩
   case round=>
    obtain⟨A,P,k,hA,hP,hk,rfl,rfl,rfl,hi⟩:=hrel;have HI:Hid (gm P (gp A k)=R):=hi;clear hi;have h:bits .and .i64 (k:Int) 1=((k%2:Nat):Int):=b4m (k:Int) 1 (by omega);by_cases hz:k=0
    ·subst hz;go_wp2_with fail;go_ret;exact⟨b1i (by rw[<-HI.out];simp only[gp];rw[b5q]),rfl⟩
    ·have sH:0<k:=(by omega);by_cases fO:k%2=0
     ·rw[fO]at h;go_wp2_with fail;go_at_call 199;refine(a4v A A hA hA _).mono ?_;rintro e w' ⟨rfl,rfl⟩;go_wp2_with fail;go_round
      case rel=>exact⟨gm A A,P,k/2,b4u _ _ hA,hP,by omega,rfl,rfl,by go_num,by rw[d4n A k hA fO];exact HI.out⟩
      case measure=>simp[intOf];omega
     ·have dC:k%2=1:=(by omega);rw[dC]at h;go_wp2_with fail;go_at_call 199;refine(a4v P A hP hA _).mono ?_;rintro e w' ⟨rfl,rfl⟩;go_wp2_with fail;go_at_call 199;refine(a4v A A hA hA _).mono ?_;rintro e w' ⟨rfl,rfl⟩;go_wp2_with fail;go_round
      case rel=>exact⟨gm A A,gm P A,k/2,b4u _ _ hA,b4u _ _ hP,by omega,rfl,rfl,by go_num,by rw[e2p P A k hP hA dC];exact HI.out⟩
      case measure=>simp[intOf];omega
theorem e5s (a:Nat)(h:a≠0):gpow a (-1)=gi a:=by rw[d4m a _ h];rfl
theorem d4s (a:Nat)(ha:a<256)(hz:a≠0)(w:World):
 Calls prog 217 #[.int .u8 (a:Int)] w λe w'=>e=.returned (.tuple #[.int .u8 (gi a:Int),.int .i64 0])/\w'=w:=by
 have haz:¬(a:Int)=0:=by omega
 go_enter func217,ntmps217;go_wp2_with fail;go_at_call 163;refine(c0d a ha (-1) (by decide) (by decide) _).mono ?_;rw[e5s a hz];rintro e w' ⟨rfl,rfl⟩;go_wp2_with fail;go_ret2;exact⟨rfl,rfl⟩
def co (N j:Nat):Nat:=N/2^j%2
theorem a8p (N j:Nat):co N j<2:=Nat.mod_lt _ (by omega)
theorem c6p (a b j:Nat):co (a^^^b) j=co a j^^^co b j:=by
 unfold co;rw[Nat.xor_div_two_pow,c1n]
theorem e9m (b j i:Nat)(hb:b<2):co (b*2^j) i=if i=j then b else 0:=by
 have hb':b=0\/b=1:=by omega
 unfold co;rcases hb' with rfl|rfl
 ·simp
 ·rw[Nat.one_mul];rcases Nat.lt_trichotomy i j with h|h|h
  ·rw[qn (by omega),show 2^j=2*2^(j-i-1)*2^i by rw[Nat.mul_comm 2,<-Nat.pow_succ,<-Nat.pow_add];congr 1;omega,Nat.mul_div_cancel _ (Nat.pow_pos (by omega))];omega
  ·subst h;rw[qp rfl,Nat.div_self (Nat.pow_pos (by omega))]
  ·rw[qn (by omega),Nat.div_eq_of_lt (Nat.pow_lt_pow_right (by omega) h)]
theorem e3g (p q:Nat)(hp:p<2)(hq:q<2):p^^^q=(p+q)%2:=by
 have hp':p=0\/p=1:=by omega
 have hq':q=0\/q=1:=by omega
 rcases hp' with rfl|rfl<;>rcases hq' with rfl|rfl<;>rfl
theorem e6j (p q:Nat)(hp:p<2)(hq:q<2):p*q<2:=by
 have hp':p=0\/p=1:=by omega
 rcases hp' with rfl|rfl<;>omega
theorem a8j (a b s:Nat):(a^^^b)*2^s=(a*2^s)^^^(b*2^s):=by
 have:=Nat.shiftLeft_xor_distrib (a:=a) (b:=b) (i:=s);simpa[Nat.shiftLeft_eq]using this
def cin (a b i N:Nat):Nat->Nat
 |0=>N
 |k+1=>cin a b i N k^^^(co a i*co b k)*2^(i+k)
def cout (a b:Nat):Nat->Nat
 |0=>0
 |i+1=>cin a b i (cout a b i) 8
def rin (s N:Nat):Nat->Nat
 |0=>N
 |k+1=>rin s N k^^^co 285 k*2^(s+k)
def rout (N:Nat):Nat->Nat
 |0=>N
 |t+1=>rout N t^^^co (rout N t) (15-t)*(285*2^(7-t))
theorem d8t:∀k,k<9->285%2^(k+1)=(285%2^k)^^^(co 285 k*2^k):=by decide
theorem e7n (s N k:Nat)(hk:k<=9):rin s N k=N^^^(285%2^k)*2^s:=by
 induction k with
 |zero=>simp[rin,Nat.mod_one]
 |succ k ih=>
  rw[rin,ih (by omega),d8t k (by omega),a8j,Nat.xor_assoc,Nat.mul_assoc,<-Nat.pow_add,Nat.add_comm k s]
theorem rin_9 (s N:Nat):rin s N 9=N^^^285*2^s:=e7n s N 9 (by omega)
theorem cinL (a a' b i N M k:Nat):cin (a^^^a') b i (N^^^M) k=cin a b i N k^^^cin a' b i M k:=by
 induction k with
 |zero=>rfl
 |succ k ih=>
  simp only[cin];rw[ih,c6p,a3n _ _ _ (a8p a i) (a8p a' i),a8j,a7b]
theorem cinR (a b b' i N M k:Nat):cin a (b^^^b') i (N^^^M) k=cin a b i N k^^^cin a b' i M k:=by
 induction k with
 |zero=>rfl
 |succ k ih=>
  simp only[cin];rw[ih,c6p,Nat.mul_comm (co a i),a3n _ _ _ (a8p b k) (a8p b' k),Nat.mul_comm _ (co a i),Nat.mul_comm _ (co a i),a8j,a7b]
theorem coutL (a a' b i:Nat):cout (a^^^a') b i=cout a b i^^^cout a' b i:=by
 induction i with
 |zero=>simp[cout]
 |succ i ih=>simp only[cout];rw[ih,cinL]
theorem coutR (a b b' i:Nat):cout a (b^^^b') i=cout a b i^^^cout a b' i:=by
 induction i with
 |zero=>simp[cout]
 |succ i ih=>simp only[cout];rw[ih,cinR]
theorem c5e (N M t:Nat):rout (N^^^M) t=rout N t^^^rout M t:=by
 induction t with
 |zero=>rfl
 |succ t ih=>simp only[rout];rw[ih,c6p,a3n _ _ _ (a8p _ _) (a8p _ _),a7b]
def dm (a b:Nat):Nat:=rout (cout a b 8) 8%256
theorem d3j (a b:Nat):(a^^^b)%256=(a%256)^^^(b%256):=Nat.xor_mod_two_pow (a:=a) (b:=b) (n:=8)
theorem dmL (a a' b:Nat):dm (a^^^a') b=dm a b^^^dm a' b:=by unfold dm;rw[coutL,c5e,d3j]
theorem dmR (a b b':Nat):dm a (b^^^b')=dm a b^^^dm a b':=by unfold dm;rw[coutR,c5e,d3j]
theorem e5x:∀i,i<8->∀j,j<8->dm (2^i) (2^j)=gm (2^i) (2^j):=by decide+kernel
theorem dm_gm (a b:Nat)(ha:a<256)(hb:b<256):dm a b=gm a b:=by
 refine a8k (λa=>dm a b) (λa=>gm a b) (λx y=>dmL x y b) (λx y=>a6r x y b) (λi hi=>?_) a ha;exact a8k (λb=>dm (2^i) b) (λb=>gm (2^i) b) (λx y=>dmR _ x y) (λx y=>a6q _ x y) (λj hj=>e5x i hi j hj) b hb
def rowOf (N:Nat):List Value:=(List.range 16).map λj=>.int .i64 (co N j:Int)
theorem b9a (N:Nat):(rowOf N).length=16:=by simp[rowOf]
theorem d1p (N j:Nat)(h:j<16):(rowOf N)[j]?=some (.int .i64 (co N j:Int)):=by simp[rowOf,h]
theorem d1o (N j b:Nat)(hb:b<2):(rowOf N).set j (.int .i64 (((co N j+b)%2:Nat):Int))=rowOf (N^^^b*2^j):=by
 unfold rowOf;apply List.ext_getElem
 ·simp
 ·intro i h1 h2;simp only[List.length_set,List.length_map,List.length_range]at h1;rw[List.getElem_set,List.getElem_map,List.getElem_map,List.getElem_range];rw[c6p,e9m b j i hb];by_cases e:j=i
  ·subst e;rw[qp rfl,qp rfl,e3g _ _ (a8p N j) hb]
  ·rw[qn e,qn (by omega),Nat.xor_zero]
theorem c8c:rowOf 0=List.replicate 16 (.int .i64 0):=by
 unfold rowOf;exact List.eq_replicate_iff.2 ⟨by simp,by simp[co]⟩
def OwnsC (w:World)(base g N:Nat):Prop:=w.ownsRow base 240 1 (.slice (some ⟨g,0,none⟩) 16 16) 16 (rowOf N)
theorem OwnsC.cell {w:World}{base g N:Nat}(h:OwnsC w base g N)(j:Nat)(hj:j<16):w.cell? ⟨g,j,none⟩=some (.int .i64 (co N j:Int)):=by
 rw[World.ownsRow.cellAt h j (by omega),d1p N j hj]
theorem OwnsC.frozen {w:World}{base g N:Nat}(h:OwnsC w base g N)(j:Nat):w.frozen? ⟨g,j,none⟩=false:=World.ownsRow.frozenAt h j
theorem OwnsC.stored {w:World}{base g N:Nat}(h:OwnsC w base g N)(j b:Nat)(hb:b<2):
 OwnsC (w.setCell ⟨g,j,none⟩ (.int .i64 (((co N j:Int)+(b:Int))%2))) base g (N^^^b*2^j):=by
 have:=(World.ownsRow.stored h j (.int .i64 (((co N j+b)%2:Nat):Int))).1;rw[d1o N j b hb]at this;have e:(((co N j+b)%2:Nat):Int)=((co N j:Int)+(b:Int))%2:=by omega
 rw[e]at this;exact this
def rowM:List Value:=(List.range 9).map λj=>.int .i64 (co 285 j:Int)
theorem e4d:rowM=[.int .i64 1,.int .i64 0,.int .i64 1,.int .i64 1,.int .i64 1,.int .i64 0,.int .i64 0,.int .i64 0,.int .i64 1]:=by rfl
def OwnsM (w:World)(base g:Nat):Prop:=w.ownsRow base 241 1 (.slice (some ⟨g,0,none⟩) 9 9) 9 rowM
theorem OwnsM.cell {w:World}{base g:Nat}(h:OwnsM w base g)(j:Nat)(hj:j<9):w.cell? ⟨g,j,none⟩=some (.int .i64 (co 285 j:Int)):=by
 rw[World.ownsRow.cellAt h j (by omega)];simp[rowM,hj]
theorem OwnsM.other {w:World}{base g:Nat}(h:OwnsM w base g){a:Addr}(ha:a.block≠g)(u:Value):OwnsM (w.setCell a u) base g:=
 ownsRow_setCell_other h (by simp[Value.ownBlock];exact λe=>ha e.symm) u
theorem c6b (a k:Nat):a/2^k/2=a/2^(k+1):=by rw[Nat.div_div_eq_div_mul,<-Nat.pow_succ]
theorem d9a (M v:Nat)(h:v<8):2*(M%256/2^(v+1))+co M v=M%256/2^v:=by
 unfold co;have:v=0\/v=1\/v=2\/v=3\/v=4\/v=5\/v=6\/v=7:=by omega
 rcases this with rfl|rfl|rfl|rfl|rfl|rfl|rfl|rfl<;>simp only[Nat.reducePow,Nat.reduceAdd]<;>omega
theorem d7u (N t s:Nat)(hs:s+t=7)(h:co (rout N t) (s+8)=1):rout N (t+1)=rin s (rout N t) 9:=by
 rw[rin_9,rout,show 15-t=s+8 by omega,h,show 7-t=s by omega,Nat.one_mul]
theorem d1t (N t s:Nat)(hs:s+t=7)(h:co (rout N t) (s+8)=0):rout N (t+1)=rout N t:=by
 rw[rout,show 15-t=s+8 by omega,h,Nat.zero_mul,Nat.xor_zero]
theorem a7e (a b:Nat)(ha:a<256)(hb:b<256)(w:World):
 Calls prog 111 #[.int .u8 (a:Int),.int .u8 (b:Int)] w λe w'=>e=.returned (.int .u8 (gm a b:Int))/\Below w.heap.size w w':=by
 go_enter func111,ntmps111;go_wp2_with fail;have nO:OwnsC (w.alloc (.cells #[.int .i64 0,.int .i64 0,.int .i64 0,.int .i64 0,.int .i64 0,.int .i64 0,.int .i64 0,.int .i64 0,.int .i64 0,.int .i64 0,.int .i64 0,.int .i64 0,.int .i64 0,.int .i64 0,.int .i64 0,.int .i64 0] 240)) w.heap.size w.heap.size 0:=
  ⟨by rw[b9a],.inr ⟨w.heap.size,16,_,rfl,ql _,heap_alloc_new w _,ql _,by unfold maxLen;omega,rfl,by rw[c8c];rfl⟩⟩
 have oG:Below w.heap.size w (w.alloc (.cells #[.int .i64 0,.int .i64 0,.int .i64 0,.int .i64 0,.int .i64 0,.int .i64 0,.int .i64 0,.int .i64 0,.int .i64 0,.int .i64 0,.int .i64 0,.int .i64 0,.int .i64 0,.int .i64 0,.int .i64 0,.int .i64 0] 240)):=(qw _ _).alloc (ql _) _;generalize w.alloc (.cells #[.int .i64 0,.int .i64 0,.int .i64 0,.int .i64 0,.int .i64 0,.int .i64 0,.int .i64 0,.int .i64 0,.int .i64 0,.int .i64 0,.int .i64 0,.int .i64 0,.int .i64 0,.int .i64 0,.int .i64 0,.int .i64 0] 240)=ws at nO oG⊢;go_loopw[6,7] (λx i wr=>∃k:Nat,k<=8/\x=.int .i64 ((a/2^k:Nat):Int)/\i=.int .i64 (k:Int)/\OwnsC wr w.heap.size w.heap.size (cout a b k)/\Below w.heap.size w wr) (λ_ i _=>8-(intOf i).toNat)
 case atStart=>exact⟨0,by omega,by simp,rfl,nO,oG⟩
 case round=>
  obtain⟨k,hk,rfl,rfl,q8,t8⟩:=hrel;have HX:Hid (a/2^k/2=a/2^(k+1)):=c6b a k;have tR:a/2^k<=a:=Nat.div_le_self _ _;obtain⟨P,hP⟩:∃P,co a k=P:=⟨_,rfl⟩;have hP2:P<2:=by rw[<-hP];exact a8p a k
  have HP:Hid (co a k=P):=hP;have hx2:((a/2^k:Nat):Int)%2=(P:Int):=by rw[<-hP];unfold co;omega
  clear hP;generalize a/2^k=X at HX tR hx2⊢;by_cases p9:k<8
  ·rename World=>wo
   go_wp2_with fail;go_loopw[8,9] (λy j wi=>∃q:Nat,q<=8/\y=.int .i64 ((b/2^q:Nat):Int)/\j=.int .i64 (q:Int)/\OwnsC wi w.heap.size w.heap.size (cin a b k (cout a b k) q)/\Below w.heap.size w wi) (λ_ j _=>8-(intOf j).toNat)
   case atStart=>exact⟨0,by omega,by simp,rfl,q8,t8⟩
   case round=>
    obtain⟨q,hq,rfl,rfl,aF,aQ⟩:=hrel;have HY:Hid (b/2^q/2=b/2^(q+1)):=c6b b q;have hYle:b/2^q<=b:=Nat.div_le_self _ _;obtain⟨Q,hQ⟩:∃Q,co b q=Q:=⟨_,rfl⟩;have hQ2:Q<2:=(by rw[<-hQ];exact a8p b q);have HQ:Hid (co b q=Q):=hQ;have hy2:((b/2^q:Nat):Int)%2=(Q:Int):=(by rw[<-hQ];unfold co;omega);clear hQ;generalize b/2^q=Y at HY hYle hy2⊢;by_cases rL:q<8
    ·obtain⟨R,hR⟩:∃R,P*Q=R:=⟨_,rfl⟩;have hR2:R<2:=(by rw[<-hR];exact e6j P Q hP2 hQ2);have hm:(P:Int)*(Q:Int)=(R:Int):=(by rw[<-hR];simp);obtain⟨M,hM⟩:∃M,cin a b k (cout a b k) q=M:=⟨_,rfl⟩;rw[hM]at aF;have x5:=aF.cell (k+q) (by omega);have eC:=aF.frozen (k+q);have hst:=aF.stored (k+q) R hR2;have hC:=a8p M (k+q);have hS:cin a b k (cout a b k) (q+1)=M^^^R*2^(k+q):=(by rw[cin,hM,HP.out,HQ.out,hR]);rw[<-hS]at hst;clear hR hS hM;generalize co M (k+q)=C at x5 hst hC;go_wp2_with fail;go_roundw
     case rel=>exact⟨q+1,by omega,by rw[<-HY.out];go_num,by go_num,hst,aQ.setCell (ql _) _⟩
     case measure=>simp[intOf];omega
    ·have hq8:q=8:=(by omega);subst hq8;go_wp2_with fail;go_roundw
     case rel=>exact⟨k+1,by omega,by rw[<-HX.out];go_num,by go_num,aF,aQ⟩
     case measure=>simp[intOf];omega
  ·have hk8:k=8:=(by omega);subst hk8;go_wp2_with fail;have gY:w.heap.size<wr.heap.size:=(World.ownsRow.lt q8 w.heap.size rfl).2;have jH:OwnsM (wr.alloc (.cells #[.int .i64 1,.int .i64 0,.int .i64 1,.int .i64 1,.int .i64 1,.int .i64 0,.int .i64 0,.int .i64 0,.int .i64 1] 241)) w.heap.size wr.heap.size:=
    ⟨rfl,.inr ⟨wr.heap.size,9,_,rfl,t8.size,heap_alloc_new wr _,ql _,by unfold maxLen;omega,rfl,by rw[e4d];rfl⟩⟩
   have nN:OwnsC (wr.alloc (.cells #[.int .i64 1,.int .i64 0,.int .i64 1,.int .i64 1,.int .i64 1,.int .i64 0,.int .i64 0,.int .i64 0,.int .i64 1] 241)) w.heap.size w.heap.size (cout a b 8):=World.ownsRow.alloc q8 _;have oF:=t8.alloc t8.size (.cells #[.int .i64 1,.int .i64 0,.int .i64 1,.int .i64 1,.int .i64 1,.int .i64 0,.int .i64 0,.int .i64 0,.int .i64 1] 241);generalize wr.alloc (.cells #[.int .i64 1,.int .i64 0,.int .i64 1,.int .i64 1,.int .i64 1,.int .i64 0,.int .i64 0,.int .i64 0,.int .i64 1] 241)=wm at jH nN oF⊢;generalize wr.heap.size=G at jH gY⊢;clear q8 t8;go_loopw[11] (λi wx=>∃t:Nat,t<=8/\i=.int .i64 (15-(t:Int))/\OwnsC wx w.heap.size w.heap.size (rout (cout a b 8) t)/\OwnsM wx w.heap.size G/\Below w.heap.size w wx) (λi _=>(intOf i-7).toNat)
   case atStart=>exact⟨0,by omega,rfl,nN,jH,oF⟩
   case round=>
    obtain⟨t,ht,rfl,q8,hom,t8⟩:=hrel;by_cases p9:t<8
    ·obtain⟨s,hs⟩:∃s,s+t=7:=⟨7-t,by omega⟩;have hi:(15-(t:Int))=((s+8:Nat):Int):=(by omega);rw[hi];have x5:=q8.cell (s+8) (by omega);have hC:=a8p (rout (cout a b 8) t) (s+8);by_cases hc0:co (rout (cout a b 8) t) (s+8)=0
     ·have hS:=d1t (cout a b 8) t s hs hc0;rw[hc0]at x5;rw[<-hS]at q8;clear hC hc0 hS;go_wp2_with fail;go_roundw
      case rel=>exact⟨t+1,by omega,by go_num,q8,hom,t8⟩
      case measure=>simp[intOf];omega
     ·have hc1:co (rout (cout a b 8) t) (s+8)=1:=(by omega);have hS:=d7u (cout a b 8) t s hs hc1;rw[hc1]at x5;obtain⟨M,hM⟩:∃M,rout (cout a b 8) t=M:=⟨_,rfl⟩;rw[hM]at hS q8;have HS:Hid (rout (cout a b 8) (t+1)=rin s M 9):=hS;clear hC hc0 hS hc1 hM
      rename World=>wo
      go_wp2_with fail;go_loopw[12] (λj wi=>∃q:Nat,q<=9/\j=.int .i64 (q:Int)/\OwnsC wi w.heap.size w.heap.size (rin s M q)/\OwnsM wi w.heap.size G/\Below w.heap.size w wi) (λj _=>9-(intOf j).toNat)
      case atStart=>exact⟨0,by omega,rfl,q8,hom,t8⟩
      case round=>
       obtain⟨q,hq,rfl,aF,pE,aQ⟩:=hrel;by_cases rL:q<9
       ·have mE:=aF.cell (s+q) (by omega);have eC:=aF.frozen (s+q);have hmq:=pE.cell q rL;have hst:=aF.stored (s+q) (co 285 q) (a8p _ _);have hC:=a8p (rin s M q) (s+q);have hD:=a8p 285 q;have hS:rin s M (q+1)=rin s M q^^^co 285 q*2^(s+q):=rfl;rw[<-hS]at hst;clear hS x5;generalize co (rin s M q) (s+q)=C at mE hst hC;generalize co 285 q=D at hmq hst hD;go_wp2_with fail;go_region
        all_goals
         go_wp2_with fail;go_roundw
         case rel=>exact⟨q+1,by omega,by go_num,hst,pE.other (by simp;omega) _,(aQ.setCell (ql _) _).drew⟩
         case measure=>simp[intOf];omega
       ·have hq9:q=9:=(by omega);subst hq9;rw[<-HS.out]at aF;go_wp2_with fail;go_roundw
        case rel=>exact⟨t+1,by omega,by go_num,aF,pE,aQ⟩
        case measure=>simp[intOf];omega
    ·have ht8:t=8:=(by omega);subst ht8;go_wp2_with fail;obtain⟨M,hM⟩:∃M,rout (cout a b 8) 8=M:=⟨_,rfl⟩;have HR:Hid (M%256=gm a b):=(by rw[<-hM];exact dm_gm a b ha hb);rw[hM]at q8;clear hM;go_loop [13,14] (λn i=>∃u:Nat,u<=8/\n=.int .i64 ((M%256/2^(8-u):Nat):Int)/\i=.int .i64 (7-(u:Int))) (λ_ i=>(intOf i+1).toNat)
     case atStart=>exact⟨0,by omega,by rw[Nat.div_eq_of_lt (Nat.mod_lt _ (by omega))];rfl,rfl⟩
     case round=>
      obtain⟨u,hu,rfl,rfl⟩:=hrel;by_cases p9:u<8
      ·obtain⟨v,hv⟩:∃v,v+u=7:=⟨7-u,by omega⟩;have hi:(7-(u:Int))=(v:Int):=(by omega);have x5:=q8.cell v (by omega);have HL:Hid (2*(M%256/2^(v+1))+co M v=M%256/2^(8-(u+1))):=by
        rw[show 8-(u+1)=v by omega];exact d9a M v (by omega)
       have hC:=a8p M v;rw[hi,show 8-u=v+1 by omega];have fF:M%256/2^(v+1)<=M%256:=Nat.div_le_self _ _;have hle2:M%256<256:=Nat.mod_lt _ (by omega);generalize M%256/2^(v+1)=n at fF HL⊢;generalize co M v=C at x5 hC HL;go_wp2_with fail;go_round
       case rel=>exact⟨u+1,by omega,by rw[<-HL.out];go_num,by go_num⟩
       case measure=>simp[intOf]
      ·have hu8:u=8:=(by omega);subst hu8;rw[Nat.sub_self,Nat.pow_zero,Nat.div_one,HR.out];have hg:=b4u a b ha;go_wp2_with fail;go_ret;exact⟨rfl,t8⟩
open Go.RowKit Go.PlainAid
def oneB (a:Nat):BA:=strOfNums [(a:Int)]
theorem b9q (a:Nat):(oneB a).size=1:=by unfold oneB;rw[strOfNums_size];rfl
theorem c5l (a:Nat)(ha:a<256):bt (oneB a) 0=(a:Int):=by
 unfold oneB;rw[a3q _ _ 0 (by simp)]
 ·rfl
 ·intro x hx;simp at hx;omega
theorem b9r (w:World)(a:Nat):
 (convert 22 9 (.slice (some ⟨w.heap.size,0,none⟩) 1 1)).run prog (w.alloc (.cells #[.int .u8 (a:Int)] 5))=.ok (.string (oneB a)) (w.alloc (.cells #[.int .u8 (a:Int)] 5)):=
 a2h (base:=w.heap.size) (n:=1) (xs:=[(a:Int)]) ⟨rfl,.inr ⟨w.heap.size,1,_,rfl,ql _,heap_alloc_new w _,ql _,by unfold maxLen;omega,rfl,rfl⟩⟩ rfl
theorem c8l (a b:Nat)(ha:a<256)(hb:b<256)(w:World):
 Calls prog 112 #[.int .u8 (a:Int),.int .u8 (b:Int)] w λe w'=>e=.returned (.int .u8 ((a^^^b:Nat):Int))/\Below w.heap.size w w':=by
 have c1:=b9r w a;have c2:=b9r (w.alloc (.cells #[.int .u8 (a:Int)] 5)) b;rw[show(w.alloc (.cells #[.int .u8 (a:Int)] 5)).heap.size=w.heap.size+1 by simp]at c2;have sa:=b9q a;have sb:=b9q b;have hx:bt (xorB (oneB a) (oneB b)) 0=((a^^^b:Nat):Int):=by
  rw[b7u _ _ 0 (by rw[sa,sb];decide),c5l a ha,c5l b hb];rfl
 have aA:(xorB (oneB a) (oneB b)).size=1:=by rw[a4a,sa,sb];rfl
 have hg:=get_bt (xorB (oneB a) (oneB b));go_enter func112,ntmps112;go_wp2_with fail;go_at_call 164;refine(b5h (oneB a) (oneB b) _ (by omega) (by omega)).mono ?_;rintro e w1 ⟨rfl,t8⟩;generalize xorB (oneB a) (oneB b)=S at hx aA hg⊢;go_wp2_with fail;go_ret;refine⟨b1i ?_,?_⟩
 ·rfl
 ·refine Below.trans ?_ (t8.mono ?_)
  ·exact((qw _ _).alloc (ql _) _).alloc (by simp) _
  ·simp;omega
theorem e3s (n:Int):∃K:Nat,n%255=(K:Int)/\K<255/\(n.tmod 255=(K:Int)\/n.tmod 255=(K:Int)-255/\0<K):=by
 refine⟨(n%255).toNat,by omega,by omega,?_⟩;have e:=Int.tmod_eq_emod (a:=n) (b:=255);have:(255:Int).natAbs=255:=rfl
 split at e<;>omega
theorem c8j (a:Nat)(ha:a<256)(n:Int)(h0:-9223372036854775808<=n)(h1:n<=9223372036854775807)(w:World):
 Calls prog 110 #[.int .u8 (a:Int),.int .i64 n] w λe w'=>e=.returned (.int .u8 (gpow a n:Int))/\Below w.heap.size w w':=by
 by_cases hn:n=0
 ·subst hn;have hr:gpow a 0=1:=by unfold gpow;rw[qn (by omega)];rfl
  rw[hr];go_enter func110,ntmps110;go_wp2_with fail;go_ret;exact⟨rfl,qw _ _⟩
 ·have gL:(n==0)=false:=by simpa using hn
  by_cases hz:a=0
  ·subst hz;have hr:gpow 0 n=0:=(by unfold gpow;rw[qp ⟨rfl,hn⟩]);rw[hr];go_enter func110,ntmps110;go_wp2_with fail;go_ret;exact⟨rfl,qw _ _⟩
  ·have hzb:((a:Int)==0)=false:=(by simp;omega);rw[d4m a n hz];obtain⟨K,hK,hK255,hT⟩:=e3s n;rw[hK,Int.toNat_natCast];clear hK;rcases hT with hT|⟨hT,hK0⟩
   ·go_enter func110,ntmps110;go_wp2_with fail;go_loopw[6,7] (λp i wr=>∃k:Nat,k<=K/\p=.int .u8 (gp a k:Int)/\i=.int .i64 (k:Int)/\Below w.heap.size w wr) (λ_ i _=>K-(intOf i).toNat)
    case atStart=>exact⟨0,by omega,rfl,rfl,qw _ _⟩
    case round=>
     obtain⟨k,hk,rfl,rfl,t8⟩:=hrel;by_cases p9:k<K
     ·go_wp2_with fail;go_at_call 111;refine(a7e (gp a k) a (a7o a k ha) ha _).mono ?_;rintro e w' ⟨rfl,hb⟩;go_wp2_with fail;go_roundw
      case rel=>exact⟨k+1,by omega,rfl,by go_num,t8.trans (hb.mono t8.size)⟩
      case measure=>simp[intOf];omega
     ·have fR:k=K:=(by omega);subst fR;go_wp2_with fail;go_ret;exact⟨rfl,t8⟩
   ·have hneg:(K:Int)-255<0:=(by omega);go_enter func110,ntmps110;go_wp2_with fail;go_loopw[6,7] (λp i wr=>∃k:Nat,k<=K/\p=.int .u8 (gp a k:Int)/\i=.int .i64 (k:Int)/\Below w.heap.size w wr) (λ_ i _=>K-(intOf i).toNat)
    case atStart=>exact⟨0,by omega,rfl,rfl,qw _ _⟩
    case round=>
     obtain⟨k,hk,rfl,rfl,t8⟩:=hrel;by_cases p9:k<K
     ·go_wp2_with fail;go_at_call 111;refine(a7e (gp a k) a (a7o a k ha) ha _).mono ?_;rintro e w' ⟨rfl,hb⟩;go_wp2_with fail;go_roundw
      case rel=>exact⟨k+1,by omega,rfl,by go_num,t8.trans (hb.mono t8.size)⟩
      case measure=>simp[intOf];omega
     ·have fR:k=K:=(by omega);subst fR;go_wp2_with fail;go_ret;exact⟨rfl,t8⟩
def gi0 (a:Nat):Nat:=if a=0 then 0 else gi a
theorem c8k (a:Nat)(ha:a<256)(w:World):
 Calls prog 144 #[.int .u8 (a:Int)] w λe w'=>e=.returned (.int .u8 (gi0 a:Int))/\Below w.heap.size w w':=by
 obtain⟨R,hR⟩:∃R,gi0 a=R:=⟨_,rfl⟩;rw[hR];have HR:Hid (gi0 a=R):=hR;clear hR;go_enter func144,ntmps144;go_wp2_with fail;go_loopw[3] (λi wr=>∃k:Nat,1<=k/\k<=256/\i=.int .i64 (k:Int)/\(∀j,1<=j->j<k->gm a j≠1)/\Below w.heap.size w wr) (λi _=>(256-intOf i).toNat)
 case atStart=>exact⟨1,by omega,by omega,rfl,λj h1 h2=>by omega,qw _ _⟩
 case round=>
  obtain⟨k,hk1,hk,rfl,aW,t8⟩:=hrel;have HN:Hid (∀j,1<=j->j<k->gm a j≠1):=aW;clear aW;by_cases p9:k<256
  ·go_wp2_with fail;go_at_call 111;refine(a7e a k ha p9 _).mono ?_;rintro e w' ⟨rfl,hb⟩;have hb':=t8.trans (hb.mono t8.size);by_cases h1:gm a k=1
   ·have hr:gi0 a=k:=by
     unfold gi0;rw[qn (by rintro rfl;rw[b5y k p9]at h1;omega)];exact(d4r a k ha p9 h1).symm
    rw[h1];go_wp2_with fail;go_ret;exact⟨b1i (by rw[<-HR.out,hr]),hb'⟩
   ·have h1b:(((gm a k:Nat):Int)==1)=false:=(by simp;omega);go_wp2_with fail;go_roundw
    case rel=>
     refine⟨k+1,by omega,by omega,by go_num,λj hj hj2=>?_,hb'⟩;by_cases e:j=k
     ·rw[e];exact h1
     ·exact HN.out j hj (by omega)
    case measure=>simp[intOf];omega
  ·have hk256:k=256:=(by omega);subst hk256;have hr:gi0 a=0:=by
    unfold gi0;by_cases hz:a=0
    ·rw[qp hz]
    ·exact absurd (c9f a ha hz) (HN.out (gi a) (by have:=e2r a ha hz;omega) (b7n a ha))
   go_wp2_with fail;go_ret;exact⟨b1i (by rw[<-HR.out,hr];rfl),t8⟩
def gb (a:Nat)(s:BA)(i:Nat):Int:=(gm a (bt s i).toNat:Nat)
def b3a (a:Nat)(s:BA)(k:Nat):List Int:=(List.range k).map (gb a s)
def b1h (a:Nat)(s:BA):BA:=strOfNums (b3a a s s.size)
theorem a5w (a:Nat)(s:BA)(k:Nat):(b3a a s k).length=k:=by simp[b3a]
theorem d9x (a:Nat)(ha:a<256)(s:BA)(i:Nat):0<=gb a s i/\gb a s i<=255:=by
 have:=b4u a (bt s i).toNat ha;unfold gb;omega
theorem d5v (a:Nat)(ha:a<256)(s:BA)(i:Nat)(h:i<s.size):bt (b1h a s) i=gb a s i:=by
 unfold b1h;rw[a3q _ _ i (by rw[a5w];exact h)]
 ·simp[b3a]
 ·intro x hx;obtain⟨j,_,rfl⟩:=List.mem_map.1 hx;exact d9x a ha s j
theorem b3b (a:Nat)(s:BA):(b1h a s).size=s.size:=by unfold b1h;rw[strOfNums_size,a5w]
theorem d9v (a:Nat)(ha:a<256)(s:BA)(k:Nat)(w:World):
 Calls prog 199 #[.int .u8 (bt s k),.int .u8 (a:Int)] w λe w'=>e=.returned (.int .u8 (gb a s k))/\w'=w:=by
 have h0:=bt_nonneg s k;have h1:=bt_le s k;have:=a4v (bt s k).toNat a (by omega) ha w;rw[Int.toNat_of_nonneg h0,a6s _ _ (by omega) ha]at this;exact this
theorem a8m (a:Nat)(ha:a<256)(s:BA)(w:World)(hs:s.size<=maxLen)(hs':s.size<=281474976710656):
 Calls prog 159 #[.int .u8 (a:Int),.string s] w λe w'=>e=.returned (.string (b1h a s))/\Below w.heap.size w w':=by
 obtain⟨i0,hi,hz0,hz1,hz2⟩:=info_parts info5;unfold maxLen at hs;obtain⟨n,hn⟩:∃n:Nat,s.size=n:=⟨_,rfl⟩;have cE:=get_bt s;go_enter func159,ntmps159;go_wp2_with(at_make;refine wpList_make_full _ rfl _ _ 22 rfl w.heap.size 5 i0 (.int .u8 0) 1 underlying22 hi hz0 hz1 _ _ _ _ n rfl rfl ?c0 ?c1 ?c2 ?c3 ?c4 ?_)
 case c0=>omega
 case c1=>omega
 case c2=>rw[hz2];omega
 case c3=>unfold maxLen;omega
 case c4=>exact ql _
 intro w1 q8 q9;have t8:Below w.heap.size w w1:=(qw _ _).grown q9 (ql _) (λk h=>by cases h);rw[toList_madeCells_one,<-a1l n (λi=>.int .u8 (gb a s i))]at q8;go_wp2_with fail;go_loopw[12] (λi wr=>∃k:Nat,k<=n/\i=.int .i64 k/\wr.ownsRow w.heap.size 5 1 (.slice (some ⟨w.heap.size,0,none⟩) n n) n (filled n k (λi=>.int .u8 (gb a s i)) (.int .u8 0))/\Below w.heap.size w wr) (λi _=>n-(intOf i).toNat)
 case atStart=>exact⟨0,Nat.zero_le _,rfl,q8,t8⟩
 case round=>
  obtain⟨k,hk,rfl,t6,x6⟩:=hrel;by_cases p9:k<n
  ·have x5:=t6.cellAt k (by omega);have eC:=t6.frozenAt k;have hst:=t6.stored k (.int .u8 (gb a s k));rw[a2i n k (λi=>.int .u8 (gb a s i)) _ p9]at hst;obtain⟨v0,hv0⟩:∃v0,wr.cell? ⟨w.heap.size,k,none⟩=some v0:=by
    rw[x5];exact⟨_,List.getElem?_eq_getElem (by simp[filled];exact p9)⟩
   have lQ:k<s.size:=(by omega);clear x5;go_wp2_with fail;go_at_call 199;refine(d9v a ha s k _).mono ?_;rintro e w' ⟨rfl,rfl⟩;go_wp2_with fail;go_roundw
   case rel=>exact⟨k+1,by omega,by go_num,hst.1,x6.setCell (ql _) _⟩
   case measure=>simp[intOf];omega
  ·have aM:k=n:=(by omega);subst aM;rw[a1m]at t6;have aK:=run_convert_bytes_arg (P:=prog) wr 22 5 underlying22 underlying5 w.heap.size 0 k k (b3a a s k) (a5w a s k) (λi hi=>by
    rw[Nat.zero_add,t6.cellAt i (by omega)];simp[b3a,List.getD,hi]) 9 underlying9
   go_wp2_with fail;go_ret;have hh:b1h a s=strOfNums (b3a a s k):=(by unfold b1h;rw[hn]);exact⟨by rw[hh];rfl,x6⟩
end Go.Proofs.YtokknmkleceooaaGreatDoor
