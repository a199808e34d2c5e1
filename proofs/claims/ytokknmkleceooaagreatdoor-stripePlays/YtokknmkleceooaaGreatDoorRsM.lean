import Derived.Test.YtokknmkleceooaaGreatDoorMatM
import Derived.Test.YtokknmkleceooaaGreatDoorMatN
import Derived.Maps.AppendAt
import Derived.BigRegion
import Derived.Laws.StructEq
import Derived.ChangeKeysEq
import Derived.Deep.RegionHeld3
import Derived.Laws.OwnMore
import Derived.Deep.RegionWith
namespace Go.Proofs.YtokknmkleceooaaGreatDoor
set_option linter.unusedVariables false
set_option maxRecDepth 20000
set_option maxHeartbeats 8000000
open Go.Proofs.Tryz
def cnt (p:Nat->Bool):Nat->Nat
 |0=>0
 |n+1=>cnt p n+if p n then 1 else 0
theorem cnt_mono (p:Nat->Bool){n m:Nat}(h:n<=m):cnt p n<=cnt p m:=by
 induction m with
 |zero=>obtain rfl:n=0:=by omega
        exact ql _
 |succ m ih=>
  by_cases e:n=m+1
  ·rw[e];exact ql _
  ·have:=ih (by omega);simp only[cnt];omega
theorem b2m (p:Nat->Bool){x m:Nat}(h:x<m)(hp:p x=true):cnt p x+1<=cnt p m:=by
 have:=cnt_mono p (show x+1<=m by omega);simp only[cnt,hp]at this;simpa using this
theorem b4g (p:Nat->Bool)(n:Nat):cnt p n<=n:=by
 induction n with
 |zero=>exact ql _
 |succ n ih=>simp only[cnt];split<;>omega
theorem e6e (p:Nat->Bool)(n:Nat):cnt p n+cnt (λi=>!p i) n=n:=by
 induction n with
 |zero=>rfl
 |succ n ih=>simp only[cnt];by_cases h:p n=true<;>simp[h]<;>omega
def used (T:Nat->Bool)(k:Nat)(i:Nat):Bool:=T i&&decide (cnt T i<k)
theorem e0s (T:Nat->Bool)(k n:Nat):cnt (used T k) n=min (cnt T n) k:=by
 induction n with
 |zero=>simp[cnt]
 |succ n ih=>
  simp only[cnt,ih,used];by_cases e:T n=true
  ·by_cases h:cnt T n<k
   ·simp[e,h];omega
   ·simp[e,h];omega
  ·simp[e]
theorem c5u {T:Nat->Bool}{k:Nat}(h:k<=cnt T (k+2)):cnt (λi=>!used T k i) (k+2)=2:=by
 have h1:=e6e (used T k) (k+2);rw[e0s]at h1;omega
theorem c7p (q:Nat->Bool){n x y z:Nat}(mW:x<y)(hyz:y<z)(hz:z<n)(qx:q x=true)(qy:q y=true)(qz:q z=true):3<=cnt q n:=by
 have h1:=b2m q mW qx;have h2:=b2m q hyz qy;have h3:=b2m q hz qz;omega
def stM (k:Nat):Mx:=λi j=>if i<k then idM i j else powM (i-k) j
def St (k:Nat)(D:Mx):Mx:=mulM k (stM k) D
theorem b8f {k i:Nat}(h:i<k)(D:Mx)(c:Nat):St k D i c=D i c:=by
 show S k (λj=>stM k i j*D j c)=_;rw[a0w (g:=λj=>idM i j*D j c) λj hj=>by unfold stM;rw[qp h],c4v h]
theorem a4z (k r:Nat)(D:Mx)(c:Nat):St k D (k+r) c=mulM k powM D r c:=by
 show S k (λj=>stM k (k+r) j*D j c)=_;exact a0w λj hj=>by unfold stM;rw[qn (by omega),Nat.add_sub_cancel_left]
theorem S_two {n x y:Nat}{f:Nat->E}(hx:x<n)(hy:y<n)(mW:x≠y)(h:∀k,k<n->k≠x->k≠y->f k=0):S n f=f x+f y:=by
 have e:S n f=S n (λk=>(if k=x then f x else 0)+(if k=y then f y else 0)):=a0w λk hk=>by
  by_cases h1:k=x
  ·subst h1;rw[qp rfl,qn mW,E.add_zero]
  ·rw[qn h1,E.zero_add];by_cases h2:k=y
   ·subst h2;rw[qp rfl]
   ·rw[qn h2];exact h k hk h1 h2
 rw[e,d0e];congr 1
 ·rw[d0d hx (λk hk y6=>qn y6),qp rfl]
 ·rw[d0d hy (λk hk y6=>qn y6),qp rfl]
theorem e4l (i:Nat):pw two i≠0:=λe=>d9r 2 i (by decide) (by decide) (congrArg E.v e)
theorem b0r {i j:Nat}(hi:i<255)(hj:j<255)(h:pw two i=pw two j):i=j:=by
 have h':gp 2 i=gp 2 j:=congrArg E.v h;rw[<-e8l i hi,<-e8l j hj,h']
theorem a9j (j:Nat):powM 0 j=1:=by
 show pw two (0*j)=1;rw[Nat.zero_mul];rfl
theorem b2c (j:Nat):powM 1 j=pw two j:=by
 show pw two (1*j)=_;rw[Nat.one_mul]
theorem b9t {k:Nat}(hk:k<=255){T:Nat->Bool}(hT:k<=cnt T (k+2)){v:Nat->E}(h:∀i,i<k+2->used T k i=true->S k (λj=>stM k i j*v j)=0):∀j,j<k->v j=0:=by
 have h2:=c5u hT;have hd:∀i,i<k->v i≠0->(!used T k i)=true:=λi hi hv=>by
  cases e:used T k i with
  |false=>rfl
  |true=>
   exfalso;have h1:=h i (by omega) e;rw[a0w (g:=λj=>idM i j*v j) λj hj=>by unfold stM;rw[qp hi],c4v hi]at h1;exact hv h1
 have hp:∀r,r<2->used T k (k+r)=true->S k (λj=>powM r j*v j)=0:=λr hr hu=>by
  have h1:=h (k+r) (by omega) hu;rw[<-h1];exact a0w λj hj=>by unfold stM;rw[qn (by omega),Nat.add_sub_cancel_left]
 have three:∀x y z,x<y->y<z->z<k+2->(!used T k x)=true->(!used T k y)=true->(!used T k z)=true->False:=λx y z h1 h3 h4 a b c=>by
  have:=c7p (λi=>!used T k i) h1 h3 h4 a b c;omega
 intro x hx;apply Classical.byContradiction;intro hv;by_cases hy:∃y,y<k/\y≠x/\v y≠0
 ·obtain⟨y,hy,hyx,hvy⟩:=hy;have hu:∀r,r<2->used T k (k+r)=true:=λr hr=>by
   cases e:used T k (k+r)with
   |true=>rfl
   |false=>
    exfalso;have e':(!used T k (k+r))=true:=(by rw[e];rfl);rcases Nat.lt_or_ge x y with p9|mC
    ·exact three x y (k+r) p9 (by omega) (by omega) (hd x hx hv) (hd y hy hvy) e'
    ·exact three y x (k+r) (by omega) (by omega) (by omega) (hd y hy hvy) (hd x hx hv) e'
  have hz:∀j,j<k->j≠x->j≠y->v j=0:=λj hj h1 h3=>by
   apply Classical.byContradiction;intro hvj;have a:=hd x hx hv;have b:=hd y hy hvy;have c:=hd j hj hvj;rcases Nat.lt_or_ge x y with q1|q1<;>rcases Nat.lt_or_ge x j with q2|q2<;>rcases Nat.lt_or_ge y j with q3|q3
   ·exact three x y j q1 q3 (by omega) a b c
   ·exact three x j y q2 (by omega) (by omega) a c b
   ·omega
   ·exact three j x y (by omega) q1 (by omega) c a b
   ·exact three y x j (by omega) q2 (by omega) b a c
   ·omega
   ·exact three y j x q3 (by omega) (by omega) b c a
   ·exact three j y x (by omega) (by omega) (by omega) c b a
  have hs:∀r,r<2->powM r x*v x+powM r y*v y=0:=λr hr=>by
   rw[<-S_two (f:=λj=>powM r j*v j) hx hy (λe=>hyx e.symm) (λj hj h1 h3=>by rw[hz j hj h1 h3,E.mul_zero])];exact hp r hr (hu r hr)
  have e0:=hs 0 (by decide);have e1:=hs 1 (by decide);rw[a9j,a9j,E.one_mul,E.one_mul]at e0;rw[b2c,b2c,E.of_add e0,<-E.add_mul]at e1;rcases Classical.em (pw two x+pw two y=0)with e|e
  ·exact hyx (b0r (by omega) (by omega) (E.of_add e)).symm
  ·exact E.mul_ne _ _ e hvy e1
 ·have hz:∀j,j<k->j≠x->v j=0:=λj hj h1=>by
   apply Classical.byContradiction;intro hvj;exact hy ⟨j,hj,h1,hvj⟩
  have hs:∀r,r<2->used T k (k+r)=true->powM r x*v x=0:=λr hr hu=>by
   rw[<-d0d (f:=λj=>powM r j*v j) hx (λj hj h1=>by rw[hz j hj h1,E.mul_zero])];exact hp r hr hu
  have aW:∀r,r<2->(!used T k (k+r))=true:=λr hr=>by
   cases e:used T k (k+r)with
   |false=>rfl
   |true=>exact absurd (hs r hr e) (E.mul_ne _ _ (e4l _) hv)
  exact three x (k+0) (k+1) (by omega) (by omega) (by omega) (hd x hx hv) (aW 0 (by decide)) (aW 1 (by decide))
def Fits (k:Nat)(T:Nat->Bool)(m:Nat)(Y D:Mx):Prop:=∀i,i<k+2->used T k i=true->∀c,c<m->St k D i c=Y i c
theorem e0c {k:Nat}(hk:k<=255){T:Nat->Bool}(hT:k<=cnt T (k+2)){m:Nat}{Y D D':Mx}(h:Fits k T m Y D)(h':Fits k T m Y D'):∀i,i<k->∀c,c<m->D i c=D' i c:=by
 intro i hi c hc;have:=b9t hk hT (v:=λj=>D j c+D' j c) (λi hi hu=>by
  rw[a0w (g:=λj=>stM k i j*D j c+stM k i j*D' j c) λj hj=>E.mul_add _ _ _,d0e];show St k D i c+St k D' i c=0;rw[h i hi hu c hc,h' i hi hu c hc,E.add_self]) i hi
 exact E.of_add this
theorem e1q {k:Nat}{D D':Mx}{c:Nat}(h:∀j,j<k->D j c=D' j c)(i:Nat):St k D i c=St k D' i c:=
 a0w λj hj=>by rw[h j hj]
theorem c6f {k:Nat}(hk:k<=255){T:Nat->Bool}(hT:k<=cnt T (k+2)){m:Nat}{Y D D':Mx}(h:Fits k T m Y D)(h':Fits k T m Y D')(i:Nat)(c:Nat)(hc:c<m):St k D i c=St k D' i c:=
 e1q (λj hj=>e0c hk hT h h' j hj c hc) i
def c3z (T:Nat->Bool)(n:Nat):List Nat:=(List.range n).filter T
theorem b0x (T:Nat->Bool)(n:Nat):c3z T (n+1)=c3z T n++if T n then [n]else []:=by
 unfold c3z;rw[List.range_succ,List.filter_append];cases h:T n<;>simp[h]
theorem a3e (T:Nat->Bool)(n:Nat):(c3z T n).length=cnt T n:=by
 induction n with
 |zero=>rfl
 |succ n ih=>rw[b0x,List.length_append,ih];simp only[cnt];cases T n<;>simp
theorem d9f (T:Nat->Bool){n i:Nat}(hi:i<n)(hT:T i=true):(c3z T n)[cnt T i]?=some i:=by
 induction n with
 |zero=>omega
 |succ n ih=>
  rw[b0x];by_cases e:i=n
  ·subst e;rw[List.getElem?_append_right (by rw[a3e];exact ql _),a3e,Nat.sub_self,qp hT];rfl
  ·rw[List.getElem?_append_left (by rw[a3e];have:=b2m T (show i<n by omega) hT;omega)];exact ih (by omega)
theorem d4b (T:Nat->Bool){n r:Nat}(h:r<cnt T n):∃i,(c3z T n)[r]?=some i/\i<n/\T i=true/\cnt T i=r:=by
 induction n with
 |zero=>simp[cnt]at h
 |succ n ih=>
  rw[b0x];by_cases h':r<cnt T n
  ·obtain⟨i,h1,h2,h3,h4⟩:=ih h';exact⟨i,by rw[List.getElem?_append_left (by rw[a3e];exact h')];exact h1,by omega,h3,h4⟩
  ·have hT:T n=true:=by
    cases e:T n with
    |true=>rfl
    |false=>rw[cnt,e]at h;simp at h;omega
   have hr:r=cnt T n:=(by rw[cnt,hT]at h;simp at h;omega);exact⟨n,by rw[List.getElem?_append_right (by rw[a3e];omega),a3e,hr,Nat.sub_self,qp hT];rfl,by omega,hT,hr.symm⟩
def kidx (T:Nat->Bool)(n r:Nat):Nat:=(c3z T n).getD r 0
theorem a3l (T:Nat->Bool){n r:Nat}(h:r<cnt T n):kidx T n r<n/\T (kidx T n r)=true/\cnt T (kidx T n r)=r:=by
 obtain⟨i,h1,h2,h3,h4⟩:=d4b T h;have:kidx T n r=i:=by unfold kidx;rw[List.getD_eq_getElem?_getD,h1];rfl
 rw[this];exact⟨h2,h3,h4⟩
theorem a5b (T:Nat->Bool){n i:Nat}(hi:i<n)(hT:T i=true):kidx T n (cnt T i)=i:=by
 unfold kidx;rw[List.getD_eq_getElem?_getD,d9f T hi hT];rfl
theorem c3v {k:Nat}(hk:k<=255){T:Nat->Bool}(hT:k<=cnt T (k+2)){v:Nat->E}(h:∀r,r<k->S k (λj=>stM k (kidx T (k+2) r) j*v j)=0):∀j,j<k->v j=0:=by
 refine b9t hk hT λi hi hu=>?_;have hu':T i=true/\cnt T i<k:=by simpa[used]using hu
 have:=h (cnt T i) hu'.2;rw[a5b T hi hu'.1]at this;exact this
theorem d4a {k:Nat}{T:Nat->Bool}{m:Nat}{Y B:Mx}(hB:∀r,r<k->∀c,c<k->mulM k (λr j=>stM k (kidx T (k+2) r) j) B r c=idM r c):
 Fits k T m Y (mulM k B λr c=>Y (kidx T (k+2) r) c):=by
 intro i hi hu c hc;have hu':T i=true/\cnt T i<k:=by simpa[used]using hu
 have e:St k (mulM k B λr c=>Y (kidx T (k+2) r) c) i c=mulM k (λr j=>stM k (kidx T (k+2) r) j) (mulM k B λr c=>Y (kidx T (k+2) r) c) (cnt T i) c:=by
  show S k _=S k _;exact a0w λj hj=>by simp only[];rw[a5b T hi hu'.1]
 rw[e,<-c9a];show S k (λj=>mulM k (λr j=>stM k (kidx T (k+2) r) j) B (cnt T i) j*Y (kidx T (k+2) j) c)=_;rw[a0w (g:=λj=>idM (cnt T i) j*Y (kidx T (k+2) j) c) λj hj=>by rw[hB _ hu'.2 j hj],c4v hu'.2,a5b T hi hu'.1]
open Go.RowKit Go.PlainAid
theorem a3t (n:Int)(g:Bool)(hg:g=true↔(1<=n/\n<=8))(w:World):Calls prog 62 #[.int .i64 n] w λe w'=>e=.returned (.bool g)/\w'=w:=by
 by_cases h1:1<=n
 ·by_cases h2:n<=8
  ·obtain rfl:g=true:=hg.2 ⟨h1,h2⟩;clear hg;go_enter func62,ntmps62;go_wp2;go_ret;exact⟨rfl,rfl⟩
  ·obtain rfl:g=false:=by
    cases g with
    |false=>rfl
    |true=>exact absurd (hg.1 rfl).2 h2
   clear hg;go_enter func62,ntmps62;go_wp2;go_ret;exact⟨rfl,rfl⟩
 ·obtain rfl:g=false:=by
   cases g with
   |false=>rfl
   |true=>exact absurd (hg.1 rfl).1 h1
  clear hg;go_enter func62,ntmps62;go_wp2;go_ret;exact⟨rfl,rfl⟩
theorem a7t (k:Nat)(h1:1<=k)(h8:k<=8)(w:World):
 Calls prog 64 #[.int .i64 (k:Int)] w λe w'=>Below w.heap.size w w'/\∃g G,e=.returned (.slice (some ⟨g,0,none⟩) 2 2)/\OwnM w' w.heap.size g 2 k 2 G powM:=by
 have hv:=c7i 2 (k:Int) w (by decide) (by decide) (by omega) (by omega);have hk2:¬(1<=(2:Int)/\(2:Int)<=16/\1<=(k:Int)/\(k:Int)<=16)->False:=λh=>h ⟨by decide,by decide,by omega,by omega⟩;go_enter func64,ntmps64;go_wp2_with fail;go_at_call 109;refine hv.mono ?_;rintro e w1 ⟨hb,⟨aW,-⟩|⟨n,l,g,G,en,el,-,-,-,-,rfl,hO⟩⟩
 ·exact(hk2 aW).elim
 ·obtain rfl:n=2:=by omega
  obtain rfl:l=k:=by omega
  clear en el;go_wp2_with fail;go_ret;exact⟨hb,g,G,rfl,hO⟩
def encE (k:Nat)(M:Nat->Nat):Int:=if 1<=k/\k<=8 then(if∀c,c<k->M c=M 0 then(if 65536<M 0 then 5 else 0)else 7)else 2
def encS (k:Nat)(M:Nat->Nat)(Y:Mx)(r:Nat):BA:=if encE k M=0 then strE (M 0) (mulM k powM Y r)else⟨#[]⟩
theorem a4x {k:Nat}{M:Nat->Nat}:encE k M=0↔(1<=k/\k<=8)/\(∀c,c<k->M c=M 0)/\M 0<=65536:=by
 unfold encE
 split
 ·split
  ·split
   ·constructor
    ·intro h;exact absurd h (by decide)
    ·intro h;omega
   ·rename_i h1 h2 h3;exact⟨λ_=>⟨h1,h2,by omega⟩,λ_=>rfl⟩
  ·rename_i h1 h2;exact⟨λh=>absurd h (by decide),λh=>absurd h.2.1 h2⟩
 ·rename_i h1;exact⟨λh=>absurd h (by decide),λh=>absurd h.1 h1⟩
theorem b1b (a:Option Addr)(k ca:Nat)(M:Nat->Nat)(Y:Mx)(w:World)(mG:k<=ca)(dF:ca<=9223372036854775807)(hT:TxtAt w a k M Y):
 Calls prog 29 #[.slice a k ca] w λe w'=>Below w.heap.size w w'/\e=.returned (.tuple #[.string (encS k M Y 0),.string (encS k M Y 1),.int .i64 (encE k M)]):=by
 by_cases hk:1<=k/\k<=8
 ·have aX:=λx=>a3t (k:Int) true ⟨λ_=>by omega,λ_=>rfl⟩ x;have dZ:=λx=>a7t k hk.1 hk.2 x;have bG:=λg G (x:World) (hb:Below w.heap.size w x) (b:Nat) (hO:OwnM x b g 2 k 2 G powM)=>d6i (some ⟨g,0,none⟩) a 2 k 2 ca (λ_=>k) M powM Y x (by decide) (hO.mat (by unfold maxLen;omega)) mG dF (hT.below hb);have gd:Gd 2 (λ_=>k):=⟨by decide,by decide,by show 1<=k;omega,by show k<=16;omega,λ_ _=>rfl⟩;have HK:Hid (1<=k/\k<=8):=hk;have hk9:(k:Int)<=9223372036854775807:=by omega
  have HG:Hid (Gd 2 (λ_=>k)):=gd;clear hk hT gd;go_enter func29,ntmps29;go_wp2_with fail;go_at_call 62;refine(aX _).mono ?_;rintro e w' ⟨rfl,rfl⟩;go_wp2_with fail;go_at_call 64;refine(dZ _).mono ?_;rintro e w1 ⟨hb1,g,G,rfl,hO⟩;have bU:=bG g G w1 hb1 _ hO;clear bG dZ aX;go_wp2_with fail;go_at_call 63;refine bU.mono ?_;rintro e w2 ⟨hb2,v,er,rfl,rN⟩;have hb02:=hb1.trans (hb2.mono hb1.size);rcases rN with⟨aW,rfl,rfl⟩|⟨-,aW,rfl,rfl⟩|⟨-,iX,h5,rfl,rfl⟩|⟨-,iX,h5,rfl,a',c',rfl,hc1,hc2,hT'⟩
  ·exact absurd HG.out aW
  ·have HE:Hid (encE k M=7):=by
    show encE k M=7;unfold encE;rw[qp HK.out,qn (λh=>aW ⟨rfl,h⟩)]
   clear aW bU;go_wp2_with fail;go_ret3;refine⟨hb02,?_⟩;unfold encS;rw[HE.out];rfl
  ·have HE:Hid (encE k M=5):=by
    show encE k M=5;unfold encE;rw[qp HK.out,qp iX.2,qp h5]
   clear iX h5 bU;go_wp2_with fail;go_ret3;refine⟨hb02,?_⟩;unfold encS;rw[HE.out];rfl
  ·have HE:Hid (encE k M=0):=a4x.2 ⟨HK.out,iX.2,h5⟩;obtain⟨b,o,rfl,hc⟩:=hT'.cell (by decide);have e0:=hc 0 (by decide);have e1:=hc 1 (by decide);rw[Nat.add_zero]at e0;generalize hs0:strE (M 0) (mulM k powM Y 0)=s0 at e0;generalize hs1:strE (M 0) (mulM k powM Y 1)=s1 at e1;have HS:Hid (s0=encS k M Y 0/\s1=encS k M Y 1):=by
    show s0=encS k M Y 0/\s1=encS k M Y 1;unfold encS;rw[qp HE.out,qp HE.out,hs0,hs1];exact⟨rfl,rfl⟩
   clear iX h5 bU hc hT' hs0 hs1;go_wp2_with fail
   go_quiet(fail)
   go_wp2_with fail;go_ret3;refine⟨below_drewN hb02 _,?_⟩;rw[<-HS.out.1,<-HS.out.2,HE.out];rfl
 ·have aX:=λx=>a3t (k:Int) false ⟨λh=>Bool.noConfusion h,λh=>absurd (by omega) hk⟩ x;have hk9:(k:Int)<=9223372036854775807:=by omega
  have HE:Hid (encE k M=2):=qn hk;clear hk hT;go_enter func29,ntmps29;go_wp2_with fail;go_at_call 62;refine(aX _).mono ?_;rintro e w' ⟨rfl,rfl⟩;go_wp2_with fail;go_ret3;refine⟨qw _ _,?_⟩;unfold encS;rw[HE.out];rfl
theorem b9v (s:BA)(m l:Nat)(w:World)(hs:s.size<=9223372036854775807)(hl:l<=9223372036854775807)(hm:w.cell? ⟨m,0,none⟩=some (.int .i64 (l:Int))):
 Calls prog 132 #[.string s,.pointer (some ⟨m,0,none⟩)] w λe w'=>e=.returned (.bool (s.size !=l))/\w'=w:=by
 obtain⟨q,hq⟩:∃q,(s.size !=l)=q:=⟨_,rfl⟩;have hq':((s.size:Int) !=(l:Int))=q:=by
  rw[<-hq];by_cases h:s.size=l
  ·rw[h];simp
  ·have h1:(s.size !=l)=true:=(by simpa using h);have h2:((s.size:Int) !=(l:Int))=true:=(by simp;omega);rw[h1,h2]
 rw[hq];clear hq;go_enter func132,ntmps132;go_wp2;go_ret;exact⟨by rw[<-hq'];rfl,rfl⟩
def meaE (k:Nat)(M:Nat->Nat):Int:=if∀c,c<k->M c=M 0 then(if 65536<M 0 then 5 else 0)else 7
theorem c3q (a:Option Addr)(n ca:Nat)(M:Nat->Nat)(Y:Mx)(w:World)(h1:1<=n)(hn:n<=maxLen)(ha:TxtAt w a n M Y):
 Calls prog 86 #[.slice a n ca] w λe w'=>Below w.heap.size w w'/\e=.returned (.int .i64 (meaE n M)):=by
 have hmf:∀(fn:Fn) (first cap:Array Value) (w:World),(Instr.makeFunc fn first cap).run prog w=.ok (.func fn first cap) w:=λ_ _ _ _=>rfl;obtain⟨l,hl⟩:∃l,M 0=l:=⟨_,rfl⟩;have hl9:l<=9223372036854775807:=by rw[<-hl];exact ha.2 0 (by omega)
 have cO:=λ(m:Nat) (w1:World) (h:Below w.heap.size w w1) (hm:w1.cell? ⟨m,0,none⟩=some (.int .i64 (l:Int))) (g:Bool) (hg:g=true↔¬∀c,c<n->M c=M 0)=>
  a6y 132 (by decide) #[.pointer (some ⟨m,0,none⟩)] a n ca (λc=>.string (strE (M c) (Y c))) (λc=>M c !=l) w1 hn (ha.1.below h (ql _)) (λr hr=>by
   have:=b9v (strE (M r) (Y r)) m l w1 (by rw[a0j];exact ha.2 r hr) hl9 hm;rw[a0j]at this;exact this) g (by
    rw[hg];constructor
    ·intro h;apply Classical.byContradiction;intro hh;exact h λc hc=>by
      apply Classical.byContradiction;intro h3;exact hh ⟨c,hc,by rw[<-hl];simpa using h3⟩
    ·rintro⟨r,hr,h⟩ hh;rw[hh r hr,hl]at h;simp at h)
 obtain⟨b,o,rfl,hc⟩:=ha.cell h1;have h0:=hc 0 (by omega);rw[Nat.add_zero]at h0;obtain⟨s,hs⟩:∃s,strE (M 0) (Y 0)=s:=⟨_,rfl⟩;have hss:s.size=l:=by rw[<-hs,a0j,hl]
 rw[hs]at h0;have hn':(0:Int)<(n:Int):=by omega
 have t8:Below w.heap.size w (w.alloc (.cells #[.int .i64 (l:Int)] 3 (0,0))):=(qw _ _).alloc (ql _) _;by_cases hM:∀c,c<n->M c=M 0
 ·have eD:=λm w1 h hm=>cO m w1 h hm false ⟨λh=>Bool.noConfusion h,λh=>absurd hM h⟩;by_cases h5:65536<l
  ·have h5':(65536:Int)<(l:Int):=(by omega);have HE:Hid (meaE n M=5):=(by show meaE n M=5;unfold meaE;rw[qp hM,qp (by omega)]);clear cO hM hl hc ha hs;go_enter func86,ntmps86;go_wp2_with fail;go_at_call 27;refine(eD _ _ t8 (by go_simp)).mono ?_;rintro e w' ⟨rfl,rfl⟩;go_wp2_with fail;go_ret;rw[HE.out];exact⟨t8,rfl⟩
  ·have h5':¬(65536:Int)<(l:Int):=(by omega);have HE:Hid (meaE n M=0):=(by show meaE n M=0;unfold meaE;rw[qp hM,qn (by omega)]);clear cO hM hl hc ha hs;go_enter func86,ntmps86;go_wp2_with fail;go_at_call 27;refine(eD _ _ t8 (by go_simp)).mono ?_;rintro e w' ⟨rfl,rfl⟩;go_wp2_with fail;go_ret;rw[HE.out];exact⟨t8,rfl⟩
 ·have eD:=λm w1 h hm=>cO m w1 h hm true ⟨λ_=>hM,λ_=>rfl⟩;have HE:Hid (meaE n M=7):=by show meaE n M=7;unfold meaE;rw[qn hM]
  clear cO hM hl hc ha hs;go_enter func86,ntmps86;go_wp2_with fail;go_at_call 27;refine(eD _ _ t8 (by go_simp)).mono ?_;rintro e w' ⟨rfl,rfl⟩;go_wp2_with fail;go_ret;rw[HE.out];exact⟨t8,rfl⟩
theorem a9p {k:Nat}{M:Nat->Nat}:meaE k M=0↔(∀c,c<k->M c=M 0)/\M 0<=65536:=by
 unfold meaE
 split
 ·split
  ·exact⟨λh=>absurd h (by decide),λh=>by omega⟩
  ·rename_i h1 h2;exact⟨λ_=>⟨h1,by omega⟩,λ_=>rfl⟩
 ·rename_i h;exact⟨λh=>absurd h (by decide),λh'=>absurd h'.1 h⟩
open Go.RowKit
def Apart (v u:Value):Prop:=v.ownBlock=none\/v.ownBlock≠u.ownBlock
theorem Apart.symm {v u:Value}(h:Apart v u):Apart u v:=by
 rcases h with h|h
 ·cases e:u.ownBlock with
  |none=>exact .inl e
  |some g=>exact .inr (by rw[h];simp[e])
 ·exact .inr (λe=>h e.symm)
theorem c1b (u:Value):Apart (.slice none 0 0) u:=.inl rfl
section
variable {ops:Array Oper}{rest:List Oper}{o:Oper}{a:Act}{Q:Exit->Act->World->Prop}
theorem a9i (y5:o.guard=none)(s x:Operand)(ho:o.op=.call {callee:=.builtin .append,args:=#[s,x],argTypes:=#[22,22]})
 (w0:World)(base:Nat)(v:Value)(k:Nat)(f:Nat->E)(hA:w0.ownsRow base 5 1 v k (a0l k f))(hs:a.eval s=v)(b:Value)(mJ:b=a1w (f k))
 (sz:Nat)(hx:a.eval x=.slice (some ⟨sz,0,none⟩) 1 1)(aA:sz=w0.heap.size)(hk:k<1000000000)(aC:base<=w0.heap.size)
 (h:∀v' w',w'.ownsRow base 5 1 v' (k+1) (a0l (k+1) f)->(∀u e n xs,w0.ownsRow base e 1 u n xs->Apart v u->w'.ownsRow base e 1 u n xs/\Apart v' u)->Below base w0 w'->wpList prog ops Q rest (a.put o.dst v') w'):
 wpList prog ops Q (o::rest) a (w0.alloc (.cells #[b] 5 (0,0))):=by
 subst aA;subst mJ;obtain⟨i0,hi,hz0,hz1,hz2⟩:=info_parts info5;refine wpList_append_own_at _ y5 s x 22 ho base 5 i0 (.int .u8 0) 1 1 underlying22 hi hz0 hz1 hz2 rfl (by decide) v k _ hs (hA.alloc _) ⟨w0.heap.size,0,none⟩ 1 1 [a1w (f k)] hx rfl ?_ ?_ ?_ ?_ ?_ ?_
 ·intro j u hu
  match j,hu with
  |0,hu=>simp at hu;subst hu;simp[Addr.add]
 ·intro u hu;simp at hu;subst hu;rfl
 ·unfold maxLen;omega
 ·omega
 ·simp;omega
 ·intro v' w' q8 q9 _ bM;have hb0:Below w0.heap.size w0 (w0.alloc (.cells #[a1w (f k)] 5 (0,0))):=(qw _ _).alloc (ql _) _;refine h v' w' (by rw[b4i];exact q8) (λu e n xs hu bG=>⟨(hu.alloc _).kept q9 ?_,?_⟩) ?_
  ·rcases bG.symm with h|h
   ·exact .inl h
   ·exact .inr h
  ·rcases bM with bM|bM
   ·unfold Apart;rw[bM];exact bG
   ·refine .inr λe=>?_;rw[bM]at e;have:=(hu.lt _ e.symm).2;have:=hb0.size;omega
  ·exact(hb0.mono aC).grown q9 (by simp;omega) (λg hg=>(hA.lt g hg).1)
end
def Txts (w:World)(b o n:Nat)(M:Nat->Nat)(Y:Mx):Prop:=∀x,Below w.heap.size w x->∀c,c<n->∃s:BA,s.size=M c/\M c<=9223372036854775807/\x.cell? ⟨b,o+c,none⟩=some (.string s)/\∀i,i<M c->bt s i=((Y c i).v:Int)
theorem TxtAt.txts {w:World}{a:Option Addr}{n:Nat}{M:Nat->Nat}{Y:Mx}(h:TxtAt w a n M Y)(h1:1<=n):∃b o,a=some ⟨b,o,none⟩/\Txts w b o n M Y:=by
 obtain⟨b,o,e,hc⟩:=h.cell h1;refine⟨b,o,e,λx hx c mF=>?_⟩;have h':=hc c mF;exact⟨_,a0j (M c) (Y c),h.2 c mF,(hx.cell (p:=⟨b,o+c,none⟩) (a0p h')).trans h',λi hi=>a6z (M c) (Y c) i hi⟩
theorem b1j (l:Option Addr)(k cl:Nat)(M:Nat->Nat)(Y:Mx)(w:World)(k1:1<=k)(kV:k<=maxLen)(hT:TxtAt w l k M Y):
 Calls prog 66 #[.slice l k cl] w λe w'=>Below w.heap.size w w'/\e=.returned (.int .i64 (meaE k M)):=by
 obtain⟨bl,ol,rfl,gG⟩:=hT.txts k1;have HT:Hid (Txts w bl ol k M Y):=gG;have k0:(0:Int)<(k:Int):=by omega
 have k0':0<k:=by omega
 unfold maxLen at kV;obtain⟨R,hR⟩:∃R,meaE k M=R:=⟨_,rfl⟩;have HR:Hid (meaE k M=R):=hR;rw[hR];clear hT gG hR;go_enter func66,ntmps66;go_wp2_with fail;go_loopw[3] (λi wr=>∃c:Nat,c<=k/\i=.int .i64 c/\Below w.heap.size w wr/\∀j,j<c->M j=M 0) (λi _=>(k:Nat)-(intOf i).toNat)
 case atStart=>exact⟨0,Nat.zero_le _,rfl,qw _ _,λj hj=>by omega⟩
 case round=>
  obtain⟨c,hc,rfl,bW,y7⟩:=hrel;have HB:Hid (∀j,j<c->M j=M 0):=y7;clear y7;obtain⟨s',hs',hs9',e2,-⟩:=HT.out wr bW 0 k0';rw[Nat.add_zero]at e2;obtain⟨m0,hm0⟩:∃m0,M 0=m0:=⟨_,rfl⟩;rw[hm0]at hs' hs9';by_cases p9:c<k
  ·obtain⟨s,hs,hs9,e1,-⟩:=HT.out wr bW c p9;have ck:(c:Int)<(k:Int):=(by omega);obtain⟨mc,rX⟩:∃mc,M c=mc:=⟨_,rfl⟩;rw[rX]at hs hs9;by_cases e:mc=m0
   ·have HE:Hid (M c=M 0):=(by rw[rX,hm0,e]:M c=M 0);subst e;have t1:((mc:Int) !=(mc:Int))=false:=(by simp);clear rX hm0;go_wp2_with fail
    go_quiet(fail)
    go_wp2_with fail;go_roundw
    case rel=>exact⟨c+1,by omega,by go_num,below_drewN bW _,λj hj=>by
     by_cases e:j=c
     ·rw[e];exact HE.out
     ·exact HB.out j (by omega)⟩
    case measure=>simp[intOf];omega
   ·have t1:((mc:Int) !=(m0:Int))=true:=(by simp;omega);have hr7:R=7:=by
     rw[<-HR.out];unfold meaE;exact qn λh=>e (by rw[<-rX,<-hm0];exact h c p9)
    subst hr7;clear rX hm0 e;go_wp2_with fail
    go_quiet(fail)
    go_wp2_with fail;go_ret;exact⟨below_drewN bW _,rfl⟩
  ·have fI:k=c:=(by omega);subst fI;by_cases h5:65536<m0
   ·have h5':(65536:Int)<(m0:Int):=(by omega);have hr5:R=5:=by
     rw[<-HR.out];unfold meaE;rw[qp HB.out,qp (by omega)]
    subst hr5;clear hm0 h5;go_wp2_with fail;go_ret;exact⟨bW,rfl⟩
   ·have h5':¬(65536:Int)<(m0:Int):=(by omega);have hr0:R=0:=by
     rw[<-HR.out];unfold meaE;rw[qp HB.out,qn (by omega)]
    subst hr0;clear hm0 h5;go_wp2_with fail;go_ret;exact⟨bW,rfl⟩
theorem a5k (k:Nat)(hk:k<=255)(x:World):Calls prog 110 #[.int .u8 2,.int .i64 (k:Int)] x λe w'=>e=.returned (.int .u8 ((pw two k).v:Int))/\Below x.heap.size x w':=by
 have:=c8j 2 (by decide) (k:Int) (by omega) (by omega) x;rw[c6c 2 k (by decide)]at this;exact this
theorem b6o (bl ol k cl m j:Nat)(M:Nat->Nat)(Y:Mx)(w:World)(k8:k<=8)(gG:Txts w bl ol k M Y)(hM:∀c,c<k->M c=m)(hj:j<m):
 Calls prog 67 #[.slice (some ⟨bl,ol,none⟩) k cl,.int .i64 (j:Int)] w λe w'=>Below w.heap.size w w'/\e=.returned (.tuple #[a1w (mulM k powM Y 0 j),a1w (mulM k powM Y 1 j)]):=by
 have HT:Hid (∀x,Below w.heap.size w x->∀c,c<k->∃s:BA,s.size=m/\m<=9223372036854775807/\x.cell? ⟨bl,ol+c,none⟩=some (.string s)/\bt s j=((Y c j).v:Int)):=λx hx c hc=>by
  obtain⟨s,h1,h2,h3,h4⟩:=gG x hx c hc;rw[hM c hc]at h1 h2 h4;exact⟨s,h1,h2,h3,h4 j hj⟩
 have j9:(j:Int)<=9223372036854775807\/k=0:=by
  rcases Nat.eq_zero_or_pos k with h|h
  ·exact .inr h
  ·obtain⟨s,h1,h2,_⟩:=HT.out w (qw _ _) 0 h;left;omega
 clear gG hM;go_enter func67,ntmps67;go_wp2_with fail;go_loopw[6,7,8] (λp q i wr=>∃c:Nat,c<=k/\i=.int .i64 c/\p=.int .u8 ((S c (λc=>powM 0 c*Y c j)).v:Int)/\q=.int .u8 ((S c (λc=>powM 1 c*Y c j)).v:Int)/\Below w.heap.size w wr) (λ_ _ i _=>(k:Nat)-(intOf i).toNat)
 case atStart=>exact⟨0,Nat.zero_le _,rfl,rfl,rfl,qw _ _⟩
 case round=>
  obtain⟨c,hc,rfl,rfl,rfl,bW⟩:=hrel;by_cases p9:c<k
  ·have ck:(c:Int)<(k:Int):=(by omega);have jG:=λx=>a5k c (by omega) x;have gX:=λx=>a9d (pw two c) (Y c j) x;have kG:=λx=>a3j (S c (λc=>powM 0 c*Y c j)) (Y c j) x;have kF:=λx=>a3j (S c (λc=>powM 1 c*Y c j)) (pw two c*Y c j) x;have HP:Hid (S (c+1) (λc=>powM 0 c*Y c j)=S c (λc=>powM 0 c*Y c j)+Y c j/\S (c+1) (λc=>powM 1 c*Y c j)=S c (λc=>powM 1 c*Y c j)+pw two c*Y c j):=by
    show _/\_;constructor
    ·show _+powM 0 c*Y c j=_;rw[a9j,E.one_mul]
    ·show _+powM 1 c*Y c j=_;rw[b2c]
   obtain⟨x3,hx3⟩:∃x3,pw two c*Y c j=x3:=⟨_,rfl⟩;obtain⟨p,hp⟩:∃p,S c (λc=>powM 0 c*Y c j)=p:=⟨_,rfl⟩;obtain⟨q,hq⟩:∃q,S c (λc=>powM 1 c*Y c j)=q:=⟨_,rfl⟩;obtain⟨y,hy⟩:∃y,Y c j=y:=⟨_,rfl⟩;have HPc:Hid (S (c+1) (λc=>powM 0 c*Y c j)=p+y/\S (c+1) (λc=>powM 1 c*Y c j)=q+x3):=by
    show _/\_;rw[<-hp,<-hq,<-hx3,<-hy];exact HP.out
   rw[hx3]at gX kF;rw[hp]at kG⊢;rw[hq]at kF⊢;rw[hy]at kG gX;generalize pw two c=x1 at jG gX;clear HP hp hq hx3;obtain⟨s,hs,hm9,e1,e1b⟩:=HT.out wr bW c p9;have hjs:j<s.size:=(by omega);have cC:=get_bt s;rw[hy]at e1b;clear hy;go_wp2_with fail;go_at_call 110;refine(jG _).mono ?_;rintro e w1 ⟨rfl,hb1⟩;have e2:w1.cell? ⟨bl,ol+c,none⟩=some (.string s):=(hb1.cell (p:=⟨bl,ol+c,none⟩) (a0p e1)).trans e1;have hb01:=bW.trans (hb1.mono bW.size);clear e1;go_wp2_with fail;go_at_call 111;refine(gX _).mono ?_;rintro e w2 ⟨rfl,hb2⟩;have e3:w2.cell? ⟨bl,ol+c,none⟩=some (.string s):=(hb2.cell (p:=⟨bl,ol+c,none⟩) (a0p e2)).trans e2;have hb02:=hb01.trans (hb2.mono hb01.size);clear e2;go_wp2_with fail;go_at_call 112;refine(kG _).mono ?_;rintro e w3 ⟨rfl,hb3⟩;have hb03:=hb02.trans (hb3.mono hb02.size);clear e3;go_wp2_with fail;go_at_call 112;refine(kF _).mono ?_;rintro e w4 ⟨rfl,hb4⟩;have hb04:=hb03.trans (hb4.mono hb03.size);go_wp2_with fail;go_roundw
   case rel=>exact⟨c+1,by omega,by go_num,by rw[HPc.out.1],by rw[HPc.out.2],hb04⟩
   case measure=>simp[intOf];omega
  ·have fI:k=c:=(by omega);subst fI;go_wp2_with fail;go_ret2;exact⟨bW,rfl⟩
theorem Txts.below {w w':World}{b o n:Nat}{M:Nat->Nat}{Y:Mx}(h:Txts w b o n M Y)(hb:Below w.heap.size w w'):Txts w' b o n M Y:=λx hx=>h x (hb.trans (hx.mono hb.size))
theorem a9e (l:Option Addr)(k cl:Nat)(M:Nat->Nat)(Y:Mx)(w:World)(kV:k<=maxLen)(hT:TxtAt w l k M Y):
 Calls prog 31 #[.slice l k cl] w λe w'=>Below w.heap.size w w'/\e=.returned (.tuple #[.string (encS k M Y 0),.string (encS k M Y 1),.int .i64 (encE k M)]):=by
 unfold maxLen at kV;by_cases hk:1<=k/\k<=8
 ·have jB:=b1j l k cl M Y w hk.1 (by unfold maxLen;omega) hT;have k1:¬(k:Int)<1:=by omega
  have k8:¬(8:Int)<(k:Int):=by omega
  have hE:encE k M=meaE k M:=qp hk;by_cases hz:meaE k M=0
  ·obtain⟨hM,h5⟩:=a9p.1 hz;have hS:∀r,encS k M Y r=strE (M 0) (mulM k powM Y r):=λr=>qp (by rw[hE];exact hz);rw[hS,hS,hE,hz];rw[hz]at jB;obtain⟨m,hm⟩:∃m,M 0=m:=⟨_,rfl⟩;rw[hm]at h5 hM⊢;obtain⟨b,o,rfl,gG⟩:=hT.txts hk.1;have HP:Hid (∀x,Below w.heap.size w x->∀j,j<m->Calls prog 67 #[.slice (some ⟨b,o,none⟩) k cl,.int .i64 (j:Int)] x λe w'=>Below x.heap.size x w'/\e=.returned (.tuple #[.int .u8 ((mulM k powM Y 0 j).v:Int),.int .u8 ((mulM k powM Y 1 j).v:Int)])):=λx hx j hj=>b6o b o k cl m j M Y x hk.2 (gG.below hx) hM hj;have HC:Hid (∀x,Below w.heap.size w x->∃s:BA,s.size=m/\x.cell? ⟨b,o,none⟩=some (.string s)):=λx hx=>by
    obtain⟨s,h1,-,h2,-⟩:=gG x hx 0 (by omega);exact⟨s,by rw[h1,hm],h2⟩
   have k0:(0:Int)<(k:Int):=(by omega);clear hk hE hz hM hS hm gG hT;go_enter func31,ntmps31;go_wp2_with fail;go_at_call 66;refine jB.mono ?_;rintro e w1 ⟨hb1,rfl⟩;clear jB;go_wp2_with fail;go_loopw[6,7,8] (λp q i wr=>∃j:Nat,j<=m/\i=.int .i64 j/\wr.ownsRow w.heap.size 5 1 p j (a0l j (mulM k powM Y 0))/\wr.ownsRow w.heap.size 5 1 q j (a0l j (mulM k powM Y 1))/\Apart p q/\Below w.heap.size w wr) (λ_ _ i _=>(m:Nat)-(intOf i).toNat)
   case atStart=>exact⟨0,Nat.zero_le _,rfl,World.ownsRow_nil _ _ _ _,World.ownsRow_nil _ _ _ _,c1b _,hb1⟩
   case round=>
    obtain⟨j,hj,rfl,jK,hoq,bG,tO⟩:=hrel;obtain⟨s,hs,e1⟩:=HC.out wr tO;by_cases p9:j<m
    ·have pD:=HP.out wr tO j p9;have jm:(j:Int)<(m:Int):=(by omega);obtain⟨p0,hp0⟩:∃p0,(mulM k powM Y 0 j).v=p0:=⟨_,rfl⟩;obtain⟨q0,hq0⟩:∃q0,(mulM k powM Y 1 j).v=q0:=⟨_,rfl⟩;rw[hp0,hq0]at pD;have fB:Hid (Value.int .u8 (p0:Int)=a1w (mulM k powM Y 0 j)/\Value.int .u8 (q0:Int)=a1w (mulM k powM Y 1 j)):=⟨by rw[<-hp0];rfl,by rw[<-hq0];rfl⟩;clear hb1 hp0 hq0;go_wp2_with fail;go_at_call 67;refine pD.mono ?_;rintro e w2 ⟨hb2,rfl⟩;have rS:=a0g jK hb2;have rR:=a0g hoq hb2;have hb02:=tO.trans (hb2.mono tO.size);clear pD e1 jK hoq;go_wp2_with(at_builtin;refine a9i rfl _ _ rfl _ w.heap.size _ j (mulM k powM Y 0) rS rfl _ fB.out.1 _ rfl rfl (by omega) hb02.size ?_);intro p' w3 hop3 aJ hb3;obtain⟨hoq3,hap3⟩:=aJ _ _ _ _ rR bG;have hb03:=hb02.trans hb3;clear aJ rS rR;go_wp2_with(at_builtin;refine a9i rfl _ _ rfl _ w.heap.size _ j (mulM k powM Y 1) hoq3 rfl _ fB.out.2 _ rfl rfl (by omega) hb03.size ?_);intro q' w4 hoq4 aJ hb4;obtain⟨hop4,kD⟩:=aJ _ _ _ _ hop3 hap3.symm;clear aJ;go_wp2_with fail;go_roundw
     case rel=>exact⟨j+1,by omega,by go_num,hop4,hoq4,kD.symm,hb03.trans hb4⟩
     case measure=>simp[intOf];omega
    ·have lS:m=j:=(by omega);subst lS;obtain⟨ap,cp,rfl,-,hvp⟩:=a0v jK _ (λi hi=>a1b _ _ i hi);obtain⟨aq,cq,rfl,-,hvq⟩:=a0v hoq _ (λi hi=>a1b _ _ i hi);have kX:∀n,_:=λn=>c4o (w:=wr.drewN n) (cap:=cp) (hvp.below (below_drewN (qw _ _) n) (ql _));have mE:∀n,_:=λn=>c4o (w:=wr.drewN n) (cap:=cq) (hvq.below (below_drewN (qw _ _) n) (ql _));clear hb1 jK hoq bG;go_wp2_with fail
     go_quiet(fail)
     go_wp2_with fail;go_ret3;exact⟨below_drewN tO _,rfl⟩
  ·have hS:∀r,encS k M Y r=⟨#[]⟩:=λr=>qn (by rw[hE];exact hz);rw[hS,hS,hE];generalize meaE k M=er at*;have t0:(er !=0)=true:=(by simpa using hz);clear hk hE hz hS hT;go_enter func31,ntmps31;go_wp2_with fail;go_at_call 66;refine jB.mono ?_;rintro e w1 ⟨hb1,rfl⟩;clear jB;go_wp2_with fail;go_ret3;exact⟨hb1,rfl⟩
 ·have hE:encE k M=2:=qn hk;have hS:∀r,encS k M Y r=⟨#[]⟩:=λr=>qn (by rw[hE];decide);rw[hS,hS,hE];by_cases k1:k<1
  ·have k1':(k:Int)<1:=(by omega);clear hk hE hS;go_enter func31,ntmps31;go_wp2_with fail;go_ret3;exact⟨qw _ _,rfl⟩
  ·have k1':¬(k:Int)<1:=(by omega);have k8:(8:Int)<(k:Int):=(by omega);clear hk hE hS;go_enter func31,ntmps31;go_wp2_with fail;go_ret3;exact⟨qw _ _,rfl⟩
theorem b2w {k:Nat}{f g:Nat->BA}(h:∀i,i<k->f i=g i):a4c k f=a4c k g:=
 List.map_congr_left λi hi=>by rw[h i (List.mem_range.1 hi)]
def CutTo (w:World)(base:Nat)(v:Value)(k N:Nat)(ev:Bool)(f:Nat->BA):Prop:=
 w.ownsRow base 9 1 v k (a4c k f)/\(∀i,i<k->(f i).size<=N)/\(ev=true->∀i,i<k->(f i).size=(f 0).size)
theorem guard176:prog.eqGuardType prog.depth 176=false:=by kernel_rfl
theorem cells19:prog.cellsOf 9=1:=by kernel_rfl
theorem beqB (a b:BA):(a.toList==b.toList)=decide (a=b):=by
 rw[<-beq_toListBytes];obtain⟨x⟩:=a;obtain⟨y⟩:=b;show(x==y)=_;exact Bool.eq_iff_iff.2 (by simp)
theorem e0i (w:World)(p q s0 s1:BA):(binOp .eql 176 (.agg #[.string p,.string q]) (.agg #[.string s0,.string s1])).run prog w=.ok (.bool (decide (p=s0/\q=s1))) w:=by
 obtain⟨i0,hi,hz0,hz1,hz2⟩:=info_parts minfo9;rw[run_eql_struct,show(10000:Nat)=9999+1 from rfl,run_equalIn_array w 9999 _ _ underlying176 hi];have h1:∀(xs:Array Value) (j:Nat) (s:BA),xs[j]?=some (.string s)->(part 9 xs (j*1)).run prog w=.ok (.string s) w:=λxs j s h=>
  run_part_plain w (by kernel_rfl) (by rw[Nat.mul_one];exact h)
 have h2:∀d (a b:BA),(Op.equalIn (d+1) 9 (.string a) (.string b)).run prog w=.ok (a.toList==b.toList) w:=λd a b=>run_equalIn_string w d 9 a b underlying9;rw[cells19,show List.range 2=[0,1]from rfl];simp only[Op.eqItems,Sem.run_bind];have h2':∀(a b:BA),(Op.equalIn 9999 9 (.string a) (.string b)).run prog w=.ok (decide (a=b)) w:=λa b=>by rw[<-beqB];exact h2 9998 a b
 rw[h1 _ 0 p rfl];simp only[Result.andThen_ok];rw[h1 _ 0 s0 rfl];simp only[Result.andThen_ok];rw[h2'];simp only[Result.andThen_ok];by_cases e0:p=s0
 ·have t0:(!decide (p=s0))=false:=by simp[e0]
  rw[t0];simp only[Bool.false_eq_true,if_false,Sem.run_bind];rw[h1 _ 1 q rfl];simp only[Result.andThen_ok];rw[h1 _ 1 s1 rfl];simp only[Result.andThen_ok];rw[h2'];simp only[Result.andThen_ok];by_cases e1:q=s1
  ·simp[e0,e1]
  ·simp[e0,e1]
 ·simp[e0]
def chkB (n:Nat)(M:Nat->Nat)(Y:Mx):Bool:=decide (3<=n/\n<=10/\encE (n-2) M=0/\encS (n-2) M Y 0=strE (M (n-2)) (Y (n-2))/\encS (n-2) M Y 1=strE (M (n-1)) (Y (n-1)))
theorem TxtAt.cut {w:World}{a:Option Addr}{n k:Nat}{M:Nat->Nat}{Y:Mx}(h:TxtAt w a n M Y)(hk:k<=n):TxtAt w a k M Y:=by
 refine⟨?_,λc hc=>h.2 c (by omega)⟩;rcases h.1 with h0|⟨b,o,e,h⟩
 ·exact .inl (by omega)
 ·exact .inr ⟨b,o,e,λi hi=>h i (by omega)⟩
theorem d5m (a:Option Addr)(n ca:Nat)(M:Nat->Nat)(Y:Mx)(w:World)(mG:n<=ca)(dF:ca<=9223372036854775807)(hT:TxtAt w a n M Y):
 Calls prog 51 #[.slice a n ca] w λe w'=>Below w.heap.size w w'/\e=.returned (.bool (chkB n M Y)):=by
 by_cases hn:3<=n/\n<=10
 ·obtain⟨k,rfl⟩:∃k,n=k+2:=⟨n-2,by omega⟩;have aX:=λx=>a3t (k:Int) true ⟨λ_=>by omega,λ_=>rfl⟩ x;have aN:=b1b a k ca M Y w (by omega) dF (hT.cut (by omega));have hB:chkB (k+2) M Y=decide (encE k M=0/\encS k M Y 0=strE (M k) (Y k)/\encS k M Y 1=strE (M (k+1)) (Y (k+1))):=by
   unfold chkB;exact decide_eq_decide.2 ⟨λh=>h.2.2,λh=>⟨hn.1,hn.2,h⟩⟩
  rw[hB];obtain⟨b,o,rfl,hc⟩:=hT.cell (by omega);have HC:Hid (∀x,Below w.heap.size w x->x.cell? ⟨b,o+k,none⟩=some (.string (strE (M k) (Y k)))/\x.cell? ⟨b,o+(k+1),none⟩=some (.string (strE (M (k+1)) (Y (k+1))))):=λx hx=>
   ⟨(hx.cell (p:=⟨b,o+k,none⟩) (a0p (hc k (by omega)))).trans (hc k (by omega)),(hx.cell (p:=⟨b,o+(k+1),none⟩) (a0p (hc (k+1) (by omega)))).trans (hc (k+1) (by omega))⟩
  generalize strE (M k) (Y k)=s0 at HC⊢;generalize strE (M (k+1)) (Y (k+1))=s1 at HC⊢;generalize encS k M Y 0=p at aN⊢;generalize encS k M Y 1=q at aN⊢;generalize encE k M=er at aN⊢;have k8:(k:Int)<=8:=by omega
  have kk:((k+2:Nat):Int)-2=(k:Int):=by omega
  have kca:(k:Int)<=(ca:Int):=by omega
  have hca':k<=ca:=by omega
  have q1:(k:Int)<(k:Int)+2:=by omega
  have q2:(k:Int)+1<(k:Int)+2:=by omega
  have q3:IntKind.i64.wrap ((k:Int)+1)=(k:Int)+1:=by rw[IntKind.wrap_i64];omega
  have q4:((k:Int)+1).toNat=k+1:=by omega
  have q5:(0:Int)<=(k:Int)+1:=by omega
  have q6:¬((k:Int)+1<0):=by omega
  clear hB hT hc hn;by_cases h0:er=0
  ·subst h0;have heql:=λx=>e0i x p q s0 s1;have hgu:=guard176;go_enter func51,ntmps51;go_wp2_with fail;go_at_call 62;refine(aX _).mono ?_;rintro e w' ⟨rfl,rfl⟩;go_wp2_with fail;go_at_call 29;refine aN.mono ?_;rintro e w2 ⟨hb2,rfl⟩;obtain⟨c0,c1⟩:=HC.out w2 hb2;clear aN aX;go_wp2_with fail
   go_quiet(fail)
   go_wp2_with fail;go_ret;refine⟨below_drewN hb2 _,?_⟩;simp
  ·have t0:(er==0)=false:=(by simpa using h0);clear h0;go_enter func51,ntmps51;go_wp2_with fail;go_at_call 62;refine(aX _).mono ?_;rintro e w' ⟨rfl,rfl⟩;go_wp2_with fail;go_at_call 29;refine aN.mono ?_;rintro e w2 ⟨hb2,rfl⟩;obtain⟨c0,c1⟩:=HC.out w2 hb2;clear aN aX;go_wp2_with fail
   go_quiet(fail)
   go_wp2_with fail;go_ret;refine⟨below_drewN hb2 _,?_⟩;have:¬er=0:=(by simpa using t0);simp[this]
 ·have aX:=λx=>a3t ((n:Int)-2) false ⟨λh=>Bool.noConfusion h,λh=>absurd (by omega) hn⟩ x;have hB:chkB n M Y=false:=by
   unfold chkB;exact decide_eq_false λh=>hn ⟨h.1,h.2.1⟩
  rw[hB];have n9:(n:Int)<=9223372036854775807:=by omega
  clear hB hT hn;go_enter func51,ntmps51;go_wp2_with fail;go_at_call 62;refine(aX _).mono ?_;rintro e w' ⟨rfl,rfl⟩;go_wp2_with fail;go_ret;exact⟨qw _ _,rfl⟩
theorem b9i (a:Option Addr)(n ca:Nat)(M:Nat->Nat)(Y:Mx)(w:World)(mG:n<=ca)(dF:ca<=9223372036854775807)(hT:TxtAt w a n M Y):
 Calls prog 52 #[.slice a n ca] w λe w'=>Below w.heap.size w w'/\e=.returned (.bool (chkB n M Y)):=by
 by_cases hn:3<=n
 ·obtain⟨k,rfl⟩:∃k,n=k+2:=⟨n-2,by omega⟩;have aN:=a9e a k ca M Y w (by unfold maxLen;omega) (hT.cut (by omega));have hB:chkB (k+2) M Y=decide (encE k M=0/\encS k M Y 0=strE (M k) (Y k)/\encS k M Y 1=strE (M (k+1)) (Y (k+1))):=by
   unfold chkB;exact decide_eq_decide.2 ⟨λh=>h.2.2,λh=>⟨hn,by have:=(a4x.1 h.1).1.2;omega,h⟩⟩
  rw[hB];obtain⟨b,o,rfl,hc⟩:=hT.cell (by omega);have HC:Hid (∀x,Below w.heap.size w x->x.cell? ⟨b,o+k,none⟩=some (.string (strE (M k) (Y k)))/\x.cell? ⟨b,o+(k+1),none⟩=some (.string (strE (M (k+1)) (Y (k+1))))):=λx hx=>
   ⟨(hx.cell (p:=⟨b,o+k,none⟩) (a0p (hc k (by omega)))).trans (hc k (by omega)),(hx.cell (p:=⟨b,o+(k+1),none⟩) (a0p (hc (k+1) (by omega)))).trans (hc (k+1) (by omega))⟩
  generalize strE (M k) (Y k)=s0 at HC⊢;generalize strE (M (k+1)) (Y (k+1))=s1 at HC⊢;generalize encS k M Y 0=p at aN⊢;generalize encS k M Y 1=q at aN⊢;generalize encE k M=er at aN⊢;have kk:((k+2:Nat):Int)-2=(k:Int):=by omega
  have k1:¬((k:Int)<1):=by omega
  have kca:(k:Int)<=(ca:Int):=by omega
  have hca':k<=ca:=by omega
  have q1:(k:Int)<(k:Int)+2:=by omega
  have q2:(k:Int)+1<(k:Int)+2:=by omega
  have q3:IntKind.i64.wrap ((k:Int)+1)=(k:Int)+1:=by rw[IntKind.wrap_i64];omega
  have q4:((k:Int)+1).toNat=k+1:=by omega
  have q5:(0:Int)<=(k:Int)+1:=by omega
  have q6:¬((k:Int)+1<0):=by omega
  have pQ:=beqB q s1;have gN:=beqB p s0;clear hB hT hc hn;by_cases h0:er=0
  ·subst h0;by_cases hp:p=s0
   ·rw[decide_eq_true hp]at gN;by_cases hq:q=s1
    ·rw[decide_eq_true hq]at pQ;have HR:Hid (decide ((0:Int)=0/\p=s0/\q=s1)=true):=(by show _=true;simp[hp,hq]);rw[HR.out];clear hp hq HR;go_enter func52,ntmps52;go_wp2_with fail;go_at_call 31;refine aN.mono ?_;rintro e w2 ⟨hb2,rfl⟩;obtain⟨c0,c1⟩:=HC.out w2 hb2;clear aN;go_wp2_with fail;go_ret;exact⟨hb2,rfl⟩
    ·rw[decide_eq_false hq]at pQ;have HR:Hid (decide ((0:Int)=0/\p=s0/\q=s1)=false):=(by show _=false;simp[hq]);rw[HR.out];clear hp hq HR;go_enter func52,ntmps52;go_wp2_with fail;go_at_call 31;refine aN.mono ?_;rintro e w2 ⟨hb2,rfl⟩;obtain⟨c0,c1⟩:=HC.out w2 hb2;clear aN;go_wp2_with fail;go_ret;exact⟨hb2,rfl⟩
   ·rw[decide_eq_false hp]at gN;have HR:Hid (decide ((0:Int)=0/\p=s0/\q=s1)=false):=(by show _=false;simp[hp]);rw[HR.out];clear hp HR pQ;go_enter func52,ntmps52;go_wp2_with fail;go_at_call 31;refine aN.mono ?_;rintro e w2 ⟨hb2,rfl⟩;obtain⟨c0,c1⟩:=HC.out w2 hb2;clear aN;go_wp2_with fail;go_ret;exact⟨hb2,rfl⟩
  ·have HR:Hid (decide (er=0/\p=s0/\q=s1)=false):=(by show _=false;simp[h0]);rw[HR.out];have t0:(er==0)=false:=(by simpa using h0);clear h0 HR gN pQ;go_enter func52,ntmps52;go_wp2_with fail;go_at_call 31;refine aN.mono ?_;rintro e w2 ⟨hb2,rfl⟩;obtain⟨c0,c1⟩:=HC.out w2 hb2;clear aN;go_wp2_with fail;go_ret;exact⟨hb2,rfl⟩
 ·have hB:chkB n M Y=false:=by
   unfold chkB;exact decide_eq_false λh=>hn h.1
  rw[hB];have n9:(n:Int)<=9223372036854775807:=by omega
  have n1:(n:Int)-2<1:=by omega
  clear hB hT hn;go_enter func52,ntmps52;go_wp2_with fail;go_ret;exact⟨qw _ _,rfl⟩
section
variable {ops:Array Oper}{rest:List Oper}{o:Oper}{a:Act}{Q:Exit->Act->World->Prop}
theorem b6s (y5:o.guard=none)(s x:Operand)(ho:o.op=.call {callee:=.builtin .append,args:=#[s,x],argTypes:=#[23,23]})
 (w0:World)(base:Nat)(v:Value)(k:Nat)(f:Nat->BA)(hA:w0.ownsRow base 9 1 v k (a4c k f))(hs:a.eval s=v)(p q:BA)(hp:p=f k)(hq:q=f (k+1))
 (sz:Nat)(hx:a.eval x=.slice (some ⟨sz,0,none⟩) 2 2)(aA:sz=w0.heap.size)(hk:k<1000000000)(aC:base<=w0.heap.size)
 (h:∀v' w',w'.ownsRow base 9 1 v' (k+2) (a4c (k+2) f)->Below base w0 w'->wpList prog ops Q rest (a.put o.dst v') w'):
 wpList prog ops Q (o::rest) a (w0.alloc (.cells #[.string p,.string q] 9 (0,0))):=by
 subst aA;subst hp;subst hq;obtain⟨i0,hi,hz0,hz1,hz2⟩:=info_parts minfo9;refine wpList_append_own _ y5 s x 23 ho base 9 i0 (.string ⟨#[]⟩) 1 16 underlying23 hi hz0 hz1 hz2 rfl (by decide) v k _ hs (hA.alloc _) ⟨w0.heap.size,0,none⟩ 2 2 [.string (f k),.string (f (k+1))] hx rfl ?_ ?_ ?_ ?_ ?_ ?_
 ·intro j u hu
  match j,hu with
  |0,hu=>simp at hu;subst hu;simp[Addr.add]
  |1,hu=>simp at hu;subst hu;simp[Addr.add]
 ·intro u hu;simp at hu;rcases hu with rfl|rfl<;>rfl
 ·unfold maxLen;omega
 ·omega
 ·simp;omega
 ·intro v' w' q8 q9 _;have hb0:Below w0.heap.size w0 (w0.alloc (.cells #[.string (f k),.string (f (k+1))] 9 (0,0))):=(qw _ _).alloc (ql _) _;refine h v' w' (by rw[a7c,a7c,List.append_assoc];exact q8) ?_;exact(hb0.mono aC).grown q9 (by simp;omega) (λg hg=>(hA.lt g hg).1)
end
theorem a4m {T:Nat->Bool}{i:Nat}(h:T i=true):cnt T (i+1)=cnt T i+1:=by simp[cnt,h]
theorem a3z {T:Nat->Bool}{i:Nat}(h:T i=false):cnt T (i+1)=cnt T i:=by simp[cnt,h]
theorem Vals.at {w:World}{a:Option Addr}{n:Nat}{V:Nat->Value}(h:Vals w a n V):Hid (∀x,Below w.heap.size w x->∀i,i<n->∃b o,a=some ⟨b,o,none⟩/\x.cell? ⟨b,o+i,none⟩=some (V i)):=λx hx i hi=>by
 rcases h with h0|⟨b,o,e,h⟩
 ·omega
 ·exact⟨b,o,e,(hx.cell (p:=⟨b,o+i,none⟩) (a0p (h i hi))).trans (h i hi)⟩
theorem c3w (a b:Option Addr)(n ca cb:Nat)(F:Nat->BA)(T:Nat->Bool)(w:World)(hn:n<=1000)(ha:Vals w a n λi=>.string (F i))(hb:Vals w b n λi=>.bool (T i)):
 Calls prog 85 #[.slice a n ca,.slice b n cb] w λe w'=>Below w.heap.size w w'/\∃v,e=.returned v/\w'.ownsRow w.heap.size 9 1 v (cnt T n) (a4c (cnt T n) λr=>F (kidx T n r)):=by
 have HA:=ha.at;have HB:=hb.at;clear ha hb;go_enter func85,ntmps85;go_wp2_with fail;go_loopw[5,10] (λo i wr=>∃k:Nat,k<=n/\i=.int .i64 k/\Below w.heap.size w wr/\wr.ownsRow w.heap.size 9 1 o (cnt T k) (a4c (cnt T k) λr=>F (kidx T n r))) (λ_ i _=>(n:Nat)-(intOf i).toNat)
 case atStart=>exact⟨0,Nat.zero_le _,rfl,qw _ _,World.ownsRow_nil _ _ _ _⟩
 case round=>
  obtain⟨k,hk,rfl,aS,q8⟩:=hrel;by_cases p9:k<n
  ·obtain⟨b1,o1,rfl,e1⟩:=HA.out wr aS k p9;obtain⟨b2,o2,rfl,e2⟩:=HB.out wr aS k p9;have kn:(k:Int)<(n:Int):=(by omega);have aL:=b4g T k
   cases hT:T k with
   |true=>
    rw[hT]at e2;have HV:Hid (Value.string (F k)=.string (F (kidx T n (cnt T k)))):=(by show _=_;rw[a5b T p9 hT]);have HC:Hid (cnt T (k+1)=cnt T k+1):=a4m hT;generalize F k=s at e1 HV;generalize cnt T k=q at*;clear hT;go_wp2_with(at_builtin;refine a8g rfl _ _ rfl _ w.heap.size _ q (λr=>F (kidx T n r)) q8 rfl _ HV.out _ rfl rfl (by omega) aS.size ?_);intro v' w2 aB hb2;go_wp2_with fail;go_roundw
    case rel=>exact⟨k+1,by omega,by go_num,aS.trans hb2,by rw[HC.out];exact aB⟩
    case measure=>simp[intOf];omega
   |false=>
    rw[hT]at e2;have HC:Hid (cnt T (k+1)=cnt T k):=a3z hT;generalize F k=s at e1;clear hT;go_wp2_with fail;go_roundw
    case rel=>exact⟨k+1,by omega,by go_num,aS,by rw[HC.out];exact q8⟩
    case measure=>simp[intOf];omega
  ·have aM:n=k:=(by omega);subst aM;go_wp2_with fail;go_ret;exact⟨aS,_,rfl,q8⟩
section
variable {ops:Array Oper}{rest:List Oper}{o:Oper}{a:Act}{Q:Exit->Act->World->Prop}
def a4b (k:Nat)(R:Nat->Value):List Value:=(List.range k).map R
theorem a3v (k:Nat)(R:Nat->Value)(i:Nat)(h:i<k):(a4b k R)[i]?=some (R i):=by simp[a4b,h]
theorem b4y (k:Nat)(R:Nat->Value):a4b (k+1) R=a4b k R++[R k]:=by
 unfold a4b;rw[List.range_succ,List.map_append];rfl
theorem c3a (y5:o.guard=none)(s x:Operand)(t:TypeId)(ho:o.op=.call {callee:=.builtin .append,args:=#[s,x],argTypes:=#[t,t]})(ht:prog.underlying t=some (.slice 22))
 (w0:World)(base:Nat)(v:Value)(k:Nat)(R:Nat->Value)(hA:w0.ownsRow base 22 1 v k (a4b k R))(hs:a.eval s=v)(b:Value)(mJ:b=R k)(hone:b.oneCell'=true)
 (sz:Nat)(hx:a.eval x=.slice (some ⟨sz,0,none⟩) 1 1)(aA:sz=w0.heap.size)(hk:k<1000000)(aC:base<=w0.heap.size)
 (h:∀v' w',w'.ownsRow base 22 1 v' (k+1) (a4b (k+1) R)->Below base w0 w'->wpList prog ops Q rest (a.put o.dst v') w'):
 wpList prog ops Q (o::rest) a (w0.alloc (.cells #[b] 22 (0,0))):=by
 subst aA;subst mJ;obtain⟨i0,hi,hz0,hz1,hz2⟩:=info_parts info22;refine wpList_append_own _ y5 s x t ho base 22 i0 (.slice none 0 0) 1 24 ht hi hz0 hz1 hz2 rfl (by decide) v k _ hs (hA.alloc _) ⟨w0.heap.size,0,none⟩ 1 1 [R k] hx rfl ?_ ?_ ?_ ?_ ?_ ?_
 ·intro j u hu
  match j,hu with
  |0,hu=>simp at hu;subst hu;simp[Addr.add]
 ·intro u hu;simp at hu;subst hu;exact hone
 ·unfold maxLen;omega
 ·omega
 ·simp;omega
 ·intro v' w' q8 q9 _;have hb0:Below w0.heap.size w0 (w0.alloc (.cells #[R k] 22 (0,0))):=(qw _ _).alloc (ql _) _;refine h v' w' (by rw[b4y];exact q8) ?_;exact(hb0.mono aC).grown q9 (by simp;omega) (λg hg=>(hA.lt g hg).1)
end
theorem c3x (a b:Option Addr)(n ca cb:Nat)(AR:Nat->Option Addr)(L CR:Nat->Nat)(T:Nat->Bool)(w:World)(hn:n<=1000)(ha:Vals w a n λi=>.slice (AR i) (L i) (CR i))(hb:Vals w b n λi=>.bool (T i)):
 Calls prog 88 #[.slice a n ca,.slice b n cb] w λe w'=>Below w.heap.size w w'/\∃v,e=.returned v/\w'.ownsRow w.heap.size 22 1 v (cnt T n) (a4b (cnt T n) λr=>.slice (AR (kidx T n r)) (L (kidx T n r)) (CR (kidx T n r))):=by
 have HA:=ha.at;have HB:=hb.at;clear ha hb;go_enter func88,ntmps88;go_wp2_with fail;go_loopw[5,10] (λo i wr=>∃k:Nat,k<=n/\i=.int .i64 k/\Below w.heap.size w wr/\wr.ownsRow w.heap.size 22 1 o (cnt T k) (a4b (cnt T k) λr=>.slice (AR (kidx T n r)) (L (kidx T n r)) (CR (kidx T n r)))) (λ_ i _=>(n:Nat)-(intOf i).toNat)
 case atStart=>exact⟨0,Nat.zero_le _,rfl,qw _ _,World.ownsRow_nil _ _ _ _⟩
 case round=>
  obtain⟨k,hk,rfl,aS,q8⟩:=hrel;by_cases p9:k<n
  ·obtain⟨b1,o1,rfl,e1⟩:=HA.out wr aS k p9;obtain⟨b2,o2,rfl,e2⟩:=HB.out wr aS k p9;have kn:(k:Int)<(n:Int):=(by omega);have aL:=b4g T k
   cases hT:T k with
   |true=>
    rw[hT]at e2;have HV:Hid (Value.slice (AR k) (L k) (CR k)=.slice (AR (kidx T n (cnt T k))) (L (kidx T n (cnt T k))) (CR (kidx T n (cnt T k)))):=(by show _=_;rw[a5b T p9 hT]);have HC:Hid (cnt T (k+1)=cnt T k+1):=a4m hT;generalize AR k=ak at e1 HV;generalize L k=lk at e1 HV;generalize CR k=ck at e1 HV;generalize cnt T k=q at*;clear hT;go_wp2_with(at_builtin;refine c3a rfl _ _ 133 rfl underlying133 _ w.heap.size _ q (λr=>.slice (AR (kidx T n r)) (L (kidx T n r)) (CR (kidx T n r))) q8 rfl _ HV.out rfl _ rfl rfl (by omega) aS.size ?_);intro v' w2 aB hb2;go_wp2_with fail;go_roundw
    case rel=>exact⟨k+1,by omega,by go_num,aS.trans hb2,by rw[HC.out];exact aB⟩
    case measure=>simp[intOf];omega
   |false=>
    rw[hT]at e2;have HC:Hid (cnt T (k+1)=cnt T k):=a3z hT;generalize AR k=ak at e1;generalize L k=lk at e1;generalize CR k=ck at e1;clear hT;go_wp2_with fail;go_roundw
    case rel=>exact⟨k+1,by omega,by go_num,aS,by rw[HC.out];exact q8⟩
    case measure=>simp[intOf];omega
  ·have aM:n=k:=(by omega);subst aM;go_wp2_with fail;go_ret;exact⟨aS,_,rfl,q8⟩
theorem b4q (k:Nat)(h1:1<=k)(h8:k<=8)(w:World):
 Calls prog 89 #[.int .i64 (k:Int)] w λe w'=>Below w.heap.size w w'/\∃a c,e=.returned (.slice a (k+2) c)/\MatAt w' a (k+2) (λ_=>k) (stM k):=by
 have hid:=b9y (k:Int) w (by omega) (by omega);have hk2:¬(1<=(k:Int)/\(k:Int)<=16)->False:=λh=>h ⟨by omega,by omega⟩;have dZ:=λx=>a7t k h1 h8 x;obtain⟨j0,hj,hy0,hy1,hy2⟩:=info_parts info22;go_enter func89,ntmps89;go_wp2_with fail;go_at_call 134;refine hid.mono ?_;rintro e w1 ⟨hb1,⟨aW,-⟩|⟨n,g,G,en,-,-,rfl,hO⟩⟩
 ·exact(hk2 aW).elim
 obtain rfl:n=k:=by omega
 clear en hid hk2;go_wp2_with fail;go_at_call 64;refine(dZ _).mono ?_;rintro e w2 ⟨hb2,g2,G2,rfl,hO2⟩;have hb02:=hb1.trans (hb2.mono hb1.size);have cZ:=a0g hO.top hb2;rw[a1m]at cZ;have hc2:∀j,j<2->w2.cell? ⟨g2,j,none⟩=some (rowV n G2 j):=λj hj=>by
  have:=hO2.top.cellAt j (by omega);rw[a1m]at this;rw[this];simp[hj]
 have hg1:=(a2j hO.top).2;have HR:Hid (∀r,r<n->g<G r/\w2.ownsRow w.heap.size 5 1 (.slice (some ⟨G r,0,none⟩) n n) n (a0l n (idM r))):=λr hr=>⟨(hO.rows r hr).1,a0g (hO.rows r hr).2 hb2⟩;have HR2:Hid (∀r,r<2->g<G2 r/\w2.ownsRow w1.heap.size 5 1 (.slice (some ⟨G2 r,0,none⟩) n n) n (a0l n (powM r))):=λr hr=>⟨by have:=(a2j (hO2.rows r hr).2).1;omega,(hO2.rows r hr).2⟩;clear dZ;go_wp2_with(at_builtin;refine wpList_append_own _ rfl _ _ 134 rfl w.heap.size 22 j0 (.slice none 0 0) 1 24 underlying134 hj hy0 hy1 hy2 rfl (by decide) _ n _ rfl cZ ⟨g2,0,none⟩ 2 2 [rowV n G2 0,rowV n G2 1] rfl rfl ?h1 ?h2 ?h3 ?h4 ?h5 ?_)
 case h1=>
  intro j u hu
  match j,hu with
  |0,hu=>simp at hu;subst hu;exact hc2 0 (by decide)
  |1,hu=>simp at hu;subst hu;exact hc2 1 (by decide)
 case h2=>intro u hu;simp at hu;rcases hu with rfl|rfl<;>rfl
 case h3=>unfold maxLen;omega
 case h4=>omega
 case h5=>exact hb02.size
 intro v' w3 q8 q9 _;have hb3:Below w.heap.size w w3:=hb02.grown q9 hb02.size (λb hb=>(cZ.lt b hb).1);have hR3:∀r,r<n->w3.ownsRow w.heap.size 5 1 (.slice (some ⟨G r,0,none⟩) n n) n (a0l n (idM r)):=λr hr=>(HR.out r hr).2.kept q9 (.inr λe=>by have:=(HR.out r hr).1;simp[Value.ownBlock]at e;omega);have hR4:∀r,r<2->w3.ownsRow w1.heap.size 5 1 (.slice (some ⟨G2 r,0,none⟩) n n) n (a0l n (powM r)):=λr hr=>(HR2.out r hr).2.kept q9 (.inr λe=>by have:=(HR2.out r hr).1;simp[Value.ownBlock]at e;omega);have hM:∃a c,v'=.slice a (n+2) c/\MatAt w3 a (n+2) (λ_=>n) (stM n):=by
  obtain⟨a,c,rfl,-,hv⟩:=a0v q8 (λr=>.slice (if r<n then some ⟨G r,0,none⟩else some ⟨G2 (r-n),0,none⟩) n n) (λi hi=>by
   by_cases h:i<n
   ·rw[List.getElem?_append_left (by simp;exact h)];simp[h,rowV]
   ·rw[List.getElem?_append_right (by simp;omega)];simp only[List.length_map,List.length_range,qn h];have:i-n=0\/i-n=1:=(by omega);rcases this with e|e<;>rw[e]<;>rfl)
  refine⟨a,c,rfl,λr=>if r<n then some ⟨G r,0,none⟩else some ⟨G2 (r-n),0,none⟩,λ_=>n,hv,λr hr=>⟨by show n<=maxLen;unfold maxLen;omega,?_⟩⟩;by_cases h:r<n
  ·simp only[qp h];refine .inr ⟨G r,0,rfl,λc hc=>?_⟩;have hc':c<n:=hc;rw[Nat.zero_add,(hR3 r h).cellAt c (by omega),a1b _ _ _ hc'];simp only[stM,qp h]
  ·simp only[qn h];refine .inr ⟨G2 (r-n),0,rfl,λc hc=>?_⟩;have hc':c<n:=hc;rw[Nat.zero_add,(hR4 (r-n) (by omega)).cellAt c (by omega),a1b _ _ _ hc'];simp only[stM,qn h]
 obtain⟨a,c,rfl,hM⟩:=hM;clear q8 q9 cZ;go_wp2_with fail;go_ret;exact⟨hb3,a,c,rfl,hM⟩
theorem d6h (a l:Option Addr)(n k ca cl:Nat)(L M:Nat->Nat)(A Y:Mx)(w:World)(hn:n<=maxLen)(hA:MatAt w a n L A)(aL:k<=cl)(iH:cl<=9223372036854775807)(hT:TxtAt w l k M Y)
 (gA:Gd n L)(hk:k=L 0)(hM:∀c,c<k->M c=M 0)(h5:M 0<=65536):
 Calls prog 63 #[.slice a n ca,.slice l k cl] w λe w'=>Below w.heap.size w w'/\∃a',e=.returned (.tuple #[.slice a' n n,.int .i64 0])/\w'.ownsRow w.heap.size 9 1 (.slice a' n n) n (a4c n λr=>strE (M 0) (mulM k A Y r)):=by
 obtain⟨i0,hi,hz0,hz1,hz2⟩:=info_parts minfo9;have hg:=a7j a n ca L A w hn hA true (a9o gA);have gP:=λx (h:Below w.heap.size w x)=>b0d l k cl M Y x (by unfold maxLen;omega) (hT.below h) true ⟨λ_=>hM,λ_=>rfl⟩;have hT0:∀x,Below w.heap.size w x->Vals x l k (λc=>.string (strE (M 0) (Y c))):=λx hx=>by
  rcases(hT.below hx).1 with h0|⟨b,o,rfl,h⟩
  ·exact .inl h0
  ·exact .inr ⟨b,o,rfl,λi hi=>by show _=some (Value.string (strE (M 0) (Y i)));rw[<-hM i hi];exact h i hi⟩
 obtain⟨ba,oa,rfl,hR⟩:=b3c hA gA;rw[<-hk]at hR;have k1:1<=k:=by rw[hk];exact gA.2.2.1
 have k16:k<=16:=by rw[hk];exact gA.2.2.2.1
 have n1:1<=n:=gA.1;have n16:n<=16:=gA.2.1;obtain⟨bl,ol,rfl,eP⟩:=hT.cell k1;obtain⟨m,hm⟩:∃m,M 0=m:=⟨_,rfl⟩;rw[hm]at hT0 h5⊢;have HC0:Hid (∀x,Below w.heap.size w x->∃s:BA,s.size=m/\x.cell? ⟨bl,ol,none⟩=some (.string s)):=λx hx=>by
  have h:=eP 0 (by omega);rw[Nat.add_zero]at h;exact⟨_,by rw[a0j,hm],(hx.cell (p:=⟨bl,ol,none⟩) (a0p h)).trans h⟩
 have HC:Hid (∀x,Below w.heap.size w x->∀r,r<n->∃b' o' cr,x.cell? ⟨ba,oa+r,none⟩=some (.slice (some ⟨b',o',none⟩) k cr)/\Calls prog 108 #[.slice (some ⟨b',o',none⟩) k cr,.slice (some ⟨bl,ol,none⟩) k cl] x λe w'=>e=.returned (.string (a4d m (A r) Y k))/\Below x.heap.size x w'):=λx hx r hr=>by
  obtain⟨b',o',cr,e1,f1⟩:=hR x hx r hr;exact⟨b',o',cr,e1,b4f _ _ k cr cl m (A r) Y x k1 k16 aL iH h5 (.inr ⟨b',o',rfl,f1⟩) (hT0 x hx)⟩
 have n0:(0:Int)<(n:Int):=by omega
 have n0':0<n:=by omega
 have k0:(0:Int)<(k:Int):=by omega
 have k0':0<k:=by omega
 have t0:((k:Int) !=(k:Int))=false:=by simp
 clear hR gA hk hM hm eP hT0 hn hA hT;go_enter func63,ntmps63;go_wp2_with fail;go_at_call 106;refine hg.mono ?_;rintro e w1 ⟨rfl,hb1⟩;obtain⟨b',o',cr,e1,-⟩:=HC.out w1 hb1 0 n0';rw[Nat.add_zero]at e1;have dG:=gP w1 hb1;clear gP hg;go_wp2_with fail;go_at_call 107;refine dG.mono ?_;rintro e w2 ⟨rfl,hb2⟩;have hb02:=hb1.trans (hb2.mono hb1.size);obtain⟨s0,hs0,e2⟩:=HC0.out w2 hb02;have hs5:¬(65536:Int)<(m:Int):=by omega
 clear dG e1 hb1 hb2;go_wp2_with(at_make;refine wpList_make_full _ rfl _ _ 23 rfl w2.heap.size 9 i0 (.string ⟨#[]⟩) 1 underlying23 hi hz0 hz1 _ _ _ _ n rfl rfl ?c0 ?c1 ?c2 ?c3 ?c4 ?_)
 case c0=>rfl
 case c1=>rfl
 case c2=>rw[hz2];omega
 case c3=>unfold maxLen;omega
 case c4=>exact ql _
 intro w3 q8 q9;have t8:Below w2.heap.size w2 w3:=(qw _ _).grown q9 (ql _) (λk h=>by cases h);rw[toList_madeCells_one,<-a1l n (λr=>.string (a4d m (A r) Y k))]at q8;clear e2 hs0;go_wp2_with fail;go_loopw[34] (λi wr=>∃r:Nat,r<=n/\i=.int .i64 r/\Below w2.heap.size w2 wr/\wr.ownsRow w2.heap.size 9 1 (.slice (some ⟨w2.heap.size,0,none⟩) n n) n (filled n r (λr=>.string (a4d m (A r) Y k)) (.string ⟨#[]⟩))) (λi _=>(n:Nat)-(intOf i).toNat)
 case atStart=>exact⟨0,Nat.zero_le _,rfl,t8,q8⟩
 case round=>
  obtain⟨r,hr,rfl,aZ,nP⟩:=hrel;by_cases p9:r<n
  ·obtain⟨b',o',cr,e1,eN⟩:=HC.out wr (hb02.trans (aZ.mono hb02.size)) r p9;go_wp2_with fail;go_at_call 108;refine eN.mono ?_;rintro e w4 ⟨rfl,hb4⟩;have ho4:=a0g nP hb4;obtain⟨v0,x5⟩:∃v0,w4.cell? ⟨w2.heap.size,r,none⟩=some v0:=by
    rw[ho4.cellAt r (by omega)];exact⟨_,List.getElem?_eq_getElem (by simp[filled];exact p9)⟩
   have eC:=ho4.frozenAt r;have hst:=(ho4.stored r (.string (a4d m (A r) Y k))).1;rw[a2i n r (λr=>.string (a4d m (A r) Y k)) _ p9]at hst;have hb5:=aZ.trans (hb4.mono aZ.size);have rn:(r:Int)<(n:Int):=(by omega);clear eN e1 ho4;go_wp2_with fail;go_roundw
   case rel=>exact⟨r+1,by omega,by go_num,hb5.setCell (ql _) _,hst⟩
   case measure=>simp[intOf];omega
  ·have hrn:r=n:=(by omega);subst hrn;go_wp2_with fail;go_ret2;rw[a1m]at nP;exact⟨hb02.trans (aZ.mono hb02.size),_,rfl,a9k nP hb02.size⟩
theorem c2u (a b:Option Addr)(k ca cb m:Nat)(T:Nat->Bool)(Y:Mx)(w:World)(k1:1<=k)(k8:k<=8)(mG:k<=ca)(dF:ca<=9223372036854775807)(hm:m<=65536)(hT:k<=cnt T (k+2))
 (hA:TxtAt w a k (λ_=>m) (λr=>Y (kidx T (k+2) r)))(hB:MatAt w b k (λ_=>k) (λr=>stM k (kidx T (k+2) r))):
 Calls prog 87 #[.slice a k ca,.slice b k cb] w λe w'=>Below w.heap.size w w'/\∃v D,e=.returned v/\Fits k T m Y D/\w'.ownsRow w.heap.size 9 1 v (k+2) (a4c (k+2) λi=>strE m (St k D i)):=by
 have iB:=c9d b k cb (λ_=>k) (λr=>stM k (kidx T (k+2) r)) w (by unfold maxLen;omega) hB;have gd:Gd k (λ_=>k):=⟨k1,by omega,k1,by show k<=16;omega,λ_ _=>rfl⟩;have bG:=λx a' U (hx:Below w.heap.size w x) (hM:MatAt x a' k (λ_=>k) (a7s k U))=>d6h a' a k k k ca (λ_=>k) (λ_=>m) (a7s k U) (λr=>Y (kidx T (k+2) r)) x (by unfold maxLen;omega) hM mG dF (hA.below hx) gd rfl (λ_ _=>rfl) hm;have HX:Hid (∀c U,c<k->Reach k (2*k) (a6g k λr=>stM k (kidx T (k+2) r)) U->(∀r,r<k->∀j,j<c->U r j=idM r j)->(∀r,c<=r->r<k->U r c=0)->False):=λc U hc hR hu hz=>by
  obtain⟨v,hv,hk⟩:=b9j hR (by omega) hc hu hz;have:=c3v (by omega) hT (v:=v) (λr hr=>by
   rw[<-hk r hr];exact a0w λj hj=>by simp only[a6g,qp hj]) c hc
  rw[hv]at this;exact E.one_ne this
 have HD:Hid (∀U,Reach k (2*k) (a6g k λr=>stM k (kidx T (k+2) r)) U->(∀r,r<k->∀j,j<k->U r j=idM r j)->Fits k T m Y (mulM k (a7s k U) λr c=>Y (kidx T (k+2) r) c)):=λU hR hu=>d4a (c8m hR hu).2;have HG:Hid (Gd k (λ_=>k)):=gd;clear hA hB gd hT;go_enter func87,ntmps87;go_wp2_with fail;go_at_call 133;refine iB.mono ?_;rintro e w1 ⟨hb1,⟨aW,-⟩|⟨-,aW,-⟩|⟨-,-,-,c,U,hc,hR,hu,hz⟩|⟨-,-,a',U,rfl,hM,hR,hu⟩⟩
 ·exact absurd HG.out aW
 ·exact absurd rfl aW
 ·exact(HX.out c U hc hR hu hz).elim
 have HF:Hid (Fits k T m Y (mulM k (a7s k U) λr c=>Y (kidx T (k+2) r) c)):=HD.out U hR hu;have bU:=bG w1 a' U hb1 hM;clear iB bG hR hu hM;generalize(mulM k (a7s k U) λr c=>Y (kidx T (k+2) r) c)=D at bU HF;go_wp2_with fail;go_at_call 63;refine bU.mono ?_;rintro e w2 ⟨hb2,a2,rfl,q8⟩;have hb02:=hb1.trans (hb2.mono hb1.size);have hT2:TxtAt w2 a2 k (λ_=>m) D:=by
  obtain⟨x,y,e,h1,h2,h3⟩:=b2u q8 hm
  cases e;exact h3
 have aN:=b1b a2 k k (λ_=>m) D w2 (ql _) (by omega) hT2;have hz:encE k (λ_=>m)=0:=a4x.2 ⟨⟨k1,k8⟩,λ_ _=>rfl,hm⟩;have hs0:encS k (λ_=>m) D 0=strE m (St k D k):=by
  unfold encS;rw[qp hz];exact a1j λc hc=>(a4z k 0 D c).symm
 have hs1:encS k (λ_=>m) D 1=strE m (St k D (k+1)):=by
  unfold encS;rw[qp hz];exact a1j λc hc=>(a4z k 1 D c).symm
 rw[hz,hs0,hs1]at aN;have t6:w2.ownsRow w1.heap.size 9 1 (.slice a2 k k) k (a4c k λi=>strE m (St k D i)):=by
  have:(a4c k λi=>strE m (St k D i))=a4c k λr=>strE m (D r):=b2w λi hi=>a1j λc hc=>b8f hi D c;rw[this];exact q8
 have jJ:=a9k t6 hb1.size;clear bU q8 t6 hz hs0 hs1 hT2;have HP:Hid (strE m (St k D k)=(λi=>strE m (St k D i)) k/\strE m (St k D (k+1))=(λi=>strE m (St k D i)) (k+1)):=⟨rfl,rfl⟩;generalize strE m (St k D k)=p at aN HP;generalize strE m (St k D (k+1))=q at aN HP;go_wp2_with fail;go_at_call 29;refine aN.mono ?_;rintro e w3 ⟨hb3,rfl⟩;have hb03:=hb02.trans (hb3.mono hb02.size);have aU:=a0g jJ hb3;clear aN jJ;go_wp2_with(at_builtin;refine b6s rfl _ _ rfl _ w.heap.size _ k (λi=>strE m (St k D i)) aU rfl _ _ HP.out.1 HP.out.2 _ rfl rfl (by omega) hb03.size ?_);intro v' w4 dS hb4;go_wp2_with fail;go_ret;exact⟨hb03.trans hb4,_,D,rfl,HF.out,dS⟩
theorem MatAt.cut {w:World}{a:Option Addr}{n k:Nat}{L:Nat->Nat}{X:Mx}(h:MatAt w a n L X)(hk:k<=n):MatAt w a k L X:=by
 obtain⟨AR,CR,h1,h2⟩:=h;refine⟨AR,CR,?_,λr hr=>h2 r (by omega)⟩;rcases h1 with h0|⟨b,o,e,h⟩
 ·exact .inl (by omega)
 ·exact .inr ⟨b,o,e,λi hi=>h i (by omega)⟩
theorem c3y (a b:Option Addr)(n ca cb k:Nat)(X:Mx)(T:Nat->Bool)(w:World)(hn:n<=1000)(ha:MatAt w a n (λ_=>k) X)(hb:Vals w b n λi=>.bool (T i)):
 Calls prog 88 #[.slice a n ca,.slice b n cb] w λe w'=>Below w.heap.size w w'/\∃a' c',e=.returned (.slice a' (cnt T n) c')/\cnt T n<=c'/\c'<=9223372036854775807/\MatAt w' a' (cnt T n) (λ_=>k) (λr=>X (kidx T n r)):=by
 obtain⟨AR,CR,h1,h2⟩:=ha;refine(c3x a b n ca cb AR (λ_=>k) CR T w hn h1 hb).mono ?_;rintro e w' ⟨t8,v,rfl,q8⟩;obtain⟨a',c',rfl,-,hv⟩:=a0v q8 _ (λi hi=>a3v _ _ i hi);refine⟨t8,a',c',rfl,?_,?_,λr=>AR (kidx T n r),λr=>CR (kidx T n r),hv,λr hr=>?_⟩
 ·rcases q8.2 with⟨h0,h3⟩|⟨g,cap,cur,e,_,_,h3,_⟩
  ·omega
  ·cases e;exact h3
 ·rcases q8.2 with⟨h0,h3⟩|⟨g,cap,cur,e,_,_,_,h3,_⟩
  ·injection h0 with _ _ h4;omega
  ·cases e;unfold maxLen at h3;omega
 ·have hs:=a3l T hr;exact⟨(h2 _ hs.1).1,(h2 _ hs.1).2.below t8 (ql _)⟩
def b8h (n nb:Nat)(T:Nat->Bool)(M:Nat->Nat)(Y:Mx)(v:Value)(er:Int)(w':World)(base:Nat):Prop:=
 (¬(3<=n/\n<=10/\nb=n)/\v=.slice none 0 0/\er=2)\/
 ((3<=n/\n<=10/\nb=n)/\cnt T n<n-2/\v=.slice none 0 0/\er=24)\/
 ((3<=n/\n<=10/\nb=n)/\n-2<=cnt T n/\meaE (cnt T n) (λr=>M (kidx T n r))≠0/\v=.slice none 0 0/\er=meaE (cnt T n) (λr=>M (kidx T n r)))\/
 ((3<=n/\n<=10/\nb=n)/\n-2<=cnt T n/\meaE (cnt T n) (λr=>M (kidx T n r))=0/\er=0/\∃D,Fits (n-2) T (M (kidx T n 0)) Y D/\w'.ownsRow base 9 1 v n (a4c n λi=>strE (M (kidx T n 0)) (St (n-2) D i)))
theorem d5f (a b:Option Addr)(k ca cb:Nat)(M:Nat->Nat)(Y:Mx)(T:Nat->Bool)(w:World)(k1:1<=k)(k8:k<=8)(hT:TxtAt w a (k+2) M Y)(hB:Vals w b (k+2) λi=>.bool (T i)):
 Calls prog 45 #[.slice a (k+2) ca,.slice b (k+2) cb] w λe w'=>Below w.heap.size w w'/\∃v er,e=.returned (.tuple #[v,.int .i64 er])/\b8h (k+2) (k+2) T M Y v er w' w.heap.size:=by
 have aX:=λx=>a3t (k:Int) true ⟨λ_=>by omega,λ_=>rfl⟩ x;have lQ:=c3w a b (k+2) ca cb (λi=>strE (M i) (Y i)) T w (by omega) hT.1 hB;have hst:=λx=>b4q k k1 k8 x;have HB:Hid (∀x,Below w.heap.size w x->Vals x b (k+2) λi=>.bool (T i)):=λx hx=>hB.below hx (ql _);have aL:=b4g T (k+2);have HS:Hid (∀r,r<cnt T (k+2)->M (kidx T (k+2) r)<=9223372036854775807):=λr hr=>hT.2 _ (a3l T hr).1;obtain⟨q,hq⟩:∃q,cnt T (k+2)=q:=⟨_,rfl⟩;have HQ:Hid (cnt T (k+2)=q):=hq;rw[hq]at lQ aL;have kk:((k+2:Nat):Int)-2=(k:Int):=by omega
 have t0:(((k+2:Nat):Int) !=((k+2:Nat):Int))=false:=by simp
 have t1:(((k:Int)+2) !=((k:Int)+2))=false:=by simp
 have HN:Hid (3<=k+2/\k+2<=10):=⟨by omega,by omega⟩;clear hT hB hq;by_cases sE:q<k
 ·have hl:(q:Int)<(k:Int):=by omega
  go_enter func45,ntmps45;go_wp2_with fail;go_at_call 62;refine(aX _).mono ?_;rintro e w' ⟨rfl,rfl⟩;go_wp2_with fail;go_at_call 85;refine lQ.mono ?_;rintro e w1 ⟨hb1,v,rfl,q8⟩;obtain⟨a1,c1,rfl,-,-⟩:=a0v q8 _ (λi hi=>a5s _ _ i hi);clear lQ q8;go_wp2_with fail;go_ret2;exact⟨hb1,_,_,rfl,.inr (.inl ⟨⟨HN.out.1,HN.out.2,rfl⟩,by rw[HQ.out];omega,rfl,rfl⟩)⟩
 ·have hl:¬(q:Int)<(k:Int):=by omega
  have hkq:(k:Int)<=(q:Int):=by omega
  go_enter func45,ntmps45;go_wp2_with fail;go_at_call 62;refine(aX _).mono ?_;rintro e w' ⟨rfl,rfl⟩;go_wp2_with fail;go_at_call 85;refine lQ.mono ?_;rintro e w1 ⟨hb1,v,rfl,q8⟩;have hT1:∃a1 c1,v=.slice a1 q c1/\q<=c1/\c1<=9223372036854775807/\TxtAt w1 a1 q (λr=>M (kidx T (k+2) r)) (λr=>Y (kidx T (k+2) r)):=by
   obtain⟨a1,c1,rfl,-,hv⟩:=a0v q8 _ (λi hi=>a5s _ _ i hi);refine⟨a1,c1,rfl,?_,?_,hv,λr hr=>HS.out r (by rw[HQ.out];exact hr)⟩
   ·rcases q8.2 with⟨h0,h3⟩|⟨g,cap,cur,e,_,_,h3,_⟩
    ·omega
    ·cases e;exact h3
   ·rcases q8.2 with⟨h0,h3⟩|⟨g,cap,cur,e,_,_,_,h3,_⟩
    ·injection h0 with _ _ h4;omega
    ·cases e;unfold maxLen at h3;omega
  obtain⟨a1,c1,rfl,hc1,hc2,hT1⟩:=hT1;have jN:=c3q a1 q c1 _ _ w1 (by omega) (by unfold maxLen;omega) hT1;have HT1:Hid (TxtAt w1 a1 q (λr=>M (kidx T (k+2) r)) (λr=>Y (kidx T (k+2) r))):=hT1;obtain⟨er,cI⟩:∃er,meaE q (λr=>M (kidx T (k+2) r))=er:=⟨_,rfl⟩;have mS:Hid (meaE q (λr=>M (kidx T (k+2) r))=er):=cI;rw[cI]at jN;clear lQ q8 hT1 cI;by_cases h0:er=0
  ·subst h0;obtain⟨aR,h5⟩:=a9p.1 mS.out;obtain⟨m,hm⟩:∃m,M (kidx T (k+2) 0)=m:=⟨_,rfl⟩;have HM:Hid (M (kidx T (k+2) 0)=m):=hm;have cT:TxtAt w1 a1 k (λ_=>m) (λr=>Y (kidx T (k+2) r)):=by
    refine⟨?_,λc hc=>by show m<=_;have:M (kidx T (k+2) 0)<=65536:=h5;omega⟩;rcases HT1.out.1 with h0|⟨x,y,e,h⟩
    ·omega
    ·refine .inr ⟨x,y,e,λi hi=>?_⟩;have e1:M (kidx T (k+2) i)=m:=(by rw[<-hm];exact aR i (by omega));show _=some (Value.string (strE m (Y (kidx T (k+2) i))));rw[<-e1];exact h i (by omega)
   have lC:Hid (∀x,Below w1.heap.size w1 x->TxtAt x a1 k (λ_=>m) (λr=>Y (kidx T (k+2) r))):=λx hx=>cT.below hx;have hm5:m<=65536:=(by have:M (kidx T (k+2) 0)<=65536:=h5;omega);have kc1:(k:Int)<=(c1:Int):=(by omega);have kc1':k<=c1:=(by omega);have hqT:k<=cnt T (k+2):=(by rw[HQ.out];omega);have rK:=λx a6 c6 (hx:Below w1.heap.size w1 x) hM=>c2u a1 a6 k c1 c6 m T Y x k1 k8 kc1' hc2 hm5 hqT (lC.out x hx) hM;have HREB:Hid (∀(x:World) (a6:Option Addr) (c6:Nat),Below w1.heap.size w1 x->MatAt x a6 k (λ_=>k) (λr=>stM k (kidx T (k+2) r))->Calls prog 87 #[.slice a1 k c1,.slice a6 k c6] x λe w'=>Below x.heap.size x w'/\∃v D,e=.returned v/\Fits k T m Y D/\w'.ownsRow x.heap.size 9 1 v (k+2) (a4c (k+2) λi=>strE m (St k D i))):=rK;clear aR h5 cT hm rK hqT;go_wp2_with fail;go_at_call 86;refine jN.mono ?_;rintro e w2 ⟨hb2,rfl⟩;have hd2:Below w1.heap.size w1 w2.drew:=hb2.drew;clear jN;go_wp2_with fail
   go_region_held3 (λ_=>True) (first|trivial) (first|(go_at_call 89;refine(hst _).mono ?_;rintro e w3 ⟨hb3,a3,c3,rfl,hM3⟩;have hx3:Below w1.heap.size w1 w3:=hd2.trans (hb3.mono hd2.size))|(go_at_call 88;refine(c3y _ _ (k+2) _ _ k (stM k) T w3 (by omega) hM3 (HB.out w3 (hb1.trans (hx3.mono hb1.size)))).mono ?_;rw[HQ.out];rintro e w4 ⟨hb4,a4,c4,rfl,hc41,hc42,hM4⟩;have hx4:Below w1.heap.size w1 w4:=hx3.trans (hb4.mono hx3.size);have kc4:(k:Int)<=(c4:Int):=by omega)|(go_at_call 87;refine(HREB.out w4 _ _ hx4 (hM4.cut (by omega))).mono ?_;rintro e w5 ⟨hb5,v5,D,rfl,hF,rP⟩))
   have hx5:Below w1.heap.size w1 w5:=hx4.trans (hb5.mono hx4.size);have hb05:=hb1.trans (hx5.mono hb1.size);have hs4:=Nat.le_trans hb1.size hx4.size;clear hb5 hb4 hb3 hM3 hM4;go_wp2_with fail;go_ret2;refine⟨hb05,_,_,rfl,.inr (.inr (.inr ⟨⟨HN.out.1,HN.out.2,rfl⟩,by rw[HQ.out];omega,by rw[HQ.out];exact mS.out,rfl,D,?_,?_⟩))⟩
   ·rw[HM.out];exact hF
   ·rw[HM.out];exact a9k rP hs4
  ·have t2:(er !=0)=true:=(by simpa using h0);have HE0:Hid (er≠0):=h0;clear h0;go_wp2_with fail;go_at_call 86;refine jN.mono ?_;rintro e w2 ⟨hb2,rfl⟩;have hb02:=hb1.trans (hb2.mono hb1.size);clear jN;go_wp2_with fail;go_ret2;exact⟨hb02,_,_,rfl,.inr (.inr (.inl ⟨⟨HN.out.1,HN.out.2,rfl⟩,by rw[HQ.out];omega,by rw[HQ.out,mS.out];exact HE0.out,rfl,by rw[HQ.out,mS.out]⟩))⟩
theorem c9n (a b:Option Addr)(n nb ca cb:Nat)(M:Nat->Nat)(Y:Mx)(T:Nat->Bool)(w:World)(hnm:n<=9223372036854775807)(hbm:nb<=9223372036854775807)(hT:TxtAt w a n M Y)(hB:Vals w b nb λi=>.bool (T i)):
 Calls prog 45 #[.slice a n ca,.slice b nb cb] w λe w'=>Below w.heap.size w w'/\∃v er,e=.returned (.tuple #[v,.int .i64 er])/\b8h n nb T M Y v er w' w.heap.size:=by
 by_cases hn:3<=n/\n<=10
 ·by_cases gL:nb=n
  ·obtain⟨k,rfl⟩:∃k,n=k+2:=⟨n-2,by omega⟩;subst gL;exact d5f a b k ca cb M Y T w (by omega) (by omega) hT hB
  ·have aX:=λx=>a3t ((n:Int)-2) true ⟨λ_=>by omega,λ_=>rfl⟩ x;have t0:((nb:Int) !=(n:Int))=true:=(by simp;omega);have HN:Hid (¬(3<=n/\n<=10/\nb=n)):=λh=>gL h.2.2;clear hT hB hn gL;go_enter func45,ntmps45;go_wp2_with fail;go_at_call 62;refine(aX _).mono ?_;rintro e w' ⟨rfl,rfl⟩;go_wp2_with fail;go_ret2;exact⟨qw _ _,_,_,rfl,.inl ⟨HN.out,rfl,rfl⟩⟩
 ·have aX:=λx=>a3t ((n:Int)-2) false ⟨λh=>Bool.noConfusion h,λh=>absurd (by omega) hn⟩ x;have HN:Hid (¬(3<=n/\n<=10/\nb=n)):=λh=>hn ⟨h.1,h.2.1⟩;clear hT hB hn;go_enter func45,ntmps45;go_wp2_with fail;go_at_call 62;refine(aX _).mono ?_;rintro e w' ⟨rfl,rfl⟩;go_wp2_with fail;go_ret2;exact⟨qw _ _,_,_,rfl,.inl ⟨HN.out,rfl,rfl⟩⟩
theorem d7f (m:Nat)(g:Nat->E)(c:Nat)(hc:c<m):teE (strE m g) c=g c:=by
 apply E.same;show(bt (strE m g) c).toNat%256=_;rw[a6z m g c hc,Int.toNat_natCast,Nat.mod_eq_of_lt (g c).h]
theorem CutTo.elems {w:World}{base:Nat}{v:Value}{k N:Nat}{f:Nat->BA}(h:CutTo w base v k N true f)(hN:N<=1000)(k1:1<=k)(k8:k<=8):∃(m:Nat) (D:Mx),m<=N/\m<=65536/\encE k (λi=>(f i).size)=0/\(∀i,i<k->f i=strE m (St k D i))/\
 encS k (λi=>(f i).size) (λi=>teE (f i)) 0=strE m (St k D k)/\encS k (λi=>(f i).size) (λi=>teE (f i)) 1=strE m (St k D (k+1))/\(f 0).size=m:=by
 have hs:=h.2.2 rfl;have h0:=h.2.1 0 (by omega);have hz:encE k (λi=>(f i).size)=0:=a4x.2 ⟨⟨k1,k8⟩,λc hc=>hs c hc,by show(f 0).size<=_;omega⟩;refine⟨(f 0).size,λi=>teE (f i),h0,by omega,hz,λi hi=>?_,?_,?_,rfl⟩
 ·rw[a1j (g:=teE (f i)) λc hc=>b8f hi _ c,<-hs i hi,b0n]
 ·unfold encS;rw[qp hz];exact a1j λc hc=>(a4z k 0 _ c).symm
 ·unfold encS;rw[qp hz];exact a1j λc hc=>(a4z k 1 _ c).symm
theorem c5f (a:E)(h:a≠0)(w:World):Calls prog 144 #[.int .u8 (a.v:Int)] w λe w'=>e=.returned (.int .u8 (a.inv.v:Int))/\Below w.heap.size w w':=by
 have:=c8k a.v a.h w;rw[show gi0 a.v=a.inv.v from qn (E.ne_v h)]at this;exact this
def twoV (x y:Nat)(p q:E):E:=(pw two x+pw two y).inv*(q+pw two x*p)
def twoU (x y:Nat)(p q:E):E:=p+twoV x y p q
theorem c8h (x y:Nat)(p q:E)(w:World)(mW:x<y)(hy:y<8):
 Calls prog 143 #[.int .i64 (x:Int),.int .i64 (y:Int),.int .u8 (p.v:Int),.int .u8 (q.v:Int)] w λe w'=>Below w.heap.size w w'/\e=.returned (.tuple #[.int .u8 ((twoU x y p q).v:Int),.int .u8 ((twoV x y p q).v:Int)]):=by
 have y6:pw two x+pw two y≠0:=λe=>by
  have:=b0r (show x<255 by omega) (show y<255 by omega) (E.of_add e);omega
 have c1:=λw=>a5k x (by omega) w;have c2:=λw=>a5k y (by omega) w;have c3:=λw=>a3j (pw two x) (pw two y) w;have c4:=λw=>c5f _ y6 w;have c5:=λw=>a9d (pw two x) p w;have c6:=λw=>a3j q (pw two x*p) w;have c7:=λw=>a9d (pw two x+pw two y).inv (q+pw two x*p) w;have c8:=λw=>a3j p ((pw two x+pw two y).inv*(q+pw two x*p)) w;have HU:Hid (twoU x y p q=p+(pw two x+pw two y).inv*(q+pw two x*p)/\twoV x y p q=(pw two x+pw two y).inv*(q+pw two x*p)):=⟨rfl,rfl⟩;generalize twoU x y p q=U at HU⊢;generalize twoV x y p q=V at HU⊢;generalize(p+(pw two x+pw two y).inv*(q+pw two x*p))=z8 at c8 HU;generalize((pw two x+pw two y).inv*(q+pw two x*p))=z7 at c7 c8 HU;generalize(q+pw two x*p)=z6 at c6 c7;generalize(pw two x*p)=z5 at c5 c6;generalize(pw two x+pw two y).inv=z4 at c4 c7;clear y6;generalize(pw two x+pw two y)=z3 at c3 c4;generalize pw two x=z1 at c1 c3 c5;generalize pw two y=z2 at c2 c3;obtain⟨h1,h2⟩:=HU.out;subst h1;subst h2;clear HU;go_enter func143,ntmps143;go_wp2_with fail;go_at_call 110;refine(c1 _).mono ?_;rintro e w1 ⟨rfl,hb1⟩;go_wp2_with fail;go_at_call 110;refine(c2 _).mono ?_;rintro e w2 ⟨rfl,hb2⟩;have hb2:=hb1.trans (hb2.mono hb1.size);clear hb1;go_wp2_with fail;go_at_call 112;refine(c3 _).mono ?_;rintro e w3 ⟨rfl,hb3⟩;have hb3:=hb2.trans (hb3.mono hb2.size);clear hb2;go_wp2_with fail;go_at_call 144;refine(c4 _).mono ?_;rintro e w4 ⟨rfl,hb4⟩;have hb4:=hb3.trans (hb4.mono hb3.size);clear hb3;go_wp2_with fail;go_at_call 111;refine(c5 _).mono ?_;rintro e w5 ⟨rfl,hb5⟩;have hb5:=hb4.trans (hb5.mono hb4.size);clear hb4;go_wp2_with fail;go_at_call 112;refine(c6 _).mono ?_;rintro e w6 ⟨rfl,hb6⟩;have hb6:=hb5.trans (hb6.mono hb5.size);clear hb5;go_wp2_with fail;go_at_call 111;refine(c7 _).mono ?_;rintro e w7 ⟨rfl,hb7⟩;have hb7:=hb6.trans (hb7.mono hb6.size);clear hb6;go_wp2_with fail;go_at_call 112;refine(c8 _).mono ?_;rintro e w8 ⟨rfl,hb8⟩;have hb8:=hb7.trans (hb8.mono hb7.size);clear hb7;go_wp2_with fail;go_ret2;exact⟨hb8,rfl⟩
theorem e1r {k i:Nat}(hi:i<k)(A:Nat->E)(d:Nat->E)(n:E)(h0:d i=0):S k (λj=>A j*(if j=i then n else d j))=S k (λj=>A j*d j)+A i*n:=by
 have e:∀j,j<k->A j*(if j=i then n else d j)=A j*d j+(if j=i then A i*n else 0):=λj hj=>by
  by_cases h:j=i
  ·subst h;rw[qp rfl,qp rfl,h0,E.mul_zero,E.zero_add]
  ·rw[qn h,qn h,E.add_zero]
 rw[a0w e,d0e];congr 1;rw[d0d hi (λj hj h=>qn h),qp rfl]
def bD (U:Nat->Bool)(Y:Mx)(c:Nat)(j:Nat):E:=if U j then Y j c else 0
theorem c0z {U:Nat->Bool}{Y:Mx}{c j:Nat}(h:U j=false):bD U Y c j=0:=by unfold bD;rw[h];rfl
theorem c0y {U:Nat->Bool}{Y:Mx}{c j:Nat}(h:U j=true):bD U Y c j=Y j c:=by unfold bD;rw[qp h]
def b1x (k:Nat)(U:Nat->Bool)(Y:Mx)(c:Nat)(d:Nat->E):Prop:=∀i,i<k+2->U i=true->S k (λj=>stM k i j*d j)=Y i c
theorem e0r {k:Nat}{d:Nat->E}{i:Nat}(h:i<k):S k (λj=>stM k i j*d j)=d i:=by
 rw[a0w (g:=λj=>idM i j*d j) λj hj=>by unfold stM;rw[qp h],c4v h]
theorem d5l {k r:Nat}{d:Nat->E}:S k (λj=>stM k (k+r) j*d j)=S k (λj=>powM r j*d j):=
 a0w λj hj=>by unfold stM;rw[qn (by omega),Nat.add_sub_cancel_left]
theorem b2l {k:Nat}{U:Nat->Bool}{Y:Mx}{c:Nat}{d:Nat->E}(h:∀i,i<k->U i=true->d i=Y i c)(h0:U k=true->S k d=Y k c)(h1:U (k+1)=true->S k (λj=>pw two j*d j)=Y (k+1) c):b1x k U Y c d:=by
 intro i hi hu;by_cases hk:i<k
 ·rw[e0r hk];exact h i hk hu
 ·by_cases e:i=k
  ·subst e;have:=d5l (k:=i) (r:=0) (d:=d);rw[Nat.add_zero]at this;rw[this,a0w (g:=d) λj hj=>by rw[a9j,E.one_mul]];exact h0 hu
  ·obtain rfl:i=k+1:=(by omega);rw[d5l,a0w (g:=λj=>pw two j*d j) λj hj=>by rw[b2c]];exact h1 hu
theorem d0t (a b:E):a+(a+b)=b:=by rw[<-E.add_assoc,E.add_self,E.zero_add]
theorem a5d (V:Nat->Bool)(k:Nat):cnt V (k+2)=cnt V k+(if V k then 1 else 0)+(if V (k+1)then 1 else 0):=rfl
theorem e0q {k:Nat}{U V:Nat->Bool}(hV:∀i,V i=!U i){Y:Mx}{c:Nat}(h2:cnt V (k+2)=2)(h0:cnt V k=0):b1x k U Y c (bD U Y c):=by
 rw[a5d,h0]at h2;have hk:V k=true:=by cases e:V k<;>simp[e]at h2⊢<;>split at h2<;>omega
 have hk1:V (k+1)=true:=by cases e:V (k+1)<;>simp[e]at h2⊢<;>split at h2<;>omega
 rw[hV]at hk hk1;refine b2l (λi hi hu=>c0y hu) (λhu=>by rw[hu]at hk;cases hk) (λhu=>by rw[hu]at hk1;cases hk1)
theorem e6d {k x y:Nat}(k8:k<=8){U V:Nat->Bool}(hV:∀i,V i=!U i){Y:Mx}{c:Nat}(h2:cnt V (k+2)=2)(h0:cnt V k=2)(mW:x<y)(hy:y<k)(hx':V x=true)(hy':V y=true)(p q:E)
 (hp:p=S k (bD U Y c)+Y k c)(hq:q=S k (λj=>pw two j*bD U Y c j)+Y (k+1) c):
 U k=true/\U (k+1)=true/\b1x k U Y c (λj=>if j=y then twoV x y p q else if j=x then twoU x y p q else bD U Y c j):=by
 rw[a5d,h0]at h2;have hk:V k=false:=by
  cases e:V k with
  |false=>rfl
  |true=>exfalso;rw[qp e]at h2;omega
 have hk1:V (k+1)=false:=by
  cases e:V (k+1)with
  |false=>rfl
  |true=>exfalso;rw[qp e]at h2;omega
 rw[hV]at hk hk1;have ux:U x=false:=by rw[hV]at hx';simpa using hx'
 have uy:U y=false:=by rw[hV]at hy';simpa using hy'
 have y6:pw two x+pw two y≠0:=λe=>by
  have:=b0r (show x<255 by omega) (show y<255 by omega) (E.of_add e);omega
 have hv:(pw two x+pw two y)*twoV x y p q=q+pw two x*p:=by
  unfold twoV;rw[<-E.mul_assoc,E.mul_inv _ y6,E.one_mul]
 have by0:(λj=>if j=x then twoU x y p q else bD U Y c j) y=0:=by
  show(if y=x then _ else _)=_;rw[qn (by omega)];exact c0z uy
 have hS:∀A:Nat->E,S k (λj=>A j*(if j=y then twoV x y p q else if j=x then twoU x y p q else bD U Y c j))=S k (λj=>A j*bD U Y c j)+A x*twoU x y p q+A y*twoV x y p q:=λA=>by
  rw[e1r hy A (λj=>if j=x then twoU x y p q else bD U Y c j) _ by0,e1r (show x<k by omega) A (bD U Y c) _ (c0z ux)]
 refine⟨by simpa using hk,by simpa using hk1,b2l (λi hi hu=>?_) (λhu=>?_) (λhu=>?_)⟩
 ·have h1:i≠y:=λe=>by rw[e,uy]at hu;cases hu
  have h3:i≠x:=λe=>by rw[e,ux]at hu;cases hu
  rw[qn h1,qn h3];exact c0y hu
 ·have:=hS (λ_=>1);rw[a0w (f:=λj=>(1:E)*_) (g:=λj=>if j=y then twoV x y p q else if j=x then twoU x y p q else bD U Y c j) λj hj=>E.one_mul _,a0w (f:=λj=>(1:E)*bD U Y c j) (g:=bD U Y c) λj hj=>E.one_mul _,E.one_mul,E.one_mul]at this;rw[this,E.add_assoc];have e:twoU x y p q+twoV x y p q=p:=by unfold twoU;rw[E.add_assoc,E.add_self,E.add_zero]
  rw[e,hp,d0t]
 ·rw[hS (λj=>pw two j),E.add_assoc];have e:pw two x*twoU x y p q+pw two y*twoV x y p q=q:=by
   unfold twoU;rw[E.mul_add,E.add_assoc,<-E.add_mul,hv,E.add_comm q,d0t]
  rw[e,hq,d0t]
theorem e0p {k x:Nat}{U V:Nat->Bool}(hV:∀i,V i=!U i){Y:Mx}{c:Nat}(h2:cnt V (k+2)=2)(h0:cnt V k=1)(hx:x<k)(hx':V x=true)(hk:U k=true):
 U (k+1)=false/\b1x k U Y c (λj=>if j=x then S k (bD U Y c)+Y k c else bD U Y c j):=by
 have hk':V k=false:=by rw[hV,hk];rfl
 rw[a5d,h0,hk']at h2;have hk1:V (k+1)=true:=by cases e:V (k+1)<;>simp[e]at h2⊢
 rw[hV]at hk1;have ux:U x=false:=by rw[hV]at hx';simpa using hx'
 refine⟨by simpa using hk1,b2l (λi hi hu=>?_) (λhu=>?_) (λhu=>by rw[hu]at hk1;cases hk1)⟩
 ·rw[qn (λe=>by rw[e,ux]at hu;cases hu)];exact c0y hu
 ·have:=e1r hx (λ_=>1) (bD U Y c) (S k (bD U Y c)+Y k c) (c0z ux);rw[a0w (f:=λj=>(1:E)*_) (g:=λj=>if j=x then S k (bD U Y c)+Y k c else bD U Y c j) λj hj=>E.one_mul _,a0w (f:=λj=>(1:E)*bD U Y c j) (g:=bD U Y c) λj hj=>E.one_mul _,E.one_mul]at this;rw[this,d0t]
theorem e0o {k x:Nat}{U V:Nat->Bool}(hV:∀i,V i=!U i){Y:Mx}{c:Nat}(h2:cnt V (k+2)=2)(h0:cnt V k=1)(hx:x<k)(hx':V x=true)(hk:U k=false):
 U (k+1)=true/\b1x k U Y c (λj=>if j=x then(pw two x).inv*(S k (λj=>pw two j*bD U Y c j)+Y (k+1) c)else bD U Y c j):=by
 have hk':V k=true:=by rw[hV,hk];rfl
 rw[a5d,h0,hk']at h2;have hk1:V (k+1)=false:=by cases e:V (k+1)<;>simp[e]at h2⊢
 rw[hV]at hk1;have ux:U x=false:=by rw[hV]at hx';simpa using hx'
 refine⟨by simpa using hk1,b2l (λi hi hu=>?_) (λhu=>by rw[hu]at hk;cases hk) (λhu=>?_)⟩
 ·rw[qn (λe=>by rw[e,ux]at hu;cases hu)];exact c0y hu
 ·rw[e1r hx (λj=>pw two j) (bD U Y c) _ (c0z ux),<-E.mul_assoc,E.mul_inv _ (e4l x),E.one_mul,d0t]
theorem info3:(prog.info? 3).map (λi=>(i.zero,i.size,i.bytes))=some (some (.int .i64 0),1,8):=by kernel_rfl
def d9h (k:Nat)(f:Nat->Nat):List Value:=a4b k λr=>.int .i64 (f r:Int)
section
variable {ops:Array Oper}{rest:List Oper}{o:Oper}{a:Act}{Q:Exit->Act->World->Prop}
theorem c3b (y5:o.guard=none)(s x:Operand)(ho:o.op=.call {callee:=.builtin .append,args:=#[s,x],argTypes:=#[55,55]})
 (w0:World)(base:Nat)(v:Value)(k:Nat)(f:Nat->Nat)(hA:w0.ownsRow base 3 1 v k (d9h k f))(hs:a.eval s=v)(b:Value)(mJ:b=.int .i64 (f k:Int))
 (sz:Nat)(hx:a.eval x=.slice (some ⟨sz,0,none⟩) 1 1)(aA:sz=w0.heap.size)(hk:k<1000000)(aC:base<=w0.heap.size)
 (h:∀v' w',w'.ownsRow base 3 1 v' (k+1) (d9h (k+1) f)->(∀u e n xs,e≠3->w0.ownsRow base e 1 u n xs->w'.ownsRow base e 1 u n xs)->Below base w0 w'->wpList prog ops Q rest (a.put o.dst v') w'):
 wpList prog ops Q (o::rest) a (w0.alloc (.cells #[b] 3 (0,0))):=by
 subst aA;subst mJ;obtain⟨i0,hi,hz0,hz1,hz2⟩:=info_parts info3;refine wpList_append_own _ y5 s x 55 ho base 3 i0 (.int .i64 0) 1 8 underlying55 hi hz0 hz1 hz2 rfl (by decide) v k _ hs (hA.alloc _) ⟨w0.heap.size,0,none⟩ 1 1 [.int .i64 (f k:Int)] hx rfl ?_ ?_ ?_ ?_ ?_ ?_
 ·intro j u hu
  match j,hu with
  |0,hu=>simp at hu;subst hu;simp[Addr.add]
 ·intro u hu;simp at hu;subst hu;rfl
 ·unfold maxLen;omega
 ·omega
 ·simp;omega
 ·intro v' w' q8 q9 _;have hb0:Below w0.heap.size w0 (w0.alloc (.cells #[.int .i64 (f k:Int)] 3 (0,0))):=(qw _ _).alloc (ql _) _;refine h v' w' (by unfold d9h;rw[b4y];exact q8) (λu e n xs he hu=>(hu.alloc _).kept q9 (a1r hA hu (λh=>he h.symm))) ?_;exact(hb0.mono aC).grown q9 (by simp;omega) (λg hg=>(hA.lt g hg).1)
end
theorem a5q (k:Nat)(f:Nat->E)(i:Nat)(y:E)(h:i<k):(a0l k f).set i (a1w y)=a0l k (λj=>if j=i then y else f j):=by
 apply List.ext_getElem
 ·simp[a0l]
 ·intro j h1 h2;rw[List.getElem_set];by_cases e:i=j
  ·subst e;simp[a0l]
  ·have e':¬j=i:=λh=>e h.symm;simp[a0l,e,e']
theorem a5e {k:Nat}{f g:Nat->E}(h:∀i,i<k->f i=g i):a0l k f=a0l k g:=
 List.map_congr_left λi hi=>by rw[h i (List.mem_range.1 hi)]
def upto (i:Nat)(b:Nat->E)(j:Nat):E:=if j<i then b j else 0
theorem b9f (bl ol:Nat)(bu:Option Addr)(k cl cu c:Nat)(M:Nat->Nat)(Y:Mx)(U:Nat->Bool)(w:World)(k1:1<=k)(k8:k<=8)(gG:Txts w bl ol (k+2) M Y)(hU:Vals w bu (k+2) λi=>.bool (U i))
 (hM:∀i,i<k+2->U i=true->c<M i)(hc9:c<=65536)(h2:cnt (λi=>!U i) (k+2)=2):
 Calls prog 96 #[.slice (some ⟨bl,ol,none⟩) (k+2) cl,.slice bu (k+2) cu,.int .i64 (k:Int),.int .i64 (c:Int)] w λe w'=>Below w.heap.size w w'/\e=.returned (.slice (some ⟨w.heap.size,0,none⟩) k k)/\∃d,w'.ownsRow w.heap.size 5 1 (.slice (some ⟨w.heap.size,0,none⟩) k k) k (a0l k d)/\b1x k U Y c d:=by
 obtain⟨i0,hi,hz0,hz1,hz2⟩:=info_parts info5;have HT:Hid (∀x,Below w.heap.size w x->∀i,i<k+2->U i=true->∃s:BA,c<s.size/\s.size<=9223372036854775807/\x.cell? ⟨bl,ol+i,none⟩=some (.string s)/\bt s c=((Y i c).v:Int)):=λx hx i hi hu=>by
  obtain⟨s,h1,h2,h3,h4⟩:=gG x hx i hi;have:=hM i hi hu;exact⟨s,by omega,by omega,h3,h4 c this⟩
 have HU:=hU.at;obtain⟨V,hV⟩:∃V:Nat->Bool,V=λi=>!U i:=⟨_,rfl⟩;rw[<-hV]at h2;have HV:Hid (∀i,V i=!U i):=λi=>by rw[hV]
 have H2:Hid (cnt V (k+2)=2):=h2;clear gG hU hM hV h2;go_enter func96,ntmps96;go_wp2_with(at_make;refine wpList_make_full _ rfl _ _ 22 rfl w.heap.size 5 i0 (.int .u8 0) 1 underlying22 hi hz0 hz1 _ _ _ _ k rfl rfl ?c0 ?c1 ?c2 ?c3 ?c4 ?_)
 case c0=>first|rfl|omega
 case c1=>first|rfl|omega
 case c2=>rw[hz2];omega
 case c3=>unfold maxLen;omega
 case c4=>exact ql _
 intro w1 dB dD;have hb1:Below w.heap.size w w1:=(qw _ _).grown dD (ql _) (λk h=>by cases h);have jI:w1.ownsRow w.heap.size 5 1 (.slice (some ⟨w.heap.size,0,none⟩) k k) k (a0l k (upto 0 (bD U Y c))):=by
  rw[toList_madeCells_one]at dB;have:List.replicate k (Value.int .u8 0)=a0l k (upto 0 (bD U Y c)):=by
   apply List.ext_getElem
   ·simp[a0l]
   ·intro j h1 h2;simp[a0l,upto,a1w];rfl
  rw[<-this];exact dB
 clear dB dD;go_wp2_with fail;go_loopw[10,11,12,13] (λlo p q i wr=>∃r:Nat,r<=k/\i=.int .i64 r/\p=.int .u8 ((S r (bD U Y c)).v:Int)/\q=.int .u8 ((S r (λj=>pw two j*bD U Y c j)).v:Int)/\wr.ownsRow w.heap.size 3 1 lo (cnt V r) (d9h (cnt V r) (kidx V k))/\wr.ownsRow w.heap.size 5 1 (.slice (some ⟨w.heap.size,0,none⟩) k k) k (a0l k (upto r (bD U Y c)))/\Below w.heap.size w wr) (λ_ _ _ i _=>(k:Nat)-(intOf i).toNat)
 case atStart=>exact⟨0,Nat.zero_le _,rfl,rfl,rfl,World.ownsRow_nil _ _ _ _,jI,hb1⟩
 case round=>
  obtain⟨r,hr,rfl,rfl,rfl,dN,fW,aZ⟩:=hrel;clear hb1 jI;by_cases p9:r<k
  ·obtain⟨b1,o1,rfl,e1⟩:=HU.out wr aZ r (by omega);have rk:(r:Int)<(k:Int)+2:=(by omega);have rk':(r:Int)<(k:Int):=(by omega);have aL:=b4g V r
   cases mN:U r with
   |false=>
    rw[mN]at e1;have qM:V r=true:=(by rw[HV.out r,mN];rfl);have HC:Hid (cnt V (r+1)=cnt V r+1):=a4m qM;have HK:Hid (Value.int .i64 (r:Int)=.int .i64 (kidx V k (cnt V r):Int)):=(by show _=_;rw[a5b V p9 qM]);have HS:Hid (S (r+1) (bD U Y c)=S r (bD U Y c)/\S (r+1) (λj=>pw two j*bD U Y c j)=S r (λj=>pw two j*bD U Y c j)/\a0l k (upto (r+1) (bD U Y c))=a0l k (upto r (bD U Y c))):=by
     have h0:bD U Y c r=0:=c0z mN;refine⟨?_,?_,a5e λi hi=>?_⟩
     ·show S r (bD U Y c)+bD U Y c r=_;rw[h0,E.add_zero]
     ·show S r (λj=>pw two j*bD U Y c j)+pw two r*bD U Y c r=_;rw[h0,E.mul_zero,E.add_zero]
     ·unfold upto;by_cases h:i<r
      ·rw[qp h,qp (by omega)]
      ·rw[qn h];by_cases e:i<r+1
       ·obtain rfl:i=r:=(by omega);rw[qp e,h0]
       ·rw[qn e]
    obtain⟨p,hp⟩:∃p,(S r (bD U Y c)).v=p:=⟨_,rfl⟩;obtain⟨q,hq⟩:∃q,(S r (λj=>pw two j*bD U Y c j)).v=q:=⟨_,rfl⟩;have fB:Hid ((S (r+1) (bD U Y c)).v=p/\(S (r+1) (λj=>pw two j*bD U Y c j)).v=q):=(by rw[HS.out.1,HS.out.2.1];exact⟨hp,hq⟩);rw[hp,hq];obtain⟨n,hn⟩:∃n,cnt V r=n:=⟨_,rfl⟩;rw[hn]at dN HC HK aL;clear mN qM hp hq hn;go_wp2_with(at_builtin;refine c3b rfl _ _ rfl _ w.heap.size _ n (kidx V k) dN rfl _ HK.out _ rfl rfl (by omega) aZ.size ?_);intro v' w2 jP aJ hb2;have iD:=aJ _ _ _ _ (by decide) fW;clear aJ;go_wp2_with fail;go_roundw
    case rel=>exact⟨r+1,by omega,by go_num,by rw[fB.out.1],by rw[fB.out.2],by rw[HC.out];exact jP,by rw[HS.out.2.2];exact iD,aZ.trans hb2⟩
    case measure=>simp[intOf];omega
   |true=>
    rw[mN]at e1;obtain⟨s,hs1,hs2,e2,e3⟩:=HT.out wr aZ r (by omega) mN;have qM:V r=false:=(by rw[HV.out r,mN];rfl);have HC:Hid (cnt V (r+1)=cnt V r):=a3z qM;have iJ:bD U Y c r=Y r c:=c0y mN;obtain⟨y,hy⟩:∃y,Y r c=y:=⟨_,rfl⟩;rw[hy]at e3 iJ;have HS:Hid (S (r+1) (bD U Y c)=S r (bD U Y c)+y/\S (r+1) (λj=>pw two j*bD U Y c j)=S r (λj=>pw two j*bD U Y c j)+pw two r*y/\a0l k (λj=>if j=r then y else upto r (bD U Y c) j)=a0l k (upto (r+1) (bD U Y c))):=by
     refine⟨?_,?_,a5e λi hi=>?_⟩
     ·show S r (bD U Y c)+bD U Y c r=_;rw[iJ]
     ·show S r (λj=>pw two j*bD U Y c j)+pw two r*bD U Y c r=_;rw[iJ]
     ·unfold upto;by_cases h:i=r
      ·subst h;rw[qp rfl,qp (by omega),iJ]
      ·rw[qn h];by_cases e:i<r
       ·rw[qp e,qp (by omega)]
       ·rw[qn e,qn (by omega)]
    obtain⟨v0,x5⟩:∃v0,wr.cell? ⟨w.heap.size,r,none⟩=some v0:=by
     rw[fW.cellAt r (by omega)];exact⟨_,a1b _ _ r p9⟩
    have eC:=fW.frozenAt r;have hst:=fW.stored r (a1w y);have jP:=dN.kept hst.2 (a1r fW dN (by decide));have iD:=hst.1;rw[a5q _ _ r y p9,HS.out.2.2]at iD;have hb2:Below w.heap.size w (wr.setCell ⟨w.heap.size,r,none⟩ (a1w y)):=aZ.setCell (p:=⟨w.heap.size,r,none⟩) (ql _) _;have HB:Hid (a1w y=.int .u8 (y.v:Int)):=rfl;rw[HB.out]at jP iD hb2;have HY:Hid (a0l k (upto (r+1) (bD U Y c))=a0l k (upto (r+1) (bD U Y c))/\(a0l k (upto (r+1) (bD U Y c)))[r]?=some (.int .u8 (y.v:Int))):=by
     refine⟨rfl,?_⟩;rw[a1b _ _ r p9];unfold upto;rw[qp (by omega),iJ];rfl
    have c1:=λx=>a5k r (by omega) x;have c2:=λx=>a9d (pw two r) y x;have c3:=λx=>a3j (S r (bD U Y c)) y x;have c4:=λx=>a3j (S r (λj=>pw two j*bD U Y c j)) (pw two r*y) x;obtain⟨P1,hP1⟩:∃z,S r (bD U Y c)+y=z:=⟨_,rfl⟩;obtain⟨Q1,hQ1⟩:∃z,S r (λj=>pw two j*bD U Y c j)+pw two r*y=z:=⟨_,rfl⟩;have fB:Hid (S (r+1) (bD U Y c)=P1/\S (r+1) (λj=>pw two j*bD U Y c j)=Q1):=(by rw[HS.out.1,HS.out.2.1];exact⟨hP1,hQ1⟩);rw[hP1]at c3;rw[hQ1]at c4;generalize S r (bD U Y c)=P0 at c3⊢;generalize S r (λj=>pw two j*bD U Y c j)=Q0 at c4⊢;generalize pw two r*y=z at c2 c4;generalize pw two r=z0 at c1 c2;have cC:=get_bt s;clear hst mN qM hP1 hQ1 iJ hy dN fW;go_wp2_with fail;go_at_call 110;refine(c1 _).mono ?_;rintro e w3 ⟨rfl,hb3⟩;have iA:=a0g jP hb3;have bR:=a0g iD hb3;have hb03:=hb2.trans (hb3.mono hb2.size);have hy3:w3.cell? ⟨w.heap.size,r,none⟩=some (.int .u8 (y.v:Int)):=(by rw[bR.cellAt r (by omega)];exact HY.out.2);clear jP iD hb2 hb3 aZ;go_wp2_with fail;go_at_call 111;refine(c2 _).mono ?_;rintro e w4 ⟨rfl,hb4⟩;have gZ:=a0g iA hb4;have cD:=a0g bR hb4;have hb04:=hb03.trans (hb4.mono hb03.size);have hy4:w4.cell? ⟨w.heap.size,r,none⟩=some (.int .u8 (y.v:Int)):=(by rw[cD.cellAt r (by omega)];exact HY.out.2);clear iA bR hb03 hb4 hy3;go_wp2_with fail;go_at_call 112;refine(c3 _).mono ?_;rintro e w5 ⟨rfl,hb5⟩;have sF:=a0g gZ hb5;have jU:=a0g cD hb5;have hb05:=hb04.trans (hb5.mono hb04.size);clear gZ cD hb04 hb5 hy4;go_wp2_with fail;go_at_call 112;refine(c4 _).mono ?_;rintro e w6 ⟨rfl,hb6⟩;have hlo6:=a0g sF hb6;have hda6:=a0g jU hb6;have hb06:=hb05.trans (hb6.mono hb05.size);clear sF jU hb05 hb6;go_wp2_with fail;go_roundw
    case rel=>exact⟨r+1,by omega,by go_num,by rw[fB.out.1],by rw[fB.out.2],by rw[HC.out];exact hlo6,hda6,hb06⟩
    case measure=>simp[intOf];omega
  ·have fN:k=r:=(by omega);subst fN;rw[show a0l k (upto k (bD U Y c))=a0l k (bD U Y c)from a5e λi hi=>qp hi]at fW;have hn2:cnt V k<=2:=(by rw[<-H2.out];exact cnt_mono V (by omega));have kk:(k:Int)<(k:Int)+2:=(by omega);have kk1:(k:Int)+1<(k:Int)+2:=(by omega);have q3:IntKind.i64.wrap ((k:Int)+1)=(k:Int)+1:=(by rw[IntKind.wrap_i64];omega);have q4:((k:Int)+1).toNat=k+1:=(by omega);have q5:(0:Int)<=(k:Int)+1:=(by omega);have q6:¬((k:Int)+1<0):=(by omega);obtain⟨n,hn⟩:∃n,cnt V k=n:=⟨_,rfl⟩;have HN:Hid (cnt V k=n):=hn;rw[hn]at dN hn2;obtain⟨al,cal,rfl,-,hlv⟩:=a0v dN _ (λi hi=>a3v _ _ i hi);have n9:(n:Int)<=2:=(by omega);obtain⟨P0,hP0⟩:∃z,S k (bD U Y c)=z:=⟨_,rfl⟩;obtain⟨Q0,hQ0⟩:∃z,S k (λj=>pw two j*bD U Y c j)=z:=⟨_,rfl⟩;have fB:Hid (S k (bD U Y c)=P0/\S k (λj=>pw two j*bD U Y c j)=Q0):=⟨hP0,hQ0⟩;rw[hP0,hQ0];clear hn hP0 hQ0;by_cases hn0:n=0
   ·subst hn0;go_wp2_with fail;go_ret;exact⟨aZ,rfl,bD U Y c,fW,e0q HV.out H2.out HN.out⟩
   ·have t0:((n:Int)==0)=false:=(by simp;omega);obtain⟨b1,o1,rfl,u0⟩:=HU.out wr aZ k (by omega);obtain⟨b2,o2,eb,-⟩:=HU.out wr aZ (k+1) (by omega)
    cases eb
    have mR:Hid (∀x,Below wr.heap.size wr x->x.cell? ⟨b1,o1+k,none⟩=some (.bool (U k))/\x.cell? ⟨b1,o1+(k+1),none⟩=some (.bool (U (k+1)))):=λx hx=>by
     have hb:=aZ.trans (hx.mono aZ.size);obtain⟨b3,o3,e3,f3⟩:=HU.out x hb k (by omega)
     cases e3
     obtain⟨b4,o4,e4,f4⟩:=HU.out x hb (k+1) (by omega)
     cases e4
     exact⟨f3,f4⟩
    have hx0:=a3l V (show 0<cnt V k by rw[HN.out];omega);obtain⟨x,hx⟩:∃x,kidx V k 0=x:=⟨_,rfl⟩;rw[hx]at hx0;rcases dN.2 with⟨-,h1⟩|⟨gl,cap',cur,egl,-⟩
    ·omega
    cases egl
    have HL0:Hid (∀z,Below wr.heap.size wr z->z.cell? ⟨gl,0,none⟩=some (.int .i64 (x:Int))/\(n=2->z.cell? ⟨gl,1,none⟩=some (.int .i64 (kidx V k 1:Int)))):=λz hz=>by
     have h:=a0g dN hz;refine⟨?_,λh2=>?_⟩
     ·rw[h.cellAt 0 (by omega),<-hx];exact a3v _ _ 0 (by omega)
     ·rw[h.cellAt 1 (by omega)];exact a3v _ _ 1 (by omega)
    by_cases hn1:n=2
    ·subst hn1;have hy0:=a3l V (show 1<cnt V k by rw[HN.out];omega);obtain⟨y,hy⟩:∃y,kidx V k 1=y:=⟨_,rfl⟩;rw[hy]at hy0 HL0;have mW:x<y:=by
      rcases Nat.lt_or_ge x y with h|h
      ·exact h
      ·have:=cnt_mono V h;omega
     obtain⟨uk,uk1,aG⟩:=e6d k8 HV.out H2.out HN.out mW hy0.1 hx0.2.1 hy0.2.1 (P0+Y k c) (Q0+Y (k+1) c) (by rw[fB.out.1]) (by rw[fB.out.2]);have iR:=mR.out wr (qw _ _);rw[uk,uk1]at mR iR;clear u0;have u0:=iR.1;obtain⟨s,hs1,hs2,e2,e3⟩:=HT.out wr aZ k (by omega) uk;have HS1:Hid (∀z,Below wr.heap.size wr z->∃s:BA,c<s.size/\s.size<=9223372036854775807/\z.cell? ⟨bl,ol+(k+1),none⟩=some (.string s)/\bt s c=((Y (k+1) c).v:Int)):=λz hz=>HT.out z (aZ.trans (hz.mono aZ.size)) (k+1) (by omega) uk1;have c1:=λx=>a3j P0 (Y k c) x;have c2:=λx=>a3j Q0 (Y (k+1) c) x;have c3:=λz=>c8h x y (P0+Y k c) (Q0+Y (k+1) c) z mW (by omega);have dY:Hid (b1x k U Y c (λj=>if j=y then twoV x y (P0+Y k c) (Q0+Y (k+1) c)else if j=x then twoU x y (P0+Y k c) (Q0+Y (k+1) c)else bD U Y c j)):=aG;generalize twoV x y (P0+Y k c) (Q0+Y (k+1) c)=vv at c3 dY;generalize twoU x y (P0+Y k c) (Q0+Y (k+1) c)=uu at c3 dY;generalize P0+Y k c=P1 at c1 c3;generalize Q0+Y (k+1) c=Q1 at c2 c3;generalize Y k c=y0 at e3 c1;generalize Y (k+1) c=y1 at HS1 c2;have cC:=get_bt s;have hxk:(x:Int)<(k:Int):=(by omega);have oN:(y:Int)<(k:Int):=(by omega);clear aG iR;go_wp2_with fail;go_at_call 112;refine(c1 _).mono ?_;rintro e w1 ⟨rfl,hb1⟩;obtain⟨s',hs1',hs2',e2',e3'⟩:=HS1.out w1 hb1;have u1:=(mR.out w1 hb1).2;have hbs':=get_bt s';clear e2 e3 u0 cC;go_wp2_with fail;go_at_call 112;refine(c2 _).mono ?_;rintro e w2 ⟨rfl,hb2⟩;have hb02:=hb1.trans (hb2.mono hb1.size);obtain⟨l0,l1'⟩:=HL0.out w2 hb02;have l1:=l1' (by trivial);have HL:Hid (∀z,Below w2.heap.size w2 z->z.cell? ⟨gl,0,none⟩=some (.int .i64 (x:Int))/\z.cell? ⟨gl,1,none⟩=some (.int .i64 (y:Int))):=λz hz=>
      ⟨(hz.cell (p:=⟨gl,0,none⟩) (a0p l0)).trans l0,(hz.cell (p:=⟨gl,1,none⟩) (a0p l1)).trans l1⟩
     have hd:Below w2.heap.size w2 w2.drew:=(qw _ _).drew;clear e2' e3' u1 hbs' l0 l1 l1';go_wp2_with fail
     go_region_held3 (λz=>z.cell? ⟨gl,0,none⟩=some (.int .i64 (x:Int))/\z.cell? ⟨gl,1,none⟩=some (.int .i64 (y:Int))) (first|exact HL.out _ hd|exact HL.out _ (by assumption)) (first|(go_at_call 143;refine(c3 _).mono ?_;rintro e w3 ⟨hb3,rfl⟩;have hx3:Below w2.heap.size w2 w3:=hd.trans hb3))
     have hb03:=hb02.trans (hx3.mono hb02.size);obtain⟨l0,l1⟩:=HL.out w3 hx3;have bR:=a0g fW hb03;have iA:=a0g dN hb03;obtain⟨v0,hc3⟩:∃v0,w3.cell? ⟨w.heap.size,x,none⟩=some v0:=⟨_,by rw[bR.cellAt x (by omega)];exact a1b _ _ x hx0.1⟩;have hf3:=bR.frozenAt x;have hst:=bR.stored x (a1w uu);have gZ:=iA.kept hst.2 (a1r bR iA (by decide));have cD:=hst.1;rw[a5q _ _ x uu hx0.1]at cD;have HB:Hid (a1w uu=.int .u8 (uu.v:Int)/\a1w vv=.int .u8 (vv.v:Int)):=⟨rfl,rfl⟩;rw[HB.out.1]at gZ cD;have l4:(w3.setCell ⟨w.heap.size,x,none⟩ (.int .u8 (uu.v:Int))).cell? ⟨gl,1,none⟩=some (.int .i64 (y:Int)):=by
      rw[gZ.cellAt 1 (by omega),<-hy];exact a3v _ _ 1 (by omega)
     obtain⟨v1,hc4⟩:∃v1,(w3.setCell ⟨w.heap.size,x,none⟩ (.int .u8 (uu.v:Int))).cell? ⟨w.heap.size,y,none⟩=some v1:=⟨_,by rw[cD.cellAt y (by omega)];exact a1b _ _ y hy0.1⟩;have hf4:=cD.frozenAt y;have rC:=(cD.stored y (a1w vv)).1;rw[a5q _ _ y vv hy0.1,HB.out.2]at rC;have hb04:Below w.heap.size w ((w3.setCell ⟨w.heap.size,x,none⟩ (.int .u8 (uu.v:Int))).setCell ⟨w.heap.size,y,none⟩ (.int .u8 (vv.v:Int))):=((aZ.trans (hb03.mono aZ.size)).setCell (p:=⟨w.heap.size,x,none⟩) (ql _) _).setCell (p:=⟨w.heap.size,y,none⟩) (ql _) _;clear hst iA bR gZ cD dN fW hlv aZ hb03 hx3 hb3;go_wp2_with fail;go_ret;exact⟨hb04,rfl,_,rC,dY.out⟩
    ·obtain rfl:n=1:=(by omega);have hxk:(x:Int)<(k:Int):=(by omega);clear hlv
     cases pV:U k with
     |true=>
      obtain⟨uk1,aG⟩:=e0p HV.out H2.out HN.out hx0.1 hx0.2.1 pV (Y:=Y) (c:=c);rw[fB.out.1]at aG;have iR:=mR.out wr (qw _ _);rw[pV,uk1]at mR iR;clear u0;have u0:=iR.1;obtain⟨s,hs1,hs2,e2,e3⟩:=HT.out wr aZ k (by omega) pV;have c1:=λx=>a3j P0 (Y k c) x;have dY:Hid (b1x k U Y c (λj=>if j=x then P0+Y k c else bD U Y c j)):=aG;obtain⟨P1,hP1⟩:∃z,P0+Y k c=z:=⟨_,rfl⟩;rw[hP1]at dY c1;generalize Y k c=y0 at e3 c1 hP1;have cC:=get_bt s;clear aG iR pV hP1;go_wp2_with fail;go_at_call 112;refine(c1 _).mono ?_;rintro e w1 ⟨rfl,hb1⟩;obtain⟨u1,u2⟩:=mR.out w1 hb1;have l0:=(HL0.out w1 hb1).1;have bR:=a0g fW hb1;obtain⟨v0,hc3⟩:∃v0,w1.cell? ⟨w.heap.size,x,none⟩=some v0:=⟨_,by rw[bR.cellAt x (by omega)];exact a1b _ _ x hx0.1⟩;have hf3:=bR.frozenAt x;have cD:=(bR.stored x (a1w P1)).1;have HB:Hid (a1w P1=.int .u8 (P1.v:Int)):=rfl;rw[a5q _ _ x P1 hx0.1,HB.out]at cD;have hb04:Below w.heap.size w (w1.setCell ⟨w.heap.size,x,none⟩ (.int .u8 (P1.v:Int))):=(aZ.trans (hb1.mono aZ.size)).setCell (p:=⟨w.heap.size,x,none⟩) (ql _) _;clear e2 e3 u0 cC bR dN fW aZ;go_wp2_with fail;go_ret;exact⟨hb04,rfl,_,cD,dY.out⟩
     |false=>
      obtain⟨uk1,aG⟩:=e0o HV.out H2.out HN.out hx0.1 hx0.2.1 pV (Y:=Y) (c:=c);rw[fB.out.2]at aG;have iR:=mR.out wr (qw _ _);rw[pV,uk1]at mR iR;clear u0;have u0:=iR.1;have u1:=iR.2;obtain⟨s,hs1,hs2,e2,e3⟩:=HT.out wr aZ (k+1) (by omega) uk1;have c1:=λx=>a3j Q0 (Y (k+1) c) x;have c2:=λz=>a5k x (by omega) z;have c3:=λz=>c5f (pw two x) (e4l x) z;have c4:=λz=>a9d (pw two x).inv (Q0+Y (k+1) c) z;have dY:Hid (b1x k U Y c (λj=>if j=x then(pw two x).inv*(Q0+Y (k+1) c)else bD U Y c j)):=aG;generalize(pw two x).inv*(Q0+Y (k+1) c)=R at c4 dY;generalize(pw two x).inv=i1 at c3 c4;generalize pw two x=i2 at c2 c3;generalize Q0+Y (k+1) c=Q1 at c1 c4;generalize Y (k+1) c=y0 at e3 c1;have cC:=get_bt s;clear aG iR pV;go_wp2_with fail;go_at_call 112;refine(c1 _).mono ?_;rintro e w1 ⟨rfl,hb1⟩;obtain⟨u1',-⟩:=mR.out w1 hb1;have l0:=(HL0.out w1 hb1).1;clear e2 e3 u0 u1 cC;go_wp2_with fail;go_at_call 110;refine(c2 _).mono ?_;rintro e w2 ⟨rfl,hb2⟩;have hb02:=hb1.trans (hb2.mono hb1.size);clear u1' l0;go_wp2_with fail;go_at_call 144;refine(c3 _).mono ?_;rintro e w3 ⟨rfl,hb3⟩;have hb03:=hb02.trans (hb3.mono hb02.size);have bR:=a0g fW hb03;have l0:=(HL0.out w3 hb03).1;obtain⟨v0,hc3⟩:∃v0,w3.cell? ⟨w.heap.size,x,none⟩=some v0:=⟨_,by rw[bR.cellAt x (by omega)];exact a1b _ _ x hx0.1⟩;have HZ:Hid (∀z,Below w3.heap.size w3 z->z.cell? ⟨gl,0,none⟩=some (.int .i64 (x:Int))/\z.cell? ⟨w.heap.size,x,none⟩=some v0/\z.frozen? ⟨w.heap.size,x,none⟩=false):=λz hz=>
       ⟨(hz.cell (p:=⟨gl,0,none⟩) (a0p l0)).trans l0,(hz.cell (p:=⟨w.heap.size,x,none⟩) (a0p hc3)).trans hc3,(a0g bR hz).frozenAt x⟩
      have hd:Below w3.heap.size w3 w3.drew:=(qw _ _).drew;clear l0 hc3 hb1 hb2 hb3;go_wp2_with fail;have y6:gl≠w.heap.size:=λe=>by
       rcases a1r fW dN (by decide)with h|h
       ·cases h
       ·exact h (by simp[Value.ownBlock,e])
      have qT:∀(z:World) (u:Value),(z.setCell ⟨w.heap.size,x,none⟩ u).cell? ⟨gl,0,none⟩=z.cell? ⟨gl,0,none⟩:=λz u=>World.cell?_setCell_other (w:=z) (a:=⟨w.heap.size,x,none⟩) (b:=⟨gl,0,none⟩) (v:=u) (λe=>by injection e with e1;exact y6 e1.symm)
      go_region_held3 (λz=>z.cell? ⟨gl,0,none⟩=some (.int .i64 (x:Int))) (first|exact(HZ.out _ hd).1|exact(HZ.out _ (by assumption)).1|exact hk4) (first|(go_at_call 111;refine(c4 _).mono ?_;rintro e w4 ⟨rfl,hb4⟩;have hx4:Below w3.heap.size w3 w4:=hd.trans hb4;have hc4:=(HZ.out w4 hx4).2.1;have hf4:=(HZ.out w4 hx4).2.2;have hk4:(w4.setCell ⟨w.heap.size,x,none⟩ (.int .u8 (R.v:Int))).cell? ⟨gl,0,none⟩=some (.int .i64 (x:Int)):=(qT w4 _).trans (HZ.out w4 hx4).1))
      have cD:=a0g bR hx4;have jU:=(cD.stored x (a1w R)).1;have HB:Hid (a1w R=.int .u8 (R.v:Int)):=rfl;rw[a5q _ _ x R hx0.1,HB.out]at jU;have hb05:Below w.heap.size w (w4.setCell ⟨w.heap.size,x,none⟩ (.int .u8 (R.v:Int))):=(aZ.trans ((hb03.trans (hx4.mono hb03.size)).mono aZ.size)).setCell (p:=⟨w.heap.size,x,none⟩) (ql _) _;clear bR cD dN fW aZ;go_wp2_with fail;go_ret;exact⟨hb05,rfl,_,jU,dY.out⟩
theorem b8p (k:Nat)(R:Nat->Value)(i:Nat)(v:Value)(h:i<k):(a4b k R).set i v=a4b k (λj=>if j=i then v else R j):=by
 apply List.ext_getElem
 ·simp[a4b]
 ·intro j h1 h2;rw[List.getElem_set];by_cases e:i=j
  ·subst e;simp[a4b]
  ·have e':¬j=i:=λh=>e h.symm;simp[a4b,e,e']
def RowsG (w:World)(B gt k:Nat)(R:Nat->Value)(L:Nat->Nat)(X:Mx):Prop:=
 w.ownsRow B 22 1 (.slice (some ⟨gt,0,none⟩) k k) k (a4b k R)/\(∀r,r<k->w.ownsRow B 5 1 (R r) (L r) (a0l (L r) (X r)))/\∀i j,i<k->j<k->i≠j->Apart (R i) (R j)
theorem RowsG.below {w w':World}{B gt k:Nat}{R:Nat->Value}{L:Nat->Nat}{X:Mx}(h:RowsG w B gt k R L X)(hb:Below w.heap.size w w'):RowsG w' B gt k R L X:=
 ⟨a0g h.1 hb,λr hr=>a0g (h.2.1 r hr) hb,h.2.2⟩
theorem RowsG.congr {w:World}{B gt k:Nat}{R:Nat->Value}{L L':Nat->Nat}{X X':Mx}(h:RowsG w B gt k R L X)(hL:∀r,r<k->L r=L' r)(hX:∀r,r<k->∀c,c<L r->X r c=X' r c):RowsG w B gt k R L' X':=
 ⟨h.1,λr hr=>by rw[<-hL r hr,<-a5e (hX r hr)];exact h.2.1 r hr,h.2.2⟩
theorem RowsG.push {w:World}{B gt k:Nat}{R:Nat->Value}{L:Nat->Nat}{X:Mx}(h:RowsG w B gt k R L X)(hB:B<=w.heap.size)(i:Nat)(hi:i<k)(hL:L i<=1000000)(x:E)(hx:x=X i (L i)):
 ∃v' w',(∀ty,(Builtin.append_ #[22,22] ty #[R i,.slice (some ⟨w.heap.size,0,none⟩) 1 1]).run prog (w.alloc (.cells #[.int .u8 (x.v:Int)] 5 (0,0))).drew=.ok v' w')/\
  w'.cell? ⟨gt,i,none⟩=some (R i)/\w'.frozen? ⟨gt,i,none⟩=false/\(∃m c a,v'=.slice a m c)/\
  RowsG (w'.setCell ⟨gt,i,none⟩ v') B gt k (λr=>if r=i then v' else R r) (λr=>if r=i then L i+1 else L r) X/\Below B w (w'.setCell ⟨gt,i,none⟩ v')/\
  ∀B' u n xs,w.ownsRow B' 5 1 u n xs->Apart (R i) u->(w'.setCell ⟨gt,i,none⟩ v').ownsRow B' 5 1 u n xs:=by
 obtain⟨i0,hi0,hz0,hz1,hz2⟩:=info_parts info5;obtain⟨cZ,cF,bG⟩:=h;have hb0:Below w.heap.size w (w.alloc (.cells #[.int .u8 (x.v:Int)] 5 (0,0))).drew:=((qw _ _).alloc (ql _) _).drew;have hri:=a0g (cF i hi) hb0;have key:∀ty,∃v' w',(Builtin.append_ #[22,22] ty #[R i,.slice (some ⟨w.heap.size,0,none⟩) 1 1]).run prog (w.alloc (.cells #[.int .u8 (x.v:Int)] 5 (0,0))).drew=.ok v' w'/\w'.ownsRow B 5 1 v' (L i+1) (a0l (L i) (X i)++[a1w x])/\
  (w.alloc (.cells #[.int .u8 (x.v:Int)] 5 (0,0))).drew.grownBy w' (R i).ownBlock/\(v'.ownBlock=(R i).ownBlock\/v'.ownBlock=some (w.alloc (.cells #[.int .u8 (x.v:Int)] 5 (0,0))).drew.heap.size):=λty=>by
  obtain⟨v',w',e1,e2,e3,-,e5⟩:=run_append_own_at (P:=prog) (w.alloc (.cells #[.int .u8 (x.v:Int)] 5 (0,0))).drew B 22 ty 5 i0 (.int .u8 0) 1 1 underlying22 hi0 hz0 hz1 hz2 rfl (by decide) (R i) (L i) _ hri ⟨w.heap.size,0,none⟩ 1 1 [a1w x] rfl (by
   intro j u hu
   match j,hu with
   |0,hu=>simp at hu;subst hu;show(w.alloc (.cells #[a1w x] 5 (0,0))).drew.cell? ((⟨w.heap.size,0,none⟩:Addr).add 0)=_;simp[Addr.add]) (by intro u hu;simp at hu;subst hu;rfl) (by unfold maxLen;omega) (by omega) (Nat.le_trans hB hb0.size)
  exact⟨v',w',e1,e2,e3,e5⟩
 obtain⟨v',w',e1,e2,e3,e5⟩:=key 22;have nA:=a0g cZ hb0;have gJ:=nA.kept e3 (a1r hri nA (by decide));have hst:=gJ.stored i v';have mC:=hb0.size;have mM:∀B' u n xs,w.ownsRow B' 5 1 u n xs->Apart (R i) u->w'.ownsRow B' 5 1 u n xs/\Apart v' u:=λB' u n xs hu ha=>by
  refine⟨(a0g hu hb0).kept e3 ?_,?_⟩
  ·rcases ha.symm with h|h
   ·exact .inl h
   ·exact .inr h
  ·rcases e5 with e5|e5
   ·unfold Apart;rw[e5];exact ha
   ·refine .inr λe=>?_;rw[e5]at e;have:=(hu.lt _ e.symm).2;omega
 have aJ:∀B' u n xs,w'.ownsRow B' 5 1 u n xs->(w'.setCell ⟨gt,i,none⟩ v').ownsRow B' 5 1 u n xs:=λB' u n xs hu=>hu.kept hst.2 (a1r gJ hu (by decide));refine⟨v',w',λty=>e1,?_,gJ.frozenAt i,?_,⟨?_,λr hr=>?_,λa b ha hb iU=>?_⟩,?_,λB' u n xs hu ha=>aJ B' u n xs (mM B' u n xs hu ha).1⟩
 ·rw[gJ.cellAt i (by omega)];exact a3v _ _ i hi
 ·rcases e2.2 with⟨h0,h1⟩|⟨g,cap,cur,e,-⟩
  ·omega
  ·exact⟨_,_,_,e⟩
 ·have:=hst.1;rw[b8p _ _ i _ hi]at this;exact this
 ·by_cases e:r=i
  ·subst e;simp only[qp];have e2':w'.ownsRow B 5 1 v' (L r+1) (a0l (L r+1) (X r)):=(by rw[b4i,<-hx];exact e2);exact aJ _ _ _ _ e2'
  ·simp only[qn e];exact aJ _ _ _ _ (mM _ _ _ _ (cF r hr) (bG i r hi hr (λh=>e h.symm))).1
 ·by_cases e:a=i
  ·subst e;have e':¬b=a:=λh=>iU h.symm;simp only[qp,qn e'];exact(mM _ _ _ _ (cF b hb) (bG a b ha hb iU)).2
  ·by_cases e':b=i
   ·subst e';simp only[qp,qn e];exact(mM _ _ _ _ (cF a ha) (bG b a hb ha (λh=>iU h.symm))).2.symm
   ·simp only[qn e,qn e'];exact bG a b ha hb iU
 ·have h1:Below B w w':=(hb0.mono hB).grown e3 (Nat.le_trans hB hb0.size) (λg hg=>((cF i hi).lt g hg).1);exact h1.setCell (p:=⟨gt,i,none⟩) (cZ.lt gt rfl).1 _
theorem info4:(prog.info? 4).map (λi=>(i.zero,i.size,i.bytes))=some (some (.bool false),1,1):=by kernel_rfl
def a3o (T:Nat->Bool)(k i j:Nat):Bool:=decide (j<i)&&used T k j
theorem c1v {T:Nat->Bool}{k i:Nat}(hT:T i=true):(λj=>if j=i then decide (cnt T i<k)else a3o T k i j)=a3o T k (i+1):=by
 funext j;by_cases h:j=i
 ·subst h;simp[a3o,used,hT]
 ·simp only[qn h,a3o];by_cases e:j<i
  ·simp[e,show j<i+1 by omega]
  ·simp[e,show ¬j<i+1 by omega]
theorem c1u {T:Nat->Bool}{k i:Nat}(hT:T i=false):a3o T k (i+1)=a3o T k i:=by
 funext j;by_cases h:j=i
 ·subst h;simp[a3o,used,hT]
 ·simp only[a3o];by_cases e:j<i
  ·simp[e,show j<i+1 by omega]
  ·simp[e,show ¬j<i+1 by omega]
section
variable {ops:Array Oper}{rest:List Oper}{o:Oper}{a:Act}{Q:Exit->Act->World->Prop}
theorem a9h (y5:o.guard=none)(s x:Operand)(ho:o.op=.call {callee:=.builtin .append,args:=#[s,x],argTypes:=#[23,23]})
 (w0:World)(base:Nat)(v:Value)(k:Nat)(f:Nat->BA)(hA:w0.ownsRow base 9 1 v k (a4c k f))(hs:a.eval s=v)(b:Value)(mJ:b=.string (f k))
 (sz:Nat)(hx:a.eval x=.slice (some ⟨sz,0,none⟩) 1 1)(aA:sz=w0.heap.size)(hk:k<1000000000)(aC:base<=w0.heap.size)
 (h:∀v' w',w'.ownsRow base 9 1 v' (k+1) (a4c (k+1) f)->(∀u e n xs,e≠9->w0.ownsRow base e 1 u n xs->w'.ownsRow base e 1 u n xs)->Below base w0 w'->wpList prog ops Q rest (a.put o.dst v') w'):
 wpList prog ops Q (o::rest) a (w0.alloc (.cells #[b] 9 (0,0))):=by
 subst aA;subst mJ;obtain⟨i0,hi,hz0,hz1,hz2⟩:=info_parts minfo9;refine wpList_append_own _ y5 s x 23 ho base 9 i0 (.string ⟨#[]⟩) 1 16 underlying23 hi hz0 hz1 hz2 rfl (by decide) v k _ hs (hA.alloc _) ⟨w0.heap.size,0,none⟩ 1 1 [.string (f k)] hx rfl ?_ ?_ ?_ ?_ ?_ ?_
 ·intro j u hu
  match j,hu with
  |0,hu=>simp at hu;subst hu;simp[Addr.add]
 ·intro u hu;simp at hu;subst hu;rfl
 ·unfold maxLen;omega
 ·omega
 ·simp;omega
 ·intro v' w' q8 q9 _;have hb0:Below w0.heap.size w0 (w0.alloc (.cells #[.string (f k)] 9 (0,0))):=(qw _ _).alloc (ql _) _;refine h v' w' (by rw[a7c];exact q8) (λu e n xs he hu=>(hu.alloc _).kept q9 (a1r hA hu (λh=>he h.symm))) ?_;exact(hb0.mono aC).grown q9 (by simp;omega) (λg hg=>(hA.lt g hg).1)
end
theorem b9h (a b:Option Addr)(k ca cb:Nat)(M:Nat->Nat)(Y:Mx)(T:Nat->Bool)(w:World)(k1:1<=k)(k8:k<=8)(hT:TxtAt w a (k+2) M Y)(hB:Vals w b (k+2) λi=>.bool (T i)):
 Calls prog 48 #[.slice a (k+2) ca,.slice b (k+2) cb] w λe w'=>Below w.heap.size w w'/\∃v er,e=.returned (.tuple #[v,.int .i64 er])/\b8h (k+2) (k+2) T M Y v er w' w.heap.size:=by
 obtain⟨i0,hi,hz0,hz1,hz2⟩:=info_parts info4;obtain⟨j0,hj,hy0,hy1,hy2⟩:=info_parts info22;obtain⟨bl,ol,rfl,gG⟩:=hT.txts (by omega);have HTX:Hid (∀x,Below w.heap.size w x->Txts x bl ol (k+2) M Y):=λx hx=>gG.below hx;have HTV:Hid (∀x,Below w.heap.size w x->∀i,i<k+2->x.cell? ⟨bl,ol+i,none⟩=some (.string (strE (M i) (Y i)))):=λx hx i hi=>by
  rcases(hT.below hx).1 with h0|⟨b',o',e,h⟩
  ·omega
  ·cases e;exact h i hi
 have HM:Hid (∀i,i<k+2->M i<=9223372036854775807):=hT.2;have HB:=hB.at;have kk:((k+2:Nat):Int)-2=(k:Int):=by omega
 have t0:¬(k:Int)<1:=by omega
 have t1:¬(8:Int)<(k:Int):=by omega
 have t2:(((k:Int)+2) !=((k:Int)+2))=false:=by simp
 have dF:=b4g T (k+2);clear hT gG hB;go_enter func48,ntmps48;go_wp2_with(at_make;refine wpList_make_full _ rfl _ _ 107 rfl w.heap.size 4 i0 (.bool false) 1 underlying107 hi hz0 hz1 _ _ _ _ (k+2) rfl rfl ?c0 ?c1 ?c2 ?c3 ?c4 ?_)
 case c2=>first|omega|(rw[hz2];omega)
 case c3=>first|omega|(unfold maxLen;omega)
 intro w1 dB dD;have hb1:Below w.heap.size w w1:=(qw _ _).grown dD (ql _) (λk h=>by cases h);have hu1:w1.ownsRow w.heap.size 4 1 (.slice (some ⟨w.heap.size,0,none⟩) (k+2) (k+2)) (k+2) (a4b (k+2) λj=>.bool (a3o T k 0 j)):=by
  rw[toList_madeCells_one]at dB;have:List.replicate (k+2) (Value.bool false)=a4b (k+2) λj=>.bool (a3o T k 0 j):=by
   apply List.ext_getElem
   ·simp[a4b]
   ·intro j h1 h2;simp[a4b,a3o]
  rw[<-this];exact dB
 clear dB dD;go_wp2_with fail;go_loopw[7,9] (λl i wr=>∃r:Nat,r<=k+2/\i=.int .i64 r/\wr.ownsRow w.heap.size 9 1 l (cnt T r) (a4c (cnt T r) λq=>strE (M (kidx T (k+2) q)) (Y (kidx T (k+2) q)))/\wr.ownsRow w.heap.size 4 1 (.slice (some ⟨w.heap.size,0,none⟩) (k+2) (k+2)) (k+2) (a4b (k+2) λj=>.bool (a3o T k r j))/\Below w.heap.size w wr) (λ_ i _=>(k+2:Nat)-(intOf i).toNat)
 case atStart=>exact⟨0,Nat.zero_le _,rfl,World.ownsRow_nil _ _ _ _,hu1,hb1⟩
 case round=>
  obtain⟨r,hr,rfl,hl,hu,aZ⟩:=hrel;clear hb1 hu1;by_cases p9:r<k+2
  ·obtain⟨b1,o1,rfl,e1⟩:=HB.out wr aZ r p9;have rk:(r:Int)<(k:Int)+2:=(by omega);have aL:=b4g T r
   cases mO:T r with
   |true=>
    rw[mO]at e1;have e2:=HTV.out wr aZ r p9;obtain⟨v0,x5⟩:∃v0,wr.cell? ⟨w.heap.size,r,none⟩=some v0:=⟨_,by rw[hu.cellAt r (by omega)];exact a3v _ _ r p9⟩;have eC:=hu.frozenAt r;obtain⟨n,hn⟩:∃n,cnt T r=n:=⟨_,rfl⟩;have hst:=hu.stored r (.bool (decide (n<k)));have hl2:=hl.kept hst.2 (a1r hu hl (by decide));have hu2:=hst.1;rw[b8p _ _ r _ p9,show(λj=>if j=r then Value.bool (decide (n<k))else .bool (a3o T k r j))=λj=>.bool (a3o T k (r+1) j)from by
     rw[<-c1v mO,hn];funext j;by_cases h:j=r<;>simp[h]]at hu2
    have HC:Hid (cnt T (r+1)=n+1):=(by show _=_;rw[a4m mO,hn]);have HV:Hid (Value.string (strE (M r) (Y r))=.string (strE (M (kidx T (k+2) n)) (Y (kidx T (k+2) n)))):=by
     show _=_;rw[<-hn,a5b T p9 mO]
    have hb2:Below w.heap.size w (wr.setCell ⟨w.heap.size,r,none⟩ (.bool (decide (n<k)))):=aZ.setCell (p:=⟨w.heap.size,r,none⟩) (ql _) _;have e2':(wr.setCell ⟨w.heap.size,r,none⟩ (.bool (decide (n<k)))).cell? ⟨bl,ol+r,none⟩=some (.string (strE (M r) (Y r))):=HTV.out _ hb2 r p9;rw[hn]at hl hl2 aL;obtain⟨al,cal,rfl,-,-⟩:=a0v hl _ (λi hi=>a5s _ _ i hi);generalize strE (M r) (Y r)=s at HV e2 e2';clear hst hl hu mO hn;go_wp2_with(at_builtin;refine a9h rfl _ _ rfl _ w.heap.size _ n (λq=>strE (M (kidx T (k+2) q)) (Y (kidx T (k+2) q))) hl2 rfl _ HV.out _ rfl (by simp) (by omega) hb2.size ?_);intro v' w2 hl3 aJ hb3;have hu3:=aJ _ _ _ _ (by decide) hu2;clear aJ;go_wp2_with fail;go_roundw
    case rel=>exact⟨r+1,by omega,by go_num,by rw[HC.out];exact hl3,hu3,hb2.trans hb3⟩
    case measure=>simp[intOf];omega
   |false=>
    rw[mO]at e1;have HC:Hid (cnt T (r+1)=cnt T r/\a3o T k (r+1)=a3o T k r):=⟨a3z mO,c1u mO⟩;clear mO;go_wp2_with fail;go_roundw
    case rel=>exact⟨r+1,by omega,by go_num,by rw[HC.out.1];exact hl,by rw[HC.out.2];exact hu,aZ⟩
    case measure=>simp[intOf];omega
  ·have fN:r=k+2:=(by omega);subst fN;have hus:(a4b (k+2) λj=>Value.bool (a3o T k (k+2) j))=a4b (k+2) λj=>.bool (used T k j):=List.map_congr_left λj hj=>by
    have:=List.mem_range.1 hj;simp[a3o,this]
   rw[hus]at hu;obtain⟨q,hq⟩:∃q,cnt T (k+2)=q:=⟨_,rfl⟩;have HQ:Hid (cnt T (k+2)=q):=hq;have HN:Hid (3<=k+2/\k+2<=10):=⟨by omega,by omega⟩;rw[hq]at hl dF;clear hus hq;by_cases sE:q<k
   ·obtain⟨al,cal,rfl,-,-⟩:=a0v hl _ (λi hi=>a5s _ _ i hi);have hl':(q:Int)<(k:Int):=(by omega);clear hl hu;go_wp2_with fail;go_ret2;exact⟨aZ,_,_,rfl,.inr (.inl ⟨⟨HN.out.1,HN.out.2,rfl⟩,by rw[HQ.out];omega,rfl,rfl⟩)⟩
   ·rcases hl.2 with⟨-,h1⟩|⟨gl,cal,cur,egl,-⟩
    ·omega
    subst egl;have hl':¬(q:Int)<(k:Int):=(by omega);have hTl:TxtAt wr (some ⟨gl,0,none⟩) q (λr=>M (kidx T (k+2) r)) (λr=>Y (kidx T (k+2) r)):=by
     refine⟨.inr ⟨gl,0,rfl,λi hi=>?_⟩,λc hc=>HM.out _ (a3l T (by rw[HQ.out];exact hc)).1⟩;rw[Nat.zero_add,hl.cellAt i (by omega)];exact a5s _ _ i hi
    have jB:=b1j (some ⟨gl,0,none⟩) q cal _ _ wr (by omega) (by unfold maxLen;omega) hTl;obtain⟨er,cI⟩:∃er,meaE q (λr=>M (kidx T (k+2) r))=er:=⟨_,rfl⟩;have mS:Hid (meaE q (λr=>M (kidx T (k+2) r))=er):=cI;rw[cI]at jB;clear hTl cI;by_cases h0:er=0
    ·subst h0;obtain⟨aR,h5⟩:=a9p.1 mS.out;obtain⟨m,hm⟩:∃m,M (kidx T (k+2) 0)=m:=⟨_,rfl⟩;have HM0:Hid (M (kidx T (k+2) 0)=m):=hm;have hm5:m<=65536:=(by have:M (kidx T (k+2) 0)<=65536:=h5;omega);have HMU:Hid (∀i,i<k+2->used T k i=true->M i=m):=λi hi hu=>by
      have hu':T i=true/\cnt T i<k:=(by simpa[used]using hu);have:=aR (cnt T i) (by omega);rw[a5b T hi hu'.1,hm]at this;exact this
     have HL2:Hid (cnt (λi=>!used T k i) (k+2)=2):=c5u (by rw[HQ.out];omega);clear aR h5 hm;go_wp2_with fail;go_at_call 66;refine jB.mono ?_;rintro e w2 ⟨hb2,rfl⟩;have hl2:=a0g hl hb2;have hu2:=a0g hu hb2;have hb02:=aZ.trans (hb2.mono aZ.size);clear jB hl hu aZ hb2;go_wp2_with(at_make;refine wpList_make_full _ rfl _ _ 133 rfl w2.heap.size 22 j0 (.slice none 0 0) 1 underlying133 hj hy0 hy1 _ _ _ _ k rfl rfl ?d0 ?d1 ?d2 ?d3 ?d4 ?_)
     case d0=>first|rfl|omega
     case d1=>first|rfl|omega
     case d2=>first|omega|(rw[hy2];omega)
     case d3=>first|omega|(unfold maxLen;omega)
     case d4=>exact ql _
     intro w3 aU jS;have hb3:Below w2.heap.size w2 w3:=(qw _ _).grown jS (ql _) (λk h=>by cases h);have hG3:RowsG w3 w2.heap.size w2.heap.size k (λ_=>.slice none 0 0) (λ_=>0) (λ_ _=>0):=by
      refine⟨?_,λr hr=>World.ownsRow_nil _ _ _ _,λi j _ _ _=>c1b _⟩;rw[toList_madeCells_one]at aU;have:List.replicate k (Value.slice none 0 0)=a4b k λ_=>.slice none 0 0:=by
       apply List.ext_getElem
       ·simp[a4b]
       ·intro j h1 h2;simp[a4b]
      rw[<-this];exact aU
     have HL0:Hid (∀z,Below w2.heap.size w2 z->∃s:BA,s.size=m/\z.cell? ⟨gl,0,none⟩=some (.string s)):=λz hz=>by
      have h:=a0g hl2 hz;exact⟨strE (M (kidx T (k+2) 0)) (Y (kidx T (k+2) 0)),by rw[a0j,HM0.out],by rw[h.cellAt 0 (by omega)];exact a5s _ _ 0 (by omega)⟩
     have HU2:Hid (∀z,Below w2.heap.size w2 z->Vals z (some ⟨w.heap.size,0,none⟩) (k+2) λi=>.bool (used T k i)):=λz hz=>by
      obtain⟨x4,y4,e4,-,hv⟩:=a0v (a0g hu2 hz) _ (λi hi=>a3v _ _ i hi)
      cases e4;exact hv
     have hq0:(0:Int)<(q:Int):=(by omega);clear aU jS hl2 hu2;go_wp2_with fail;go_loopw[12] (λi wr=>∃(c:Nat) (R:Nat->Value) (D:Mx),c<=m/\i=.int .i64 c/\RowsG wr w2.heap.size w2.heap.size k R (λ_=>c) D/\(∀c',c'<c->b1x k (used T k) Y c' (λj=>D j c'))/\Below w2.heap.size w2 wr) (λi _=>(m:Nat)-(intOf i).toNat)
     case atStart=>exact⟨0,_,_,Nat.zero_le _,rfl,hG3,λc' hc'=>by omega,hb3⟩
     case round=>
      clear hb3 hG3;obtain⟨c,R,D,hc,rfl,hG,fY,bW⟩:=hrel;have uO:Hid (∀c',c'<c->b1x k (used T k) Y c' (λj=>D j c')):=fY;have hb0c:=hb02.trans (bW.mono hb02.size);obtain⟨s0,hs0,e0⟩:=HL0.out wr bW;clear fY;by_cases p9:c<m
      ·have rE:=λcu=>b9f bl ol (some ⟨w.heap.size,0,none⟩) k ca cu c M Y (used T k) wr k1 k8 (HTX.out wr hb0c) (HU2.out wr bW) (λi hi hu=>by rw[HMU.out i hi hu];exact p9) (by omega) HL2.out;have cm:(c:Int)<(m:Int):=(by omega);go_wp2_with fail;go_at_call 96;refine(rE _).mono ?_;rintro e w4 ⟨hb4,rfl,d,hd4,aG⟩;obtain⟨D',hD'⟩:∃D':Mx,D'=λj c'=>if c'=c then d j else D j c':=⟨_,rfl⟩;have hG4:RowsG w4 w2.heap.size w2.heap.size k R (λr=>if r<0 then c+1 else c) D':=
        (hG.below hb4).congr (λr hr=>by rw[qn (by omega)]) (λr hr c' hc'=>by rw[hD'];exact(qn (by omega)).symm)
       have kD:∀r,0<=r->r<k->Apart (R r) (.slice (some ⟨wr.heap.size,0,none⟩) k k):=λr _ hr=>.inr λe=>by
        have:=((hG.2.1 r hr).lt wr.heap.size e).2;omega
       have HDD:Hid (∀j,D' j c=d j):=λj=>(by rw[hD'];exact qp rfl);have HC':Hid (∀c',c'<c+1->b1x k (used T k) Y c' (λj=>D' j c')):=λc' hc'=>by
        by_cases e:c'=c
        ·subst e;have:(λj=>D' j c')=d:=funext λj=>HDD.out j;rw[this];exact aG
        ·have:(λj=>D' j c')=λj=>D j c':=funext λj=>(by rw[hD'];exact qn e);rw[this];exact uO.out c' (by omega)
       have hb24:=bW.trans (hb4.mono bW.size);obtain⟨gd,y5⟩:∃gd,wr.heap.size=gd:=⟨_,rfl⟩;rw[y5]at hd4 kD⊢;clear rE hG aG hb4 hD' bW hb0c y5;go_wp2_with fail;go_loopw[14] (λi wi=>∃(r:Nat) (R:Nat->Value),r<=k/\i=.int .i64 r/\RowsG wi w2.heap.size w2.heap.size k R (λq=>if q<r then c+1 else c) D'/\wi.ownsRow gd 5 1 (.slice (some ⟨gd,0,none⟩) k k) k (a0l k d)/\(∀q,r<=q->q<k->Apart (R q) (.slice (some ⟨gd,0,none⟩) k k))/\Below w2.heap.size w2 wi) (λi _=>(k:Nat)-(intOf i).toNat)
       case atStart=>exact⟨0,R,Nat.zero_le _,rfl,hG4,hd4,kD,hb24⟩
       case round=>
        clear hG4 hd4 kD hb24;obtain⟨r,R,hr,rfl,hG,hd,bG,kY⟩:=hrel;by_cases lL:r<k
        ·have rk:(r:Int)<(k:Int):=(by omega);obtain⟨v',w',r6,x5,eC,⟨m',c',a',hv'⟩,hG',hb',aJ⟩:=hG.push kY.size r lL (by rw[qn (by omega)];omega) (d r) (by rw[qn (by omega)];exact(HDD.out r).symm);have hd':=aJ _ _ _ _ hd (bG r (ql _) lL);have e1:wr.cell? ⟨w2.heap.size,r,none⟩=some (R r):=(by rw[hG.1.cellAt r (by omega)];exact a3v _ _ r lL);have e2:wr.cell? ⟨gd,r,none⟩=some (.int .u8 ((d r).v:Int)):=(by rw[hd.cellAt r (by omega)];exact a1b _ _ r lL);have oH:Below wr.heap.size wr (wr.alloc (.cells #[.int .u8 ((d r).v:Int)] 5 (0,0))):=(qw _ _).alloc (ql _) _;have e3:(wr.alloc (.cells #[.int .u8 ((d r).v:Int)] 5 (0,0))).cell? ⟨w2.heap.size,r,none⟩=some (R r):=(oH.cell (p:=⟨w2.heap.size,r,none⟩) (a0p e1)).trans e1;have HG:Hid (RowsG (w'.setCell ⟨w2.heap.size,r,none⟩ v') w2.heap.size w2.heap.size k (λq=>if q=r then v' else R q) (λq=>if q<r+1 then c+1 else c) D'):=hG'.congr (λq hq=>by
          by_cases e:q=r
          ·subst e;rw[qp rfl,qn (by omega),qp (by omega)]
          ·rw[qn e];by_cases e':q<r
           ·rw[qp e',qp (by omega)]
           ·rw[qn e',qn (by omega)]) (λq hq c' hc'=>rfl)
         have fD:Hid (∀q,r+1<=q->q<k->Apart ((λq=>if q=r then v' else R q) q) (.slice (some ⟨gd,0,none⟩) k k)):=λq h1 h2=>by
          simp only[qn (show ¬q=r by omega)];exact bG q (by omega) h2
         have hb2':=kY.trans hb';obtain⟨Rr,tT⟩:∃z,R r=z:=⟨_,rfl⟩;rw[tT]at e1 e3 r6 x5;subst hv';obtain⟨x,hxd⟩:∃x,(d r).v=x:=⟨_,rfl⟩;rw[hxd]at e2 e3 r6;have eA:(wr.alloc (.cells #[.int .u8 (x:Int)] 5 (0,0))).drew.cell? ⟨gd,r,none⟩=some (.int .u8 (x:Int)):=(((qw wr.heap.size wr).alloc (ql _) (.cells #[.int .u8 (x:Int)] 5 (0,0))).cell (p:=⟨gd,r,none⟩) (a0p e2)).trans e2;have y6:gd≠w2.heap.size:=λe=>by
          rcases a1r hG.1 hd (by decide)with h|h
          ·cases h
          ·exact h (by simp[Value.ownBlock,e])
         have eF:(w'.setCell ⟨w2.heap.size,r,none⟩ (.slice a' m' c')).cell? ⟨gd,r,none⟩=some (.int .u8 (x:Int)):=by
          rw[hd'.cellAt r (by omega),<-hxd];exact a1b _ _ r lL
         have eW:w'.cell? ⟨gd,r,none⟩=some (.int .u8 (x:Int)):=by
          rw[<-eF];exact(World.cell?_setCell_other (w:=w') (a:=⟨w2.heap.size,r,none⟩) (b:=⟨gd,r,none⟩) (v:=.slice a' m' c') (λe=>by injection e with e1;exact y6 e1.symm)).symm
         clear hG hd bG aJ hG' hb' oH tT hxd;go_wp2_with fail;refine wp_region_noPanic ?_;refine wp_region_held_drew (S:=λz=>z.cell? ⟨gd,r,none⟩=some (.int .u8 (x:Int))) (by kernel_rfl) e2 (λp8=>?_);refine tkH 0 ?_;go_simp;refine tkH 1 ?_;go_simp;refine tkH 2 ?_;go_simp;refine tkH 3 ?_;go_simp;refine tkH 4 ?_;go_simp;refine tkH 6 ?_;go_simp;refine tkH 7 ?_;go_simp;refine tkH 8 ?_;go_simp;refine tkH 9 ?_;go_simp;refine wpAnyH_ready (rs:=[5,10]) (by kernel_rfl) (by simp) (AllReadyH.cons rfl (λK hK=>?_) (AllReadyH.cons rfl (λK hK=>?_) AllReadyH.nil))
         ·go_simp;refine hK.out _ _ e2 (λp8=>?_);clear hK K;refine rdH 10 λK hK=>?_;go_simp;refine hK.out _ _ eA (λp8=>?_);clear hK K;refine rdH 11 λK hK=>?_;refine a6i rfl _ _ 22 22 rfl _ _ rfl rfl _ _ r6 ?_;refine hK.out _ _ eW (λp8=>?_);clear hK K;refine tkH 12 ?_;go_simp;refine rdH 13 λK hK=>?_;go_simp;refine hK.out _ _ eF (λp8=>?_);clear hK K;refine wpAnyH_done (by kernel_rfl) ?_ _;refine NoPanic.normal ?_;go_wp2_with fail;go_roundw
          case rel=>exact⟨r+1,_,by omega,by go_num,HG.out,hd',fD.out,hb2'⟩
          case measure=>simp[intOf];omega
         ·go_simp;refine hK.out _ _ eA (λp8=>?_);clear hK K;refine rdH 5 λK hK=>?_;go_simp;refine hK.out _ _ eA (λp8=>?_);clear hK K;refine rdH 11 λK hK=>?_;refine a6i rfl _ _ 22 22 rfl _ _ rfl rfl _ _ r6 ?_;refine hK.out _ _ eW (λp8=>?_);clear hK K;refine tkH 12 ?_;go_simp;refine rdH 13 λK hK=>?_;go_simp;refine hK.out _ _ eF (λp8=>?_);clear hK K;refine wpAnyH_done (by kernel_rfl) ?_ _;refine NoPanic.normal ?_;go_wp2_with fail;go_roundw
          case rel=>exact⟨r+1,_,by omega,by go_num,HG.out,hd',fD.out,hb2'⟩
          case measure=>simp[intOf];omega
        ·have fN:r=k:=(by omega);subst fN;go_wp2_with fail;go_roundw
         case rel=>exact⟨c+1,R,D',by omega,by go_num,hG.congr (λq hq=>by rw[qp hq]) (λq hq c' hc'=>rfl),HC'.out,kY⟩
         case measure=>simp[intOf];omega
      ·have tG:m=c:=(by omega);subst tG;obtain⟨f,hf⟩:∃f:Nat->BA,f=λi=>strE m (St k D i):=⟨_,rfl⟩;have qU:Hid (∀i,i<k->f i=strE m (D i)):=λi hi=>(by rw[hf];exact a1j λc hc=>b8f hi D c);have HFT:Hid (Fits k T m Y D):=λi hi hu c' hc'=>uO.out c' hc' i hi hu;have fB:Hid (encE k (λ_=>m)=0/\encS k (λ_=>m) D 0=f k/\encS k (λ_=>m) D 1=f (k+1)):=by
        have hz:encE k (λ_=>m)=0:=a4x.2 ⟨⟨k1,k8⟩,λ_ _=>rfl,hm5⟩;refine⟨hz,?_,?_⟩
        ·rw[hf];unfold encS;rw[qp hz];exact a1j λc hc=>(a4z k 0 D c).symm
        ·rw[hf];unfold encS;rw[qp hz];exact a1j λc hc=>(a4z k 1 D c).symm
       have HF:Hid (f=λi=>strE m (St k D i)):=hf;clear hf;go_wp2_with fail;go_loopw[15,16] (λo i wo=>∃r:Nat,r<=k/\i=.int .i64 r/\wo.ownsRow w2.heap.size 9 1 o r (a4c r f)/\RowsG wo w2.heap.size w2.heap.size k R (λ_=>m) D/\Below w2.heap.size w2 wo) (λ_ i _=>(k:Nat)-(intOf i).toNat)
       case atStart=>exact⟨0,Nat.zero_le _,rfl,World.ownsRow_nil _ _ _ _,hG,bW⟩
       case round=>
        clear hG bW hb0c hs0 e0;obtain⟨r,hr,rfl,ho,hG,hbo⟩:=hrel;by_cases lL:r<k
        ·have rk:(r:Int)<(k:Int):=(by omega);obtain⟨ar,cr,tT,-,x9⟩:=a0v (hG.2.1 r lL) _ (λi hi=>a1b _ _ i hi);have e1:wr.cell? ⟨w2.heap.size,r,none⟩=some (R r):=(by rw[hG.1.cellAt r (by omega)];exact a3v _ _ r lL);rw[tT]at e1;have aK:=c4o (w:=wr) (cap:=cr) x9;have HV:Hid (Value.string (strE m (D r))=.string (f r)):=(by show _=_;rw[qU.out r lL]);generalize strE m (D r)=s at HV aK;have HG:Hid (RowsG wr w2.heap.size w2.heap.size k R (λ_=>m) D):=hG;clear hG tT x9;go_wp2_with(at_builtin;refine a9h rfl _ _ rfl _ w2.heap.size _ r f ho rfl _ HV.out _ rfl rfl (by omega) hbo.size ?_);intro v' w5 ho5 aJ hb5;have HG5:Hid (RowsG w5 w2.heap.size w2.heap.size k R (λ_=>m) D):=⟨aJ _ _ _ _ (by decide) HG.out.1,λq hq=>aJ _ _ _ _ (by decide) (HG.out.2.1 q hq),HG.out.2.2⟩;clear aJ;go_wp2_with fail;go_roundw
         case rel=>exact⟨r+1,by omega,by go_num,ho5,HG5.out,hbo.trans hb5⟩
         case measure=>simp[intOf];omega
        ·have fN:r=k:=(by omega);subst fN;have hoD:=ho;rw[b2w λi hi=>qU.out i hi]at hoD;obtain⟨ao,co,rfl,hco1,hco2,hTo⟩:=b2u hoD hm5;have aN:=a9e ao r co (λ_=>m) D wr (by unfold maxLen;omega) hTo;rw[fB.out.1,fB.out.2.1,fB.out.2.2]at aN;obtain⟨P,hP⟩:∃P,f r=P:=⟨_,rfl⟩;obtain⟨Q,hQ⟩:∃Q,f (r+1)=Q:=⟨_,rfl⟩;have HV:Hid (Value.string P=.string (f r)/\Value.string Q=.string (f (r+1))):=⟨by rw[hP],by rw[hQ]⟩;rw[hP,hQ]at aN;clear hoD hTo hG hP hQ;go_wp2_with fail;go_at_call 31;refine aN.mono ?_;rintro e w5 ⟨hb5,rfl⟩;have ho5:=a0g ho hb5;have tM:=hbo.trans (hb5.mono hbo.size);clear aN ho;go_wp2_with(at_builtin;refine a8g rfl _ _ rfl _ w2.heap.size _ r f ho5 rfl _ HV.out.1 _ rfl rfl (by omega) tM.size ?_);intro v6 w6 ho6 hb6;have tL:=tM.trans hb6;clear ho5;go_wp2_with(at_builtin;refine a8g rfl _ _ rfl _ w2.heap.size _ (r+1) f ho6 rfl _ HV.out.2 _ rfl rfl (by omega) tL.size ?_);intro v7 w7 ho7 hb7;have hb07:=hb02.trans ((tL.trans hb7).mono hb02.size);go_wp2_with fail;go_ret2;refine⟨hb07,_,_,rfl,.inr (.inr (.inr ⟨⟨HN.out.1,HN.out.2,rfl⟩,by rw[HQ.out];omega,by rw[HQ.out];exact mS.out,rfl,D,?_,?_⟩))⟩
         ·rw[HM0.out];exact HFT.out
         ·rw[HM0.out];have:=a9k ho7 hb02.size;rw[HF.out]at this;exact this
    ·have t3:(er !=0)=true:=(by simpa using h0);have HE0:Hid (er≠0):=h0;clear h0 hl hu;go_wp2_with fail;go_at_call 66;refine jB.mono ?_;rintro e w2 ⟨hb2,rfl⟩;have hb02:=aZ.trans (hb2.mono aZ.size);clear jB;go_wp2_with fail;go_ret2;exact⟨hb02,_,_,rfl,.inr (.inr (.inl ⟨⟨HN.out.1,HN.out.2,rfl⟩,by rw[HQ.out];omega,by rw[HQ.out,mS.out];exact HE0.out,rfl,by rw[HQ.out,mS.out]⟩))⟩
theorem b6q (a b:Option Addr)(n nb ca cb:Nat)(M:Nat->Nat)(Y:Mx)(T:Nat->Bool)(w:World)(hnm:n<=9223372036854775807)(hbm:nb<=9223372036854775807)(hT:TxtAt w a n M Y)(hB:Vals w b nb λi=>.bool (T i)):
 Calls prog 48 #[.slice a n ca,.slice b nb cb] w λe w'=>Below w.heap.size w w'/\∃v er,e=.returned (.tuple #[v,.int .i64 er])/\b8h n nb T M Y v er w' w.heap.size:=by
 by_cases hn:3<=n/\n<=10
 ·by_cases gL:nb=n
  ·obtain⟨k,rfl⟩:∃k,n=k+2:=⟨n-2,by omega⟩;subst gL;exact b9h a b k ca cb M Y T w (by omega) (by omega) hT hB
  ·have t0:((nb:Int) !=(n:Int))=true:=(by simp;omega);have t1:¬((n:Int)-2<1):=(by omega);have t2:¬(8:Int)<(n:Int)-2:=(by omega);have HN:Hid (¬(3<=n/\n<=10/\nb=n)):=λh=>gL h.2.2;clear hT hB hn gL;go_enter func48,ntmps48;go_wp2_with fail;go_ret2;exact⟨qw _ _,_,_,rfl,.inl ⟨HN.out,rfl,rfl⟩⟩
 ·have HN:Hid (¬(3<=n/\n<=10/\nb=n)):=λh=>hn ⟨h.1,h.2.1⟩;by_cases h1:n<3
  ·have t1:(n:Int)-2<1:=(by omega);clear hT hB hn h1;go_enter func48,ntmps48;go_wp2_with fail;go_ret2;exact⟨qw _ _,_,_,rfl,.inl ⟨HN.out,rfl,rfl⟩⟩
  ·have t1:¬((n:Int)-2<1):=(by omega);have t2:(8:Int)<(n:Int)-2:=(by omega);clear hT hB hn h1;go_enter func48,ntmps48;go_wp2_with fail;go_ret2;exact⟨qw _ _,_,_,rfl,.inl ⟨HN.out,rfl,rfl⟩⟩
end Go.Proofs.YtokknmkleceooaaGreatDoor
