import Derived.WalkKit
import Derived.Test.YtokknmkleceooaaGreatDoorBaseM
import Derived.Test.YtokknmkleceooaaGreatDoorShaM
import Derived.Lib.ConvBytes
namespace Go.Proofs.YtokknmkleceooaaGreatDoor
set_option linter.unusedVariables false
set_option maxRecDepth 20000
set_option maxHeartbeats 8000000
open Go.Proofs.Tryz
open Go.RowKit
def pP:Nat:=1361129467683753853853498429727072845819
theorem b9n:0<pP:=by decide+kernel
def num (q:Nat)(f:Nat->Nat):Nat->Nat
 |0=>0
 |k+1=>num q f k+f k*2^(q*k)
def dg (q N i:Nat):Nat:=N/2^(q*i)%2^q
theorem a2k (q N i:Nat):dg q N i<2^q:=Nat.mod_lt _ (Nat.pow_pos (by omega))
theorem d3b (q:Nat)(f:Nat->Nat)(n:Nat)(h:∀i,i<n->f i<2^q):num q f n<2^(q*n):=by
 induction n with
 |zero=>simp[num]
 |succ n ih=>
  have h1:=ih (λi hi=>h i (by omega));have h2:=h n (by omega);rw[num,Nat.mul_succ,Nat.pow_add,Nat.mul_comm (2^(q*n))];have h3:(f n+1)*2^(q*n)<=2^q*2^(q*n):=Nat.mul_le_mul_right _ h2;rw[Nat.add_mul]at h3;omega
theorem b9s (q:Nat)(f g:Nat->Nat)(n:Nat)(h:∀i,i<n->f i=g i):num q f n=num q g n:=by
 induction n with
 |zero=>rfl
 |succ n ih=>rw[num,num,ih (λi hi=>h i (by omega)),h n (by omega)]
theorem e2l (q N n:Nat):num q (dg q N) n=N%2^(q*n):=by
 induction n with
 |zero=>simp[num,Nat.mod_one]
 |succ n ih=>
  rw[num,ih,dg,Nat.mul_succ,Nat.pow_add,Nat.mod_mul,Nat.mul_comm (2^(q*n))]
theorem a9n (q:Nat)(f:Nat->Nat)(n k:Nat):num q f (n+k)=num q f n+2^(q*n)*num q (λi=>f (n+i)) k:=by
 induction k with
 |zero=>simp[num]
 |succ k ih=>
  rw[<-Nat.add_assoc,num,ih,num,Nat.mul_add q,Nat.pow_add,Nat.mul_add (2^(q*n)),Nat.mul_left_comm (f (n+k)),Nat.add_assoc]
theorem e9e (q:Nat)(f:Nat->Nat)(n i:Nat)(h:∀j,j<n->f j<2^q):dg q (num q f n) i=if i<n then f i else 0:=by
 by_cases hi:i<n
 ·rw[qp hi];obtain⟨k,rfl⟩:∃k,n=i+(1+k):=⟨n-i-1,by omega⟩;have h1:=d3b q f i (λj hj=>h j (by omega));have h2:=h i hi;rw[dg,a9n,Nat.add_mul_div_left _ _ (Nat.pow_pos (by omega)),Nat.div_eq_of_lt h1,Nat.zero_add,a9n];simp only[num,Nat.mul_zero,Nat.pow_zero,Nat.mul_one,Nat.zero_add,Nat.add_zero];rw[Nat.add_mul_mod_self_left,Nat.mod_eq_of_lt h2]
 ·rw[qn hi,dg,Nat.div_eq_of_lt,Nat.zero_mod];exact Nat.lt_of_lt_of_le (d3b q f n h) (Nat.pow_le_pow_right (by omega) (Nat.mul_le_mul_left q (by omega)))
theorem b7s (q i:Nat):dg q 0 i=0:=by simp[dg]
theorem a4y (q N i b:Nat):(dg q N i).testBit b=(decide (b<q)&&N.testBit (q*i+b)):=by
 rw[dg,Nat.testBit_mod_two_pow,Nat.testBit_div_two_pow,Nat.add_comm b]
theorem e9f (q N i:Nat):N/2^(q*(i+1))=N/2^(q*i)/2^q:=by
 rw[Nat.mul_succ,Nat.pow_add,Nat.div_div_eq_div_mul]
theorem a6w (q N i:Nat):N/2^(q*i)=dg q N i+2^q*(N/2^(q*(i+1))):=by
 rw[e9f,dg,Nat.mod_add_div]
theorem e2g (i:Nat)(h1:1<=i)(h2:i<=15):dg 8 pP i=255:=by
 have h:i=1\/i=2\/i=3\/i=4\/i=5\/i=6\/i=7\/i=8\/i=9\/i=10\/i=11\/i=12\/i=13\/i=14\/i=15:=by omega
 rcases h with rfl|rfl|rfl|rfl|rfl|rfl|rfl|rfl|rfl|rfl|rfl|rfl|rfl|rfl|rfl<;>decide+kernel
theorem e7u:dg 8 pP 0=251:=by decide+kernel
theorem e7v:dg 8 pP 16=3:=by decide+kernel
theorem e7t:pP/2^(8*17)=0:=by decide+kernel
theorem d5d {a b c:Nat}(h:a/c<b/c):a<b:=by
 rcases Nat.lt_or_ge a b with h'|h'
 ·exact h'
 ·have:=Nat.div_le_div_right (c:=c) h';omega
theorem b0b (N M i:Nat)(h:N/2^(8*(i+1))=M/2^(8*(i+1)))(hd:dg 8 N i<dg 8 M i):N<M:=by
 refine d5d (c:=2^(8*i)) ?_;rw[a6w 8 N i,a6w 8 M i,h];omega
theorem c2m (N M i:Nat)(h:N/2^(8*(i+1))=M/2^(8*(i+1)))(hd:dg 8 N i=dg 8 M i):N/2^(8*i)=M/2^(8*i):=by
 rw[a6w 8 N i,a6w 8 M i,h,hd]
def cy (q A B k:Nat):Nat:=(A%2^(q*k)+B%2^(q*k))/2^(q*k)
theorem c5q (q A k:Nat):A%2^(q*(k+1))=A%2^(q*k)+2^(q*k)*dg q A k:=by
 rw[Nat.mul_succ,Nat.pow_add,Nat.mod_mul,dg]
theorem c4m (q A B:Nat):cy q A B 0=0:=by simp[cy,Nat.mod_one]
theorem e2t (q A B k:Nat):(A%2^(q*(k+1))+B%2^(q*(k+1)))/2^(q*k)=cy q A B k+dg q A k+dg q B k:=by
 rw[c5q,c5q,show A%2^(q*k)+2^(q*k)*dg q A k+(B%2^(q*k)+2^(q*k)*dg q B k)=A%2^(q*k)+B%2^(q*k)+2^(q*k)*(dg q A k+dg q B k) by rw[Nat.mul_add];omega,
  Nat.add_mul_div_left _ _ (Nat.pow_pos (by omega)),cy,Nat.add_assoc]
theorem c4n (q A B k:Nat):cy q A B (k+1)=(cy q A B k+dg q A k+dg q B k)/2^q:=by
 rw[<-e2t,cy,Nat.div_div_eq_div_mul,<-Nat.pow_add,<-Nat.mul_succ]
theorem d5e (q A B k:Nat):dg q (A+B) k=(cy q A B k+dg q A k+dg q B k)%2^q:=by
 rw[<-e2t];have e:(A+B)%2^(q*(k+1))=(A%2^(q*(k+1))+B%2^(q*(k+1)))%2^(q*(k+1)):=Nat.add_mod _ _ _;have g:∀X:Nat,X/2^(q*k)%2^q=X%2^(q*(k+1))/2^(q*k):=by
  intro X;rw[Nat.mul_succ,Nat.pow_add,Nat.mod_mul_right_div_self]
 rw[dg,g,e,<-g]
theorem e0k (q A B k:Nat):cy q A B k<=1:=by
 have h1:=Nat.mod_lt A (Nat.pow_pos (n:=q*k) (show 0<2 by omega));have h2:=Nat.mod_lt B (Nat.pow_pos (n:=q*k) (show 0<2 by omega));have:cy q A B k<2:=by
  rw[cy,Nat.div_lt_iff_lt_mul (Nat.pow_pos (by omega))];omega
 omega
theorem e9d (q D B k:Nat):∃c,c=cy q D B k/\dg q D k+dg q B k+c=dg q (D+B) k+2^q*cy q D B (k+1):=by
 refine⟨_,rfl,?_⟩;rw[d5e,c4n,Nat.mod_add_div];omega
def V5 (S:Nat->Nat):Nat:=num 26 S 5
def ov (S:Nat->Nat)(k:Nat):Nat:=num 26 S k/2^(26*k)
theorem d2v (S:Nat->Nat):ov S 0=0:=by simp[ov,num]
theorem e2i (S:Nat->Nat)(k:Nat):num 26 S (k+1)/2^(26*k)=S k+ov S k:=by
 rw[num,Nat.add_mul_div_right _ _ (Nat.pow_pos (by omega)),ov,Nat.add_comm]
theorem d2w (S:Nat->Nat)(k:Nat):ov S (k+1)=(S k+ov S k)/2^26:=by
 rw[<-e2i,ov,Nat.div_div_eq_div_mul,<-Nat.pow_add,<-Nat.mul_succ]
theorem e4s (S:Nat->Nat)(k:Nat)(hk:k<5):dg 26 (V5 S) k=(S k+ov S k)%2^26:=by
 obtain⟨m,hm⟩:∃m,5=(k+1)+m:=⟨5-(k+1),by omega⟩;rw[<-e2i,dg,V5,hm,a9n,Nat.mul_succ,Nat.pow_add,Nat.mul_assoc,Nat.add_mul_div_left _ _ (Nat.pow_pos (by omega)),Nat.add_mul_mod_self_left]
theorem ov_lt (S:Nat->Nat)(k B:Nat)(h:∀i,i<k->S i<B):ov S k<=B/67108863:=by
 have e:(2:Nat)^26=67108864:=by decide
 induction k with
 |zero=>rw[d2v];exact Nat.zero_le _
 |succ k ih=>
  have h1:=ih (λi hi=>h i (by omega));have h2:=h k (by omega);rw[d2w,e];omega
theorem d6p (N:Nat)(h:N<2^130):V5 (dg 26 N)=N:=by
 rw[V5,e2l,Nat.mod_eq_of_lt (by simpa using h)]
theorem d6q (S R:Nat->Nat):V5 (λi=>S i+R i)=V5 S+V5 R:=by
 simp only[V5,num,Nat.add_mul];omega
theorem f0b (S:Nat->Nat)(B:Nat)(h:∀i,i<5->S i<=B):V5 S<=B*2^105:=by
 have h0:=h 0 (by omega);have h1:=h 1 (by omega);have h2:=h 2 (by omega);have h3:=h 3 (by omega);have h4:=h 4 (by omega);have m1:S 1*2^26<=B*2^26:=Nat.mul_le_mul_right _ h1;simp only[V5,num];simp only[Nat.reduceMul,Nat.reducePow];omega
theorem d6o (S:Nat->Nat)(m x:Nat)(hm:m<5):V5 (λi=>if i=m then S i+x else S i)=V5 S+x*2^(26*m):=by
 have h:m=0\/m=1\/m=2\/m=3\/m=4:=by omega
 rcases h with rfl|rfl|rfl|rfl|rfl<;>simp[V5,num,Nat.add_mul]<;>omega
theorem settle (V:Nat)(V2 q:Nat)(h2:V2=V%2^130+V/2^130*5)(hV:V<2^170)(hq:q=(V2+5)/2^130):
 (V2+q*5)%2^130=V%pP:=by
 have e1:V%pP=V2%pP:=by
  have:V=V2+pP*(V/2^130):=by rw[h2,pP];omega
  conv=>lhs;rw[this]
  rw[Nat.add_mul_mod_self_left]
 have hb:V2<2*pP:=by
  have:V/2^130<2^40:=by
   rw[Nat.div_lt_iff_lt_mul (by decide),<-Nat.pow_add];exact hV
  rw[h2,pP];omega
 rw[e1];by_cases p9:V2<pP
 ·have hq0:q=0:=by rw[hq,Nat.div_eq_of_lt];rw[pP]at p9;omega
  rw[hq0,Nat.mod_eq_of_lt p9,Nat.zero_mul,Nat.add_zero,Nat.mod_eq_of_lt];rw[pP]at p9;omega
 ·have hq1:q=1:=by rw[hq];rw[pP]at p9 hb;omega
  have e2:V2%pP=V2-pP:=by
   rw[Nat.mod_eq_sub_mod (by omega),Nat.mod_eq_of_lt (by omega)]
  rw[hq1,e2];rw[pP]at p9 hb⊢;omega
def sp (a b:Nat->Nat)(i j:Nat):Nat:=num 26 a i*V5 b+a i*2^(26*i)*num 26 b j
theorem e7j (a b:Nat->Nat)(i:Nat):sp a b i 5=sp a b (i+1) 0:=by
 rw[sp,sp,show num 26 a (i+1)=num 26 a i+a i*2^(26*i)from rfl,show num 26 b 0=0 from rfl,Nat.add_mul,Nat.mul_zero,Nat.add_zero,V5]
theorem e3y (a b:Nat->Nat)(i j:Nat):sp a b i (j+1)=sp a b i j+a i*b j*2^(26*(i+j)):=by
 rw[sp,sp,num,Nat.mul_add,Nat.mul_add 26,Nat.pow_add,<-Nat.add_assoc];congr 1;simp only[Nat.mul_assoc,Nat.mul_left_comm,Nat.mul_comm]
theorem e3z (a b:Nat->Nat):sp a b 5 0=V5 a*V5 b:=by
 rw[sp,show num 26 b 0=0 from rfl,Nat.mul_zero,Nat.add_zero];rfl
def tk (i j:Nat):Nat:=if 5<=i+j then 5 else 1
theorem e6z (i j:Nat)(hi:i<5)(hj:j<5):tk i j*2^(26*((i+j)%5))%pP=2^(26*(i+j))%pP:=by
 have h:i=0\/i=1\/i=2\/i=3\/i=4:=by omega
 have h':j=0\/j=1\/j=2\/j=3\/j=4:=by omega
 rcases h with rfl|rfl|rfl|rfl|rfl<;>rcases h' with rfl|rfl|rfl|rfl|rfl<;>decide+kernel
theorem c4u (X Y c k k' m:Nat)(h1:X%m=Y%m)(h2:k%m=k'%m):(X+c*k)%m=(Y+c*k')%m:=by
 rw[Nat.add_mod,Nat.mul_mod,h1,h2,<-Nat.mul_mod,<-Nat.add_mod]
theorem c7o (T a b:Nat->Nat)(i j:Nat)(hi:i<5)(hj:j<5)(h:V5 T%pP=sp a b i j%pP):
 V5 (λm=>if m=(i+j)%5 then T m+a i*b j*tk i j else T m)%pP=sp a b i (j+1)%pP:=by
 rw[d6o T _ _ (by omega),e3y,Nat.mul_assoc (a i*b j)];exact c4u _ _ _ _ _ _ h (e6z i j hi hj)
open Go.RowKit Go.PlainAid
theorem zero282:(prog.info? 282).map (λi=>i.zero)=some (some (.agg (nr .u64 5 (λ_=>0)).toArray)):=by kernel_rfl
theorem a3r (w:World):(zeroValue 282).run prog w=.ok (.agg (nr .u64 5 (λ_=>0)).toArray) w:=by
 obtain⟨i,hi,hz⟩:=Option.map_eq_some_iff.1 zero282;simp[zeroValue,typeInfo,hi,hz]
theorem size282:(prog.info? 282).map (·.size)=some 5:=by kernel_rfl
theorem b3v {w:World}{g:Nat}{T:TypeId}{L:List Value}(h:Blk w g T L)(hl:L.length=5):(loadVar 282 ⟨g,0,none⟩).run prog w=.ok (.agg L.toArray) w:=
 run_loadVar_row w g T 282 _ (0,0) _ h underlying282 rfl (by rw[size282];simp[hl])
theorem zero302:(prog.info? 302).map (λi=>i.zero)=some (some (.agg (nr .i64 17 (λ_=>0)).toArray)):=by kernel_rfl
theorem a5r (w:World):(zeroValue 302).run prog w=.ok (.agg (nr .i64 17 (λ_=>0)).toArray) w:=by
 obtain⟨i,hi,hz⟩:=Option.map_eq_some_iff.1 zero302;simp[zeroValue,typeInfo,hi,hz]
theorem size302:(prog.info? 302).map (·.size)=some 17:=by kernel_rfl
theorem c3r {w:World}{g:Nat}{T:TypeId}{L:List Value}(h:Blk w g T L)(hl:L.length=17):(loadVar 302 ⟨g,0,none⟩).run prog w=.ok (.agg L.toArray) w:=
 run_loadVar_row w g T 302 _ (0,0) _ h underlying302 rfl (by rw[size302];simp[hl])
theorem c5y (w:World)(S:Nat->Nat)(i:Nat)(hi:i<5):(Instr.index 282 (.agg (nr .u64 5 S).toArray) (.int .i64 (i:Int))).run prog w=.ok (.int .u64 ((S i:Nat):Int)) w:=
 b6g w 282 198 5 _ i _ underlying282 hi (a3c _ _ _ i hi) isAgg198 sizeOf198
theorem e2m (x:Nat)(h:x<18446744073709551616):bits .and .u64 (x:Int) 67108863=((x%2^26:Nat):Int):=by
 have e:=u64_and_nat x 67108863 h (by decide);rw[show(67108863:Int)=((67108863:Nat):Int)from rfl,e];congr 1;exact Nat.and_two_pow_sub_one_eq_mod x 26
theorem a6c (S:Nat->Nat)(hS:∀i,i<5->S i<9223372036854775808)(w:World):
 Calls prog 237 #[.agg (nr .u64 5 S).toArray] w λe w'=>e=.returned (.tuple #[.agg (nr .u64 5 (dg 26 (V5 S))).toArray,.int .u64 ((ov S 5:Nat):Int)])/\Below w.heap.size w w':=by
 have aI:=a3r;have cJ:=λw i=>c5y w S i;obtain⟨Z,hZ⟩:∃Z,nr .u64 5 (λ_=>0)=Z:=⟨_,rfl⟩;obtain⟨Y,hY⟩:∃Y,nr .u64 5 S=Y:=⟨_,rfl⟩;rw[hZ]at aI;rw[hY]at cJ⊢;have iM:Y.length=5:=by rw[<-hY,a0k]
 have cU:Z.length=5:=by rw[<-hZ,a0k]
 have HY:Hid (nr .u64 5 S=Y):=hY;have fT:Hid (∀(w:World) (i:Nat),i<5->(Instr.index 282 (.agg Y.toArray) (.int .i64 (i:Int))).run prog w=.ok (.int .u64 ((S i:Nat):Int)) w):=cJ;clear hY hZ cJ;have hA0:Blk ((w.alloc (.cells Y.toArray 282)).alloc (.cells Z.toArray 282)) w.heap.size 282 Y:=(Blk.box w 282 Y).alloc _;have hB0:Blk ((w.alloc (.cells Y.toArray 282)).alloc (.cells Z.toArray 282)) (w.heap.size+1) 282 Z:=by
  have:=Blk.box (w.alloc (.cells Y.toArray 282)) 282 Z;simpa using this
 have hl0:Below w.heap.size w ((w.alloc (.cells Y.toArray 282)).alloc (.cells Z.toArray 282)):=((qw _ w).alloc (ql _) _).alloc (by simp) _;go_enter func237,ntmps237;go_wp2_with(refine a0a rfl 282 _ rfl w.heap.size rfl 282 Y _ hA0 underlying282 rfl (by rw[size282,iM]) ?_);generalize(w.alloc (.cells Y.toArray 282)).alloc (.cells Z.toArray 282)=w0 at hA0 hB0 hl0⊢;obtain⟨g,y5⟩:∃g,w.heap.size=g:=⟨_,rfl⟩;rw[y5]at hA0 hB0 hl0⊢;have HG:Hid (w.heap.size=g):=y5;clear y5 aI;rw[<-HY.out]at hA0;go_loopw[4,8] (λo i wr=>∃k:Nat,k<=5/\i=.int .i64 k/\o=.int .u64 ((ov S k:Nat):Int)/\Blk wr g 282 (nr .u64 5 (λi=>if i<k then dg 26 (V5 S) i else S i))/\Blk wr (g+1) 282 Z/\Below g w wr) (λ_ i _=>(5-intOf i).toNat)
 case atStart=>exact⟨0,by omega,rfl,by rw[d2v];rfl,hA0,hB0,hl0⟩
 case round=>
  clear hA0 hB0 hl0;obtain⟨k,hk,rfl,rfl,hA,hB,hl⟩:=hrel;by_cases p9:k<5
  ·have aT:(k:Int)<5:=(by omega);have hi:=λw=>fT.out w k p9;have hx:=hS k p9;have ho:=ov_lt S k 9223372036854775808 (λi hi=>hS i (by omega));have hm:=e2m (S k+ov S k) (by omega);rw[<-e4s S k p9]at hm;have hv:(S k+ov S k)/2^26=ov S (k+1):=(d2w S k).symm;have fn:=hA.frozen k;have cn:wr.cell? ⟨g,k,none⟩=some (.int .u64 ((S k:Nat):Int)):=by
    have:=hA.cell (a3c .u64 5 _ k p9);rw[qn (by omega)]at this;exact this
   have hA2:Blk (wr.setCell ⟨g,k,none⟩ (.int .u64 ((dg 26 (V5 S) k:Nat):Int))) g 282 (nr .u64 5 (λi=>if i<k+1 then dg 26 (V5 S) i else S i)):=by
    have hh:=hA.setCell k (.int .u64 ((dg 26 (V5 S) k:Nat):Int));rw[a4i]at hh;rw[a0t .u64 5 (λi=>if i<k+1 then dg 26 (V5 S) i else S i) (λi=>if i=k then dg 26 (V5 S) k else if i<k then dg 26 (V5 S) i else S i) ?_]
    ·exact hh
    ·intro i _;show(if i<k+1 then dg 26 (V5 S) i else S i)=if i=k then dg 26 (V5 S) k else if i<k then dg 26 (V5 S) i else S i;by_cases h1:i=k
     ·subst h1;rw[qp (by omega),qp rfl]
     ·rw[qn h1];by_cases h2:i<k
      ·rw[qp h2,qp (by omega)]
      ·rw[qn h2,qn (by omega)]
   have hB2:Blk (wr.setCell ⟨g,k,none⟩ (.int .u64 ((dg 26 (V5 S) k:Nat):Int))) (g+1) 282 Z:=hB.setOther (by omega) k _;have hl2:Below g w (wr.setCell ⟨g,k,none⟩ (.int .u64 ((dg 26 (V5 S) k:Nat):Int))):=hl.setCell (ql _) _;have HV:Hid ((S k+ov S k)/2^26=ov S (k+1)):=hv;have hd:=a2k 26 (V5 S) k;clear hA hB hl hv;generalize S k=x at*;generalize ov S k=y at*;generalize dg 26 (V5 S) k=z at*;have hm':bits .and .u64 ((x:Int)+(y:Int)) 67108863=(z:Int):=(by rw[<-hm];rfl);clear hm;go_wp2_with fail;refine⟨⟨k+1,by omega,by go_num,?_,hA2,hB2,hl2⟩,by simp[intOf];omega⟩;rw[<-HV.out];congr 1
  ·have hk5:k=5:=(by omega);subst hk5;rw[show((5:Nat):Int)=(5:Int)from rfl];have hA':Blk wr g 282 (nr .u64 5 (dg 26 (V5 S))):=by
    rw[a0t .u64 5 (dg 26 (V5 S)) (λi=>if i<5 then dg 26 (V5 S) i else S i) (λi hi=>by rw[qp hi])];exact hA
   obtain⟨U,hU⟩:∃U,nr .u64 5 (dg 26 (V5 S))=U:=⟨_,rfl⟩;have bO:U.length=5:=(by rw[<-hU,a0k]);have gF:∀v∈U,v.oneCell'=true:=(by rw[<-hU];exact a4j _ _ _);rw[hU]at hA';have HU:Hid (nr .u64 5 (dg 26 (V5 S))=U):=hU;have hR:=b3v (hB.setRow (M:=U)) bO;have hl':Below g w (wr.setRow (g+1) U.toArray):=below_setRow hl (by omega) _;clear hA hl hU fT;go_wp2_with(first|(refine a0a rfl 282 _ rfl g rfl 282 U _ hA' underlying282 rfl (by rw[size282,bO]) ?_)|(refine a0b rfl 282 _ _ rfl (g+1) Z U rfl rfl 282 hB (by rw[size282,bO]) (by rw[cU,bO]) gF ?_));refine bodyPost_ret_by (v:=.tuple #[.agg U.toArray,.int .u64 ((ov S 5:Nat):Int)]) (results_cell_tmp 2 3 282 ⟨g+1,0,none⟩ results237 rfl hR rfl) rfl ⟨by rw[HU.out],?_⟩;rw[HG.out];exact hl'
theorem b6t (A B:Nat->Nat)(hAB:∀i,i<5->A i+B i<18446744073709551616)(w:World):
 Calls prog 209 #[.agg (nr .u64 5 A).toArray,.agg (nr .u64 5 B).toArray] w λe w'=>e=.returned (.agg (nr .u64 5 (λi=>A i+B i)).toArray)/\Below w.heap.size w w':=by
 have aI:=a3r;obtain⟨Z,hZ⟩:∃Z,nr .u64 5 (λ_=>0)=Z:=⟨_,rfl⟩;obtain⟨Y,hY⟩:∃Y,nr .u64 5 A=Y:=⟨_,rfl⟩;obtain⟨X,hX⟩:∃X,nr .u64 5 B=X:=⟨_,rfl⟩;rw[hZ]at aI;rw[hY,hX];have cU:Z.length=5:=by rw[<-hZ,a0k]
 have HY:Hid (nr .u64 5 A=Y):=hY;have HX:Hid (nr .u64 5 B=X):=hX;clear hY hZ hX;have hA0:Blk (((w.alloc (.cells Y.toArray 282)).alloc (.cells X.toArray 282)).alloc (.cells Z.toArray 282)) w.heap.size 282 Y:=((Blk.box w 282 Y).alloc _).alloc _;have hB0:Blk (((w.alloc (.cells Y.toArray 282)).alloc (.cells X.toArray 282)).alloc (.cells Z.toArray 282)) (w.heap.size+1) 282 X:=by
  have:=(Blk.box (w.alloc (.cells Y.toArray 282)) 282 X).alloc (.cells Z.toArray 282);simpa using this
 have hC0:Blk (((w.alloc (.cells Y.toArray 282)).alloc (.cells X.toArray 282)).alloc (.cells Z.toArray 282)) (w.heap.size+2) 282 Z:=by
  have:=Blk.box ((w.alloc (.cells Y.toArray 282)).alloc (.cells X.toArray 282)) 282 Z;simpa using this
 have hl0:Below w.heap.size w (((w.alloc (.cells Y.toArray 282)).alloc (.cells X.toArray 282)).alloc (.cells Z.toArray 282)):=(((qw _ w).alloc (ql _) _).alloc (by simp) _).alloc (by simp;omega) _;go_enter func209,ntmps209;go_wp2_with fail;generalize((w.alloc (.cells Y.toArray 282)).alloc (.cells X.toArray 282)).alloc (.cells Z.toArray 282)=w0 at hA0 hB0 hC0 hl0⊢;obtain⟨g,y5⟩:∃g,w.heap.size=g:=⟨_,rfl⟩;rw[y5]at hA0 hB0 hC0 hl0⊢;have HG:Hid (w.heap.size=g):=y5;clear y5 aI;rw[<-HY.out]at hA0;rw[<-HX.out]at hB0;clear HY HX;go_loopw[6] (λi wr=>∃k:Nat,k<=5/\i=.int .i64 k/\Blk wr g 282 (nr .u64 5 (λi=>if i<k then A i+B i else A i))/\Blk wr (g+1) 282 (nr .u64 5 B)/\Blk wr (g+2) 282 Z/\Below g w wr) (λi _=>(5-intOf i).toNat)
 case atStart=>exact⟨0,by omega,rfl,hA0,hB0,hC0,hl0⟩
 case round=>
  clear hA0 hB0 hC0 hl0;obtain⟨q,hq,rfl,hA,hB,hC,hl⟩:=hrel;by_cases p9:q<5
  ·have hq':(q:Int)<5:=(by omega);have iU:=hAB q p9;have cn:wr.cell? ⟨g,q,none⟩=some (.int .u64 ((A q:Nat):Int)):=by
    have:=hA.cell (a3c .u64 5 _ q p9);rw[qn (by omega)]at this;exact this
   have cs:=hB.cell (a3c .u64 5 B q p9);have fn:=hA.frozen q;obtain⟨V,hV⟩:∃V,A q+B q=V:=⟨_,rfl⟩;have hn2:Blk (wr.drew.setCell ⟨g,q,none⟩ (.int .u64 (V:Int))) g 282 (nr .u64 5 (λi=>if i<q+1 then A i+B i else A i)):=by
    have hh:=hA.drew.setCell q (.int .u64 (V:Int));rw[a4i]at hh;rw[a0t .u64 5 (λi=>if i<q+1 then A i+B i else A i) (λi=>if i=q then V else if i<q then A i+B i else A i) ?_]
    ·exact hh
    ·intro i _;show(if i<q+1 then A i+B i else A i)=if i=q then V else if i<q then A i+B i else A i;by_cases h1:i=q
     ·subst h1;rw[qp (by omega),qp rfl,hV]
     ·rw[qn h1];by_cases h2:i<q
      ·rw[qp h2,qp (by omega)]
      ·rw[qn h2,qn (by omega)]
   have hs2:Blk (wr.drew.setCell ⟨g,q,none⟩ (.int .u64 (V:Int))) (g+1) 282 (nr .u64 5 B):=hB.drew.setOther (by omega) q _;have hc2:Blk (wr.drew.setCell ⟨g,q,none⟩ (.int .u64 (V:Int))) (g+2) 282 Z:=hC.drew.setOther (by omega) q _;have hl2:Below g w (wr.drew.setCell ⟨g,q,none⟩ (.int .u64 (V:Int))):=hl.drew.setCell (ql _) _;have es:=hs2.cell (a3c .u64 5 B q p9);have hVI:IntKind.u64.wrap (((A q:Nat):Int)+((B q:Nat):Int))=(V:Int):=by
    rw[<-hV,IntWalk.u64_in _ ⟨by omega,by omega⟩];rfl
   clear hA hB hC hl hV;generalize A q=x at*;generalize B q=y at*;go_wp2_with fail;refine wp_region_noPanic ?_;refine wp_region_held_drew (S:=λz=>z.cell? ⟨g+1,q,none⟩=some (.int .u64 (y:Int))) (by kernel_rfl) cs (λp8=>?_);refine tkH 0 ?_;go_simp;refine tkH 1 ?_;go_simp;refine tkH 3 ?_;go_simp;refine tkH 4 ?_;go_simp;refine tkH 5 ?_;go_simp;refine rdH 2 λK hK=>?_;go_simp;refine hK.out _ _ cs (λp8=>?_);clear hK K;refine tkH 6 ?_;go_simp;refine tkH 7 ?_;go_simp;refine rdH 8 λK hK=>?_;go_simp;refine hK.out _ _ es (λp8=>?_);clear hK K;refine wpAnyH_done (by kernel_rfl) ?_ _;refine NoPanic.normal ?_;have hn3:Blk (wr.setCell ⟨g,q,none⟩ (.int .u64 (V:Int))).drew g 282 _:=hn2;have hs3:Blk (wr.setCell ⟨g,q,none⟩ (.int .u64 (V:Int))).drew (g+1) 282 _:=hs2;have hc3:Blk (wr.setCell ⟨g,q,none⟩ (.int .u64 (V:Int))).drew (g+2) 282 _:=hc2;have hl3:Below g w (wr.setCell ⟨g,q,none⟩ (.int .u64 (V:Int))).drew:=hl2;clear hn2 hs2 hc2 hl2 es cs cn fn;generalize(wr.setCell ⟨g,q,none⟩ (.int .u64 (V:Int))).drew=w4 at hn3 hs3 hc3 hl3⊢;go_wp2_with fail;go_roundw
   case rel=>exact⟨q+1,by omega,by go_num,hn3,hs3,hc3,hl3⟩
   case measure=>simp[intOf];omega
  ·have hk5:q=5:=(by omega);subst hk5;rw[show((5:Nat):Int)=(5:Int)from rfl];have hA':Blk wr g 282 (nr .u64 5 (λi=>A i+B i)):=by
    rw[a0t .u64 5 (λi=>A i+B i) (λi=>if i<5 then A i+B i else A i) (λi hi=>by rw[qp hi])];exact hA
   obtain⟨U,hU⟩:∃U,nr .u64 5 (λi=>A i+B i)=U:=⟨_,rfl⟩;have bO:U.length=5:=(by rw[<-hU,a0k]);have gF:∀v∈U,v.oneCell'=true:=(by rw[<-hU];exact a4j _ _ _);rw[hU]at hA';have HU:Hid (nr .u64 5 (λi=>A i+B i)=U):=hU;have hR:=b3v (hC.setRow (M:=U)) bO;have hl':Below g w (wr.setRow (g+2) U.toArray):=below_setRow hl (by omega) _;clear hA hB hl hU;go_wp2_with(first|(refine a0a rfl 282 _ rfl g rfl 282 U _ hA' underlying282 rfl (by rw[size282,bO]) ?_)|(refine a0b rfl 282 _ _ rfl (g+2) Z U rfl rfl 282 hC (by rw[size282,bO]) (by rw[cU,bO]) gF ?_));refine bodyPost_ret_by (v:=.agg U.toArray) (a1a 4 282 ⟨g+2,0,none⟩ results209 rfl hR) rfl ⟨by rw[HU.out],?_⟩;rw[HG.out];exact hl'
theorem below_drewN {B:Nat}{a w:World}(h:Below B a w)(n:Nat):Below B a (w.drewN n):=⟨h.os,h.tape,h.output,h.size,h.block⟩
theorem d0w (A B:Nat->Nat)(hA:∀i,i<5->A i<134217728)(hB:∀i,i<5->B i<67108864)(w:World):
 Calls prog 208 #[.agg (nr .u64 5 A).toArray,.agg (nr .u64 5 B).toArray] w λe w'=>∃T:Nat->Nat,e=.returned (.agg (nr .u64 5 T).toArray)/\(V5 T%pP=V5 A*V5 B%pP)/\(∀m,m<5->T m<=1801439850948198400)/\Below w.heap.size w w':=by
 have aI:=a3r;obtain⟨Z,hZ⟩:∃Z,nr .u64 5 (λ_=>0)=Z:=⟨_,rfl⟩;obtain⟨Y,hY⟩:∃Y,nr .u64 5 A=Y:=⟨_,rfl⟩;obtain⟨X,hX⟩:∃X,nr .u64 5 B=X:=⟨_,rfl⟩;rw[hZ]at aI;rw[hY,hX];have cU:Z.length=5:=by rw[<-hZ,a0k]
 have HY:Hid (nr .u64 5 A=Y):=hY;have HX:Hid (nr .u64 5 B=X):=hX;have PZ:Hid (nr .u64 5 (λ_=>0)=Z):=hZ;clear hY hZ hX;have hA0:Blk ((((w.alloc (.cells Y.toArray 282)).alloc (.cells X.toArray 282)).alloc (.cells Z.toArray 282)).alloc (.cells Z.toArray 282)) w.heap.size 282 Y:=(((Blk.box w 282 Y).alloc _).alloc _).alloc _;have hB0:Blk ((((w.alloc (.cells Y.toArray 282)).alloc (.cells X.toArray 282)).alloc (.cells Z.toArray 282)).alloc (.cells Z.toArray 282)) (w.heap.size+1) 282 X:=by
  have:=((Blk.box (w.alloc (.cells Y.toArray 282)) 282 X).alloc (.cells Z.toArray 282)).alloc (.cells Z.toArray 282);simpa using this
 have hC0:Blk ((((w.alloc (.cells Y.toArray 282)).alloc (.cells X.toArray 282)).alloc (.cells Z.toArray 282)).alloc (.cells Z.toArray 282)) (w.heap.size+2) 282 Z:=by
  have:=(Blk.box ((w.alloc (.cells Y.toArray 282)).alloc (.cells X.toArray 282)) 282 Z).alloc (.cells Z.toArray 282);simpa using this
 have hD0:Blk ((((w.alloc (.cells Y.toArray 282)).alloc (.cells X.toArray 282)).alloc (.cells Z.toArray 282)).alloc (.cells Z.toArray 282)) (w.heap.size+3) 282 Z:=by
  have:=Blk.box (((w.alloc (.cells Y.toArray 282)).alloc (.cells X.toArray 282)).alloc (.cells Z.toArray 282)) 282 Z;simpa using this
 have hl0:Below w.heap.size w ((((w.alloc (.cells Y.toArray 282)).alloc (.cells X.toArray 282)).alloc (.cells Z.toArray 282)).alloc (.cells Z.toArray 282)):=((((qw _ w).alloc (ql _) _).alloc (by simp) _).alloc (by simp;omega) _).alloc (by simp;omega) _;go_enter func208,ntmps208;go_wp2_with fail;generalize(((w.alloc (.cells Y.toArray 282)).alloc (.cells X.toArray 282)).alloc (.cells Z.toArray 282)).alloc (.cells Z.toArray 282)=w0 at hA0 hB0 hC0 hD0 hl0⊢;obtain⟨g,y5⟩:∃g,w.heap.size=g:=⟨_,rfl⟩;rw[y5]at hA0 hB0 hC0 hD0 hl0⊢;have HG:Hid (w.heap.size=g):=y5;clear y5 aI;rw[<-HY.out]at hA0;rw[<-HX.out]at hB0;rw[<-PZ.out]at hD0;clear HY HX PZ;have HA:Hid (∀i,i<5->A i<134217728):=hA;have HB:Hid (∀i,i<5->B i<67108864):=hB;clear hA hB;go_loopw[9] (λv wr=>∃(i:Nat) (T:Nat->Nat),i<=5/\v=.int .i64 i/\V5 T%pP=sp A B i 0%pP/\(∀m,m<5->T m<=(5*i)*72057594037927936)/\Blk wr g 282 (nr .u64 5 A)/\Blk wr (g+1) 282 (nr .u64 5 B)/\Blk wr (g+2) 282 Z/\Blk wr (g+3) 282 (nr .u64 5 T)/\Below g w wr) (λv _=>(5-intOf v).toNat)
 case atStart=>exact⟨0,λ_=>0,by omega,rfl,by rw[show sp A B 0 0=0 by simp[sp,num]];rfl,λ_ _=>Nat.zero_le _,hA0,hB0,hC0,hD0,hl0⟩
 case round=>
  clear hA0 hB0 hC0 hD0 hl0;obtain⟨i,T,hi,rfl,hT,hb,hA,hB,hC,hD,hl⟩:=hrel;by_cases p9:i<5
  ·have hi':(i:Int)<5:=(by omega);have HT:Hid (V5 T%pP=sp A B i 0%pP):=hT;have Hb:Hid (∀m,m<5->T m<=(5*i)*72057594037927936):=hb;clear hT hb;go_wp2_with fail;go_loopw[12] (λv wr=>∃(j:Nat) (T:Nat->Nat),j<=5/\v=.int .i64 j/\V5 T%pP=sp A B i j%pP/\(∀m,m<5->T m<=(5*i+j)*72057594037927936)/\Blk wr g 282 (nr .u64 5 A)/\Blk wr (g+1) 282 (nr .u64 5 B)/\Blk wr (g+2) 282 Z/\Blk wr (g+3) 282 (nr .u64 5 T)/\Below g w wr) (λv _=>(5-intOf v).toNat)
   case atStart=>exact⟨0,T,by omega,rfl,HT.out,Hb.out,hA,hB,hC,hD,hl⟩
   case round=>
    clear hA hB hC hD hl HT Hb;obtain⟨j,T,hj,rfl,hT,hb,hA,hB,hC,hD,hl⟩:=hrel;by_cases aD:j<5
    ·have hj':(j:Int)<5:=(by omega);have ca:=hA.cell (a3c .u64 5 A i p9);have cb:=hB.cell (a3c .u64 5 B j aD);obtain⟨m,hm⟩:∃m:Nat,(i+j)%5=m:=⟨_,rfl⟩;have em:((i:Int)+(j:Int))%5=(m:Int):=(by omega);have hm5:m<5:=(by omega);have hm5':(m:Int)<5:=(by omega);have hx:=HA.out i p9;have hy:=HB.out j aD;obtain⟨p,hp⟩:∃p:Nat,A i*B j=p:=⟨_,rfl⟩;have pC:p<=9007199254740992:=by
      rw[<-hp];exact Nat.mul_le_mul (show A i<=134217728 by omega) (show B j<=67108864 by omega)
     have hpw:IntKind.u64.wrap (((A i:Nat):Int)*((B j:Nat):Int))=(p:Int):=by
      rw[<-Int.natCast_mul,hp,IntWalk.u64_in _ ⟨by omega,by omega⟩]
     have hst:=c7o T A B i j p9 aD hT;rw[hm,hp]at hst;have hTm:=hb m hm5;have hTw:T m+p*tk i j<=(5*i+(j+1))*72057594037927936/\T m+p*tk i j<18446744073709551616/\T m<=1801439850948198400:=by
      have:tk i j<=5:=(by unfold tk;split<;>omega);have h2:p*tk i j<=9007199254740992*5:=Nat.mul_le_mul pC this;omega
     have hd2:Blk (wr.setCell ⟨g+3,m,none⟩ (.int .u64 ((T m+p*tk i j:Nat):Int))) (g+3) 282 (nr .u64 5 (λq=>if q=m then T q+p*tk i j else T q)):=by
      have hh:=hD.setCell m (.int .u64 ((T m+p*tk i j:Nat):Int));rw[a4i]at hh;rw[a0t .u64 5 (λq=>if q=m then T q+p*tk i j else T q) (λq=>if q=m then T m+p*tk i j else T q) ?_]
      ·exact hh
      ·intro q _;show(if q=m then T q+p*tk i j else T q)=if q=m then T m+p*tk i j else T q;by_cases h1:q=m
       ·subst h1;rfl
       ·rw[qn h1,qn h1]
     have cd:=hD.cell (a3c .u64 5 T m hm5);have fd:=hD.frozen m;have y8:Hid (∀n:Nat,∃T':Nat->Nat,V5 T'%pP=sp A B i (j+1)%pP/\(∀q,q<5->T' q<=(5*i+(j+1))*72057594037927936)/\Blk ((wr.drewN n).setCell ⟨g+3,m,none⟩ (.int .u64 ((T m+p*tk i j:Nat):Int))) g 282 (nr .u64 5 A)/\Blk ((wr.drewN n).setCell ⟨g+3,m,none⟩ (.int .u64 ((T m+p*tk i j:Nat):Int))) (g+1) 282 (nr .u64 5 B)/\Blk ((wr.drewN n).setCell ⟨g+3,m,none⟩ (.int .u64 ((T m+p*tk i j:Nat):Int))) (g+2) 282 Z/\Blk ((wr.drewN n).setCell ⟨g+3,m,none⟩ (.int .u64 ((T m+p*tk i j:Nat):Int))) (g+3) 282 (nr .u64 5 T')/\Below g w ((wr.drewN n).setCell ⟨g+3,m,none⟩ (.int .u64 ((T m+p*tk i j:Nat):Int)))):=by
      intro n;refine⟨_,hst,?_,(hA.drewN n).setOther (by omega) _ _,(hB.drewN n).setOther (by omega) _ _,(hC.drewN n).setOther (by omega) _ _,hd2,(below_drewN hl n).setCell (by show g<=g+3;omega) _⟩;intro q hq;show(if q=m then T q+p*tk i j else T q)<=_;have:=hb q hq;by_cases h1:q=m
      ·subst h1;rw[qp rfl];exact hTw.1
      ·rw[qn h1];exact Nat.le_trans this (Nat.mul_le_mul_right _ (by omega))
     clear hst hT hb hA hB hC hD hl hd2 hm hp;obtain⟨_,hw2,hw3⟩:=hTw;generalize A i=x at*;generalize B j=y at*;generalize T m=t at*;by_cases h5:5<=i+j
     ·rw[show tk i j=5 from qp h5]at y8 hw2;have h5':(5:Int)<=(i:Int)+(j:Int):=(by omega);go_wp2_with fail
      go_quiet(fail)
      go_wp2_with fail;obtain⟨T',h1,h2,h3,h4,h6,h7,h8⟩:=y8.out nq;exact⟨⟨j+1,T',by omega,by go_num,h1,h2,h3,h4,h6,h7,h8⟩,by simp[intOf];omega⟩
     ·rw[show tk i j=1 from qn h5]at y8 hw2;have h5':¬(5:Int)<=(i:Int)+(j:Int):=(by omega);rw[Nat.mul_one]at y8 hw2;go_wp2_with fail
      go_quiet(fail)
      go_wp2_with fail;obtain⟨T',h1,h2,h3,h4,h6,h7,h8⟩:=y8.out nq;exact⟨⟨j+1,T',by omega,by go_num,h1,h2,h3,h4,h6,h7,h8⟩,by simp[intOf];omega⟩
    ·have hj5:j=5:=(by omega);subst hj5;rw[show((5:Nat):Int)=(5:Int)from rfl];rw[e7j]at hT;have HT:Hid (V5 T%pP=sp A B (i+1) 0%pP):=hT;have Hb:Hid (∀m,m<5->T m<=(5*i+5)*72057594037927936):=hb;clear hT hb;go_wp2_with fail;exact⟨⟨i+1,T,by omega,by go_num,HT.out,Hb.out,hA,hB,hC,hD,hl⟩,by simp[intOf];omega⟩
  ·have hi5:i=5:=(by omega);subst hi5;rw[show((5:Nat):Int)=(5:Int)from rfl];rw[e3z]at hT;have HF:Hid (∃T':Nat->Nat,nr .u64 5 T=nr .u64 5 T'/\(V5 T'%pP=V5 A*V5 B%pP)/\(∀m,m<5->T' m<=1801439850948198400)):=⟨T,rfl,hT,hb⟩;obtain⟨U,hU⟩:∃U,nr .u64 5 T=U:=⟨_,rfl⟩;have bO:U.length=5:=(by rw[<-hU,a0k]);have gF:∀v∈U,v.oneCell'=true:=(by rw[<-hU];exact a4j _ _ _);rw[hU]at hD HF;have hR:=b3v (hC.setRow (M:=U)) bO;have hl':Below g w (wr.setRow (g+2) U.toArray):=below_setRow hl (by omega) _;clear hA hB hl hU hT hb HA HB;go_wp2_with(first|(refine a0a rfl 282 _ rfl (g+3) rfl 282 U _ hD underlying282 rfl (by rw[size282,bO]) ?_)|(refine a0b rfl 282 _ _ rfl (g+2) Z U rfl rfl 282 hC (by rw[size282,bO]) (by rw[cU,bO]) gF ?_));obtain⟨T',e1,e2,e3⟩:=HF.out;refine bodyPost_ret_by (v:=.agg U.toArray) (a1a 4 282 ⟨g+2,0,none⟩ results208 rfl hR) rfl ⟨T',by rw[e1],e2,e3,?_⟩;rw[HG.out];exact hl'
theorem e2s (X i:Nat)(hi:i<5):dg 26 (X%2^130) i=dg 26 X i:=by
 apply Nat.eq_of_testBit_eq;intro b;rw[a4y,a4y,Nat.testBit_mod_two_pow];by_cases h:b<26
 ·rw[show decide (26*i+b<130)=true by simp;omega];simp
 ·simp[h]
theorem e1p (N x:Nat)(h:∀i,i<5->True):V5 (λi=>if i=0 then dg 26 N i+x else dg 26 N i)=N%2^130+x:=by
 rw[d6o _ 0 x (by omega),V5,e2l];simp
theorem c2k (S:Nat->Nat)(hS:∀i,i<5->S i<=1801439850948198400)(w:World):
 Calls prog 207 #[.agg (nr .u64 5 S).toArray] w λe w'=>e=.returned (.agg (nr .u64 5 (dg 26 (V5 S%pP))).toArray)/\Below w.heap.size w w':=by
 have aI:=a3r;obtain⟨Z,hZ⟩:∃Z,nr .u64 5 (λ_=>0)=Z:=⟨_,rfl⟩;obtain⟨F,hF⟩:∃F,nr .u64 5 (λi=>if i=0 then 5 else 0)=F:=⟨_,rfl⟩;obtain⟨V,hV⟩:∃V,V5 S=V:=⟨_,rfl⟩;have hVb:V<2^170:=by
  have:=f0b S 1801439850948198400 hS;rw[hV]at this;exact Nat.lt_of_le_of_lt this (by decide)
 --the number ahead of the last choice
 obtain⟨o1,ho1⟩:∃o1,V/2^130=o1:=⟨_,rfl⟩;have ho1b:o1<2^40:=by
  rw[<-ho1,Nat.div_lt_iff_lt_mul (by decide),<-Nat.pow_add];exact hVb
 obtain⟨T2,hT2⟩:∃T2:Nat->Nat,(λi=>if i=0 then dg 26 V i+o1*5 else dg 26 V i)=T2:=⟨_,rfl⟩;have hT2b:∀i,i<5->T2 i<9007199254740992:=by
  intro i hi;have h1:=a2k 26 V i;rw[<-hT2];show(if i=0 then dg 26 V i+o1*5 else dg 26 V i)<_
  split<;>omega
 have hV2:V5 T2=V%2^130+V/2^130*5:=by
  rw[<-hT2,e1p V _ (λ_ _=>trivial),ho1]
 obtain⟨o2,ho2⟩:∃o2,(V5 T2+5)/2^130=o2:=⟨_,rfl⟩;have dK:=settle V (V5 T2) o2 hV2 hVb ho2.symm;have hV2b:V5 T2<2^160:=by
  have:=f0b T2 9007199254740992 (λi hi=>Nat.le_of_lt (hT2b i hi));exact Nat.lt_of_le_of_lt this (by decide)
 have ho2b:o2<2^40:=by
  rw[<-ho2,Nat.div_lt_iff_lt_mul (by decide),<-Nat.pow_add];exact Nat.lt_of_lt_of_le (Nat.add_lt_add_right hV2b 5) (by decide)
 obtain⟨T3,hT3⟩:∃T3:Nat->Nat,(λi=>if i=0 then T2 i+o2*5 else T2 i)=T3:=⟨_,rfl⟩;have hT3b:∀i,i<5->T3 i<9223372036854775808:=by
  intro i hi;have h1:=hT2b i hi;rw[<-hT3];show(if i=0 then T2 i+o2*5 else T2 i)<_
  split<;>omega
 have hV3:V5 T3=V5 T2+o2*5:=by rw[<-hT3,d6o _ 0 _ (by omega)];simp
 have c1:=λw=>a6c S (λi hi=>Nat.lt_of_le_of_lt (hS i hi) (by decide)) w;rw[hV,show ov S 5=o1 from by rw[<-ho1,<-hV];rfl]at c1;have c2:=λw=>b6t T2 (λi=>if i=0 then 5 else 0) (λi hi=>by have:=hT2b i hi;show T2 i+(if i=0 then 5 else 0)<_;split<;>omega) w;have c3:=λw=>a6c (λi=>T2 i+(if i=0 then 5 else 0)) (λi hi=>by have:=hT2b i hi;show T2 i+(if i=0 then 5 else 0)<_;split<;>omega) w;have hV4:V5 (λi=>T2 i+(if i=0 then 5 else 0))=V5 T2+5:=by
  rw[d6q];congr 1
 rw[hV4,show ov (λi=>T2 i+(if i=0 then 5 else 0)) 5=o2 from by rw[<-ho2,<-hV4];rfl]at c3;have c4:=λw=>a6c T3 hT3b w;have bZ:nr .u64 5 (dg 26 (V5 T3))=nr .u64 5 (dg 26 (V%pP)):=by
  apply a0t;intro i hi;rw[<-e2s (V5 T3) i hi,hV3,dK]
 rw[bZ]at c4;rw[hF]at c2;rw[hV]
 --the rows
 obtain⟨Y,hY⟩:∃Y,nr .u64 5 S=Y:=⟨_,rfl⟩;obtain⟨Y1,hY1⟩:∃Y1,nr .u64 5 (dg 26 V)=Y1:=⟨_,rfl⟩;obtain⟨Y2,hY2⟩:∃Y2,nr .u64 5 T2=Y2:=⟨_,rfl⟩;obtain⟨Y3,hY3⟩:∃Y3,nr .u64 5 T3=Y3:=⟨_,rfl⟩;obtain⟨X,hX⟩:∃X,nr .u64 5 (λi=>T2 i+(if i=0 then 5 else 0))=X:=⟨_,rfl⟩;obtain⟨X1,hX1⟩:∃X1,nr .u64 5 (dg 26 (V5 T2+5))=X1:=⟨_,rfl⟩;obtain⟨U,hU⟩:∃U,nr .u64 5 (dg 26 (V%pP))=U:=⟨_,rfl⟩;rw[hY]at c1;rw[hY1]at c1;rw[hY2,hX]at c2;rw[hX,hX1]at c3;rw[hY3,hU]at c4;rw[hY,hU];rw[hZ]at aI;have lY1:Y1.length=5:=by rw[<-hY1,a0k]
 have lY:Y.length=5:=by rw[<-hY,a0k]
 have lY2:Y2.length=5:=by rw[<-hY2,a0k]
 have lY3:Y3.length=5:=by rw[<-hY3,a0k]
 have lU:U.length=5:=by rw[<-hU,a0k]
 have lZ:Z.length=5:=by rw[<-hZ,a0k]
 have oY1:∀v∈Y1,v.oneCell'=true:=by rw[<-hY1];exact a4j _ _ _
 have oU:∀v∈U,v.oneCell'=true:=by rw[<-hU];exact a4j _ _ _
 have hZn:(Z=[])=False:=by
  apply eq_false;intro e;rw[e]at lZ
  cases lZ
 have hZF:Z.set 0 (.int .u64 5)=F:=by
  rw[<-hZ,<-hF];exact a4i .u64 5 _ 0 5
 have s1:Y1.set 0 (.int .u64 ((dg 26 V 0+o1*5:Nat):Int))=Y2:=by
  rw[<-hY1,a4i,<-hY2,<-hT2];exact a0t _ _ _ _ (λi _=>by
   show(if i=0 then dg 26 V 0+o1*5 else dg 26 V i)=if i=0 then dg 26 V i+o1*5 else dg 26 V i
   split
   ·rename_i h;rw[h]
   ·rfl)
 have s2:Y2.set 0 (.int .u64 ((T2 0+o2*5:Nat):Int))=Y3:=by
  rw[<-hY2,a4i,<-hY3,<-hT3];exact a0t _ _ _ _ (λi _=>by
   show(if i=0 then T2 0+o2*5 else T2 i)=if i=0 then T2 i+o2*5 else T2 i
   split
   ·rename_i h;rw[h]
   ·rfl)
 have g1:Y1[0]?=some (.int .u64 ((dg 26 V 0:Nat):Int)):=by rw[<-hY1];exact a3c _ _ _ 0 (by omega)
 have g2:Y2[0]?=some (.int .u64 ((T2 0:Nat):Int)):=by rw[<-hY2];exact a3c _ _ _ 0 (by omega)
 have b1:=a2k 26 V 0;have b2:=hT2b 0 (by omega);clear hZ hF hY hY1 hY2 hY3 hX hX1 hU hT2 hT3 dK hV2 hV3 hV4 bZ hV2b hT2b hT3b hS hVb ho1 ho2 hV;generalize dg 26 V 0=x1 at*;generalize T2 0=x2 at*;generalize ov T3 5=o3 at*;have p1:x1<67108864:=b1;have p2:o1<1099511627776:=ho1b;have p3:o2<1099511627776:=ho2b;clear b1 ho1b ho2b;have hA0:Blk ((w.alloc (.cells Y.toArray 282)).alloc (.cells Z.toArray 282)) w.heap.size 282 Y:=(Blk.box w 282 Y).alloc _;have hB0:Blk ((w.alloc (.cells Y.toArray 282)).alloc (.cells Z.toArray 282)) (w.heap.size+1) 282 Z:=by
  have:=Blk.box (w.alloc (.cells Y.toArray 282)) 282 Z;simpa using this
 have hl0:Below w.heap.size w ((w.alloc (.cells Y.toArray 282)).alloc (.cells Z.toArray 282)):=((qw _ w).alloc (ql _) _).alloc (by simp) _;go_enter func207,ntmps207;go_wp2_with(refine a0a rfl 282 _ rfl w.heap.size rfl 282 Y _ hA0 underlying282 rfl (by rw[size282,lY]) ?_);generalize(w.alloc (.cells Y.toArray 282)).alloc (.cells Z.toArray 282)=w0 at hA0 hB0 hl0⊢;obtain⟨g,y5⟩:∃g,w.heap.size=g:=⟨_,rfl⟩;rw[y5]at hA0 hB0 hl0⊢;have HG:Hid (w.heap.size=g):=y5;clear y5;have hg0:g<=w0.heap.size:=Nat.le_of_lt hA0.lt;have HC:Hid (∀w,Calls prog 237 #[Value.agg Y3.toArray] w λe w'=>e=Ending.returned (Value.tuple #[Value.agg U.toArray,Value.int IntKind.u64 ((o3:Nat):Int)])/\Below w.heap.size w w'):=c4;have HC3:Hid (∀w,Calls prog 237 #[Value.agg X.toArray] w λe w'=>e=Ending.returned (Value.tuple #[Value.agg X1.toArray,Value.int IntKind.u64 ((o2:Nat):Int)])/\Below w.heap.size w w'):=c3;clear c4 c3;refine(c1 w0).mono ?_;rintro e w1 ⟨rfl,hb1⟩;have hA1:Blk w1 g 282 Y:=hA0.below hb1 hA0.lt;have hB1:Blk w1 (g+1) 282 Z:=hB0.below hb1 hB0.lt;have hl1:Below g w w1:=hl0.trans (hb1.mono hg0);clear hA0 hB0 hl0 hb1 c1;have hA2:Blk (w1.setRow g Y1.toArray) g 282 Y1:=hA1.setRow;have cA2:=hA2.cell g1;have fA2:=hA2.frozen 0;have hA3:Blk ((w1.setRow g Y1.toArray).setCell ⟨g,0,none⟩ (.int .u64 ((x1:Int)+(o1:Int)*5))) g 282 Y2:=by rw[<-s1];exact hA2.setCell 0 _
 have hB3:Blk ((w1.setRow g Y1.toArray).setCell ⟨g,0,none⟩ (.int .u64 ((x1:Int)+(o1:Int)*5))) (g+1) 282 Z:=(hB1.setRowOther (by omega) _).setOther (by omega) _ _;have hl3:Below g w ((w1.setRow g Y1.toArray).setCell ⟨g,0,none⟩ (.int .u64 ((x1:Int)+(o1:Int)*5))):=(below_setRow hl1 (ql _) _).setCell (ql _) _;go_wp2_with(first|(refine a0b rfl 282 _ _ rfl g Y Y1 rfl rfl 282 hA1 (by rw[size282,lY1]) (by rw[lY,lY1]) oY1 ?_)|(refine a0a rfl 282 _ rfl g rfl 282 Y2 _ hA3 underlying282 rfl (by rw[size282,lY2]) ?_));clear hA2 cA2 fA2 hA1 hB1 hl1;generalize((w1.setRow g Y1.toArray).setCell ⟨g,0,none⟩ (.int .u64 ((x1:Int)+(o1:Int)*5)))=w2 at hA3 hB3 hl3⊢;have hg2:g<=w2.heap.size:=Nat.le_of_lt hA3.lt;refine(c2 w2).mono ?_;rintro e w3 ⟨rfl,hb3⟩;have hA4:Blk w3 g 282 Y2:=hA3.below hb3 hA3.lt;have hB4:Blk w3 (g+1) 282 Z:=hB3.below hb3 hB3.lt;have hl4:Below g w w3:=hl3.trans (hb3.mono hg2);have hg3:g<=w3.heap.size:=Nat.le_of_lt hA4.lt;clear hA3 hB3 hl3 hb3 c2;go_wp2_with fail;refine(HC3.out w3).mono ?_;rintro e w4 ⟨rfl,hb4⟩;have hA5:Blk w4 g 282 Y2:=hA4.below hb4 hA4.lt;have hB5:Blk w4 (g+1) 282 Z:=hB4.below hb4 hB4.lt;have hl5:Below g w w4:=hl4.trans (hb4.mono hg3);clear hA4 hB4 hl4 hb4 HC3;have cA5:=hA5.cell g2;have fA5:=hA5.frozen 0;have hA6:Blk (w4.setCell ⟨g,0,none⟩ (.int .u64 ((x2:Int)+(o2:Int)*5))) g 282 Y3:=by rw[<-s2];exact hA5.setCell 0 _
 have hB6:Blk (w4.setCell ⟨g,0,none⟩ (.int .u64 ((x2:Int)+(o2:Int)*5))) (g+1) 282 Z:=hB5.setOther (by omega) _ _;have hl6:Below g w (w4.setCell ⟨g,0,none⟩ (.int .u64 ((x2:Int)+(o2:Int)*5))):=hl5.setCell (ql _) _;go_wp2_with(refine a0a rfl 282 _ rfl g rfl 282 Y3 _ hA6 underlying282 rfl (by rw[size282,lY3]) ?_);clear hA5 cA5 fA5 hB5 hl5;generalize(w4.setCell ⟨g,0,none⟩ (.int .u64 ((x2:Int)+(o2:Int)*5)))=w5 at hA6 hB6 hl6⊢;have hg5:g<=w5.heap.size:=Nat.le_of_lt hA6.lt;refine(HC.out w5).mono ?_;rintro e w6 ⟨rfl,hb6⟩;have hA7:Blk w6 g 282 Y3:=hA6.below hb6 hA6.lt;have hB7:Blk w6 (g+1) 282 Z:=hB6.below hb6 hB6.lt;have hl7:Below g w w6:=hl6.trans (hb6.mono hg5);clear hA6 hB6 hl6 hb6 HC;have hA8:Blk (w6.setRow g U.toArray) g 282 U:=hA7.setRow;have hB8:Blk (w6.setRow g U.toArray) (g+1) 282 Z:=hB7.setRowOther (by omega) _;have hR:=b3v (hB8.setRow (M:=U)) lU;have hl9:Below g w ((w6.setRow g U.toArray).setRow (g+1) U.toArray):=below_setRow (below_setRow hl7 (ql _) _) (by omega) _;go_wp2_with(first|(refine a0b rfl 282 _ _ rfl g Y3 U rfl rfl 282 hA7 (by rw[size282,lU]) (by rw[lY3,lU]) oU ?_)|(refine a0a rfl 282 _ rfl g rfl 282 U _ hA8 underlying282 rfl (by rw[size282,lU]) ?_)|(refine a0b rfl 282 _ _ rfl (g+1) Z U rfl rfl 282 hB8 (by rw[size282,lU]) (by rw[lZ,lU]) oU ?_));refine bodyPost_ret_by (v:=.agg U.toArray) (a1a 2 282 ⟨g+1,0,none⟩ results207 rfl hR) rfl ⟨rfl,?_⟩;rw[HG.out];exact hl9
def bn (s:BA)(i:Nat):Nat:=(bt s i).toNat
theorem b1w (s:BA)(i:Nat):bn s i<2^8:=by
 have:=bt_nonneg s i;have:=bt_le s i;unfold bn;show _<256;omega
theorem a7u (s:BA)(i:Nat):((bn s i:Nat):Int)=bt s i:=by
 have:=bt_nonneg s i;unfold bn;omega
def nt (s:BA):Nat:=num 8 (bn s) s.size
theorem e4w (s:BA):nt s<2^(8*s.size):=d3b 8 _ _ λi _=>b1w s i
theorem b0a (s:BA)(i:Nat)(h:s.size<=i):bt s i=0:=by
 unfold bt;rw[dif_neg (by omega)]
theorem c4l (s:BA)(i:Nat):dg 8 (nt s) i=bn s i:=by
 rw[nt,e9e 8 _ _ _ λj _=>b1w s j]
 split
 ·rfl
 ·rename_i h
  unfold bn;rw[b0a s i (by omega)];rfl
def leL (N n:Nat):List Int:=(List.range n).map λi=>((dg 8 N i:Nat):Int)
def leB (N n:Nat):BA:=strOfNums (leL N n)
theorem a2l (N n:Nat):(leB N n).size=n:=by simp[leB,leL,strOfNums_size]
theorem d3t (N n:Nat):∀x∈leL N n,0<=x/\x<=255:=by
 intro x hx;obtain⟨i,_,rfl⟩:=List.mem_map.1 hx;have:=a2k 8 N i;have e:(2:Nat)^8=256:=rfl;omega
theorem b5u (N n i:Nat)(h:i<n):bt (leB N n) i=((dg 8 N i:Nat):Int):=by
 unfold leB;rw[a3q _ (d3t N n) i (by simpa[leL]using h)];simp[leL]
theorem d3u (N M n:Nat)(h:N%2^(8*n)=M%2^(8*n)):leB N n=leB M n:=by
 apply a2q
 ·rw[a2l,a2l]
 ·intro i hi;rw[a2l]at hi;have e:∀X:Nat,dg 8 X i=dg 8 (X%2^(8*n)) i:=by
   intro X;apply Nat.eq_of_testBit_eq;intro b;rw[a4y,a4y,Nat.testBit_mod_two_pow];by_cases h:b<8
   ·rw[show decide (8*i+b<8*n)=true by simp;omega];simp
   ·simp[h]
  rw[b5u _ _ i hi,b5u _ _ i hi,e N,e M,h]
theorem d0k (N j:Nat):le4 ((dg 8 N (j*4):Nat):Int) ((dg 8 N (j*4+1):Nat):Int) ((dg 8 N (j*4+2):Nat):Int) ((dg 8 N (j*4+3):Nat):Int)=((dg 32 N j:Nat):Int):=by
 have s0:N/2^(8*(j*4))=dg 8 N (j*4)+2^8*(N/2^(8*(j*4+1))):=a6w 8 N (j*4);have s1:N/2^(8*(j*4+1))=dg 8 N (j*4+1)+2^8*(N/2^(8*(j*4+2))):=a6w 8 N (j*4+1);have s2:N/2^(8*(j*4+2))=dg 8 N (j*4+2)+2^8*(N/2^(8*(j*4+3))):=a6w 8 N (j*4+2);have s3:N/2^(8*(j*4+3))=dg 8 N (j*4+3)+2^8*(N/2^(8*(j*4+4))):=a6w 8 N (j*4+3);have l0:=a2k 8 N (j*4);have l1:=a2k 8 N (j*4+1);have l2:=a2k 8 N (j*4+2);have l3:=a2k 8 N (j*4+3);have e:dg 32 N j=N/2^(8*(j*4))%2^32:=by rw[dg,show 32*j=8*(j*4) by omega]
 rw[e];unfold le4;simp only[show(2:Nat)^8=256 from rfl,show(2:Nat)^32=4294967296 from rfl]at*;generalize N/2^(8*(j*4))=X at*;omega
theorem e5u (N j:Nat):four ((dg 32 N j:Nat):Int)=[((dg 8 N (4*j):Nat):Int),((dg 8 N (4*j+1):Nat):Int),((dg 8 N (4*j+2):Nat):Int),((dg 8 N (4*j+3):Nat):Int)]:=by
 have h:=d0k N j;rw[Nat.mul_comm j 4]at h;have l0:=a2k 8 N (4*j);have l1:=a2k 8 N (4*j+1);have l2:=a2k 8 N (4*j+2);have l3:=a2k 8 N (4*j+3);rw[<-h];unfold le4 four;simp only[show(2:Nat)^8=256 from rfl]at*;generalize dg 8 N (4*j)=a at*;generalize dg 8 N (4*j+1)=b at*;generalize dg 8 N (4*j+2)=c at*;generalize dg 8 N (4*j+3)=d at*;congr 1
 ·omega
 congr 1
 ·omega
 congr 1
 ·omega
 congr 1
 ·omega
theorem c4b (N n:Nat):a1x four (λj=>((dg 32 N j:Nat):Int)) n=leL N (4*n):=by
 induction n with
 |zero=>rfl
 |succ n ih=>
  rw[a1y,ih,e5u];unfold leL;rw[show 4*(n+1)=4*n+1+1+1+1 by omega,List.range_succ,List.range_succ,List.range_succ,List.range_succ];simp
theorem e4n (N k q sh:Nat)(hq:26*k/32=q)(hs:26*k%32=sh):((dg 32 N q|||dg 32 N (q+1)*2^32)/2^sh)%2^26=dg 26 N k:=by
 apply Nat.eq_of_testBit_eq;intro b;have e:26*k=32*q+sh:=by omega
 have gK:sh<32:=by omega
 rw[a4y,Nat.testBit_mod_two_pow,Nat.testBit_div_two_pow,Nat.testBit_or,a4y,Nat.mul_comm _ (2^32),Nat.testBit_two_pow_mul,a4y];by_cases hb:b<26
 ·by_cases h2:b+sh<32
  ·have h3:¬(32<=b+sh):=(by omega);simp only[hb,h2,h3,decide_true,decide_false,Bool.true_and,Bool.false_and,Bool.or_false];congr 1;omega
  ·have h3:32<=b+sh:=(by omega);have h4:b+sh-32<32:=(by omega);simp only[hb,h2,h3,h4,decide_true,decide_false,Bool.true_and,Bool.false_and,Bool.false_or];congr 1;omega
 ·simp[hb]
def wd (N k j:Nat):Nat:=dg 32 (N%2^(26*k)) j
theorem b0l (N k j b:Nat):(wd N k j).testBit b=(decide (b<32)&&(decide (32*j+b<26*k)&&N.testBit (32*j+b))):=by
 rw[wd,a4y,Nat.testBit_mod_two_pow]
theorem d6z (N k j q:Nat)(hk:k<5)(hq:26*k/32=q)(h1:j≠q)(h2:j≠q+1):wd N (k+1) j=wd N k j:=by
 apply Nat.eq_of_testBit_eq;intro b;rw[b0l,b0l];by_cases hb:b<32
 ·have h:32*j+b<26*(k+1)↔32*j+b<26*k:=by omega
  simp[hb,h]
 ·simp[hb]
theorem e6x (N k q sh:Nat)(hk:k<5)(hq:26*k/32=q)(hs:26*k%32=sh):wd N k q|||dg 26 N k*2^sh%2^32=wd N (k+1) q:=by
 apply Nat.eq_of_testBit_eq;intro b;rw[Nat.testBit_or,b0l,b0l,Nat.testBit_mod_two_pow,Nat.mul_comm _ (2^sh),Nat.testBit_two_pow_mul,a4y];by_cases hb:b<32
 ·by_cases h1:32*q+b<26*k
  ·have h2:32*q+b<26*(k+1):=(by omega);have h3:¬(sh<=b):=(by omega);simp[hb,h1,h2,h3]
  ·have h3:sh<=b:=(by omega);by_cases h4:b-sh<26
   ·have h2:32*q+b<26*(k+1):=(by omega);have e:26*k+(b-sh)=32*q+b:=(by omega);simp[hb,h1,h2,h3,h4,e]
   ·have h2:¬(32*q+b<26*(k+1)):=(by omega);simp[hb,h1,h2,h3,h4]
 ·simp[hb]
theorem e3k (N k q sh:Nat)(hk:k<5)(hq:26*k/32=q)(hs:26*k%32=sh):wd N k (q+1)|||dg 26 N k*2^sh/2^32=wd N (k+1) (q+1):=by
 apply Nat.eq_of_testBit_eq;intro b;rw[Nat.testBit_or,b0l,b0l,Nat.testBit_div_two_pow,Nat.mul_comm _ (2^sh),Nat.testBit_two_pow_mul,a4y];have h1:¬(32*(q+1)+b<26*k):=by omega
 have h3:sh<=b+32:=by omega
 by_cases h4:b+32-sh<26
 ·have h2:32*(q+1)+b<26*(k+1):=by omega
  have hb:b<32:=by omega
  have e:26*k+(b+32-sh)=32*(q+1)+b:=by omega
  simp[hb,h1,h2,h3,h4,e]
 ·have h2:¬(32*(q+1)+b<26*(k+1)):=by omega
  simp[h1,h2,h3,h4]
theorem e3j (N j:Nat):wd N 0 j=0:=by simp[wd,Nat.mod_one,b7s]
theorem e6y (N j:Nat)(h:N<2^130):wd N 5 j=dg 32 N j:=by rw[wd,Nat.mod_eq_of_lt (by simpa using h)]
theorem e6w (N k j:Nat):wd N k j<2^32:=a2k 32 _ _
theorem zero316:(prog.info? 316).map (λi=>i.zero)=some (some (.agg (nr .u32 5 (λ_=>0)).toArray)):=by kernel_rfl
theorem c1l (w:World):(zeroValue 316).run prog w=.ok (.agg (nr .u32 5 (λ_=>0)).toArray) w:=by
 obtain⟨i,hi,hz⟩:=Option.map_eq_some_iff.1 zero316;simp[zeroValue,typeInfo,hi,hz]
theorem c9b (S:Nat->Nat)(hS:∀i,i<5->S i<9223372036854775808)(w:World):
 Calls prog 210 #[.agg (nr .u64 5 S).toArray] w λe w'=>e=.returned (.string (leB (V5 S) 16))/\Below w.heap.size w w':=by
 have aI:=c1l;have c1:=λw=>a6c S hS w;obtain⟨M,hM⟩:∃M,V5 S%2^130=M:=⟨_,rfl⟩;have tW:M<2^130:=by rw[<-hM];exact Nat.mod_lt _ (by decide)
 have x9:nr .u64 5 (dg 26 (V5 S))=nr .u64 5 (dg 26 M):=a0t _ _ _ _ (λi hi=>by rw[<-hM,e2s _ i hi]);have HL:Hid (leB (V5 S) 16=leB M 16):=by
  apply d3u;rw[<-hM,Nat.mod_mod_of_dvd _ (by decide)]
 rw[x9]at c1;have cJ:=λw i=>c5y w (dg 26 M) i;obtain⟨Z,hZ⟩:∃Z,nr .u32 5 (λ_=>0)=Z:=⟨_,rfl⟩;obtain⟨Y,hY⟩:∃Y,nr .u64 5 S=Y:=⟨_,rfl⟩;obtain⟨U,hU⟩:∃U,nr .u64 5 (dg 26 M)=U:=⟨_,rfl⟩;rw[hZ]at aI;rw[hY,hU]at c1;rw[hY];rw[hU]at cJ;have lY:Y.length=5:=by rw[<-hY,a0k]
 have lU:U.length=5:=by rw[<-hU,a0k]
 have oU:∀v∈U,v.oneCell'=true:=by rw[<-hU];exact a4j _ _ _
 have PZ:Hid (nr .u32 5 (wd M 0)=Z):=by rw[<-hZ];exact a0t _ _ _ _ (λi _=>e3j M i)
 have fT:Hid (∀(w:World) (i:Nat),i<5->(Instr.index 282 (.agg U.toArray) (.int .i64 (i:Int))).run prog w=.ok (.int .u64 ((dg 26 M i:Nat):Int)) w):=cJ;have HMb:Hid (M<2^130):=tW;generalize ov S 5=o1 at c1;clear hZ hY hU cJ x9 hM hS tW;have hA0:Blk (w.alloc (.cells Y.toArray 282)) w.heap.size 282 Y:=Blk.box w 282 Y;have hl0:Below w.heap.size w (w.alloc (.cells Y.toArray 282)):=(qw _ w).alloc (ql _) _;go_enter func210,ntmps210;go_wp2_with(refine a0a rfl 282 _ rfl w.heap.size rfl 282 Y _ hA0 underlying282 rfl (by rw[size282,lY]) ?_);refine(c1 _).mono ?_;rintro e w1 ⟨rfl,hb1⟩;have hA1:=hA0.below hb1 hA0.lt;have hl1:=hl0.trans (hb1.mono (Nat.le_of_lt hA0.lt));clear hA0 hl0 hb1 c1;obtain⟨g,y5⟩:∃g,w.heap.size=g:=⟨_,rfl⟩;rw[y5]at hA1 hl1⊢;have HG:Hid (w.heap.size=g):=y5;clear y5;have hA2:Blk ((w1.setRow g U.toArray).alloc (.cells Z.toArray 316)) g 282 U:=(hA1.setRow (M:=U)).alloc _;have aA:(w1.setRow g U.toArray).heap.size=w1.heap.size:=by simp[World.setRow]
 have hC2:Blk ((w1.setRow g U.toArray).alloc (.cells Z.toArray 316)) w1.heap.size 316 Z:=by
  have:=Blk.box (w1.setRow g U.toArray) 316 Z;rw[aA]at this;exact this
 have hl2:Below g w ((w1.setRow g U.toArray).alloc (.cells Z.toArray 316)):=(below_setRow hl1 (ql _) _).alloc (by have:=(hA1.setRow (M:=U)).lt;omega) _;have hgh:g<w1.heap.size:=hA1.lt;clear aA;go_wp2_with(first|(refine a0b rfl 282 _ _ rfl g Y U rfl rfl 282 hA1 (by rw[size282,lU]) (by rw[lY,lU]) oU ?_)|(refine a0a rfl 282 _ rfl g rfl 282 U _ hA2 underlying282 rfl (by rw[size282,lU]) ?_));generalize(w1.setRow g U.toArray).alloc (.cells Z.toArray 316)=w2 at hA2 hC2 hl2⊢;obtain⟨h,hhd⟩:∃h,w1.heap.size=h:=⟨_,rfl⟩;rw[hhd]at hC2 hgh⊢;clear hhd hA1 hl1 aI hA2;rw[<-PZ.out]at hC2;clear PZ;go_loopw[14] (λv wr=>∃k:Nat,k<=5/\v=.int .i64 k/\Blk wr h 316 (nr .u32 5 (wd M k))/\Below g w wr) (λv _=>(5-intOf v).toNat)
 case atStart=>exact⟨0,by omega,rfl,hC2,hl2⟩
 case round=>
  clear hC2 hl2;obtain⟨k,hk,rfl,hC,hl⟩:=hrel;by_cases p9:k<5
  ·have aT:(k:Int)<5:=(by omega);have hi:=λw=>fT.out w k p9;obtain⟨q,hq⟩:∃q:Nat,26*k/32=q:=⟨_,rfl⟩;obtain⟨sh,hs⟩:∃sh:Nat,26*k%32=sh:=⟨_,rfl⟩;have eq1:(k:Int)*26/32=(q:Int):=(by omega);have es1:(k:Int)*26%32=(sh:Int):=(by omega);have hq4:q<4:=(by omega);have hs32:sh<32:=(by omega);have w1:=e6x M k q sh p9 hq hs;have w2:=e3k M k q sh p9 hq hs;have w3:=λj=>d6z M k j q p9 hq;have cl:=hC.cell (a3c .u32 5 (wd M k) q (by omega));have ch:=hC.cell (a3c .u32 5 (wd M k) (q+1) (by omega));have fl:=hC.frozen q;have hp:=a2k 26 M k;have b0:=e6w M k q;have b1:=e6w M k (q+1);have fh:=hC.frozen (q+1);obtain⟨P,hP⟩:∃P:Nat,dg 26 M k*2^sh=P:=⟨_,rfl⟩;have hPb:P<288230376151711744:=by
    rw[<-hP];have h2:2^sh<=2^31:=Nat.pow_le_pow_right (by omega) (by omega);have:=Nat.mul_lt_mul_of_lt_of_le hp h2 (by decide);exact Nat.lt_of_lt_of_le this (by decide)
   have hw:IntKind.u64.wrap (((dg 26 M k:Nat):Int)*2^sh)=(P:Int):=by
    rw[show((dg 26 M k:Nat):Int)*2^sh=((dg 26 M k*2^sh:Nat):Int) by simp,hP,IntWalk.u64_in _ ⟨by omega,by omega⟩]
   rw[hP]at w1 w2;have e1:bits .or .u32 ((wd M k q:Nat):Int) ((P:Int)%4294967296)=((wd M (k+1) q:Nat):Int):=by
    rw[<-w1,<-u32_or_nat _ _ b0 (Nat.mod_lt _ (by decide))];congr 1
   have e2:bits .or .u32 ((wd M k (q+1):Nat):Int) ((P:Int)/4294967296)=((wd M (k+1) (q+1):Nat):Int):=by
    rw[<-w2,<-u32_or_nat _ _ b1 (by show P/4294967296<4294967296;omega)];congr 1
   have hC2:Hid (Blk ((wr.setCell ⟨h,q,none⟩ (.int .u32 ((wd M (k+1) q:Nat):Int))).setCell ⟨h,q+1,none⟩ (.int .u32 ((wd M (k+1) (q+1):Nat):Int))) h 316 (nr .u32 5 (wd M (k+1)))):=by
    have hh:=(hC.setCell q (.int .u32 ((wd M (k+1) q:Nat):Int))).setCell (q+1) (.int .u32 ((wd M (k+1) (q+1):Nat):Int));rw[a4i,a4i]at hh;rw[a0t .u32 5 (wd M (k+1)) (λi=>if i=q+1 then wd M (k+1) (q+1)else if i=q then wd M (k+1) q else wd M k i) ?_]
    ·exact hh
    ·intro i _;show wd M (k+1) i=if i=q+1 then wd M (k+1) (q+1)else if i=q then wd M (k+1) q else wd M k i;by_cases h1:i=q+1
     ·rw[qp h1,h1]
     ·rw[qn h1];by_cases h2:i=q
      ·rw[qp h2,h2]
      ·rw[qn h2,w3 i h2 h1]
   have hl2:Hid (Below g w ((wr.setCell ⟨h,q,none⟩ (.int .u32 ((wd M (k+1) q:Nat):Int))).setCell ⟨h,q+1,none⟩ (.int .u32 ((wd M (k+1) (q+1):Nat):Int)))):=(hl.setCell (Nat.le_of_lt hgh) _).setCell (Nat.le_of_lt hgh) _;clear hC hl w1 w2 w3 hP hp b0 b1 hq hs;generalize dg 26 M k=p at*;generalize wd M k q=y0 at*;generalize wd M k (q+1)=y1 at*;generalize wd M (k+1) q=z0 at*;generalize wd M (k+1) (q+1)=z1 at*;go_wp2_with fail;exact⟨⟨k+1,by omega,by go_num,hC2.out,hl2.out⟩,by simp[intOf];omega⟩
  ·have hk5:k=5:=(by omega);subst hk5;rw[show((5:Nat):Int)=(5:Int)from rfl];have bM:At wr (some ⟨h,0,none⟩) 5 (λj=>((dg 32 M j:Nat):Int)):=.inr ⟨h,0,rfl,λi hi=>by
    show wr.cell? ⟨h,0+i,none⟩=some (.int .u32 ((dg 32 M i:Nat):Int));rw[Nat.zero_add,<-e6y M i HMb.out];exact hC.cell (a3c .u32 5 _ i hi)⟩
   have x8:=a3w (some ⟨h,0,none⟩) 5 5 (λj=>((dg 32 M j:Nat):Int)) wr (by omega) bM (λi _=>by have:=a2k 32 M i;show 0<=((dg 32 M i:Nat):Int)/\((dg 32 M i:Nat):Int)<4294967296;rw[show(2:Nat)^32=4294967296 from rfl]at this;omega);rw[c4b M 5,show strOfNums (leL M (4*5))=leB M 20 from rfl]at x8;have h20:(leB M 20).size=20:=a2l M 20;have HE:Hid ((leB M 20).extract 0 16=leB M 16):=by
    apply a2q
    ·rw[ByteArray.size_extract,a2l,a2l];rfl
    ·intro i hi;rw[ByteArray.size_extract,a2l]at hi;rw[a2w _ 0 16 i (by rw[a2l];decide) (by omega),b5u _ _ _ (by omega),b5u _ _ _ (by omega),Nat.zero_add]
   have aY:g<=wr.heap.size:=(by have:=hC.lt;omega);generalize leB M 20=R at*;clear bM hC fT;go_wp2_with(go_at_call 203;refine x8.mono ?_;rintro e w5 ⟨rfl,hb5⟩);go_ret;refine⟨by rw[HE.out,HL.out];rfl,?_⟩;rw[HG.out];exact hl.trans (hb5.mono aY)
theorem c6t (s:BA)(c i:Nat):bt (s++strOfNums (List.replicate c 0)) i=bt s i:=by
 by_cases h:i<s.size
 ·exact a1q _ _ _ h
 ·rw[a1o _ _ _ (by omega),b0a s i (by omega)];by_cases h2:i-s.size<c
  ·rw[a3q _ (by intro x hx;rw[List.eq_of_mem_replicate hx];decide) _ (by simpa using h2)];simp
  ·rw[b0a _ _ (by rw[strOfNums_size];simp;omega)]
theorem d0j (s:BA)(c j:Nat):a0h le4 (s++strOfNums (List.replicate c 0)) j=((dg 32 (nt s) j:Nat):Int):=by
 unfold a0h;rw[c6t,c6t,c6t,c6t,<-d0k,c4l,c4l,c4l,c4l,a7u,a7u,a7u,a7u]
theorem a6n (s:BA)(hs:s.size<=17)(w:World):
 Calls prog 206 #[.string s] w λe w'=>e=.returned (.agg (nr .u64 5 (dg 26 (nt s))).toArray)/\Below w.heap.size w w':=by
 have aI:=a3r;obtain⟨c,hc⟩:∃c,20-s.size=c:=⟨_,rfl⟩;have hcI:(20:Int)-(s.size:Int)=(c:Int):=by omega
 have rJ:=λw=>a5x c w (by omega);obtain⟨P,hP⟩:∃P,s++strOfNums (List.replicate c 0)=P:=⟨_,rfl⟩;have tV:P.size=20:=by rw[<-hP,ByteArray.size_append,strOfNums_size,List.length_replicate];omega
 have pI:=λw=>b3w P w (by omega) (by omega);rw[tV,show 20/4=5 from rfl]at pI;have HW:Hid (∀j,a0h le4 P j=((dg 32 (nt s) j:Nat):Int)):=λj=>by rw[<-hP];exact d0j s c j
 have uA:(strOfNums (List.replicate c 0)).size<=20:=by rw[strOfNums_size,List.length_replicate];omega
 generalize strOfNums (List.replicate c 0)=C at*;obtain⟨N,hN⟩:∃N,nt s=N:=⟨_,rfl⟩;rw[hN]at HW⊢;clear hN hc;obtain⟨Z,hZ⟩:∃Z,nr .u64 5 (λ_=>0)=Z:=⟨_,rfl⟩;rw[hZ]at aI;have lZ:Z.length=5:=by rw[<-hZ,a0k]
 have PZ:Hid (nr .u64 5 (λ_=>0)=Z):=hZ;clear hZ;have hA0:Blk (w.alloc (.cells Z.toArray 282)) w.heap.size 282 Z:=Blk.box w 282 Z;have hl0:Below w.heap.size w (w.alloc (.cells Z.toArray 282)):=(qw _ w).alloc (ql _) _;go_enter func206,ntmps206;go_wp2_with fail;generalize(w.alloc (.cells Z.toArray 282))=w0 at hA0 hl0⊢;refine(rJ w0).mono ?_;rintro e w1 ⟨rfl,hb1⟩;have hA1:=hA0.below hb1 hA0.lt;have hl1:=hl0.trans (hb1.mono (Nat.le_of_lt hA0.lt));clear hA0 hl0 hb1 rJ;go_wp2_with fail;refine(pI w1).mono ?_;rintro e w2 ⟨rfl,ho2,hb2⟩;have hA2:=hA1.below hb2 hA1.lt;have hl2:=hl1.trans (hb2.mono (Nat.le_of_lt hA1.lt));have aY:w1.heap.size<w2.heap.size:=a6b (ho2.cellAt 0 (by decide)|>.trans (by rfl));have aL:Hid (∀i,i<5->w2.cell? ⟨w1.heap.size,i,none⟩=some (.int .u32 ((dg 32 N i:Nat):Int))):=by
  intro i hi;rw[ho2.cellAt i (by omega)];simp[hi,HW.out]
 clear hA1 hl1 hb2 pI ho2 HW hP tV uA;obtain⟨g,y5⟩:∃g,w.heap.size=g:=⟨_,rfl⟩;rw[y5]at hA2 hl2⊢;have HG:Hid (w.heap.size=g):=y5;clear y5;generalize w1.heap.size=gl at*;have hA3:Blk (w2.alloc (.cells Z.toArray 282)) g 282 Z:=hA2.alloc _;have hB3:Blk (w2.alloc (.cells Z.toArray 282)) w2.heap.size 282 Z:=Blk.box w2 282 Z;have hl3:Below g w (w2.alloc (.cells Z.toArray 282)):=hl2.alloc (Nat.le_of_lt hA2.lt) _;have cV:g<w2.heap.size:=hA2.lt;have jY:Hid (∀i,i<5->(w2.alloc (.cells Z.toArray 282)).cell? ⟨gl,i,none⟩=some (.int .u32 ((dg 32 N i:Nat):Int))):=by
  intro i hi;rw[World.cell?_alloc_some _ _ _ (by rw[aL.out i hi];rfl)];exact aL.out i hi
 clear hA2 hl2 aL;go_wp2_with fail;generalize w2.heap.size=h at*;generalize w2.alloc (.cells Z.toArray 282)=w3 at*;rw[<-PZ.out]at hB3;go_loopw[19] (λv wr=>∃k:Nat,k<=5/\v=.int .i64 k/\Blk wr h 282 (nr .u64 5 (λi=>if i<k then dg 26 N i else 0))/\Below h w3 wr) (λv _=>(5-intOf v).toNat)
 case atStart=>exact⟨0,by omega,rfl,hB3,qw _ _⟩
 case round=>
  clear hB3;obtain⟨k,hk,rfl,hB,hl⟩:=hrel;by_cases p9:k<5
  ·have aT:(k:Int)<5:=(by omega);obtain⟨q,hq⟩:∃q:Nat,26*k/32=q:=⟨_,rfl⟩;obtain⟨sh,hs'⟩:∃sh:Nat,26*k%32=sh:=⟨_,rfl⟩;have eq1:(k:Int)*26/32=(q:Int):=(by omega);have es1:(k:Int)*26%32=(sh:Int):=(by omega);have hq4:q<4:=(by omega);have hq4':(q:Int)<4:=(by omega);have hs32:sh<32:=(by omega);have cl:wr.cell? ⟨gl,q,none⟩=some (.int .u32 ((dg 32 N q:Nat):Int)):=(hl.cell (p:=⟨gl,q,none⟩) aY).trans (jY.out q (by omega));have ch:wr.cell? ⟨gl,q+1,none⟩=some (.int .u32 ((dg 32 N (q+1):Nat):Int)):=(hl.cell (p:=⟨gl,q+1,none⟩) aY).trans (jY.out (q+1) (by omega));have b0:=a2k 32 N q;have b1:=a2k 32 N (q+1);rw[show(2:Nat)^32=4294967296 from rfl]at b0 b1;have pB:=e4n N k q sh hq hs';obtain⟨R,hR⟩:∃R,dg 32 N q|||dg 32 N (q+1)*2^32=R:=⟨_,rfl⟩;have tU:R<18446744073709551616:=by
    rw[<-hR];exact Nat.or_lt_two_pow (n:=64) (by rw[show(2:Nat)^64=18446744073709551616 from rfl];omega) (by rw[show(2:Nat)^64=18446744073709551616 from rfl,show(2:Nat)^32=4294967296 from rfl];omega)
   have eor:bits .or .u64 ((dg 32 N q:Nat):Int) (((dg 32 N (q+1):Nat):Int)*4294967296)=(R:Int):=by
    rw[<-hR,<-u64_or_nat _ _ (by omega) (by rw[show(2:Nat)^32=4294967296 from rfl];omega)];congr 1
   rw[hR]at pB;have hdv:R/2^sh<18446744073709551616:=Nat.lt_of_le_of_lt (Nat.div_le_self _ _) tU;have eand:bits .and .u64 ((R:Int)/2^sh) 67108863=((dg 26 N k:Nat):Int):=by
    rw[<-pB,<-e2m _ hdv];congr 1
   have fr:=hB.frozen k;have cn:wr.cell? ⟨h,k,none⟩=some (.int .u64 ((0:Nat):Int)):=by
    have:=hB.cell (a3c .u64 5 _ k p9);rw[qn (by omega)]at this;exact this
   have hB2:Hid (∀n,Blk ((wr.drewN n).setCell ⟨h,k,none⟩ (.int .u64 ((dg 26 N k:Nat):Int))) h 282 (nr .u64 5 (λi=>if i<k+1 then dg 26 N i else 0))):=by
    intro n;have hh:=(hB.drewN n).setCell k (.int .u64 ((dg 26 N k:Nat):Int));rw[a4i]at hh;rw[a0t .u64 5 (λi=>if i<k+1 then dg 26 N i else 0) (λi=>if i=k then dg 26 N k else if i<k then dg 26 N i else 0) ?_]
    ·exact hh
    ·intro i _;show(if i<k+1 then dg 26 N i else 0)=if i=k then dg 26 N k else if i<k then dg 26 N i else 0;by_cases h1:i=k
     ·subst h1;rw[qp (by omega),qp rfl]
     ·rw[qn h1];by_cases h2:i<k
      ·rw[qp h2,qp (by omega)]
      ·rw[qn h2,qn (by omega)]
   have hl2:Hid (∀n,Below h w3 ((wr.drewN n).setCell ⟨h,k,none⟩ (.int .u64 ((dg 26 N k:Nat):Int)))):=λn=>(below_drewN hl n).setCell (ql _) _;clear hB hl hR pB hq hs' hdv;generalize dg 32 N q=y0 at*;generalize dg 32 N (q+1)=y1 at*;generalize dg 26 N k=z at*;go_wp2_with fail
   go_quiet(fail)
   go_wp2_with fail;exact⟨⟨k+1,by omega,by go_num,hB2.out nq,hl2.out nq⟩,by simp[intOf];omega⟩
  ·have hk5:k=5:=(by omega);subst hk5;rw[show((5:Nat):Int)=(5:Int)from rfl];have hB':Blk wr h 282 (nr .u64 5 (dg 26 N)):=by
    rw[a0t .u64 5 (dg 26 N) (λi=>if i<5 then dg 26 N i else 0) (λi hi=>by rw[qp hi])];exact hB
   have hA4:Blk wr g 282 Z:=hA3.below hl cV;have hl4:Below g w wr:=hl3.trans (hl.mono (Nat.le_of_lt cV));obtain⟨U,hU⟩:∃U,nr .u64 5 (dg 26 N)=U:=⟨_,rfl⟩;have bO:U.length=5:=(by rw[<-hU,a0k]);have gF:∀v∈U,v.oneCell'=true:=(by rw[<-hU];exact a4j _ _ _);rw[hU]at hB';have HU:Hid (nr .u64 5 (dg 26 N)=U):=hU;have hR:=b3v (hA4.setRow (M:=U)) bO;have hl':Below g w (wr.setRow g U.toArray):=below_setRow hl4 (ql _) _;clear hB hl hU jY hA3 hl3 PZ;go_wp2_with(first|(refine a0a rfl 282 _ rfl h rfl 282 U _ hB' underlying282 rfl (by rw[size282,bO]) ?_)|(refine a0b rfl 282 _ _ rfl g Z U rfl rfl 282 hA4 (by rw[size282,bO]) (by rw[lZ,bO]) gF ?_));refine bodyPost_ret_by (v:=.agg U.toArray) (a1a 2 282 ⟨g,0,none⟩ results206 rfl hR) rfl ⟨by rw[HU.out],?_⟩;rw[HG.out];exact hl'
def cm (i:Nat):Nat:=if i%4=3 then 15 else if i%4=0/\0<i then 252 else 255
def cl (r:BA)(i:Nat):Nat:=bn r i&&&cm i
def clB (r:BA):BA:=strOfNums ((List.range 16).map λi=>((cl r i:Nat):Int))
def RB (w:World)(g n:Nat)(f:Nat->Nat):Prop:=g<w.heap.size/\∀i,i<n->w.cell? ⟨g,i,none⟩=some (.int .u8 ((f i:Nat):Int))/\w.frozen? ⟨g,i,none⟩=false
theorem RB.drew {w:World}{g n:Nat}{f:Nat->Nat}(h:RB w g n f):RB w.drew g n f:=h
theorem RB.set {w:World}{g n:Nat}{f:Nat->Nat}(h:RB w g n f)(i x:Nat)(hi:i<n):RB (w.setCell ⟨g,i,none⟩ (.int .u8 (x:Int))) g n (λj=>if j=i then x else f j):=by
 refine⟨by have:=h.1;simpa using this,λj hj=>⟨?_,?_⟩⟩
 ·show _=some (Value.int .u8 (((if j=i then x else f j):Nat):Int));by_cases e:j=i
  ·subst e;rw[qp rfl,World.cell?_setCell_same' _ ⟨g,j,none⟩ _ (by rw[(h.2 j hj).1];rfl)]
  ·rw[qn e,World.cell?_setCell_other _ _ _ _ (λh=>by cases h;exact e rfl)];exact(h.2 j hj).1
 ·rw[World.frozen?_setCell];exact(h.2 j hj).2
theorem RB.congr {w:World}{g n:Nat}{f f':Nat->Nat}(h:RB w g n f)(e:∀i,i<n->f i=f' i):RB w g n f':=⟨h.1,λi hi=>by rw[<-e i hi];exact h.2 i hi⟩
theorem e7p (w:World)(s:BA):∃c w',(convert 9 22 (.string s)).run prog w=.ok (.slice (some ⟨w.heap.size,0,none⟩) s.size c) w'/\RB w' w.heap.size s.size (bn s)/\Below w.heap.size w w':=by
 have hr:=Lib.run_convert_string_bytes (P:=prog) w 9 22 5 s underlying9 underlying22 underlying5;have hs:=Lib.bytesWorld_size w 5 s;have hn:=Lib.bytesWorld_at_new w 5 s;have mC:=grownCap_ge w s.size 0 5;have cR:(Lib.bytesCells w 5 s).size=grownCap w s.size 0 5:=by
  unfold Lib.bytesCells;have hd:s.data.size=s.size:=rfl;rw[Array.size_append,Array.size_map,Array.size_replicate,hd];omega
 refine⟨_,_,hr,⟨by omega,λi hi=>⟨?_,?_⟩⟩,⟨rfl,rfl,rfl,by omega,λj hj=>Lib.bytesWorld_at_old w 5 s j hj⟩⟩
 ·rw[Lib.bytesWorld_cell w 5 s i hi,a7u];congr 2;unfold bt;rw[dif_pos hi,List.getD_eq_getElem?_getD];have hd:i<s.data.toList.length:=by rw[Array.length_toList];exact hi
  rw[List.getElem?_eq_getElem hd,Option.getD_some];simp;rfl
 ·simp only[World.frozen?,hn];simp;omega
theorem d2e {w:World}{g n:Nat}{f:Nat->Nat}(h:RB w g n f)(c:Nat):(convert 22 9 (.slice (some ⟨g,0,none⟩) n c)).run prog w=.ok (.string (strOfNums ((List.range n).map λi=>((f i:Nat):Int)))) w:=
 run_convert_bytes_arg (P:=prog) w 22 5 underlying22 underlying5 g 0 n c _ (by simp) (λi hi=>by
  rw[Nat.zero_add,(h.2 i hi).1];simp[hi]) 9 underlying9
theorem e5h (i:Nat)(hi:i<16)(w:World):(Instr.index 9 (.string ⟨#[255,255,255,15,252,255,255,15,252,255,255,15,252,255,255,15]⟩) (.int .i64 (i:Int))).run prog w=.ok (.int .u8 ((cm i:Nat):Int)) w:=by
 rw[run_index_string w 9 _ .i64 (i:Int) underlying9,dif_pos ⟨by omega,by show(i:Int)<16;omega⟩];have h:i=0\/i=1\/i=2\/i=3\/i=4\/i=5\/i=6\/i=7\/i=8\/i=9\/i=10\/i=11\/i=12\/i=13\/i=14\/i=15:=by omega
 rcases h with rfl|rfl|rfl|rfl|rfl|rfl|rfl|rfl|rfl|rfl|rfl|rfl|rfl|rfl|rfl|rfl<;>rfl
theorem cm_lt (i:Nat):cm i<256:=by unfold cm;split<;>(try split)<;>decide
theorem e0t (r:BA)(h:r.size=16)(w:World):
 Calls prog 205 #[.string r] w λe w'=>e=.returned (.tuple #[.string (clB r),.int .i64 0])/\Below w.heap.size w w':=by
 have hI:(((r.size:Nat):Int) !=16)=false:=by simp;omega
 obtain⟨c,w1,hr,hB,hl⟩:=e7p w r;rw[h]at hr hB;have hrs:r.size<=16:=by omega
 clear h;go_enter func205,ntmps205;go_wp2_with fail;obtain⟨g,y5⟩:∃g,w.heap.size=g:=⟨_,rfl⟩;rw[y5]at hB hl⊢;have HG:Hid (w.heap.size=g):=y5;clear y5 hr;go_loopw[13] (λv wr=>∃k:Nat,k<=16/\v=.int .i64 k/\RB wr g 16 (λi=>if i<k then cl r i else bn r i)/\Below g w wr) (λv _=>(16-intOf v).toNat)
 case atStart=>exact⟨0,by omega,rfl,hB,hl⟩
 case round=>
  clear hB hl;obtain⟨k,hk,rfl,hB,hl⟩:=hrel;by_cases p9:k<16
  ·have aT:(k:Int)<16:=(by omega);have hm:=e5h k p9;obtain⟨cn0,fn⟩:=hB.2 k p9;have cn:wr.cell? ⟨g,k,none⟩=some (.int .u8 ((bn r k:Nat):Int)):=by
    rw[cn0];show some (Value.int .u8 (((if k<k then cl r k else bn r k):Nat):Int))=_;rw[qn (by omega)]
   clear cn0;have hand:=u8_and_nat (bn r k) (cm k) (b1w r k) (cm_lt k);rw[show bn r k&&&cm k=cl r k from rfl]at hand;have hB2:Hid (RB (wr.drew.setCell ⟨g,k,none⟩ (.int .u8 ((cl r k:Nat):Int))) g 16 (λi=>if i<k+1 then cl r i else bn r i)):=by
    refine(hB.drew.set k (cl r k) p9).congr (λi hi=>?_);show(if i=k then cl r k else if i<k then cl r i else bn r i)=if i<k+1 then cl r i else bn r i;by_cases h1:i=k
    ·subst h1;rw[qp rfl,qp (by omega)]
    ·rw[qn h1];by_cases h2:i<k
     ·rw[qp h2,qp (by omega)]
     ·rw[qn h2,qn (by omega)]
   have hl2:Hid (Below g w (wr.drew.setCell ⟨g,k,none⟩ (.int .u8 ((cl r k:Nat):Int)))):=hl.drew.setCell (ql _) _;clear hB hl;generalize bn r k=x at*;generalize cm k=m at*;generalize cl r k=z at*;go_wp2_with fail;go_region;have hB3:RB (wr.setCell ⟨g,k,none⟩ (.int .u8 (z:Int))).drew g 16 _:=hB2.out;have hl3:Below g w (wr.setCell ⟨g,k,none⟩ (.int .u8 (z:Int))).drew:=hl2.out;clear cn fn hB2 hl2;generalize(wr.setCell ⟨g,k,none⟩ (.int .u8 (z:Int))).drew=w4 at hB3 hl3⊢;go_wp2_with fail;go_roundw
   case rel=>exact⟨k+1,by omega,by go_num,hB3,hl3⟩
   case measure=>simp[intOf];omega
  ·have hk16:k=16:=(by omega);subst hk16;rw[show((16:Nat):Int)=(16:Int)from rfl];have fH:=d2e (hB.congr (f':=cl r) (λi hi=>qp hi)) c;rw[show strOfNums ((List.range 16).map λi=>((cl r i:Nat):Int))=clB r from rfl]at fH;clear hB;go_wp2_with fail;go_ret2;refine⟨rfl,?_⟩;rw[HG.out];exact hl
theorem b7t (r:BA):(clB r).size=16:=by unfold clB;rw[strOfNums_size];simp
theorem and15 (x:Nat)(h:x<256):x%16=x&&&15:=(Nat.and_two_pow_sub_one_eq_mod x 4).symm
theorem e9x (x:Nat)(h:x<256):x-x%4=x&&&252:=by
 have:∀x:Fin 256,x.val-x.val%4=x.val&&&252:=by decide+kernel
 exact this ⟨x,h⟩
theorem e9w (x:Nat)(h:x<256):x=x&&&255:=by
 have:∀x:Fin 256,x.val=x.val&&&255:=by decide+kernel
 exact this ⟨x,h⟩
theorem c2t (r:BA)(h:r.size=16)(w:World):
 Calls prog 224 #[.string r] w λe w'=>e=.returned (.tuple #[.string (clB r),.int .i64 0])/\Below w.heap.size w w':=by
 have hI:(((r.size:Nat):Int) !=16)=false:=by simp;omega
 obtain⟨c,w1,hr,hB,hl⟩:=e7p w r;rw[h]at hr hB;have hrs:r.size<=16:=by omega
 clear h;go_enter func224,ntmps224;go_wp2_with fail;obtain⟨g,y5⟩:∃g,w.heap.size=g:=⟨_,rfl⟩;rw[y5]at hB hl⊢;have HG:Hid (w.heap.size=g):=y5;clear y5 hr;go_loopw[5] (λv wr=>∃k:Nat,k<=4/\v=.int .i64 (4*k+3)/\RB wr g 16 (λi=>if i%4=3/\i/4<k then bn r i%16 else bn r i)/\Below g w wr) (λv _=>(19-intOf v).toNat)
 case atStart=>exact⟨0,by omega,rfl,hB.congr (λi hi=>by rw[qn (by omega)]),hl⟩
 case round=>
  clear hB hl;obtain⟨k,hk,rfl,hB,hl⟩:=hrel;by_cases p9:k<4
  ·have aT:4*(k:Int)+3<16:=(by omega);have hk0:(0:Int)<=4*(k:Int)+3:=(by omega);have htn:(4*(k:Int)+3).toNat=4*k+3:=(by omega);obtain⟨cn0,fn⟩:=hB.2 (4*k+3) (by omega);have cn:wr.cell? ⟨g,4*k+3,none⟩=some (.int .u8 ((bn r (4*k+3):Nat):Int)):=by
    rw[cn0];show some (Value.int .u8 (((if(4*k+3)%4=3/\(4*k+3)/4<k then bn r (4*k+3)%16 else bn r (4*k+3)):Nat):Int))=_;rw[qn (by omega)]
   clear cn0;have hx:=b1w r (4*k+3);have hB2:Hid (RB (wr.setCell ⟨g,4*k+3,none⟩ (.int .u8 ((bn r (4*k+3)%16:Nat):Int))) g 16 (λi=>if i%4=3/\i/4<k+1 then bn r i%16 else bn r i)):=by
    refine(hB.set (4*k+3) _ (by omega)).congr (λi hi=>?_);show(if i=4*k+3 then bn r (4*k+3)%16 else if i%4=3/\i/4<k then bn r i%16 else bn r i)=if i%4=3/\i/4<k+1 then bn r i%16 else bn r i;by_cases h1:i=4*k+3
    ·subst h1;rw[qp rfl,qp (by omega)]
    ·rw[qn h1];by_cases h2:i%4=3/\i/4<k
     ·rw[qp h2,qp (by omega)]
     ·rw[qn h2,qn (by omega)]
   have hl2:Hid (Below g w (wr.setCell ⟨g,4*k+3,none⟩ (.int .u8 ((bn r (4*k+3)%16:Nat):Int)))):=hl.setCell (ql _) _;clear hB hl;generalize bn r (4*k+3)=x at*;go_wp2_with fail;refine⟨⟨k+1,by omega,?_,hB2.out,hl2.out⟩,by simp[intOf];omega⟩;congr 1
  ·have hk4:k=4:=(by omega);subst hk4;rw[show(4*((4:Nat):Int)+3)=(19:Int)from rfl];have HB1:Hid (RB wr g 16 (λi=>if i%4=3 then bn r i%16 else bn r i)):=hB.congr (λi hi=>by
    by_cases h1:i%4=3
    ·rw[qp ⟨h1,by omega⟩,qp h1]
    ·rw[qn h1,qn (by omega)])
   clear hB;go_wp2_with fail;go_loopw[6] (λv wr=>∃k:Nat,k<=3/\v=.int .i64 (4*k+4)/\RB wr g 16 (λi=>if i%4=3 then bn r i%16 else if i%4=0/\0<i/\i/4<k+1 then bn r i-bn r i%4 else bn r i)/\Below g w wr) (λv _=>(16-intOf v).toNat)
   case atStart=>exact⟨0,by omega,rfl,HB1.out.congr (λi hi=>by
    show(if i%4=3 then bn r i%16 else bn r i)=if i%4=3 then bn r i%16 else if i%4=0/\0<i/\i/4<0+1 then bn r i-bn r i%4 else bn r i;by_cases h1:i%4=3
    ·rw[qp h1,qp h1]
    ·rw[qn h1,qn h1,qn (by omega)]),hl⟩
   case round=>
    clear HB1 hl;obtain⟨k,hk,rfl,hB,hl⟩:=hrel;by_cases p9:k<3
    ·have aT:4*(k:Int)+4<16:=(by omega);have hk0:(0:Int)<=4*(k:Int)+4:=(by omega);have htn:(4*(k:Int)+4).toNat=4*k+4:=(by omega);obtain⟨cn0,fn⟩:=hB.2 (4*k+4) (by omega);have cn:wr.cell? ⟨g,4*k+4,none⟩=some (.int .u8 ((bn r (4*k+4):Nat):Int)):=by
      rw[cn0];show some (Value.int .u8 (((if(4*k+4)%4=3 then bn r (4*k+4)%16 else if(4*k+4)%4=0/\0<4*k+4/\(4*k+4)/4<k+1 then bn r (4*k+4)-bn r (4*k+4)%4 else bn r (4*k+4)):Nat):Int))=_;rw[qn (by omega),qn (by omega)]
     clear cn0;have hx:=b1w r (4*k+4);have hB2:Hid (RB (wr.drew.setCell ⟨g,4*k+4,none⟩ (.int .u8 ((bn r (4*k+4)-bn r (4*k+4)%4:Nat):Int))) g 16 (λi=>if i%4=3 then bn r i%16 else if i%4=0/\0<i/\i/4<k+1+1 then bn r i-bn r i%4 else bn r i)):=by
      refine(hB.drew.set (4*k+4) _ (by omega)).congr (λi hi=>?_);show(if i=4*k+4 then bn r (4*k+4)-bn r (4*k+4)%4 else if i%4=3 then bn r i%16 else if i%4=0/\0<i/\i/4<k+1 then bn r i-bn r i%4 else bn r i)=if i%4=3 then bn r i%16 else if i%4=0/\0<i/\i/4<k+1+1 then bn r i-bn r i%4 else bn r i;by_cases h1:i=4*k+4
      ·subst h1;rw[qp rfl,qn (by omega),qp (by omega)]
      ·rw[qn h1];by_cases h0:i%4=3
       ·rw[qp h0,qp h0]
       ·rw[qn h0,qn h0];by_cases h2:i%4=0/\0<i/\i/4<k+1
        ·rw[qp h2,qp (by omega)]
        ·rw[qn h2,qn (by omega)]
     have hl2:Hid (Below g w (wr.drew.setCell ⟨g,4*k+4,none⟩ (.int .u8 ((bn r (4*k+4)-bn r (4*k+4)%4:Nat):Int)))):=hl.drew.setCell (ql _) _;clear hB hl;generalize bn r (4*k+4)=x at*;obtain⟨y,hy⟩:∃y:Nat,x-x%4=y:=⟨_,rfl⟩;rw[hy]at hB2 hl2;have hy1:(x:Int)-(x:Int)%4=(y:Int):=(by omega);have hy2:IntKind.u8.wrap ((x:Int)-(x:Int)%4)=(y:Int):=(by rw[hy1,IntKind.wrap_u8'];omega);clear hy;go_wp2_with fail;go_region;have hB3:RB (wr.setCell ⟨g,4*k+4,none⟩ (.int .u8 (y:Int))).drew g 16 _:=hB2.out;have hl3:Below g w (wr.setCell ⟨g,4*k+4,none⟩ (.int .u8 (y:Int))).drew:=hl2.out;clear cn fn hB2 hl2;generalize(wr.setCell ⟨g,4*k+4,none⟩ (.int .u8 (y:Int))).drew=w4 at hB3 hl3⊢;go_wp2_with fail;refine⟨⟨k+1,by omega,?_,hB3,hl3⟩,by simp[intOf];omega⟩;congr 1
    ·have hk3:k=3:=(by omega);subst hk3;rw[show(4*((3:Nat):Int)+4)=(16:Int)from rfl];have fH:=d2e (hB.congr (f':=cl r) (λi hi=>by
      show(if i%4=3 then bn r i%16 else if i%4=0/\0<i/\i/4<3+1 then bn r i-bn r i%4 else bn r i)=bn r i&&&cm i;unfold cm;by_cases h0:i%4=3
      ·rw[qp h0,qp h0];exact and15 _ (b1w r i)
      ·rw[qn h0,qn h0];by_cases h2:i%4=0/\0<i
       ·rw[qp (by omega),qp h2];exact e9x _ (b1w r i)
       ·rw[qn (by omega),qn h2];exact e9w _ (b1w r i))) c
     rw[show strOfNums ((List.range 16).map λi=>((cl r i:Nat):Int))=clB r from rfl]at fH;clear hB;go_wp2_with fail;go_ret2;refine⟨rfl,?_⟩;rw[HG.out];exact hl
theorem d6c (N:Nat)(hN:N<2^136)(w:World):
 Calls prog 259 #[.agg (nr .i64 17 (dg 8 N)).toArray] w λe w'=>e=.returned (.bool (decide (N<pP)))/\Below w.heap.size w w':=by
 obtain⟨Y,hY⟩:∃Y,nr .i64 17 (dg 8 N)=Y:=⟨_,rfl⟩;have HC:Hid (∀i,i<17->(w.alloc (.cells Y.toArray 302)).cell? ⟨w.heap.size,i,none⟩=some (.int .i64 ((dg 8 N i:Nat):Int))):=λi hi=>by
  refine(Blk.box w 302 Y).cell ?_;rw[<-hY];exact a3c _ _ _ i hi
 rw[hY];clear hY;have hl0:Below w.heap.size w (w.alloc (.cells Y.toArray 302)):=(qw _ w).alloc (ql _) _;have c16:=HC.out 16 (by decide);have t0:N/2^(8*17)=pP/2^(8*17):=by rw[e7t,Nat.div_eq_of_lt (by simpa using hN)]
 have e16:=e7v;have k16:=a2k 8 N 16;have H16:Hid (dg 8 N 16<3->N<pP):=λh=>b0b N pP 16 t0 (by rw[e16];exact h);have H16':Hid (3<dg 8 N 16->¬N<pP):=λh p9=>by
  have:=b0b pP N 16 t0.symm (by rw[e16];exact h);omega
 have HS:Hid (dg 8 N 16=3->N/2^(8*16)=pP/2^(8*16)):=λh=>c2m N pP 16 t0 (by rw[e16];exact h);clear t0 e16 hN;obtain⟨x,hx⟩:∃x,dg 8 N 16=x:=⟨_,rfl⟩;rw[hx]at c16 k16 H16 H16' HS;clear hx;rw[show(2:Nat)^8=256 from rfl]at k16;by_cases h3:x=3
 ·subst h3;have HT:=HS.out rfl;have HT:Hid (N/2^(8*16)=pP/2^(8*16)):=HT;rw[show((3:Nat):Int)=3 from rfl]at c16;clear H16 H16' HS;go_enter func259,ntmps259;go_wp2_with fail;generalize w.alloc (.cells Y.toArray 302)=w0 at*;obtain⟨g,y5⟩:∃g,w.heap.size=g:=⟨_,rfl⟩;rw[y5]at HC hl0⊢;have HG:Hid (w.heap.size=g):=y5;clear y5 c16;go_loopw[3] (λv wr=>∃k:Nat,k<=15/\v=.int .i64 k/\N/2^(8*(k+1))=pP/2^(8*(k+1))/\wr=w0) (λv _=>(intOf v).toNat)
  case atStart=>exact⟨15,by omega,rfl,HT.out,rfl⟩
  case round=>
   clear HT;obtain⟨k,hk,rfl,hT,rfl⟩:=hrel;by_cases p9:1<=k
   ·have aT:(1:Int)<=(k:Int):=(by omega);have hk17:(k:Int)<17:=(by omega);have ck:=HC.out k (by omega);have ek:=e2g k p9 hk;have kk:=a2k 8 N k;have H1:Hid (dg 8 N k<255->N<pP):=λh=>b0b N pP k hT (by rw[ek];exact h);have H2:Hid (dg 8 N k=255->N/2^(8*k)=pP/2^(8*k)):=λh=>c2m N pP k hT (by rw[ek];exact h);clear hT ek;rw[show(2:Nat)^8=256 from rfl]at kk;generalize dg 8 N k=y at*;by_cases h5:y=255
    ·have h2:=H2.out h5;subst h5;rw[show((255:Nat):Int)=255 from rfl]at ck;have H3:Hid (N/2^(8*k)=pP/2^(8*k)):=h2;clear h2 H1 H2;go_wp2_with fail;refine⟨⟨k-1,by omega,?_,by rw[show k-1+1=k by omega];exact H3.out,trivial⟩,by simp[intOf];omega⟩;congr 1;omega
    ·have h1:=H1.out (by omega);have hd:decide (N<pP)=true:=decide_eq_true h1;have h5':((y:Int) !=255)=true:=(by simp;omega);clear H1 H2 h1;go_wp2_with fail;go_ret;refine⟨by rw[hd];rfl,?_⟩;rw[HG.out];exact hl0
   ·have hk0:k=0:=(by omega);subst hk0;have c0:=HC.out 0 (by decide);have e0:=e7u;have hD:decide (N<pP)=decide (((dg 8 N 0:Nat):Int)<251):=by
     by_cases hc:dg 8 N 0<251
     ·have:=b0b N pP 0 hT (by rw[e0];exact hc);rw[decide_eq_true this,decide_eq_true (by omega)]
     ·have:¬N<pP:=by
       intro p9;by_cases h1:dg 8 N 0=251
       ·have:=c2m N pP 0 hT (by rw[e0];exact h1);simp at this;omega
       ·have:=b0b pP N 0 hT.symm (by rw[e0];omega);omega
      rw[decide_eq_false this,decide_eq_false (by omega)]
    have HD:Hid (decide (N<pP)=decide (((dg 8 N 0:Nat):Int)<251)):=hD;clear hT e0 hD;generalize dg 8 N 0=y at*;rw[show((0:Nat):Int)=0 from rfl];go_wp2_with fail;go_ret;refine⟨by rw[HD.out];rfl,?_⟩;rw[HG.out];exact hl0
 ·have h3':((x:Int) !=3)=true:=by simp;omega
  have hD:decide (N<pP)=decide ((x:Int)<3):=by
   by_cases hc:x<3
   ·rw[decide_eq_true (H16.out hc),decide_eq_true (by omega)]
   ·rw[decide_eq_false (H16'.out (by omega)),decide_eq_false (by omega)]
  have HD:Hid (decide (N<pP)=decide ((x:Int)<3)):=hD;clear H16 H16' HS hD HC;go_enter func259,ntmps259;go_wp2_with fail;go_ret;exact⟨by rw[HD.out];rfl,hl0⟩
theorem pP_dg (k:Nat)(hk:k<17):dg 8 pP k=if k=0 then 251 else if k=16 then 3 else 255:=by
 by_cases h0:k=0
 ·rw[qp h0,h0,e7u]
 ·rw[qn h0];by_cases h1:k=16
  ·rw[qp h1,h1,e7v]
  ·rw[qn h1,e2g k (by omega) (by omega)]
theorem d9c (N:Nat)(hN:N<2*pP)(w:World):
 Calls prog 243 #[.agg (nr .i64 17 (dg 8 N)).toArray] w λe w'=>e=.returned (.agg (nr .i64 17 (dg 8 (N%pP))).toArray)/\Below w.heap.size w w':=by
 have aI:=a5r;obtain⟨Z,hZ⟩:∃Z,nr .i64 17 (λ_=>0)=Z:=⟨_,rfl⟩;obtain⟨Y,hY⟩:∃Y,nr .i64 17 (dg 8 N)=Y:=⟨_,rfl⟩;rw[hZ]at aI;rw[hY];have lZ:Z.length=17:=by rw[<-hZ,a0k]
 have HY:Hid (nr .i64 17 (dg 8 N)=Y):=hY;clear hY hZ;have hA0:Blk ((w.alloc (.cells Y.toArray 302)).alloc (.cells Z.toArray 302)) w.heap.size 302 Y:=(Blk.box w 302 Y).alloc _;have hB0:Blk ((w.alloc (.cells Y.toArray 302)).alloc (.cells Z.toArray 302)) (w.heap.size+1) 302 Z:=by
  have:=Blk.box (w.alloc (.cells Y.toArray 302)) 302 Z;simpa using this
 have hl0:Below w.heap.size w ((w.alloc (.cells Y.toArray 302)).alloc (.cells Z.toArray 302)):=((qw _ w).alloc (ql _) _).alloc (by simp) _;have HN:Hid (N<2*pP):=hN;clear hN;go_enter func243,ntmps243;go_wp2_with fail;generalize(w.alloc (.cells Y.toArray 302)).alloc (.cells Z.toArray 302)=w0 at hA0 hB0 hl0⊢;obtain⟨g,y5⟩:∃g,w.heap.size=g:=⟨_,rfl⟩;rw[y5]at hA0 hB0 hl0⊢;have HG:Hid (w.heap.size=g):=y5;clear y5 aI;rw[<-HY.out]at hA0;clear HY;go_loopw[3] (λv wr=>∃i M:Nat,i<=1/\v=.int .i64 i/\M+i*pP=N/\Blk wr g 302 (nr .i64 17 (dg 8 M))/\Blk wr (g+1) 302 Z/\Below g w wr) (λv _=>(64-intOf v).toNat)
 case atStart=>exact⟨0,N,by omega,rfl,by omega,hA0,hB0,hl0⟩
 case round=>
  clear hA0 hB0 hl0;obtain⟨i,M,hi,rfl,hM,hA,hB,hl⟩:=hrel;have hi':(i:Int)<64:=by omega
  have HM:Hid (M+i*pP=N):=hM;have tW:M<2^136:=by
   have:=HN.out;rw[pP]at this;rw[show(2:Nat)^136=87112285931760246646623899502532662132736 from by decide];have:M<=N:=(by omega);omega
  have x8:=λw=>d6c M tW w;clear hM tW;obtain⟨U,hU⟩:∃U,nr .i64 17 (dg 8 M)=U:=⟨_,rfl⟩;have lU:U.length=17:=by rw[<-hU,a0k]
  have oU:∀v∈U,v.oneCell'=true:=by rw[<-hU];exact a4j _ _ _
  have HU:Hid (nr .i64 17 (dg 8 M)=U):=hU;rw[hU]at hA x8;clear hU;go_wp2_with(refine a0a rfl 302 _ rfl g rfl 302 U _ hA underlying302 rfl (by rw[size302,lU]) ?_);refine(x8 wr).mono ?_;rintro e w1 ⟨rfl,hb1⟩;have dO:g<=wr.heap.size:=Nat.le_of_lt hA.lt;have hA1:=hA.below hb1 hA.lt;have hB1:=hB.below hb1 hB.lt;have hl1:=hl.trans (hb1.mono dO);clear x8 hA hB hl hb1;by_cases p9:M<pP
  ·rw[decide_eq_true p9];have HR:Hid (nr .i64 17 (dg 8 (N%pP))=U):=by
    have e:N%pP=M:=(by rw[<-HM.out,Nat.add_mul_mod_self_right,Nat.mod_eq_of_lt p9]);rw[e];exact HU.out
   have hR:=c3r (hB1.setRow (M:=U)) lU;have hl':Below g w (w1.setRow (g+1) U.toArray):=below_setRow hl1 (by omega) _;clear p9 HM HN;go_wp2_with(first|(refine a0a rfl 302 _ rfl g rfl 302 U _ hA1 underlying302 rfl (by rw[size302,lU]) ?_)|(refine a0b rfl 302 _ _ rfl (g+1) Z U rfl rfl 302 hB1 (by rw[size302,lU]) (by rw[lZ,lU]) oU ?_));refine bodyPost_ret_by (v:=.agg U.toArray) (a1a 2 302 ⟨g+1,0,none⟩ results243 rfl hR) rfl ⟨by rw[HR.out],?_⟩;rw[HG.out];exact hl'
  ·rw[decide_eq_false p9];have hi0:i=0:=by
    have h1:=HM.out;have h2:=HN.out;rcases Nat.lt_or_ge i 1 with h|h
    ·omega
    ·have:i=1:=(by omega);subst this;omega
   subst hi0;obtain⟨D,hD⟩:∃D,M=D+pP:=⟨M-pP,by omega⟩;have HD:Hid (D+1*pP=N):=by
    have:=HM.out;show _=_;rw[<-this,hD];omega
   have HS:Hid (∀k,dg 8 D k+dg 8 pP k+cy 8 D pP k=dg 8 M k+256*cy 8 D pP (k+1)):=λk=>by
    obtain⟨c,rfl,h⟩:=e9d 8 D pP k;rw[hD];exact h
   rw[<-HU.out]at hA1;clear p9 HM HN HU hD lU oU;rw[show((0:Nat):Int)=0 from rfl];go_wp2_with fail;go_loopw[5,6] (λb v wr=>∃k:Nat,k<=17/\v=.int .i64 k/\b=.int .i64 ((cy 8 D pP k:Nat):Int)/\Blk wr g 302 (nr .i64 17 (λi=>if i<k then dg 8 D i else dg 8 M i))/\Blk wr (g+1) 302 Z/\Below g w wr) (λ_ v _=>(17-intOf v).toNat)
   case atStart=>exact⟨0,by omega,rfl,by rw[c4m];rfl,hA1,hB1,hl1⟩
   case round=>
    clear hA1 hB1 hl1;obtain⟨k,hk,rfl,rfl,hA,hB,hl⟩:=hrel;by_cases p9:k<17
    ·have aT:(k:Int)<17:=(by omega);have cn:wr.cell? ⟨g,k,none⟩=some (.int .i64 ((dg 8 M k:Nat):Int)):=by
      have:=hA.cell (a3c .i64 17 _ k p9);rw[qn (by omega)]at this;exact this
     have fn:=hA.frozen k;have hst:=HS.out k;rw[pP_dg k p9]at hst;have b0:=a2k 8 M k;have b1:=a2k 8 D k;have b2:=e0k 8 D pP k;have b3:=e0k 8 D pP (k+1);rw[show(2:Nat)^8=256 from rfl]at b0 b1;have hB2:Hid (Blk (wr.setCell ⟨g,k,none⟩ (.int .i64 ((dg 8 D k:Nat):Int))) g 302 (nr .i64 17 (λi=>if i<k+1 then dg 8 D i else dg 8 M i))):=by
      have hh:=hA.setCell k (.int .i64 ((dg 8 D k:Nat):Int));rw[a4i]at hh;rw[a0t .i64 17 (λi=>if i<k+1 then dg 8 D i else dg 8 M i) (λi=>if i=k then dg 8 D k else if i<k then dg 8 D i else dg 8 M i) ?_]
      ·exact hh
      ·intro i _;show(if i<k+1 then dg 8 D i else dg 8 M i)=if i=k then dg 8 D k else if i<k then dg 8 D i else dg 8 M i;by_cases h1:i=k
       ·subst h1;rw[qp (by omega),qp rfl]
       ·rw[qn h1];by_cases h2:i<k
        ·rw[qp h2,qp (by omega)]
        ·rw[qn h2,qn (by omega)]
     have hC2:Hid (Blk (wr.setCell ⟨g,k,none⟩ (.int .i64 ((dg 8 D k:Nat):Int))) (g+1) 302 Z):=hB.setOther (by omega) k _;have hl2:Hid (Below g w (wr.setCell ⟨g,k,none⟩ (.int .i64 ((dg 8 D k:Nat):Int)))):=hl.setCell (ql _) _;have HC:∃c1,cy 8 D pP (k+1)=c1:=⟨_,rfl⟩;obtain⟨c1,hc1⟩:=HC;rw[hc1]at hst b3;have HC1:Hid (((cy 8 D pP (k+1):Nat):Int)=(c1:Int)):=(by rw[hc1];exact rfl);clear hA hB hl hc1;generalize dg 8 M k=x at*;generalize dg 8 D k=z at*;generalize cy 8 D pP k=y at*;have hc01:c1=0\/c1=1:=(by omega);by_cases hk0:k=0
     ·subst hk0;rw[qp rfl]at hst;rw[show((0:Nat):Int)=0 from rfl];rcases hc01 with h|h
      ·subst h;have hd:(x:Int)-251-(y:Int)=(z:Int):=(by omega);have hn:((x:Int)-251-(y:Int)<0)=False:=(by simp;omega);have hn2:((z:Int)<0)=False:=(by simp);go_wp2_with fail;exact⟨⟨0+1,by omega,by rfl,by rw[HC1.out];rfl,hB2.out,hC2.out,hl2.out⟩,by simp[intOf]⟩
      ·subst h;have hd:(x:Int)-251-(y:Int)=(z:Int)-256:=(by omega);have hn:((x:Int)-251-(y:Int)<0)=True:=(by simp;omega);have hn2:((z:Int)-256<0)=True:=(by simp;omega);go_wp2_with fail;exact⟨⟨0+1,by omega,by rfl,by rw[HC1.out];rfl,hB2.out,hC2.out,hl2.out⟩,by simp[intOf]⟩
     ·rw[qn hk0]at hst;have hk0':((k:Int)==0)=false:=(by simp;omega);by_cases hk1:k=16
      ·subst hk1;rw[qp rfl]at hst;rw[show((16:Nat):Int)=16 from rfl];rcases hc01 with h|h
       ·subst h;have hd:(x:Int)-3-(y:Int)=(z:Int):=(by omega);have hn:((x:Int)-3-(y:Int)<0)=False:=(by simp;omega);have hn2:((z:Int)<0)=False:=(by simp);go_wp2_with fail;exact⟨⟨16+1,by omega,by rfl,by rw[HC1.out];rfl,hB2.out,hC2.out,hl2.out⟩,by simp[intOf]⟩
       ·subst h;have hd:(x:Int)-3-(y:Int)=(z:Int)-256:=(by omega);have hn:((x:Int)-3-(y:Int)<0)=True:=(by simp;omega);have hn2:((z:Int)-256<0)=True:=(by simp;omega);go_wp2_with fail;exact⟨⟨16+1,by omega,by rfl,by rw[HC1.out];rfl,hB2.out,hC2.out,hl2.out⟩,by simp[intOf]⟩
      ·rw[qn hk1]at hst;have hk1':((k:Int)==16)=false:=(by simp;omega);rcases hc01 with h|h
       ·subst h;have hd:(x:Int)-255-(y:Int)=(z:Int):=(by omega);have hn:((x:Int)-255-(y:Int)<0)=False:=(by simp;omega);have hn2:((z:Int)<0)=False:=(by simp);go_wp2_with fail;exact⟨⟨k+1,by omega,by go_num,by rw[HC1.out];rfl,hB2.out,hC2.out,hl2.out⟩,by simp[intOf];omega⟩
       ·subst h;have hd:(x:Int)-255-(y:Int)=(z:Int)-256:=(by omega);have hn:((x:Int)-255-(y:Int)<0)=True:=(by simp;omega);have hn2:((z:Int)-256<0)=True:=(by simp;omega);go_wp2_with fail;exact⟨⟨k+1,by omega,by go_num,by rw[HC1.out];rfl,hB2.out,hC2.out,hl2.out⟩,by simp[intOf];omega⟩
    ·have hk17:k=17:=(by omega);subst hk17;rw[show((17:Nat):Int)=17 from rfl];have hA':Blk wr g 302 (nr .i64 17 (dg 8 D)):=by
      rw[a0t .i64 17 (dg 8 D) (λi=>if i<17 then dg 8 D i else dg 8 M i) (λi hi=>by rw[qp hi])];exact hA
     clear hA HS;go_wp2_with fail;exact⟨⟨1,D,by omega,rfl,HD.out,hA',hB,hl⟩,by simp[intOf]⟩
theorem below_drewN' {B:Nat}{a w:World}(h:Below B a w)(n:Nat):Below B a (w.drewN n):=⟨h.os,h.tape,h.output,h.size,h.block⟩
theorem b6j (A B:Nat)(hA:A<pP)(hB:B<pP)(w:World):
 Calls prog 225 #[.agg (nr .i64 17 (dg 8 A)).toArray,.agg (nr .i64 17 (dg 8 B)).toArray] w λe w'=>e=.returned (.agg (nr .i64 17 (dg 8 ((A+B)%pP))).toArray)/\Below w.heap.size w w':=by
 have aI:=a5r;have x8:=λw=>d9c (A+B) (by omega) w;obtain⟨Z,hZ⟩:∃Z,nr .i64 17 (λ_=>0)=Z:=⟨_,rfl⟩;obtain⟨Y,hY⟩:∃Y,nr .i64 17 (dg 8 A)=Y:=⟨_,rfl⟩;obtain⟨X,hX⟩:∃X,nr .i64 17 (dg 8 B)=X:=⟨_,rfl⟩;rw[hZ]at aI;rw[hY,hX];have lZ:Z.length=17:=by rw[<-hZ,a0k]
 have HY:Hid (nr .i64 17 (dg 8 A)=Y):=hY;have HX:Hid (nr .i64 17 (dg 8 B)=X):=hX;clear hY hZ hX hA hB;have hA0:Blk (((w.alloc (.cells Y.toArray 302)).alloc (.cells X.toArray 302)).alloc (.cells Z.toArray 302)) w.heap.size 302 Y:=((Blk.box w 302 Y).alloc _).alloc _;have hB0:Blk (((w.alloc (.cells Y.toArray 302)).alloc (.cells X.toArray 302)).alloc (.cells Z.toArray 302)) (w.heap.size+1) 302 X:=by
  have:=(Blk.box (w.alloc (.cells Y.toArray 302)) 302 X).alloc (.cells Z.toArray 302);simpa using this
 have hC0:Blk (((w.alloc (.cells Y.toArray 302)).alloc (.cells X.toArray 302)).alloc (.cells Z.toArray 302)) (w.heap.size+2) 302 Z:=by
  have:=Blk.box ((w.alloc (.cells Y.toArray 302)).alloc (.cells X.toArray 302)) 302 Z;simpa using this
 have hl0:Below w.heap.size w (((w.alloc (.cells Y.toArray 302)).alloc (.cells X.toArray 302)).alloc (.cells Z.toArray 302)):=(((qw _ w).alloc (ql _) _).alloc (by simp) _).alloc (by simp;omega) _;go_enter func225,ntmps225;go_wp2_with fail;generalize((w.alloc (.cells Y.toArray 302)).alloc (.cells X.toArray 302)).alloc (.cells Z.toArray 302)=w0 at hA0 hB0 hC0 hl0⊢;obtain⟨g,y5⟩:∃g,w.heap.size=g:=⟨_,rfl⟩;rw[y5]at hA0 hB0 hC0 hl0⊢;have HG:Hid (w.heap.size=g):=y5;clear y5 aI;rw[<-HY.out]at hA0;rw[<-HX.out]at hB0;clear HY HX;go_loopw[5,6] (λc v wr=>∃k:Nat,k<=17/\v=.int .i64 k/\c=.int .i64 ((cy 8 A B k:Nat):Int)/\Blk wr g 302 (nr .i64 17 (λi=>if i<k then dg 8 (A+B) i else dg 8 A i))/\Blk wr (g+1) 302 (nr .i64 17 (dg 8 B))/\Blk wr (g+2) 302 Z/\Below g w wr) (λ_ v _=>(17-intOf v).toNat)
 case atStart=>exact⟨0,by omega,rfl,by rw[c4m];rfl,hA0,hB0,hC0,hl0⟩
 case round=>
  clear hA0 hB0 hC0 hl0;obtain⟨k,hk,rfl,rfl,hA,hB,hC,hl⟩:=hrel;by_cases p9:k<17
  ·have hk':(k:Int)<17:=(by omega);have cn:wr.cell? ⟨g,k,none⟩=some (.int .i64 ((dg 8 A k:Nat):Int)):=by
    have:=hA.cell (a3c .i64 17 _ k p9);rw[qn (by omega)]at this;exact this
   have cs:=hB.cell (a3c .i64 17 (dg 8 B) k p9);have fn:=hA.frozen k;have b0:=a2k 8 A k;have b1:=a2k 8 B k;have b2:=e0k 8 A B k;have e1:=d5e 8 A B k;have e2:=c4n 8 A B k;rw[show(2:Nat)^8=256 from rfl]at b0 b1 e1 e2;have hB2:Hid (∀n,Blk ((wr.drewN n).setCell ⟨g,k,none⟩ (.int .i64 ((dg 8 (A+B) k:Nat):Int))) g 302 (nr .i64 17 (λi=>if i<k+1 then dg 8 (A+B) i else dg 8 A i))):=by
    intro n;have hh:=(hA.drewN n).setCell k (.int .i64 ((dg 8 (A+B) k:Nat):Int));rw[a4i]at hh;rw[a0t .i64 17 (λi=>if i<k+1 then dg 8 (A+B) i else dg 8 A i) (λi=>if i=k then dg 8 (A+B) k else if i<k then dg 8 (A+B) i else dg 8 A i) ?_]
    ·exact hh
    ·intro i _;show(if i<k+1 then dg 8 (A+B) i else dg 8 A i)=if i=k then dg 8 (A+B) k else if i<k then dg 8 (A+B) i else dg 8 A i;by_cases h1:i=k
     ·subst h1;rw[qp (by omega),qp rfl]
     ·rw[qn h1];by_cases h2:i<k
      ·rw[qp h2,qp (by omega)]
      ·rw[qn h2,qn (by omega)]
   have hD2:Hid (∀n,Blk ((wr.drewN n).setCell ⟨g,k,none⟩ (.int .i64 ((dg 8 (A+B) k:Nat):Int))) (g+1) 302 (nr .i64 17 (dg 8 B))):=λn=>(hB.drewN n).setOther (by omega) k _;have hC2:Hid (∀n,Blk ((wr.drewN n).setCell ⟨g,k,none⟩ (.int .i64 ((dg 8 (A+B) k:Nat):Int))) (g+2) 302 Z):=λn=>(hC.drewN n).setOther (by omega) k _;have hl2:Hid (∀n,Below g w ((wr.drewN n).setCell ⟨g,k,none⟩ (.int .i64 ((dg 8 (A+B) k:Nat):Int)))):=λn=>(below_drewN' hl n).setCell (ql _) _;obtain⟨c1,hc1⟩:∃c1,cy 8 A B (k+1)=c1:=⟨_,rfl⟩;rw[hc1]at e2;have HC1:Hid (((cy 8 A B (k+1):Nat):Int)=(c1:Int)):=(by rw[hc1];exact rfl);clear hA hB hC hl hc1;generalize dg 8 (A+B) k=z at*;generalize dg 8 A k=x at*;generalize dg 8 B k=y at*;generalize cy 8 A B k=c at*;have e1':((c:Int)+(x:Int)+(y:Int))%256=(z:Int):=(by omega);have e2':((c:Int)+(x:Int)+(y:Int))/256=(c1:Int):=(by omega);clear e1 e2;go_wp2_with fail
   go_quiet(fail)
   go_wp2_with fail;exact⟨⟨k+1,by omega,by go_num,by rw[HC1.out,e2'],hB2.out nq,hD2.out nq,hC2.out nq,hl2.out nq⟩,by simp[intOf];omega⟩
  ·have hk17:k=17:=(by omega);subst hk17;rw[show((17:Nat):Int)=17 from rfl];have hA':Blk wr g 302 (nr .i64 17 (dg 8 (A+B))):=by
    rw[a0t .i64 17 (dg 8 (A+B)) (λi=>if i<17 then dg 8 (A+B) i else dg 8 A i) (λi hi=>by rw[qp hi])];exact hA
   obtain⟨U,hU⟩:∃U,nr .i64 17 (dg 8 (A+B))=U:=⟨_,rfl⟩;obtain⟨V,hV⟩:∃V,nr .i64 17 (dg 8 ((A+B)%pP))=V:=⟨_,rfl⟩;have lU:U.length=17:=(by rw[<-hU,a0k]);have lV:V.length=17:=(by rw[<-hV,a0k]);have oV:∀v∈V,v.oneCell'=true:=(by rw[<-hV];exact a4j _ _ _);rw[hU]at hA' x8;rw[hV]at x8;have HV:Hid (nr .i64 17 (dg 8 ((A+B)%pP))=V):=hV;have dO:g<=wr.heap.size:=Nat.le_of_lt hA.lt;clear hA hB hU hV;go_wp2_with(refine a0a rfl 302 _ rfl g rfl 302 U _ hA' underlying302 rfl (by rw[size302,lU]) ?_);refine(x8 wr).mono ?_;rintro e w1 ⟨rfl,hb1⟩;have hC1:=hC.below hb1 hC.lt;have hl1:=hl.trans (hb1.mono dO);have hR:=c3r (hC1.setRow (M:=V)) lV;have hl':Below g w (w1.setRow (g+2) V.toArray):=below_setRow hl1 (by omega) _;clear x8 hC hl hb1 hA';go_wp2_with(refine a0b rfl 302 _ _ rfl (g+2) Z V rfl rfl 302 hC1 (by rw[size302,lV]) (by rw[lZ,lV]) oV ?_);refine bodyPost_ret_by (v:=.agg V.toArray) (a1a 4 302 ⟨g+2,0,none⟩ results225 rfl hR) rfl ⟨by rw[HV.out],?_⟩;rw[HG.out];exact hl'
theorem e9r (B k m:Nat)(hm:m<8):dg 8 B k/2^m%2=B/2^(8*k+m)%2:=by
 have h:=a4y 8 B k m;rw[decide_eq_true hm,Bool.true_and,Nat.testBit_eq_decide_div_mod_eq,Nat.testBit_eq_decide_div_mod_eq]at h;have h1:dg 8 B k/2^m%2<2:=Nat.mod_lt _ (by omega);have h2:B/2^(8*k+m)%2<2:=Nat.mod_lt _ (by omega);have h3:=decide_eq_decide.1 h;omega
theorem c0a (B e:Nat):B/2^e=2*(B/2^(e+1))+B/2^e%2:=by
 rw[Nat.pow_succ,<-Nat.div_div_eq_div_mul];omega
theorem c8t (A B e O:Nat)(hO:O=A*(B/2^(e+1))%pP)(hb:B/2^e%2=0):(O+O)%pP=A*(B/2^e)%pP:=by
 rw[c0a B e,hb,hO,<-Nat.add_mod];generalize B/2^(e+1)=C;rw[Nat.add_zero,Nat.mul_left_comm,Nat.two_mul]
theorem c8s (A B e O:Nat)(hO:O=A*(B/2^(e+1))%pP)(hb:B/2^e%2=1):((O+O)%pP+A)%pP=A*(B/2^e)%pP:=by
 rw[c0a B e,hb,hO,<-Nat.add_mod,Nat.mod_add_mod];generalize B/2^(e+1)=C;rw[Nat.mul_add,Nat.mul_left_comm,Nat.two_mul,Nat.mul_one]
theorem d8g (i:Nat)(hi:i<8):128/2^i=2^(7-i):=by
 have h:i=0\/i=1\/i=2\/i=3\/i=4\/i=5\/i=6\/i=7:=by omega
 rcases h with rfl|rfl|rfl|rfl|rfl|rfl|rfl|rfl<;>rfl
theorem d1n (A B:Nat)(hA:A<pP)(hB:B<2^136)(w:World):
 Calls prog 226 #[.agg (nr .i64 17 (dg 8 A)).toArray,.agg (nr .i64 17 (dg 8 B)).toArray] w λe w'=>e=.returned (.agg (nr .i64 17 (dg 8 (A*B%pP))).toArray)/\Below w.heap.size w w':=by
 have aI:=a5r;obtain⟨Z,hZ⟩:∃Z,nr .i64 17 (λ_=>0)=Z:=⟨_,rfl⟩;obtain⟨Y,hY⟩:∃Y,nr .i64 17 (dg 8 A)=Y:=⟨_,rfl⟩;obtain⟨X,hX⟩:∃X,nr .i64 17 (dg 8 B)=X:=⟨_,rfl⟩;rw[hZ]at aI;rw[hY,hX];have lZ:Z.length=17:=by rw[<-hZ,a0k]
 have lY:Y.length=17:=by rw[<-hY,a0k]
 have HY:Hid (nr .i64 17 (dg 8 A)=Y):=hY;have HX:Hid (nr .i64 17 (dg 8 B)=X):=hX;have PZ:Hid (nr .i64 17 (dg 8 (A*(B/2^(8*17))%pP))=Z):=by
  rw[<-hZ,Nat.div_eq_of_lt (by simpa using hB),Nat.mul_zero,Nat.zero_mod];exact a0t _ _ _ _ (λi _=>b7s 8 i)
 have HA:Hid (A<pP):=hA;clear hY hZ hX hA hB;have hA0:Blk ((((w.alloc (.cells Y.toArray 302)).alloc (.cells X.toArray 302)).alloc (.cells Z.toArray 302)).alloc (.cells Z.toArray 302)) w.heap.size 302 Y:=(((Blk.box w 302 Y).alloc _).alloc _).alloc _;have hB0:Blk ((((w.alloc (.cells Y.toArray 302)).alloc (.cells X.toArray 302)).alloc (.cells Z.toArray 302)).alloc (.cells Z.toArray 302)) (w.heap.size+1) 302 X:=by
  have:=((Blk.box (w.alloc (.cells Y.toArray 302)) 302 X).alloc (.cells Z.toArray 302)).alloc (.cells Z.toArray 302);simpa using this
 have hC0:Blk ((((w.alloc (.cells Y.toArray 302)).alloc (.cells X.toArray 302)).alloc (.cells Z.toArray 302)).alloc (.cells Z.toArray 302)) (w.heap.size+2) 302 Z:=by
  have:=(Blk.box ((w.alloc (.cells Y.toArray 302)).alloc (.cells X.toArray 302)) 302 Z).alloc (.cells Z.toArray 302);simpa using this
 have hD0:Blk ((((w.alloc (.cells Y.toArray 302)).alloc (.cells X.toArray 302)).alloc (.cells Z.toArray 302)).alloc (.cells Z.toArray 302)) (w.heap.size+3) 302 Z:=by
  have:=Blk.box (((w.alloc (.cells Y.toArray 302)).alloc (.cells X.toArray 302)).alloc (.cells Z.toArray 302)) 302 Z;simpa using this
 have hl0:Below w.heap.size w ((((w.alloc (.cells Y.toArray 302)).alloc (.cells X.toArray 302)).alloc (.cells Z.toArray 302)).alloc (.cells Z.toArray 302)):=((((qw _ w).alloc (ql _) _).alloc (by simp) _).alloc (by simp;omega) _).alloc (by simp;omega) _;go_enter func226,ntmps226;go_wp2_with fail;generalize(((w.alloc (.cells Y.toArray 302)).alloc (.cells X.toArray 302)).alloc (.cells Z.toArray 302)).alloc (.cells Z.toArray 302)=w0 at hA0 hB0 hC0 hD0 hl0⊢;obtain⟨g,y5⟩:∃g,w.heap.size=g:=⟨_,rfl⟩;rw[y5]at hA0 hB0 hC0 hD0 hl0⊢;have HG:Hid (w.heap.size=g):=y5;clear y5 aI;rw[<-HX.out]at hB0;rw[<-PZ.out]at hD0;clear HX PZ;have cY:=λ(w:World) (O:Nat) (h:O<pP)=>b6j O A h HA.out w;rw[HY.out]at cY;have CY:Hid (∀(w:World) (O:Nat),O<pP->Calls prog 225 #[.agg (nr .i64 17 (dg 8 O)).toArray,.agg Y.toArray] w λe w'=>e=.returned (.agg (nr .i64 17 (dg 8 ((O+A)%pP))).toArray)/\Below w.heap.size w w'):=cY;clear HY cY;go_loopw[6] (λv wr=>∃k:Nat,k<=17/\v=.int .i64 ((k:Int)-1)/\Blk wr g 302 Y/\Blk wr (g+1) 302 (nr .i64 17 (dg 8 B))/\Blk wr (g+2) 302 Z/\Blk wr (g+3) 302 (nr .i64 17 (dg 8 (A*(B/2^(8*k))%pP)))/\Below g w wr) (λv _=>(1+intOf v).toNat)
 case atStart=>exact⟨17,by omega,rfl,hA0,hB0,hC0,hD0,hl0⟩
 case round=>
  clear hA0 hB0 hC0 hD0 hl0;obtain⟨k1,hk,rfl,hA,hB,hC,hD,hl⟩:=hrel;by_cases p9:1<=k1
  ·obtain⟨k,rfl⟩:∃k,k1=k+1:=⟨k1-1,by omega⟩;have hk0:(0:Int)<=((k+1:Nat):Int)-1:=(by omega);have ek:((k+1:Nat):Int)-1=(k:Int):=(by omega);rw[ek];clear ek hk0;have hk':(k:Int)<17:=(by omega);have HD:Hid (Blk wr (g+3) 302 (nr .i64 17 (dg 8 (A*(B/2^(8*(k+1)))%pP)))):=hD;clear hD;go_wp2_with fail;go_loopw[7,8] (λp v wr=>∃i:Nat,i<=8/\v=.int .i64 i/\p=.int .i64 ((128/2^i:Nat):Int)/\Blk wr g 302 Y/\Blk wr (g+1) 302 (nr .i64 17 (dg 8 B))/\Blk wr (g+2) 302 Z/\Blk wr (g+3) 302 (nr .i64 17 (dg 8 (A*(B/2^(8*k+(8-i)))%pP)))/\Below g w wr) (λ_ v _=>(8-intOf v).toNat)
   case atStart=>exact⟨0,by omega,rfl,rfl,hA,hB,hC,HD.out,hl⟩
   case round=>
    clear hA hB hC HD hl;obtain⟨i,hi,rfl,rfl,hA,hB,hC,hD,hl⟩:=hrel;by_cases aD:i<8
    ·have hi':(i:Int)<8:=(by omega);obtain⟨e,he⟩:∃e,8*k+(8-i)=e+1:=⟨8*k+(7-i),by omega⟩;have he':8*k+(7-i)=e:=(by omega);have he2:8*k+(8-(i+1))=e:=(by omega);obtain⟨O,hO⟩:∃O,A*(B/2^(e+1))%pP=O:=⟨_,rfl⟩;have hOb:O<pP:=(by rw[<-hO];exact Nat.mod_lt _ b9n);rw[he,hO]at hD;have iK:=e9r B k (7-i) (by omega);rw[he']at iK;have hp:=d8g i aD;have HP:Hid (128/2^(i+1)=128/2^i/2):=(by rw[Nat.pow_succ,<-Nat.div_div_eq_div_mul];exact rfl);have hp0:1<=2^(7-i):=Nat.pow_pos (by omega);have hp1:2^(7-i)<=2^7:=Nat.pow_le_pow_right (by omega) (by omega);rw[<-hp]at iK hp0 hp1;rw[show(2:Nat)^7=128 from rfl]at hp1;have bB:=a2k 8 B k;rw[show(2:Nat)^8=256 from rfl]at bB;have c1:=λw=>b6j O O hOb hOb w;have c2:=λw=>CY.out w ((O+O)%pP) (Nat.mod_lt _ b9n);have cb:∀w',Below wr.heap.size wr w'->∀M:Array Value,(w'.setRow (g+3) M).cell? ⟨g+1,k,none⟩=some (.int .i64 ((dg 8 B k:Nat):Int)):=λw' hb M=>((hB.below hb hB.lt).setRowOther (by omega) M).cell (a3c .i64 17 (dg 8 B) k (by omega));have HF0:Hid (B/2^e%2=0->nr .i64 17 (dg 8 ((O+O)%pP))=nr .i64 17 (dg 8 (A*(B/2^(8*k+(8-(i+1))))%pP))):=λh=>(by rw[he2,c8t A B e O hO.symm h]);have HF1:Hid (B/2^e%2=1->nr .i64 17 (dg 8 (((O+O)%pP+A)%pP))=nr .i64 17 (dg 8 (A*(B/2^(8*k+(8-(i+1))))%pP))):=λh=>(by rw[he2,c8s A B e O hO.symm h]);obtain⟨U,hU⟩:∃U,nr .i64 17 (dg 8 O)=U:=⟨_,rfl⟩;obtain⟨V,hV⟩:∃V,nr .i64 17 (dg 8 ((O+O)%pP))=V:=⟨_,rfl⟩;obtain⟨T,hT⟩:∃T,nr .i64 17 (dg 8 (((O+O)%pP+A)%pP))=T:=⟨_,rfl⟩;have lU:U.length=17:=(by rw[<-hU,a0k]);have lV:V.length=17:=(by rw[<-hV,a0k]);have lT:T.length=17:=(by rw[<-hT,a0k]);have oV:∀v∈V,v.oneCell'=true:=(by rw[<-hV];exact a4j _ _ _);have oT:∀v∈T,v.oneCell'=true:=(by rw[<-hT];exact a4j _ _ _);rw[hU,hV]at c1;rw[hV,hT]at c2;rw[hV]at HF0;rw[hT]at HF1;rw[hU]at hD;have dO:g<=wr.heap.size:=Nat.le_of_lt hA.lt;have hb2:B/2^e%2=0\/B/2^e%2=1:=(by omega);clear hU hV hT hO hOb he he' he2 hp;generalize B/2^e%2=bit at*;generalize dg 8 B k=x at*;obtain⟨p,hpd⟩:∃p,128/2^i=p:=⟨_,rfl⟩;rw[hpd]at iK hp0 hp1 HP⊢;clear hpd;obtain⟨q,hq⟩:∃q,x/p=q:=⟨_,rfl⟩;have hqI:(x:Int)/(p:Int)=(q:Int):=(by rw[<-hq];simp);have hq1:q<256:=(by rw[<-hq];exact Nat.lt_of_le_of_lt (Nat.div_le_self _ _) bB);rw[hq]at iK;have hbI:(q:Int)%2=(bit:Int):=(by omega);clear hq;go_wp2_with(refine a0a rfl 302 _ rfl (g+3) rfl 302 U _ hD underlying302 rfl (by rw[size302,lU]) ?_);refine(c1 wr).mono ?_;rintro e' w1 ⟨rfl,hb1⟩;have hx:=cb w1 hb1 V.toArray;have hA1:=(hA.below hb1 hA.lt).setRowOther (show g≠g+3 by omega) V.toArray;have hB1:=(hB.below hb1 hB.lt).setRowOther (show g+1≠g+3 by omega) V.toArray;have hC1:=(hC.below hb1 hC.lt).setRowOther (show g+2≠g+3 by omega) V.toArray;have hD1:=hD.below hb1 hD.lt;have hD2:=hD1.setRow (M:=V);have hl1:Below g w (w1.setRow (g+3) V.toArray):=below_setRow (hl.trans (hb1.mono dO)) (by omega) _;clear cb c1 hA hB hC hD hl hb1;rcases hb2 with h0|h1
     ·subst h0;have hF:=HF0.out rfl;have HFF:Hid (Blk (w1.setRow (g+3) V.toArray) (g+3) 302 (nr .i64 17 (dg 8 (A*(B/2^(8*k+(8-(i+1))))%pP)))):=(by rw[<-hF];exact hD2);clear hF HF0 HF1 hD2 c2 iK;rw[show((0:Nat):Int)=0 from rfl]at hbI;go_wp2_with(refine a0b rfl 302 _ _ rfl (g+3) U V rfl rfl 302 hD1 (by rw[size302,lV]) (by rw[lU,lV]) oV ?_);exact⟨⟨i+1,by omega,by go_num,by rw[HP.out];rfl,hA1,hB1,hC1,HFF.out,hl1⟩,by simp[intOf];omega⟩
     ·subst h1;have hF:=HF1.out rfl;rw[show((1:Nat):Int)=1 from rfl]at hbI;clear HF0 HF1 iK;go_wp2_with(first|(refine a0b rfl 302 _ _ rfl (g+3) U V rfl rfl 302 hD1 (by rw[size302,lV]) (by rw[lU,lV]) oV ?_)|(refine a0a rfl 302 _ rfl (g+3) rfl 302 V _ hD2 underlying302 rfl (by rw[size302,lV]) ?_)|(refine a0a rfl 302 _ rfl g rfl 302 Y _ hA1 underlying302 rfl (by rw[size302,lY]) ?_));generalize w1.setRow (g+3) V.toArray=w2 at*;refine(c2 w2).mono ?_;rintro e' w3 ⟨rfl,hb3⟩;have hgr2:g<=w2.heap.size:=Nat.le_of_lt hA1.lt;have hA3:=(hA1.below hb3 hA1.lt).setRowOther (show g≠g+3 by omega) T.toArray;have hB3:=(hB1.below hb3 hB1.lt).setRowOther (show g+1≠g+3 by omega) T.toArray;have hC3:=(hC1.below hb3 hC1.lt).setRowOther (show g+2≠g+3 by omega) T.toArray;have hD3:=hD2.below hb3 hD2.lt;have HFF:Hid (Blk (w3.setRow (g+3) T.toArray) (g+3) 302 (nr .i64 17 (dg 8 (A*(B/2^(8*k+(8-(i+1))))%pP)))):=(by rw[<-hF];exact hD3.setRow);have hl3:Below g w (w3.setRow (g+3) T.toArray):=below_setRow (hl1.trans (hb3.mono hgr2)) (by omega) _;clear c2 hA1 hB1 hC1 hD1 hD2 hl1 hb3 hx hF;go_wp2_with(refine a0b rfl 302 _ _ rfl (g+3) V T rfl rfl 302 hD3 (by rw[size302,lT]) (by rw[lV,lT]) oT ?_);exact⟨⟨i+1,by omega,by go_num,by rw[HP.out];rfl,hA3,hB3,hC3,HFF.out,hl3⟩,by simp[intOf];omega⟩
    ·have hi8:i=8:=(by omega);subst hi8;rw[show((8:Nat):Int)=8 from rfl];have HD:Hid (Blk wr (g+3) 302 (nr .i64 17 (dg 8 (A*(B/2^(8*k))%pP)))):=hD;clear hD;go_wp2_with fail;exact⟨⟨k,by omega,rfl,hA,hB,hC,HD.out,hl⟩,by simp[intOf];omega⟩
  ·have hk0:k1=0:=(by omega);subst hk0;rw[show((0:Nat):Int)-1=-1 from rfl];obtain⟨U,hU⟩:∃U,nr .i64 17 (dg 8 (A*B%pP))=U:=⟨_,rfl⟩;have hD':Blk wr (g+3) 302 U:=by
    rw[<-hU];have:=hD;rw[Nat.mul_zero,Nat.pow_zero,Nat.div_one]at this;exact this
   have lU:U.length=17:=(by rw[<-hU,a0k]);have oU:∀v∈U,v.oneCell'=true:=(by rw[<-hU];exact a4j _ _ _);have HU:Hid (nr .i64 17 (dg 8 (A*B%pP))=U):=hU;have hR:=c3r (hC.setRow (M:=U)) lU;have hl':Below g w (wr.setRow (g+2) U.toArray):=below_setRow hl (by omega) _;clear hA hB hD hl hU CY HA;go_wp2_with(first|(refine a0a rfl 302 _ rfl (g+3) rfl 302 U _ hD' underlying302 rfl (by rw[size302,lU]) ?_)|(refine a0b rfl 302 _ _ rfl (g+2) Z U rfl rfl 302 hC (by rw[size302,lU]) (by rw[lZ,lU]) oU ?_));refine bodyPost_ret_by (v:=.agg U.toArray) (a1a 4 302 ⟨g+2,0,none⟩ results226 rfl hR) rfl ⟨by rw[HU.out],?_⟩;rw[HG.out];exact hl'
theorem d3d (a b:BA):nt (a++b)=nt a+2^(8*a.size)*nt b:=by
 unfold nt;rw[ByteArray.size_append,a9n];congr 1
 ·apply b9s;intro i hi;unfold bn;rw[a1q _ _ _ hi]
 ·congr 1;apply b9s;intro i hi;unfold bn;rw[a1o _ _ _ (by omega)];congr 2;omega
def ckB (s:BA)(k:Nat):BA:=s.extract (16*k) (min (16*k+16) s.size)
def ckT (s:BA)(k:Nat):BA:=ckB s k++⟨#[1]⟩
def ckN (s:BA)(k:Nat):Nat:=nt (ckT s k)
theorem a7m (s:BA)(k:Nat):(ckB s k).size=min (16*k+16) s.size-16*k:=by
 unfold ckB;rw[ByteArray.size_extract];omega
theorem c6q (s:BA)(k:Nat):(ckT s k).size=min (16*k+16) s.size-16*k+1:=by
 unfold ckT;rw[ByteArray.size_append,a7m];rfl
theorem e7y:nt ⟨#[1]⟩=1:=by decide+kernel
theorem e2u (s:BA)(k:Nat):ckN s k<2^129:=by
 unfold ckN ckT;rw[d3d,e7y,Nat.mul_one];have h1:=e4w (ckB s k);have h2:(ckB s k).size<=16:=by rw[a7m];omega
 have h3:2^(8*(ckB s k).size)<=2^128:=Nat.pow_le_pow_right (by omega) (by omega);have h4:(2:Nat)^129=2^128+2^128:=by decide
 omega
theorem e9n (s:BA)(k:Nat):ckN s k<pP:=Nat.lt_trans (e2u s k) (by decide+kernel)
def pac (r:Nat)(s:BA):Nat->Nat
 |0=>0
 |k+1=>(pac r s k+ckN s k)*r%pP
theorem e2f (r:Nat)(s:BA)(k:Nat):pac r s k<pP:=by
 cases k with
 |zero=>exact b9n
 |succ k=>exact Nat.mod_lt _ b9n
theorem d2r (r:Nat)(s:BA)(k:Nat):pac r s k<2^130:=Nat.lt_trans (e2f r s k) (by decide+kernel)
theorem e4o (r:Nat)(s:BA)(k:Nat):pac r s (k+1)=((pac r s k+ckN s k)%pP)*r%pP:=by
 rw[pac,Nat.mod_mul_mod]
def rk (key:BA):Nat:=nt (clB (key.extract 0 16))
def sk (key:BA):Nat:=nt (key.extract 16 32)
def tagB (key s:BA):BA:=leB (pac (rk key) s ((s.size+15)/16)+sk key) 16
theorem e7m (key:BA):rk key<2^128:=by
 have:=e4w (clB (key.extract 0 16));rw[b7t]at this;exact this
theorem sk_lt (key:BA)(h:key.size=32):sk key<2^128:=by
 have:=e4w (key.extract 16 32);rw[ByteArray.size_extract,h]at this;exact this
theorem e7f (key s:BA)(hk:key.size=32)(hs:s.size<=65536)(w:World):
 Calls prog 170 #[.string key,.string s] w λe w'=>e=.returned (.tuple #[.string (tagB key s),.int .i64 0])/\Below w.heap.size w w':=by
 have aI:=a3r;obtain⟨Z,hZ⟩:∃Z,nr .u64 5 (λ_=>0)=Z:=⟨_,rfl⟩;rw[hZ]at aI;have lZ:Z.length=5:=by rw[<-hZ,a0k]
 have hI:(((key.size:Nat):Int) !=32)=false:=by simp;omega
 have hL:¬((65536:Int)<((s.size:Nat):Int)):=by omega
 obtain⟨K1,hK1⟩:∃K1,key.extract 0 16=K1:=⟨_,rfl⟩;obtain⟨K2,hK2⟩:∃K2,key.extract 16 32=K2:=⟨_,rfl⟩;have s1:K1.size=16:=by rw[<-hK1,ByteArray.size_extract];omega
 have s2:K2.size=16:=by rw[<-hK2,ByteArray.size_extract];omega
 have fN:nt (clB K1)=rk key:=by rw[<-hK1];rfl
 have hsk:nt K2=sk key:=by rw[<-hK2];rfl
 have c1:=λw=>e0t K1 s1 w;have c2:=λw=>a6n (clB K1) (by rw[b7t];decide) w;have c3:=λw=>a6n K2 (by omega) w;rw[fN]at c2;rw[hsk]at c3;have hr:=e7m key;have hk2:=sk_lt key hk;have HT:Hid (tagB key s=leB (pac (rk key) s ((s.size+15)/16)+sk key) 16):=rfl;generalize rk key=r at*;generalize sk key=a2 at*;generalize clB K1=Q1 at*;have HK:Hid (key.size=32):=hk;have kW:32<=key.size:=by omega
 have hkr:key.size<=32:=by omega
 clear hk fN hsk;obtain⟨R,hR⟩:∃R,nr .u64 5 (dg 26 r)=R:=⟨_,rfl⟩;rw[hR]at c2;have lR:R.length=5:=by rw[<-hR,a0k]
 have oR:∀v∈R,v.oneCell'=true:=by rw[<-hR];exact a4j _ _ _
 have HR:Hid (nr .u64 5 (dg 26 r)=R):=hR;have PZ:Hid (nr .u64 5 (dg 26 (pac r s 0))=Z):=by rw[<-hZ];exact a0t _ _ _ _ (λi _=>b7s 26 i)
 clear hR hZ;go_enter func170,ntmps170;go_wp2_with fail;refine(c1 _).mono ?_;rintro e w1 ⟨rfl,hb1⟩;go_wp2_with fail;refine(c2 _).mono ?_;rintro e w2 ⟨rfl,hb2⟩;have hl2:Below w.heap.size w w2:=hb1.trans (hb2.mono hb1.size);clear hb1 hb2 c1 c2;have hA3:Blk (w2.alloc (.cells Z.toArray 282)) w2.heap.size 282 Z:=Blk.box w2 282 Z;have hA4:Blk ((w2.alloc (.cells Z.toArray 282)).setRow w2.heap.size R.toArray) w2.heap.size 282 R:=hA3.setRow;have aA:((w2.alloc (.cells Z.toArray 282)).setRow w2.heap.size R.toArray).heap.size=w2.heap.size+1:=by simp[World.setRow]
 have hA5:Blk (((w2.alloc (.cells Z.toArray 282)).setRow w2.heap.size R.toArray).alloc (.cells Z.toArray 282)) w2.heap.size 282 R:=hA4.alloc _;have hB5:Blk (((w2.alloc (.cells Z.toArray 282)).setRow w2.heap.size R.toArray).alloc (.cells Z.toArray 282)) (w2.heap.size+1) 282 Z:=by
  have:=Blk.box ((w2.alloc (.cells Z.toArray 282)).setRow w2.heap.size R.toArray) 282 Z;rw[aA]at this;exact this
 have hl5:Below w.heap.size w (((w2.alloc (.cells Z.toArray 282)).setRow w2.heap.size R.toArray).alloc (.cells Z.toArray 282)):=(below_setRow (hl2.alloc hl2.size _) hl2.size _).alloc (by rw[aA];have:=hl2.size;omega) _;have nV:=hl2.size;go_wp2_with(refine a0b rfl 282 _ _ rfl w2.heap.size Z R rfl rfl 282 hA3 (by rw[size282,lR]) (by rw[lZ,lR]) oR ?_);clear hA3 hA4 hl2;generalize((w2.alloc (.cells Z.toArray 282)).setRow w2.heap.size R.toArray).alloc (.cells Z.toArray 282)=w5 at hA5 hB5 hl5⊢;obtain⟨B,gT⟩:∃B,w.heap.size=B:=⟨_,rfl⟩;rw[gT]at hl5 nV;have HB:Hid (w.heap.size=B):=gT;clear gT aA;generalize w2.heap.size=g at*;rw[<-PZ.out]at hB5;clear aI PZ lZ;go_loopw[10] (λv wr=>∃k:Nat,k<=(s.size+15)/16/\v=.int .i64 (16*k)/\Blk wr g 282 R/\Blk wr (g+1) 282 (nr .u64 5 (dg 26 (pac r s k)))/\Below B w wr) (λv _=>(s.size+15-intOf v).toNat)
 case atStart=>exact⟨0,by omega,rfl,hA5,hB5,hl5⟩
 case round=>
  clear hA5 hB5 hl5;obtain⟨k,hk,rfl,hA,hB,hl⟩:=hrel;by_cases p9:16*k<s.size
  ·have aT:16*(k:Int)<((s.size:Nat):Int):=(by omega);have hk0:(0:Int)<=16*(k:Int):=(by omega);have htn:(16*(k:Int)).toNat=16*k:=(by omega);obtain⟨m,hm⟩:∃m,min (16*k+16) s.size=m:=⟨_,rfl⟩;have hmI:min (16*(k:Int)+16) ((s.size:Nat):Int)=(m:Int):=(by omega);have hm1:m<=s.size:=(by omega);have hm2:16*k<=m:=(by omega);have hm3:m<=16*k+16:=(by omega);obtain⟨C,hC⟩:∃C,s.extract (16*k) m=C:=⟨_,rfl⟩;have hCk:C=ckB s k:=(by rw[<-hC,ckB,hm]);have uA:C.size<=16:=(by rw[hCk,a7m];omega);have hCw:(9223372036854775807<C.size+1)=False:=(by simp;omega);obtain⟨T,hT⟩:∃T,C++⟨#[1]⟩=T:=⟨_,rfl⟩;have cT:T=ckT s k:=(by rw[<-hT,hCk,ckT]);have pW:T.size<=17:=(by rw[cT,c6q];omega);have c1:=λw=>a6n T pW w;rw[show nt T=ckN s k from by rw[cT];rfl]at c1;have bN:=e2u s k;have bA:=d2r r s k;have c2:=λw=>b6t (dg 26 (pac r s k)) (dg 26 (ckN s k)) (λi _=>by
    have h1:=a2k 26 (pac r s k) i;have h2:=a2k 26 (ckN s k) i;rw[show(2:Nat)^26=67108864 from rfl]at h1 h2;omega) w
   have c4:=λw=>d0w (λi=>dg 26 (pac r s k) i+dg 26 (ckN s k) i) (dg 26 r) (λi _=>by
    have h1:=a2k 26 (pac r s k) i;have h2:=a2k 26 (ckN s k) i;rw[show(2:Nat)^26=67108864 from rfl]at h1 h2;show dg 26 (pac r s k) i+dg 26 (ckN s k) i<_;omega) (λi _=>a2k 26 r i) w
   have hV:V5 (λi=>dg 26 (pac r s k) i+dg 26 (ckN s k) i)*V5 (dg 26 r)%pP=pac r s (k+1):=by
    rw[d6q,d6p _ bA,d6p _ (Nat.lt_trans bN (by decide)),d6p _ (Nat.lt_trans hr (by decide))];rfl
   rw[hV]at c4;rw[HR.out]at c4;obtain⟨U,hU⟩:∃U,nr .u64 5 (dg 26 (pac r s k))=U:=⟨_,rfl⟩;obtain⟨W,hW⟩:∃W,nr .u64 5 (dg 26 (pac r s (k+1)))=W:=⟨_,rfl⟩;obtain⟨X1,hX1⟩:∃X,nr .u64 5 (dg 26 (ckN s k))=X:=⟨_,rfl⟩;obtain⟨X2,hX2⟩:∃X,nr .u64 5 (λi=>dg 26 (pac r s k) i+dg 26 (ckN s k) i)=X:=⟨_,rfl⟩;have c5:Hid (∀(T:Nat->Nat) (w:World),V5 T%pP=pac r s (k+1)->(∀m,m<5->T m<=1801439850948198400)->Calls prog 207 #[.agg (nr .u64 5 T).toArray] w λe w'=>e=.returned (.agg W.toArray)/\Below w.heap.size w w'):=λT w h1 h2=>by
    have:=c2k T h2 w;rw[h1,hW]at this;exact this
   rw[hU]at hB c2;rw[hX1]at c1 c2;rw[hX2]at c2 c4;have lU:U.length=5:=(by rw[<-hU,a0k]);have lW:W.length=5:=(by rw[<-hW,a0k]);have oW:∀v∈W,v.oneCell'=true:=(by rw[<-hW];exact a4j _ _ _);have HW:Hid (nr .u64 5 (dg 26 (pac r s (k+1)))=W):=hW;have dO:B<=wr.heap.size:=(by have:=hA.lt;omega);clear hU hW hX1 hX2 bN bA hV cT hCk hm;have HS:(λz:World=>Blk z g 282 R/\Blk z (g+1) 282 U/\Below B w z) wr.drew:=⟨hA.drew,hB.drew,hl.drew⟩;clear hA hB hl;go_wp2_with fail;refine wp_region_noPanic ?_;refine a7w (c:=8) (S:=λz:World=>Blk z g 282 R/\Blk z (g+1) 282 U/\Below B w z) (by kernel_rfl) ?_;refine a0m (i:=1) (v:=?_) rfl (by kernel_rfl) (by kernel_rfl) (by kernel_rfl) (by kernel_rfl) (λ_ _ _ h=>h) (Or.inl ⟨by rfl,?_⟩) (λ_=>HS) ?_;rotate_left
   ·intro w aO;go_simp;try with_reducible rfl
   go_simp;refine a0m (i:=2) (v:=?_) rfl (by kernel_rfl) (by kernel_rfl) (by kernel_rfl) (by kernel_rfl) (λ_ _ _ h=>h) (Or.inl ⟨by rfl,?_⟩) (λ_=>HS) ?_;rotate_left
   ·intro w aO;go_simp;try with_reducible rfl
   go_simp;refine a3b (i:=0) (v:=.agg U.toArray) rfl (by kernel_rfl) (by kernel_rfl) (by kernel_rfl) (by kernel_rfl) (λ_ _ _ h=>h) (b0h rfl 282 _ rfl (g+1) rfl 282 U _ (λ_ h=>h.2.1) underlying282 rfl (by rw[size282,lU])) HS ?_;go_simp;refine a3b (i:=5) (v:=.agg R.toArray) rfl (by kernel_rfl) (by kernel_rfl) (by kernel_rfl) (by kernel_rfl) (λ_ _ _ h=>h) (b0h rfl 282 _ rfl g rfl 282 R _ (λ_ h=>h.1) underlying282 rfl (by rw[size282,lR])) HS ?_;go_simp;refine a1i (i:=3) (by kernel_rfl) rfl (λK hK=>?_);go_simp;go_at_call 206;refine(c1 _).mono ?_;rintro e wa ⟨rfl,bwa⟩;have HSwa:(λz:World=>Blk z g 282 R/\Blk z (g+1) 282 U/\Below B w z) wa:=⟨HS.1.below bwa HS.1.lt,HS.2.1.below bwa HS.2.1.lt,HS.2.2.trans (bwa.mono (by have:=HS.1.lt;omega))⟩;refine hK.out _ _ (λ_=>HSwa) ?_;clear hK K;refine a1i (i:=4) (by kernel_rfl) rfl (λK hK=>?_);go_simp;go_at_call 209;refine(c2 _).mono ?_;rintro e wb ⟨rfl,bwb⟩;have HSwb:(λz:World=>Blk z g 282 R/\Blk z (g+1) 282 U/\Below B w z) wb:=⟨HSwa.1.below bwb HSwa.1.lt,HSwa.2.1.below bwb HSwa.2.1.lt,HSwa.2.2.trans (bwb.mono (by have:=HSwa.1.lt;omega))⟩;refine hK.out _ _ (λ_=>HSwb) ?_;clear hK K;refine a1i (i:=6) (by kernel_rfl) rfl (λK hK=>?_);go_simp;go_at_call 208;refine(c4 _).mono ?_;rintro e wc ⟨T0,rfl,hT1,hT2,bwc⟩;have HSwc:(λz:World=>Blk z g 282 R/\Blk z (g+1) 282 U/\Below B w z) wc:=⟨HSwb.1.below bwc HSwb.1.lt,HSwb.2.1.below bwc HSwb.2.1.lt,HSwb.2.2.trans (bwc.mono (by have:=HSwb.1.lt;omega))⟩;have c6:=λw=>c5.out T0 w hT1 hT2;refine hK.out _ _ (λ_=>HSwc) ?_;clear hK K;refine a1i (i:=7) (by kernel_rfl) rfl (λK hK=>?_);go_simp;go_at_call 207;refine(c6 _).mono ?_;rintro e wd ⟨rfl,bwd⟩;have HSwd:(λz:World=>Blk z g 282 R/\Blk z (g+1) 282 U/\Below B w z) wd:=⟨HSwc.1.below bwd HSwc.1.lt,HSwc.2.1.below bwd HSwc.2.1.lt,HSwc.2.2.trans (bwd.mono (by have:=HSwc.1.lt;omega))⟩;refine hK.out _ _ (λ_=>HSwd) ?_;clear hK K;refine a1i (i:=8) (by kernel_rfl) rfl (λK hK=>?_);refine a2v rfl 282 _ _ rfl (g+1) U W rfl rfl 282 HSwd.2.1 (by rw[size282,lW]) (by rw[lU,lW]) oW ?_;refine hK.out _ _ (λh=>by cases h) ?_;clear hK K;go_simp;refine a7x (by kernel_rfl) ?_ _;refine NoPanic.normal ?_;have hA9:Blk (wd.setRow (g+1) W.toArray) g 282 R:=HSwd.1.setRowOther (by omega) _;have hB9:Blk (wd.setRow (g+1) W.toArray) (g+1) 282 W:=HSwd.2.1.setRow;have hl9:Below B w (wd.setRow (g+1) W.toArray):=below_setRow HSwd.2.2 (by omega) _;clear HS HSwa HSwb HSwc HSwd bwa bwb bwc bwd c1 c2 c4 c5 c6 hT1 hT2;generalize wd.setRow (g+1) W.toArray=w9 at hA9 hB9 hl9⊢;go_wp2_with fail;refine⟨⟨k+1,by omega,by congr 1,hA9,by rw[HW.out];exact hB9,hl9⟩,by simp[intOf];omega⟩
  ·have nS:(s.size+15)/16=k:=(by omega);have aT:¬(16*(k:Int)<((s.size:Nat):Int)):=(by omega);rw[nS]at HT;have hK2':key.extract 16 key.size=K2:=(by rw[HK.out];exact hK2);have h16:((16:Int)<=((key.size:Nat):Int))=True:=(by simp;omega);have bA:=d2r r s k;have c4:=λw=>b6t (dg 26 (pac r s k)) (dg 26 a2) (λi _=>by
    have h1:=a2k 26 (pac r s k) i;have h2:=a2k 26 a2 i;rw[show(2:Nat)^26=67108864 from rfl]at h1 h2;omega) w
   have c5:=λw=>c9b (λi=>dg 26 (pac r s k) i+dg 26 a2 i) (λi _=>by
    have h1:=a2k 26 (pac r s k) i;have h2:=a2k 26 a2 i;rw[show(2:Nat)^26=67108864 from rfl]at h1 h2;show dg 26 (pac r s k) i+dg 26 a2 i<_;omega) w
   rw[d6q,d6p _ bA,d6p _ (Nat.lt_trans hk2 (by decide)),<-HT.out]at c5;obtain⟨U,hU⟩:∃U,nr .u64 5 (dg 26 (pac r s k))=U:=⟨_,rfl⟩;obtain⟨X1,hX1⟩:∃X,nr .u64 5 (dg 26 a2)=X:=⟨_,rfl⟩;obtain⟨X2,hX2⟩:∃X,nr .u64 5 (λi=>dg 26 (pac r s k) i+dg 26 a2 i)=X:=⟨_,rfl⟩;rw[hU]at hB c4;rw[hX1]at c3 c4;rw[hX2]at c4 c5;have lU:U.length=5:=(by rw[<-hU,a0k]);obtain⟨G,hG⟩:∃G,tagB key s=G:=⟨_,rfl⟩;rw[hG]at c5;have HGG:Hid (tagB key s=G):=hG;clear hG;clear hU hX1 hX2 bA HT nS hK1 hK2;have HS:(λz:World=>Blk z (g+1) 282 U/\Below B w z) wr.drew:=⟨hB.drew,hl.drew⟩;clear hA hB hl;go_wp2_with fail;refine wp_region_noPanic ?_;refine a7w (c:=7) (S:=λz:World=>Blk z (g+1) 282 U/\Below B w z) (by kernel_rfl) ?_;refine a0m (i:=1) (v:=?_) rfl (by kernel_rfl) (by kernel_rfl) (by kernel_rfl) (by kernel_rfl) (λ_ _ _ h=>h) (Or.inl ⟨by rfl,?_⟩) (λ_=>HS) ?_;rotate_left
   ·intro w aO;go_simp;try with_reducible rfl
   go_simp;refine a0m (i:=2) (v:=?_) rfl (by kernel_rfl) (by kernel_rfl) (by kernel_rfl) (by kernel_rfl) (λ_ _ _ h=>h) (Or.inl ⟨by rfl,?_⟩) (λ_=>HS) ?_;rotate_left
   ·intro w aO;go_simp;try with_reducible rfl
   go_simp;refine a3b (i:=0) (v:=.agg U.toArray) rfl (by kernel_rfl) (by kernel_rfl) (by kernel_rfl) (by kernel_rfl) (λ_ _ _ h=>h) (b0h rfl 282 _ rfl (g+1) rfl 282 U _ (λ_ h=>h.1) underlying282 rfl (by rw[size282,lU])) HS ?_;go_simp;refine a1i (i:=3) (by kernel_rfl) rfl (λK hK=>?_);go_simp;go_at_call 206;refine(c3 _).mono ?_;rintro e wa ⟨rfl,bwa⟩;have HSwa:(λz:World=>Blk z (g+1) 282 U/\Below B w z) wa:=⟨HS.1.below bwa HS.1.lt,HS.2.trans (bwa.mono (by have:=HS.1.lt;omega))⟩;refine hK.out _ _ (λ_=>HSwa) ?_;clear hK K;refine a1i (i:=4) (by kernel_rfl) rfl (λK hK=>?_);go_simp;go_at_call 209;refine(c4 _).mono ?_;rintro e wb ⟨rfl,bwb⟩;have HSwb:(λz:World=>Blk z (g+1) 282 U/\Below B w z) wb:=⟨HSwa.1.below bwb HSwa.1.lt,HSwa.2.trans (bwb.mono (by have:=HSwa.1.lt;omega))⟩;refine hK.out _ _ (λ_=>HSwb) ?_;clear hK K;refine a1i (i:=5) (by kernel_rfl) rfl (λK hK=>?_);go_simp;go_at_call 210;refine(c5 _).mono ?_;rintro e wc ⟨rfl,bwc⟩;have HSwc:(λz:World=>Blk z (g+1) 282 U/\Below B w z) wc:=⟨HSwb.1.below bwc HSwb.1.lt,HSwb.2.trans (bwc.mono (by have:=HSwb.1.lt;omega))⟩;refine hK.out _ _ (λ_=>HSwc) ?_;clear hK K;refine a0m (i:=6) (v:=?_) rfl (by kernel_rfl) (by kernel_rfl) (by kernel_rfl) (by kernel_rfl) (λ_ _ _ h=>h) (Or.inl ⟨by rfl,?_⟩) (λ_=>HSwc) ?_;rotate_left
   ·intro w aO;go_simp;try with_reducible rfl
   go_simp;refine a1i (i:=7) (by kernel_rfl) rfl (λK hK=>?_);go_simp;refine hK.out _ _ (λh=>by cases h) ?_;clear hK K;refine a7x (by kernel_rfl) ?_ _;refine NoPanic.normal ?_;clear c3 c4 c5 HS HSwa HSwb;go_wp2_with fail;go_ret2;refine⟨by rw[HGG.out];rfl,?_⟩;rw[HB.out];exact HSwc.2
theorem a8w (s:BA)(i:Nat)(h:i<s.size)(w:World):(Instr.index 9 (.string s) (.int .i64 (i:Int))).run prog w=.ok (.int .u8 ((bn s i:Nat):Int)) w:=by
 rw[run_index_string w 9 s .i64 (i:Int) underlying9,dif_pos ⟨by omega,by omega⟩,a7u];unfold bt;rw[dif_pos h];simp
theorem info5':(prog.info? 5).map (λi=>(i.zero,i.size,i.bytes))=some (some (.int .u8 0),1,1):=by kernel_rfl
theorem d2b (key s:BA)(hk:key.size=32)(hs:s.size<=65536)(w:World):
 Calls prog 192 #[.string key,.string s] w λe w'=>e=.returned (.tuple #[.string (tagB key s),.int .i64 0])/\Below w.heap.size w w':=by
 have aI:=a5r;obtain⟨Z,hZ⟩:∃Z,nr .i64 17 (λ_=>0)=Z:=⟨_,rfl⟩;rw[hZ]at aI;have lZ:Z.length=17:=by rw[<-hZ,a0k]
 have PZ:Hid (nr .i64 17 (λ_=>0)=Z):=hZ;clear hZ;have hI:(((key.size:Nat):Int) !=32)=false:=by simp;omega
 have hL:¬((65536:Int)<((s.size:Nat):Int)):=by omega
 obtain⟨K1,hK1⟩:∃K1,key.extract 0 16=K1:=⟨_,rfl⟩;have s1:K1.size=16:=by rw[<-hK1,ByteArray.size_extract];omega
 have fN:nt (clB K1)=rk key:=by rw[<-hK1];rfl
 have c1:=λw=>c2t K1 s1 w;have hQs:=b7t K1;have HK:Hid (key.size=32):=hk;have HK2:Hid (∀i,i<16->bn key (16+i)=dg 8 (sk key) i):=λi hi=>by
  unfold sk;rw[c4l];unfold bn;rw[a2w key 16 32 i (by omega) (by omega)]
 have HT:Hid (tagB key s=leB (pac (rk key) s ((s.size+15)/16)+sk key) 16):=rfl;have hrb:=e7m key;have HQ:Hid (∀i,dg 8 (rk key) i=bn (clB K1) i):=λi=>by rw[<-fN,c4l]
 generalize rk key=r at*;generalize sk key=a2 at*;generalize clB K1=Q1 at*;have kW:32<=key.size:=by omega
 have hkr:key.size<=32:=by omega
 clear hk fN;go_enter func192,ntmps192;go_wp2_with fail;refine(c1 _).mono ?_;rintro e w1 ⟨rfl,hb1⟩;have hA0:Blk ((w1.alloc (.cells Z.toArray 302)).alloc (.cells Z.toArray 302)) w1.heap.size 302 Z:=(Blk.box w1 302 Z).alloc _;have hB0:Blk ((w1.alloc (.cells Z.toArray 302)).alloc (.cells Z.toArray 302)) (w1.heap.size+1) 302 Z:=by
  have:=Blk.box (w1.alloc (.cells Z.toArray 302)) 302 Z;simpa using this
 have hl0:Below w.heap.size w ((w1.alloc (.cells Z.toArray 302)).alloc (.cells Z.toArray 302)):=(hb1.alloc hb1.size _).alloc (by have:=hb1.size;simp;omega) _;have nV:=hb1.size;clear hb1 c1;go_wp2_with fail;generalize(w1.alloc (.cells Z.toArray 302)).alloc (.cells Z.toArray 302)=w0 at hA0 hB0 hl0⊢;obtain⟨B,gT⟩:∃B,w.heap.size=B:=⟨_,rfl⟩;rw[gT]at hl0 nV;have HB:Hid (w.heap.size=B):=gT;clear gT;generalize w1.heap.size=g at*;rw[<-PZ.out]at hA0
 --the factor
 go_loopw[10] (λv wr=>∃k:Nat,k<=16/\v=.int .i64 k/\Blk wr g 302 (nr .i64 17 (λi=>if i<k then bn Q1 i else 0))/\Blk wr (g+1) 302 Z/\Below B w wr) (λv _=>(16-intOf v).toNat)
 case atStart=>exact⟨0,by omega,rfl,hA0,hB0,hl0⟩
 case round=>
  clear hA0 hB0 hl0;obtain⟨k,hk,rfl,hA,hB,hl⟩:=hrel;by_cases p9:k<16
  ·have aT:(k:Int)<16:=(by omega);have fT:=a8w Q1 k (by omega);have pQ:=b1w Q1 k;have cn:wr.cell? ⟨g,k,none⟩=some (.int .i64 ((0:Nat):Int)):=by
    have:=hA.cell (a3c .i64 17 _ k (by omega));rw[qn (by omega)]at this;exact this
   have fn:=hA.frozen k;have hA2:Hid (Blk (wr.setCell ⟨g,k,none⟩ (.int .i64 ((bn Q1 k:Nat):Int))) g 302 (nr .i64 17 (λi=>if i<k+1 then bn Q1 i else 0))):=by
    have hh:=hA.setCell k (.int .i64 ((bn Q1 k:Nat):Int));rw[a4i]at hh;rw[a0t .i64 17 (λi=>if i<k+1 then bn Q1 i else 0) (λi=>if i=k then bn Q1 k else if i<k then bn Q1 i else 0) ?_]
    ·exact hh
    ·intro i _;show(if i<k+1 then bn Q1 i else 0)=if i=k then bn Q1 k else if i<k then bn Q1 i else 0;by_cases h1:i=k
     ·subst h1;rw[qp (by omega),qp rfl]
     ·rw[qn h1];by_cases h2:i<k
      ·rw[qp h2,qp (by omega)]
      ·rw[qn h2,qn (by omega)]
   have hB2:Hid (Blk (wr.setCell ⟨g,k,none⟩ (.int .i64 ((bn Q1 k:Nat):Int))) (g+1) 302 Z):=hB.setOther (by omega) k _;have hl2:Hid (Below B w (wr.setCell ⟨g,k,none⟩ (.int .i64 ((bn Q1 k:Nat):Int)))):=hl.setCell nV _;clear hA hB hl;generalize bn Q1 k=x at*;have hbq':x<256:=pQ;clear pQ;go_wp2_with fail;exact⟨⟨k+1,by omega,by go_num,hA2.out,hB2.out,hl2.out⟩,by simp[intOf];omega⟩
  ·have hk16:k=16:=(by omega);subst hk16;rw[show((16:Nat):Int)=16 from rfl];obtain⟨R,hR⟩:∃R,nr .i64 17 (dg 8 r)=R:=⟨_,rfl⟩;have hA':Blk wr g 302 R:=by
    rw[<-hR,a0t .i64 17 (dg 8 r) (λi=>if i<16 then bn Q1 i else 0) (λi hi=>?_)]
    ·exact hA
    ·rw[HQ.out i];show bn Q1 i=if i<16 then bn Q1 i else 0;by_cases h1:i<16
     ·rw[qp h1]
     ·rw[qn h1];unfold bn;rw[b0a Q1 i (by omega)];rfl
   have lR:R.length=17:=(by rw[<-hR,a0k]);have HR:Hid (nr .i64 17 (dg 8 r)=R):=hR;have hB':Blk wr (g+1) 302 (nr .i64 17 (dg 8 (pac r s 0))):=by
    rw[a0t .i64 17 (dg 8 (pac r s 0)) (λ_=>0) (λi _=>b7s 8 i),PZ.out];exact hB
   clear hA hB hR HQ hQs;go_wp2_with fail;go_loopw[11] (λv wr=>∃k:Nat,k<=(s.size+15)/16/\v=.int .i64 (16*k)/\Blk wr g 302 R/\Blk wr (g+1) 302 (nr .i64 17 (dg 8 (pac r s k)))/\Below B w wr) (λv _=>(s.size+15-intOf v).toNat)
   case atStart=>exact⟨0,by omega,rfl,hA',hB',hl⟩
   case round=>
    clear hA' hB' hl;obtain⟨k,hk,rfl,hA,hB,hl⟩:=hrel;by_cases p9:16*k<s.size
    ·have aT:16*(k:Int)<((s.size:Nat):Int):=(by omega);obtain⟨n,hn⟩:∃n,min (16*k+16) s.size-16*k=n:=⟨_,rfl⟩;have hn1:n<=16:=(by omega);have hn2:16*k+n<=s.size:=(by omega);have hn3:n<16->16*k+n=s.size:=(by omega);have pW:(ckT s k).size=n+1:=(by rw[c6q,hn]);have hTb:Hid (∀i,i<n->bn (ckT s k) i=bn s (16*k+i)):=λi hi=>by
      unfold bn ckT;rw[a1q _ _ _ (by rw[a7m,hn];exact hi)];unfold ckB;rw[a2w s _ _ i (by omega) (by omega)]
     have hT1:Hid (bn (ckT s k) n=1):=by
      unfold bn ckT;rw[a1o _ _ _ (by rw[a7m,hn];exact ql _),a7m,hn,Nat.sub_self];exact rfl
     have hT0:Hid (∀i,n<i->bn (ckT s k) i=0):=λi hi=>by
      unfold bn;rw[b0a _ i (by omega)];rfl
     have hNb:=e9n s k;have hdN:Hid (∀i,dg 8 (ckN s k) i=bn (ckT s k) i):=λi=>(by unfold ckN;rw[c4l]);obtain⟨C,hC⟩:∃C:Nat->Nat,bn (ckT s k)=C:=⟨_,rfl⟩;rw[hC]at hTb hT1 hT0 hdN;clear hC pW hn;have hD0:Blk (wr.alloc (.cells Z.toArray 302)) wr.heap.size 302 Z:=Blk.box wr 302 Z;have hA0:Blk (wr.alloc (.cells Z.toArray 302)) g 302 R:=hA.alloc _;have hB0:Blk (wr.alloc (.cells Z.toArray 302)) (g+1) 302 (nr .i64 17 (dg 8 (pac r s k))):=hB.alloc _;have hg1:=hB.lt;have hl0:Below B w (wr.alloc (.cells Z.toArray 302)):=hl.alloc (by omega) _;clear hA hB hl;go_wp2_with fail;generalize wr.alloc (.cells Z.toArray 302)=w3 at hA0 hB0 hD0 hl0⊢;generalize wr.heap.size=h at*;rw[<-PZ.out]at hD0;go_loopw[13] (λv wi=>∃q:Nat,q<=n/\v=.int .i64 q/\Blk wi g 302 R/\Blk wi (g+1) 302 (nr .i64 17 (dg 8 (pac r s k)))/\Blk wi h 302 (nr .i64 17 (λi=>if i<q then C i else 0))/\Below B w wi) (λv _=>(16-intOf v).toNat)
     case atStart=>exact⟨0,by omega,rfl,hA0,hB0,hD0,hl0⟩
     case round=>
      clear hA0 hB0 hD0 hl0;obtain⟨q,hq,rfl,hA,hB,hD,hl⟩:=hrel;by_cases hqn:q<n
      ·have q1:(q:Int)<16:=(by omega);have q2:16*(k:Int)+(q:Int)<((s.size:Nat):Int):=(by omega);have cJ:=a8w s (16*k+q) (by omega);rw[<-hTb.out q hqn]at cJ;have fT:∀w,(Instr.index 9 (.string s) (.int .i64 (16*(k:Int)+(q:Int)))).run prog w=.ok (.int .u8 ((C q:Nat):Int)) w:=cJ;clear cJ;have bW:C q<256:=(by rw[hTb.out q hqn];exact b1w s _);have cn:wr.cell? ⟨h,q,none⟩=some (.int .i64 ((0:Nat):Int)):=by
        have:=hD.cell (a3c .i64 17 _ q (by omega));rw[qn (by omega)]at this;exact this
       have fn:=hD.frozen q;have hD2:Hid (Blk (wr.setCell ⟨h,q,none⟩ (.int .i64 ((C q:Nat):Int))) h 302 (nr .i64 17 (λi=>if i<q+1 then C i else 0))):=by
        have hh:=hD.setCell q (.int .i64 ((C q:Nat):Int));rw[a4i]at hh;rw[a0t .i64 17 (λi=>if i<q+1 then C i else 0) (λi=>if i=q then C q else if i<q then C i else 0) ?_]
        ·exact hh
        ·intro i _;show(if i<q+1 then C i else 0)=if i=q then C q else if i<q then C i else 0;by_cases h1:i=q
         ·subst h1;rw[qp (by omega),qp rfl]
         ·rw[qn h1];by_cases h2:i<q
          ·rw[qp h2,qp (by omega)]
          ·rw[qn h2,qn (by omega)]
       have hA2:Hid (Blk (wr.setCell ⟨h,q,none⟩ (.int .i64 ((C q:Nat):Int))) g 302 R):=hA.setOther (by omega) q _;have hB2:Hid (Blk (wr.setCell ⟨h,q,none⟩ (.int .i64 ((C q:Nat):Int))) (g+1) 302 (nr .i64 17 (dg 8 (pac r s k)))):=hB.setOther (by omega) q _;have hl2:Hid (Below B w (wr.setCell ⟨h,q,none⟩ (.int .i64 ((C q:Nat):Int)))):=hl.setCell (by show B<=h;omega) _;clear hA hB hD hl;generalize C q=x at*;go_wp2_with fail;exact⟨⟨q+1,by omega,by go_num,hA2.out,hB2.out,hD2.out,hl2.out⟩,by simp[intOf];omega⟩
      ·have kS:q=n:=(by omega);subst kS;have bA:=e2f r s k;have c1:=λw=>b6j (pac r s k) (ckN s k) bA hNb w;have c2:=λw=>d1n ((pac r s k+ckN s k)%pP) r (Nat.mod_lt _ b9n) (Nat.lt_trans hrb (by decide)) w;rw[<-e4o,HR.out]at c2;obtain⟨U,hU⟩:∃U,nr .i64 17 (dg 8 (pac r s k))=U:=⟨_,rfl⟩;obtain⟨X,hX⟩:∃X,nr .i64 17 (dg 8 (ckN s k))=X:=⟨_,rfl⟩;obtain⟨V,hV⟩:∃V,nr .i64 17 (dg 8 ((pac r s k+ckN s k)%pP))=V:=⟨_,rfl⟩;obtain⟨W,hW⟩:∃W,nr .i64 17 (dg 8 (pac r s (k+1)))=W:=⟨_,rfl⟩;have lU:U.length=17:=(by rw[<-hU,a0k]);have lX:X.length=17:=(by rw[<-hX,a0k]);have lV:V.length=17:=(by rw[<-hV,a0k]);have lW:W.length=17:=(by rw[<-hW,a0k]);have oV:∀v∈V,v.oneCell'=true:=(by rw[<-hV];exact a4j _ _ _);have oW:∀v∈W,v.oneCell'=true:=(by rw[<-hW];exact a4j _ _ _);have HW:Hid (nr .i64 17 (dg 8 (pac r s (k+1)))=W):=hW;have cn:wr.cell? ⟨h,q,none⟩=some (.int .i64 ((0:Nat):Int)):=by
        have:=hD.cell (a3c .i64 17 _ q (by omega));rw[qn (by omega)]at this;exact this
       have fn:=hD.frozen q;have hD1:Blk (wr.setCell ⟨h,q,none⟩ (.int .i64 1)) h 302 X:=by
        have hh:=hD.setCell q (.int .i64 ((1:Nat):Int));rw[a4i]at hh;rw[<-hX,a0t .i64 17 (dg 8 (ckN s k)) (λi=>if i=q then 1 else if i<q then C i else 0) ?_]
        ·exact hh
        ·intro i _;rw[hdN.out i];show C i=if i=q then 1 else if i<q then C i else 0;by_cases h1:i=q
         ·rw[qp h1,h1];exact hT1.out
         ·rw[qn h1];by_cases h2:i<q
          ·rw[qp h2]
          ·rw[qn h2];exact hT0.out i (by omega)
       have hA1:Blk (wr.setCell ⟨h,q,none⟩ (.int .i64 1)) g 302 R:=hA.setOther (by omega) q _;have hB1:Blk (wr.setCell ⟨h,q,none⟩ (.int .i64 1)) (g+1) 302 U:=(by rw[<-hU];exact hB.setOther (by omega) q _);have hl1:Below B w (wr.setCell ⟨h,q,none⟩ (.int .i64 1)):=hl.setCell (by show B<=h;omega) _;rw[hU,hX,hV]at c1;rw[hV,hW]at c2;clear hA hB hD hl hU hX hV hW bA hNb hdN hT0 hT1 hTb hq hqn;by_cases h16:q<16
       ·have q1:(q:Int)<16:=(by omega);have q2:¬(16*(k:Int)+(q:Int)<((s.size:Nat):Int)):=(by have:=hn3 h16;omega);have q3:(q:Int)<17:=(by omega);clear hn3;go_wp2_with(first|(refine a0a rfl 302 _ rfl (g+1) rfl 302 U _ hB1 underlying302 rfl (by rw[size302,lU]) ?_)|(refine a0a rfl 302 _ rfl h rfl 302 X _ hD1 underlying302 rfl (by rw[size302,lX]) ?_));clear cn fn;generalize wr.setCell ⟨h,q,none⟩ (.int .i64 1)=w4 at hA1 hB1 hD1 hl1⊢;refine(c1 w4).mono ?_;rintro e w5 ⟨rfl,hb5⟩;have hA5:=hA1.below hb5 hA1.lt;have hB5:=hB1.below hb5 hB1.lt;have hl5:=hl1.trans (hb5.mono (show B<=w4.heap.size by have:=hA1.lt;omega));have hA6:Blk (w5.setRow (g+1) V.toArray) g 302 R:=hA5.setRowOther (by omega) _;have hB6:Blk (w5.setRow (g+1) V.toArray) (g+1) 302 V:=hB5.setRow;have hl6:Below B w (w5.setRow (g+1) V.toArray):=below_setRow hl5 (by omega) _;clear hA1 hB1 hD1 hl1 hb5 c1 hA5 hl5;go_wp2_with(first|(refine a0b rfl 302 _ _ rfl (g+1) U V rfl rfl 302 hB5 (by rw[size302,lV]) (by rw[lU,lV]) oV ?_)|(refine a0a rfl 302 _ rfl (g+1) rfl 302 V _ hB6 underlying302 rfl (by rw[size302,lV]) ?_)|(refine a0a rfl 302 _ rfl g rfl 302 R _ hA6 underlying302 rfl (by rw[size302,lR]) ?_));clear hB5;generalize w5.setRow (g+1) V.toArray=w6 at hA6 hB6 hl6⊢;refine(c2 w6).mono ?_;rintro e w7 ⟨rfl,hb7⟩;have hA7:=hA6.below hb7 hA6.lt;have hB7:=hB6.below hb7 hB6.lt;have hl7:=hl6.trans (hb7.mono (show B<=w6.heap.size by have:=hA6.lt;omega));have hA8:Blk (w7.setRow (g+1) W.toArray) g 302 R:=hA7.setRowOther (by omega) _;have hB8:Blk (w7.setRow (g+1) W.toArray) (g+1) 302 W:=hB7.setRow;have hl8:Below B w (w7.setRow (g+1) W.toArray):=below_setRow hl7 (by omega) _;clear hA6 hB6 hl6 hb7 c2 hA7 hl7;go_wp2_with(refine a0b rfl 302 _ _ rfl (g+1) V W rfl rfl 302 hB7 (by rw[size302,lW]) (by rw[lV,lW]) oW ?_);exact⟨⟨k+1,by omega,by congr 1,hA8,by rw[HW.out];exact hB8,hl8⟩,by simp[intOf];omega⟩
       ·have q16:q=16:=(by omega);subst q16;rw[show((16:Nat):Int)=16 from rfl];clear hn3;go_wp2_with(first|(refine a0a rfl 302 _ rfl (g+1) rfl 302 U _ hB1 underlying302 rfl (by rw[size302,lU]) ?_)|(refine a0a rfl 302 _ rfl h rfl 302 X _ hD1 underlying302 rfl (by rw[size302,lX]) ?_));clear cn fn;generalize wr.setCell ⟨h,16,none⟩ (.int .i64 1)=w4 at hA1 hB1 hD1 hl1⊢;refine(c1 w4).mono ?_;rintro e w5 ⟨rfl,hb5⟩;have hA5:=hA1.below hb5 hA1.lt;have hB5:=hB1.below hb5 hB1.lt;have hl5:=hl1.trans (hb5.mono (show B<=w4.heap.size by have:=hA1.lt;omega));have hA6:Blk (w5.setRow (g+1) V.toArray) g 302 R:=hA5.setRowOther (by omega) _;have hB6:Blk (w5.setRow (g+1) V.toArray) (g+1) 302 V:=hB5.setRow;have hl6:Below B w (w5.setRow (g+1) V.toArray):=below_setRow hl5 (by omega) _;clear hA1 hB1 hD1 hl1 hb5 c1 hA5 hl5;go_wp2_with(first|(refine a0b rfl 302 _ _ rfl (g+1) U V rfl rfl 302 hB5 (by rw[size302,lV]) (by rw[lU,lV]) oV ?_)|(refine a0a rfl 302 _ rfl (g+1) rfl 302 V _ hB6 underlying302 rfl (by rw[size302,lV]) ?_)|(refine a0a rfl 302 _ rfl g rfl 302 R _ hA6 underlying302 rfl (by rw[size302,lR]) ?_));clear hB5;generalize w5.setRow (g+1) V.toArray=w6 at hA6 hB6 hl6⊢;refine(c2 w6).mono ?_;rintro e w7 ⟨rfl,hb7⟩;have hA7:=hA6.below hb7 hA6.lt;have hB7:=hB6.below hb7 hB6.lt;have hl7:=hl6.trans (hb7.mono (show B<=w6.heap.size by have:=hA6.lt;omega));have hA8:Blk (w7.setRow (g+1) W.toArray) g 302 R:=hA7.setRowOther (by omega) _;have hB8:Blk (w7.setRow (g+1) W.toArray) (g+1) 302 W:=hB7.setRow;have hl8:Below B w (w7.setRow (g+1) W.toArray):=below_setRow hl7 (by omega) _;clear hA6 hB6 hl6 hb7 c2 hA7 hl7;go_wp2_with(refine a0b rfl 302 _ _ rfl (g+1) V W rfl rfl 302 hB7 (by rw[size302,lW]) (by rw[lV,lW]) oW ?_);exact⟨⟨k+1,by omega,by congr 1,hA8,by rw[HW.out];exact hB8,hl8⟩,by simp[intOf];omega⟩
    ·have nS:(s.size+15)/16=k:=(by omega);have aT:¬(16*(k:Int)<((s.size:Nat):Int)):=(by omega);rw[nS]at HT;obtain⟨A,hAd⟩:∃A,pac r s k=A:=⟨_,rfl⟩;rw[hAd]at hB HT;obtain⟨i0,hi,hz0,hz1,hz2⟩:=info_parts info5';have HE:Hid (leB (A+a2) 16=tagB key s):=HT.out.symm;have hg1:=hB.lt;have hlB:Hid (Below B w wr):=hl;clear hA hAd nS HT HR aI PZ;go_wp2_with fail
     rename World=>w4
     obtain⟨H,hHd⟩:∃H,w4.heap.size=H:=⟨_,rfl⟩;rw[hHd]at hg1;go_loopw[14,15,16] (λo c v wr=>∃q:Nat,q<=16/\v=.int .i64 q/\c=.int .i64 ((cy 8 A a2 q:Nat):Int)/\wr.ownsRow H 5 1 o q ((leL (A+a2) q).map (Value.int .u8))/\Below H w4 wr) (λ_ _ v _=>(16-intOf v).toNat)
     case atStart=>exact⟨0,by omega,rfl,by rw[c4m];rfl,World.ownsRow_nil _ _ _ _,qw _ _⟩
     case round=>
      obtain⟨q,hq,rfl,rfl,q8,t8⟩:=hrel;by_cases aD:q<16
      ·have q1:(q:Int)<16:=(by omega);have ca:=(hB.below t8 hg1).cell (a3c .i64 17 (dg 8 A) q (by omega));have cJ:=a8w key (16+q) (by omega);rw[HK2.out q aD]at cJ;have fT:∀w,(Instr.index 9 (.string key) (.int .i64 (16+(q:Int)))).run prog w=.ok (.int .u8 ((dg 8 a2 q:Nat):Int)) w:=cJ;clear cJ;have b0:=a2k 8 A q;have b1:=a2k 8 a2 q;have b2:=e0k 8 A a2 q;have e1:=d5e 8 A a2 q;have e2:=c4n 8 A a2 q;rw[show(2:Nat)^8=256 from rfl]at b0 b1 e1 e2;have hLL:(leL (A+a2) (q+1)).map (Value.int .u8)=(leL (A+a2) q).map (Value.int .u8)++[.int .u8 ((dg 8 (A+a2) q:Nat):Int)]:=by
        unfold leL;rw[List.range_succ];simp
       have HL:Hid ((leL (A+a2) (q+1)).map (Value.int .u8)=(leL (A+a2) q).map (Value.int .u8)++[.int .u8 ((dg 8 (A+a2) q:Nat):Int)]):=hLL;clear hLL;obtain⟨c1,hc1⟩:∃c1,cy 8 A a2 (q+1)=c1:=⟨_,rfl⟩;rw[hc1]at e2;have HC1:Hid (((cy 8 A a2 (q+1):Nat):Int)=(c1:Int)):=(by rw[hc1];exact rfl);have aA:=t8.size;rw[hHd]at aA;clear hc1;generalize dg 8 (A+a2) q=z at*;generalize dg 8 A q=x at*;generalize dg 8 a2 q=y at*;generalize cy 8 A a2 q=c at*;have e1':((c:Int)+(x:Int)+(y:Int))%256=(z:Int):=(by omega);have e2':((c:Int)+(x:Int)+(y:Int))/256=(c1:Int):=(by omega);have hz:(z:Int)<256:=(by omega);clear e1 e2;go_wp2_with fail
       go_quiet(fail)
       go_wp2_with(at_builtin;refine wpList_append_own _ rfl _ _ 22 rfl H 5 i0 (.int .u8 0) 1 1 underlying22 hi hz0 hz1 hz2 rfl (by decide) _ _ _ rfl (World.ownsRow.alloc (w:=wr.drewN nq) q8 _) ⟨wr.heap.size,0,none⟩ 1 1 [.int .u8 (z:Int)] rfl rfl ?c1 ?c2 ?c3 ?c4 ?c5 ?_)
       case c1=>
        intro j u hj
        match j,hj with
        |0,hj=>simp at hj;subst hj;simp only[Addr.add];exact(Blk.new (wr.drewN nq) 5 #[.int .u8 (z:Int)]).cell rfl
       case c2=>intro u hu;simp at hu;subst hu;rfl
       case c3=>unfold maxLen;omega
       case c4=>omega
       case c5=>simp;omega
       ·intro v' w6 t6 q9 _;have x6:Below H w4 w6:=by
         refine Below.grown ((below_drewN' t8 nq).alloc (by show H<=wr.heap.size;omega) _) q9 (by simp;omega) ?_;intro g hg;exact(q8.lt g hg).1
        have R':w6.ownsRow H 5 1 v' (q+1) ((leL (A+a2) (q+1)).map (Value.int .u8)):=by
         rw[HL.out];exact t6
        clear t6 q9 q8 t8 ca;go_wp2_with fail;exact⟨⟨q+1,by omega,by go_num,by rw[HC1.out,e2'],R',x6⟩,by simp[intOf];omega⟩
      ·have hq16:q=16:=(by omega);subst hq16;rw[show((16:Nat):Int)=16 from rfl];have fH:=a2h q8 (by simp[leL]);rw[show strOfNums (leL (A+a2) 16)=leB (A+a2) 16 from rfl]at fH;generalize leB (A+a2) 16=G at*;have aY:B<=H:=(by omega);go_wp2_with fail;go_ret2;refine⟨by rw[<-HE.out];rfl,?_⟩;rw[HB.out];exact hlB.out.trans (t8.mono aY)
theorem e1v (s:BA)(i:Nat)(h:i<s.size)(w:World):(Instr.index 9 (.string s) (.int .i64 (i:Int))).run prog w=.ok (.int .u8 ((bn s i:Nat):Int)) w:=by
 rw[run_index_string w 9 s .i64 (i:Int) underlying9,dif_pos ⟨by omega,by omega⟩,a7u];unfold bt;rw[dif_pos h];simp
theorem b8i (p q:Nat):p^^^q=0↔p=q:=by
 constructor
 ·intro h;have h2:(p^^^q)^^^q=0^^^q:=by rw[h]
  rw[Nat.xor_assoc,Nat.xor_self,Nat.xor_zero,Nat.zero_xor]at h2;exact h2
 ·rintro rfl;exact Nat.xor_self p
theorem c3j (p q:Nat):p|||q=0↔p=0/\q=0:=by
 constructor
 ·intro h;have h1:=Nat.left_le_or (n:=p) (m:=q);have h2:=Nat.right_le_or (n:=p) (m:=q);omega
 ·rintro⟨rfl,rfl⟩;rfl
theorem d5b (a b:BA)(ha:a.size<=9007199254740992)(hb:b.size<=9007199254740992)(w:World):
 Calls prog 154 #[.string a,.string b] w λe w'=>e=.returned (.bool (decide (a=b)))/\Below w.heap.size w w':=by
 by_cases hs:a.size=b.size
 ·have hI:(((a.size:Nat):Int) !=((b.size:Nat):Int))=false:=by simp;omega
  have HS:Hid (a.size=b.size):=hs;have iU:a.size<=b.size:=by omega
  clear hs;go_enter func154,ntmps154;go_wp2_with fail;go_loopw[5,14] (λu v wr=>∃k x:Nat,k<=a.size/\v=.int .i64 k/\u=.int .u8 (x:Int)/\x<256/\(x=0↔∀i,i<k->bn a i=bn b i)/\Below w.heap.size w wr) (λ_ v _=>(a.size-intOf v).toNat)
  case atStart=>exact⟨0,0,by omega,rfl,rfl,by decide,⟨λ_ i hi=>by omega,λ_=>rfl⟩,qw _ _⟩
  case round=>
   obtain⟨k,x,hk,rfl,rfl,hx,mX,hl⟩:=hrel;by_cases p9:k<a.size
   ·have aT:(k:Int)<((a.size:Nat):Int):=(by omega);have ia:=e1v a k p9;have ib:=e1v b k (by omega);have b0:=b1w a k;have b1:=b1w b k;rw[show(2:Nat)^8=256 from rfl]at b0 b1;have hxor:=u8_xor_nat (bn a k) (bn b k) b0 b1;have hxl:bn a k^^^bn b k<256:=Nat.xor_lt_two_pow (n:=8) b0 b1;have nP:=u8_or_nat x (bn a k^^^bn b k) hx hxl;have hol:x|||(bn a k^^^bn b k)<256:=Nat.or_lt_two_pow (n:=8) hx hxl
    have HN:Hid (x|||(bn a k^^^bn b k)=0↔∀i,i<k+1->bn a i=bn b i):=by
     show _↔_;rw[c3j,b8i,mX];constructor
     ·rintro⟨h1,h2⟩ i hi;by_cases e:i=k
      ·rw[e];exact h2
      ·exact h1 i (by omega)
     ·intro h;exact⟨λi hi=>h i (by omega),h k (by omega)⟩
    have Hl:Hid (Below w.heap.size w wr):=hl;clear mX hl;generalize x|||(bn a k^^^bn b k)=z at*
    generalize bn a k^^^bn b k=y at*;generalize bn a k=p at*;generalize bn b k=q at*;go_wp2_with fail
    go_quiet(fail)
    go_wp2_with fail;exact⟨⟨k+1,z,by omega,by go_num,rfl,hol,HN.out,⟨Hl.out.os,Hl.out.tape,Hl.out.output,Hl.out.size,Hl.out.block⟩⟩,by simp[intOf];omega⟩
   ·have nS:k=a.size:=(by omega);subst nS;have hD:decide (a=b)=decide ((x:Int)=0):=by
     apply decide_eq_decide.2;constructor
     ·intro e;have:x=0:=mX.2 (λi _=>by rw[e]);omega
     ·intro e;apply a2q HS.out;intro i hi;rw[<-a7u,<-a7u,mX.1 (by omega) i hi]
    have HD:Hid (decide (a=b)=((x:Int)==0)):=(by rw[hD];exact rfl);clear mX hD;go_wp2_with fail;go_ret;exact⟨by rw[HD.out];rfl,hl⟩
 ·have hI:(((a.size:Nat):Int) !=((b.size:Nat):Int))=true:=by simp;omega
  have HD:Hid (decide (a=b)=false):=decide_eq_false (λe=>hs (by rw[e]));clear hs;go_enter func154,ntmps154;go_wp2_with fail;go_ret;exact⟨by rw[HD.out];rfl,qw _ _⟩
theorem toList_eq (a b:BA):(a.toList==b.toList)=decide (a=b):=by
 by_cases h:a=b
 ·subst h;simp
 ·rw[decide_eq_false h];apply beq_eq_false_iff_ne.2;intro e;apply h;rw[ByteArray.toList_eq,ByteArray.toList_eq]at e;exact ByteArray.ext (Array.toList_inj.1 e)
end Go.Proofs.YtokknmkleceooaaGreatDoor
