import Derived.Test.YtokknmkleceooaaGreatDoorStLdM
import Derived.Lib.AppendZerosOnto
namespace Go.Proofs.YtokknmkleceooaaGreatDoor
set_option linter.unusedVariables false
set_option maxRecDepth 20000
set_option maxHeartbeats 8000000
open Go.Proofs.Tryz
open Go.RowKit Go.PlainAid
abbrev e8h:Value:=.func (.func 28) #[] #[]
theorem b9w (s:BA)(g:Bool)(hg:g=true↔s.size≠32)(hs:s.size<=9223372036854775807)(w:World):Calls prog 28 #[.string s] w λe w'=>e=.returned (.bool g)/\w'=w:=by
 by_cases h:s.size=32
 ·obtain rfl:g=false:=by
   cases g with
   |false=>rfl
   |true=>exact absurd h (hg.1 rfl)
  clear hg;have h':(s.size:Int)=32:=by omega
  go_enter func28,ntmps28;go_wp2;go_ret;exact⟨rfl,rfl⟩
 ·obtain rfl:g=true:=hg.2 h;clear hg;have h':((s.size:Int) !=32)=true:=by simp;omega
  go_enter func28,ntmps28;go_wp2;go_ret;exact⟨rfl,rfl⟩
theorem d9i (a:Option Addr)(n c:Nat)(F:Nat->BA)(w:World)(hn:n<=1000)(ha:Vals w a n λi=>.string (F i))(hs:∀i,i<n->(F i).size<=9223372036854775807):Calls prog 61 #[.slice a n c,e8h] w λe w'=>(∃z:Int,e=.returned (.int .i64 z)/\(0<=z↔∃i,i<n/\(F i).size≠32))/\w'=w:=by
 have HA:=ha.at;have HS:Hid (∀i,i<n->(F i).size<=9223372036854775807):=hs;clear ha hs;go_enter func61,ntmps61;go_wp2_with fail;go_loop [8] (λi=>∃k:Nat,k<=n/\i=.int .i64 k/\Hid (∀j,j<k->(F j).size=32)) (λi=>(n:Nat)-(intOf i).toNat)
 case atStart=>exact⟨0,Nat.zero_le _,rfl,λj hj=>by omega⟩
 case round=>
  obtain⟨k,hk,rfl,y7⟩:=hrel;by_cases p9:k<n
  ·obtain⟨b,o,rfl,e1⟩:=HA.out w (qw _ _) k p9;have kn:(k:Int)<(n:Int):=(by omega);by_cases h32:(F k).size=32
   ·have hm:=b9w (F k) false ⟨λh=>(by cases h),λh=>absurd h32 h⟩ (HS.out k p9) w;have H32:Hid ((F k).size=32):=h32;clear h32;go_wp2_with fail;refine hm.mono ?_;rintro e w' ⟨rfl,rfl⟩;go_wp2_with fail;go_round
    case rel=>exact⟨k+1,by omega,by go_num,λj hj=>by
     by_cases e:j=k
     ·rw[e];exact H32.out
     ·exact y7.out j (by omega)⟩
    case measure=>simp[intOf];omega
   ·have hm:=b9w (F k) true ⟨λ_=>h32,λ_=>rfl⟩ (HS.out k p9) w;have H32:Hid ((F k).size≠32):=h32;clear h32;go_wp2_with fail;refine hm.mono ?_;rintro e w' ⟨rfl,rfl⟩;go_wp2_with fail;go_ret;exact⟨⟨(k:Int),rfl,⟨λ_=>⟨k,p9,H32.out⟩,λ_=>by omega⟩⟩,rfl⟩
  ·have aM:k=n:=(by omega);subst aM;go_wp2_with fail;go_ret;exact⟨⟨-1,rfl,⟨λh=>by omega,λ⟨i,hi,h⟩=>absurd (y7.out i hi) h⟩⟩,rfl⟩
theorem c0t (a:Option Addr)(n c:Nat)(F:Nat->BA)(w:World)(hn:n<=1000)(ha:Vals w a n λi=>.string (F i))(hs:∀i,i<n->(F i).size<=9223372036854775807)(g:Bool)(hg:g=true↔∃i,i<n/\(F i).size≠32):Calls prog 27 #[.slice a n c,e8h] w λe w'=>e=.returned (.bool g)/\w'=w:=by
 go_enter func27,ntmps27;go_wp2_with fail;go_at_call 61;refine(d9i a n c F w hn ha hs).mono ?_;rintro e w' ⟨⟨z,rfl,hz⟩,rfl⟩;have HZ:Hid (0<=z↔g=true):=by rw[hg];exact hz
 clear hz hg;go_wp2_with fail;go_ret;refine⟨congrArg (λb=>Ending.returned (.bool b)) ?_,rfl⟩;rw[Bool.eq_iff_iff];simpa using HZ.out
theorem d9q (n:Nat)(h1:1<=n)(h2:n<=1000)(w:World):Calls prog 65 #[.slice none 0 0,.int .i64 (n:Int)] w λe w'=>∃v,e=.returned v/\w'.ownsRow w.heap.size 9 1 v 0 []/\Below w.heap.size w w':=by
 obtain⟨i0,hi,hz0,hz1,hz2⟩:=info_parts (show(prog.info? 9).map (λi=>(i.zero,i.size,i.bytes))=some (some (.string noB),1,16) by kernel_rfl);have n1:¬(n:Int)<0:=by omega
 have n2:(0:Int)<(n:Int):=by omega
 have n3:(n:Int)-0=n:=by omega
 have hr:=λty (x:World)=>Go.Lib.run_append_nil_zeros (P:=prog) x 23 3 ty 9 i0 (.string noB) .i64 .i64 underlying23 underlying3 hi hz0 n (by omega) (by omega) (by omega) (by rw[hz2];omega);have mC:=grownCap_ge w n 0 9;have dF:grownCap w n 0 9<=maxLen:=grownCap_le_maxLen w n 0 9 (by unfold maxLen;omega);unfold maxLen at dF;have HR:Hid (∀ty,(Builtin.append_ #[23,3] ty #[.slice none 0 0,.int .i64 (n:Int)]).run prog w=_):=λty=>hr ty w;have HO:Hid ((w.drew.alloc (.cells (Builtin.zeroCells (Value.string noB).cells n++Builtin.zeroCells (Value.string noB).cells (grownCap w n 0 9-n)) 9)).ownsRow w.heap.size 9 1 (.slice (some ⟨w.heap.size,0,none⟩) 0 (grownCap w n 0 9)) 0 []):=by
  refine⟨rfl,.inr ⟨w.heap.size,_,_,rfl,ql _,heap_alloc_new w.drew _,Nat.zero_le _,by unfold maxLen;omega,?_,?_⟩⟩
  ·simp only[Array.size_append,size_zeroCells];have:(Value.string noB).cells.size=1:=rfl;rw[this];omega
  ·simp
 have HB:Hid (Below w.heap.size w (w.drew.alloc (.cells (Builtin.zeroCells (Value.string noB).cells n++Builtin.zeroCells (Value.string noB).cells (grownCap w n 0 9-n)) 9))):=(qw _ _).drew.alloc (ql _) _;generalize grownCap w n 0 9=G at*;generalize w.drew.alloc (.cells (Builtin.zeroCells (Value.string noB).cells n++Builtin.zeroCells (Value.string noB).cells (G-n)) 9)=w2 at*;clear hr hi hz0 hz1 hz2;go_enter func65,ntmps65;go_wp2_with(at_builtin;refine Go.Lib.wpList_append_run _ rfl _ _ 23 3 rfl _ _ rfl rfl _ _ (HR.out _) ?_);go_ret;exact⟨_,rfl,HO.out,HB.out⟩
theorem e1z {w:World}{a:Option Addr}{n:Nat}{F:Nat->BA}(h:Vals w a n λi=>.string (F i))(hn:1<=n):∃b o,a=some ⟨b,o,none⟩/\∀z,Below w.heap.size w z->∀j u,(strs n F)[j]?=some u->z.cell? ((⟨b,o,none⟩:Addr).add j)=some u:=by
 rcases h with h|⟨b,o,e,h⟩
 ·omega
 ·refine⟨b,o,e,λz hz j u hu=>?_⟩;obtain⟨hj,-⟩:=List.getElem?_eq_some_iff.1 hu;rw[a0o]at hj;rw[a0s n F j hj]at hu
  cases hu
  rw[Go.WideShapes.add_plain,hz.cell (p:=⟨b,o+j,none⟩) (a0p (h j hj))];exact h j hj
theorem c9q (gb:Nat)(a1 a2:Option Addr)(n1 c1 n2 c2:Nat)(F G:Nat->BA)(w:World)(hB:Blk w gb 23 [.slice a1 n1 c1,.slice a2 n2 c2])(h1:1<=n1/\n1<=100)(h2:1<=n2/\n2<=100)(hF:Vals w a1 n1 λi=>.string (F i))(hG:Vals w a2 n2 λi=>.string (G i)):
 Calls prog 30 #[.slice (some ⟨gb,0,none⟩) 2 2] w λe w'=>∃v,e=.returned v/\w'.ownsRow w.heap.size 9 1 v (n1+n2) (strs n1 F++strs n2 G)/\Below w.heap.size w w':=by
 obtain⟨i0,hi,hz0,hz1,hz2⟩:=info_parts (show(prog.info? 9).map (λi=>(i.zero,i.size,i.bytes))=some (some (.string noB),1,16) by kernel_rfl);obtain⟨b1,o1,rfl,s1⟩:=e1z hF h1.1;obtain⟨b2,o2,rfl,s2⟩:=e1z hG h2.1;have HS1:Hid _:=s1;have HS2:Hid _:=s2;have HBB:Hid (Blk w gb 23 [.slice (some ⟨b1,o1,none⟩) n1 c1,.slice (some ⟨b2,o2,none⟩) n2 c2]):=hB;have HN:Hid ((1<=n1/\n1<=100)/\(1<=n2/\n2<=100)):=⟨h1,h2⟩;have d0:=hB.cell (i:=0) rfl;have d1:=hB.cell (i:=1) rfl;have dO:=λz=>d9q (n1+n2) (by omega) (by omega) z;have p1:¬(n1:Int)<0:=by omega
 have p2:¬(n1:Int)+(n2:Int)<0:=by omega
 have b1':(n1:Int)<=100:=by omega
 have b2':(n2:Int)<=100:=by omega
 have b3':(0:Int)<=(n1:Int):=by omega
 have b4':(0:Int)<=(n2:Int):=by omega
 clear hF hG s1 s2 hB h1 h2;go_enter func30,ntmps30;go_wp2_with fail;go_loop [3,11] (λs i=>∃k:Nat,k<=2/\i=.int .i64 k/\s=.int .i64 (if k=0 then 0 else if k=1 then(n1:Int)else(n1:Int)+(n2:Int))) (λ_ i=>2-(intOf i).toNat)
 case atStart=>exact⟨0,by omega,rfl,rfl⟩
 case round=>
  obtain⟨k,hk,rfl,rfl⟩:=hrel;rcases(by omega:k=0\/k=1\/k=2)with rfl|rfl|rfl
  ·rw[qp rfl,show((0:Nat):Int)=0 from rfl];go_wp2_with fail;go_round
   case rel=>exact⟨1,by omega,rfl,by simp⟩
   case measure=>simp[intOf]
  ·rw[qn (by decide),qp rfl,show((1:Nat):Int)=1 from rfl];go_wp2_with fail;go_round
   case rel=>exact⟨2,by omega,rfl,by simp⟩
   case measure=>simp[intOf]
  ·rw[qn (by decide),qn (by decide),show((2:Nat):Int)=2 from rfl];have cV:=dO w;rw[show((n1+n2:Nat):Int)=(n1:Int)+(n2:Int) by omega]at cV;go_wp2_with(go_at_call 65;refine cV.mono ?_;rintro e w2 ⟨v,rfl,hr2,hb2⟩;have HR2:Hid (w2.ownsRow w.heap.size 9 1 v 0 []):=hr2;have HB2:Hid (Below w.heap.size w w2):=hb2;clear hr2 hb2 cV);go_loopw[6,27] (λv i wr=>∃k:Nat,k<=2/\i=.int .i64 k/\Hid (Below w.heap.size w wr)/\Hid (wr.ownsRow w.heap.size 9 1 v (if k=0 then 0 else if k=1 then n1 else n1+n2) (if k=0 then []else if k=1 then strs n1 F else strs n1 F++strs n2 G))) (λ_ i _=>2-(intOf i).toNat)
   case atStart=>exact⟨0,by omega,rfl,HB2.out,HR2.out⟩
   case round=>
    clear HB2 HR2;obtain⟨k,hk,rfl,HB3,HR3⟩:=hrel;have oL:=HBB.out.below HB3.out HBB.out.lt;have d0:=oL.cell (i:=0) rfl;have d1:=oL.cell (i:=1) rfl;have hs1:=HS1.out _ HB3.out;have hs2:=HS2.out _ HB3.out;have HQ1:Hid _:=hs1;have HQ2:Hid _:=hs2;have hl1:=a0o n1 F;have hl2:=a0o n2 G;clear oL hs1 hs2 dO;rcases(by omega:k=0\/k=1\/k=2)with rfl|rfl|rfl
    ·replace HR3:Hid (World.ownsRow _ w.heap.size 9 1 _ 0 []):=HR3
     try rw[show((0:Nat):Int)=0 from rfl]
     go_wp2_with(at_builtin;refine wpList_append_own _ rfl _ _ 23 rfl w.heap.size 9 i0 (.string noB) 1 16 underlying23 hi hz0 hz1 hz2 rfl (by decide) _ 0 _ rfl HR3.out ⟨b1,o1,none⟩ n1 c1 (strs n1 F) rfl (by rw[hl1,Nat.mul_one]) ?h1 ?h2 ?h3 ?h4 ?h5 ?_)
     case h1=>exact HQ1.out
     case h2=>exact a8u n1 F
     case h3=>unfold maxLen;have:=HN.out;omega
     case h4=>have:=HN.out;omega
     case h5=>exact HB3.out.size
     intro v' w3 aU q9 _;have hb3:Below w.heap.size w w3:=HB3.out.grown q9 HB3.out.size (λb hb=>(World.ownsRow.lt HR3.out b hb).1);go_wp2_with fail;go_roundw
     case rel=>exact⟨1,by omega,rfl,hb3,aU⟩
     case measure=>simp[intOf]
    ·replace HR3:Hid (World.ownsRow _ w.heap.size 9 1 _ n1 (strs n1 F)):=HR3
     try rw[show((1:Nat):Int)=1 from rfl]
     go_wp2_with(at_builtin;refine wpList_append_own _ rfl _ _ 23 rfl w.heap.size 9 i0 (.string noB) 1 16 underlying23 hi hz0 hz1 hz2 rfl (by decide) _ n1 _ rfl HR3.out ⟨b2,o2,none⟩ n2 c2 (strs n2 G) rfl (by rw[hl2,Nat.mul_one]) ?h1 ?h2 ?h3 ?h4 ?h5 ?_)
     case h1=>exact HQ2.out
     case h2=>exact a8u n2 G
     case h3=>unfold maxLen;have:=HN.out;omega
     case h4=>have:=HN.out;omega
     case h5=>exact HB3.out.size
     intro v' w3 aU q9 _;have hb3:Below w.heap.size w w3:=HB3.out.grown q9 HB3.out.size (λb hb=>(World.ownsRow.lt HR3.out b hb).1);go_wp2_with fail;go_roundw
     case rel=>exact⟨2,by omega,rfl,hb3,aU⟩
     case measure=>simp[intOf]
    ·replace HR3:Hid (World.ownsRow _ w.heap.size 9 1 _ (n1+n2) (strs n1 F++strs n2 G)):=HR3
     try rw[show((2:Nat):Int)=2 from rfl]
     go_wp2_with fail;go_ret;exact⟨_,rfl,HR3.out,HB3.out⟩
def mkC (k:Nat)(F:Nat->BA)(i:Nat):BA:=strE 32 (St k (λi=>teE (F i)) i)
theorem c5r (k:Nat)(F:Nat->BA)(i:Nat):(mkC k F i).size=32:=a0j _ _
theorem d8v {k:Nat}{F:Nat->BA}(h:∀i,i<k->(F i).size=32){i:Nat}(hi:i<k):mkC k F i=F i:=by
 unfold mkC;rw[a1j (g:=teE (F i)) λc hc=>b8f hi _ c,<-h i hi,b0n]
theorem d7j (k:Nat)(F:Nat->BA)(p q:BA)(hp:F k=p)(hq:F (k+1)=q):strs (k+2) F=strs k F++strs 2 (λi=>if i=0 then p else q):=by
 rw[b8u,b8u,List.append_assoc,hp,hq];rfl
def mkE (k:Nat)(F:Nat->BA):Int:=if 2<=k/\k<=8 then(if∀i,i<k->(F i).size=32 then 0 else 7)else 2
theorem d3k {w w1:World}(hb:Below w.heap.size w w1)(a:Option Addr)(k c:Nat)(F:Nat->BA)(ha:Vals w a k λi=>.string (F i))(hk:1<=k/\k<=100)(P Q:BA):
 Calls prog 30 #[.slice (some ⟨w1.heap.size+1,0,none⟩) 2 2] ((w1.alloc (.cells #[.string P,.string Q] 9)).alloc (.cells #[.slice a k c,.slice (some ⟨w1.heap.size,0,none⟩) 2 2] 23)) λe w'=>∃v,e=.returned v/\w'.ownsRow w.heap.size 9 1 v (k+2) (strs k F++strs 2 (λi=>if i=0 then P else Q))/\Below w.heap.size w w':=by
 have h1:Below w1.heap.size w1 (w1.alloc (.cells #[.string P,.string Q] 9)):=(qw _ _).alloc (ql _) _;have e1:(w1.alloc (.cells #[.string P,.string Q] 9)).heap.size=w1.heap.size+1:=by simp
 have h2:Below w1.heap.size w1 ((w1.alloc (.cells #[.string P,.string Q] 9)).alloc (.cells #[.slice a k c,.slice (some ⟨w1.heap.size,0,none⟩) 2 2] 23)):=h1.alloc h1.size _;have hB:=Blk.new (w1.alloc (.cells #[.string P,.string Q] 9)) 23 #[.slice a k c,.slice (some ⟨w1.heap.size,0,none⟩) 2 2];rw[e1]at hB;have hPQ:=(Blk.new w1 9 #[.string P,.string Q]).alloc (.cells #[.slice a k c,.slice (some ⟨w1.heap.size,0,none⟩) 2 2] 23);have hb2:=hb.trans (h2.mono hb.size);refine(c9q _ a (some ⟨w1.heap.size,0,none⟩) k c 2 2 F (λi=>if i=0 then P else Q) _ hB hk ⟨by decide,by decide⟩ (ha.below hb2 (ql _)) (.inr ⟨w1.heap.size,0,rfl,λi hi=>?_⟩)).mono ?_
 ·rcases(by omega:i=0\/i=1)with rfl|rfl
  ·exact hPQ.cell (i:=0) rfl
  ·exact hPQ.cell (i:=1) rfl
 ·rintro e w' ⟨v,h3,h4,h5⟩;exact⟨v,h3,a7g h4 hb2.size,hb2.trans (h5.mono hb2.size)⟩
theorem d8x (a:Option Addr)(k c:Nat)(F:Nat->BA)(w:World)(hk:k<=1000)(nU:k<=c)(hc:c<=9223372036854775807)(ha:Vals w a k λi=>.string (F i))(hs:∀i,i<k->(F i).size<=9223372036854775807):
 Calls prog 9 #[.slice a k c] w λe w'=>∃v,e=.returned (.tuple #[v,.int .i64 (mkE k F)])/\(mkE k F≠0->v=.slice none 0 0)/\(mkE k F=0->w'.ownsRow w.heap.size 9 1 v (k+2) (strs (k+2) (mkC k F)))/\Below w.heap.size w w':=by
 by_cases aG:2<=k/\k<=8
 ·have aX:=λz=>c4d (k:Int) true ⟨λ_=>by omega,λ_=>rfl⟩ z;by_cases hz:∀i,i<k->(F i).size=32
  ·have HE:Hid (mkE k F=0):=(by show _=_;unfold mkE;rw[qp aG,qp hz]);have dF:=c0t a k c F w hk ha hs false ⟨λh=>(by cases h),λ⟨i,hi,h⟩=>absurd (hz i hi) h⟩;have hT:TxtAt w a k (λi=>(F i).size) (λi=>teE (F i)):=⟨by
    rcases ha with h0|⟨b,o,e,h⟩
    ·exact .inl h0
    ·exact .inr ⟨b,o,e,λi hi=>by show _=some (Value.string (strE (F i).size (teE (F i))));rw[b0n];exact h i hi⟩,hs⟩
   have hen:=b1b a k c _ _ w nU hc hT;have hz0:encE k (λi=>(F i).size)=0:=a4x.2 ⟨by omega,λc hc=>by rw[hz c hc,hz 0 (by omega)],by rw[hz 0 (by omega)];decide⟩;have hp:∀r,encS k (λi=>(F i).size) (λi=>teE (F i)) r=mkC k F (k+r):=λr=>by
    unfold encS mkC;rw[qp hz0];show strE (F 0).size _=_;rw[hz 0 (by omega)];exact a1j λc hc=>(a4z k r _ c).symm
   rw[hz0,hp 0,hp 1,Nat.add_zero]at hen;have HC2:Hid (strs (k+2) (mkC k F)=strs k F++strs 2 (λi=>if i=0 then mkC k F k else mkC k F (k+1))):=by
    show _=_;rw[d7j k (mkC k F) _ _ rfl rfl,a1d k (mkC k F) F λi hi=>d8v hz hi]
   have HA:Hid (Vals w a k λi=>.string (F i)):=ha;have dY:Hid (2<=k/\k<=8):=aG;clear ha hs hT hz0 hp hz aG;generalize mkC k F k=P at*;generalize mkC k F (k+1)=Q at*;have HEN:Hid (Calls _ _ _ _ _):=hen;clear hen;go_enter func9,ntmps9;go_wp2_with(first
    |(go_at_call 26;refine(aX _).mono ?_;rintro e wa ⟨rfl,aP⟩;rw[aP];clear aP wa)
    |(go_at_call 27;refine dF.mono ?_;rintro e wa ⟨rfl,aP⟩;rw[aP];clear aP wa)
    |(go_at_call 29;refine HEN.out.mono ?_;rintro e w1 ⟨hb1,rfl⟩;have HB1:Hid (Below w.heap.size w w1):=hb1;clear hb1 HEN dF))
   go_at_call 30;refine(d3k HB1.out a k c F HA.out (by have:=dY.out;omega) P Q).mono ?_;rintro e w2 ⟨v,rfl,hr,hb2⟩;have HR:Hid (w2.ownsRow w.heap.size 9 1 v (k+2) (strs (k+2) (mkC k F))):=(by rw[HC2.out];exact hr);have HB2:Hid (Below w.heap.size w w2):=hb2;clear hr hb2;go_wp2_with fail;go_ret2;rw[HE.out];exact⟨_,rfl,λh=>absurd rfl h,λ_=>HR.out,HB2.out⟩
  ·have HE:Hid (mkE k F=7):=(by show _=_;unfold mkE;rw[qp aG,qn hz]);have dF:=c0t a k c F w hk ha hs true ⟨λ_=>by
    apply Classical.byContradiction;intro h';exact hz λi hi=>by
     apply Classical.byContradiction;intro h2;exact h' ⟨i,hi,h2⟩,λ_=>rfl⟩
   clear ha hs hz aG;go_enter func9,ntmps9;go_wp2_with(first
    |(go_at_call 26;refine(aX _).mono ?_;rintro e wa ⟨rfl,aP⟩;rw[aP];clear aP wa)
    |(go_at_call 27;refine dF.mono ?_;rintro e wa ⟨rfl,aP⟩;rw[aP];clear aP wa))
   go_ret2;rw[HE.out];exact⟨_,rfl,λ_=>rfl,λh=>(by cases h),qw _ _⟩
 ·have HE:Hid (mkE k F=2):=by show _=_;unfold mkE;rw[qn aG]
  have aX:=λz=>c4d (k:Int) false ⟨λh=>(by cases h),λh=>absurd ⟨by omega,by omega⟩ aG⟩ z;clear ha hs aG;go_enter func9,ntmps9;go_wp2_with(go_at_call 26;refine(aX _).mono ?_;rintro e wa ⟨rfl,aP⟩;rw[aP];clear aP wa);go_ret2;rw[HE.out];exact⟨_,rfl,λ_=>rfl,λh=>(by cases h),qw _ _⟩
end Go.Proofs.YtokknmkleceooaaGreatDoor
