import Derived.Test.YtokknmkleceooaaGreatDoorMatM
import Derived.Test.YtokknmkleceooaaGreatDoorGfM
import Derived.Deep.Matrix
import Derived.Lib.AppendZeros
import Derived.Laws.OwnMore
import Derived.Deep.RegionHeld3
import Derived.SliceStrings
namespace Go.Proofs.YtokknmkleceooaaGreatDoor
set_option linter.unusedVariables false
set_option maxRecDepth 20000
set_option maxHeartbeats 8000000
open Go.Proofs.Tryz
open Go.RowKit Go.PlainAid
theorem b3f (base g n m:Nat)(G:Nat->Nat)(X:Mx)(w:World)(h1:1<=n)(h2:n<=16)(hm:m=2*n)(hO:OwnW w base g n m G X):
 Calls prog 183 #[.slice (some ⟨g,0,none⟩) n n] w λe w'=>∃a,e=.returned (.slice a n n)/\MatAt w' a n (λ_=>n) (a7s n X)/\Below w.heap.size w w':=by
 obtain⟨j0,hj,hy0,hy1,hy2⟩:=info_parts info22;have hm1:m<=32:=by omega
 have hm2:(2:Int)*(n:Int)=(m:Int):=by omega
 have hmn:m-n=n:=by omega
 have hnm:(n:Int)<=(m:Int):=by omega
 have hnm':(n:Int)<(m:Int):=by omega
 have HM:Hid (m=2*n):=hm;have HO:Hid (OwnW w base g n m G X):=hO;have aY:=(a2j hO.top).2;clear hm hO;go_enter func183,ntmps183;go_wp2_with(at_make;refine wpList_make_full _ rfl _ _ 134 rfl w.heap.size 22 j0 (.slice none 0 0) 1 underlying134 hj hy0 hy1 _ _ _ _ n rfl rfl ?c0 ?c1 ?c2 ?c3 ?c4 ?_)
 case c0=>rfl
 case c1=>rfl
 case c2=>rw[hy2];omega
 case c3=>unfold maxLen;omega
 case c4=>exact ql _
 intro w1 q8 q9;have t8:Below w.heap.size w w1:=(qw _ _).grown q9 (ql _) (λk h=>by cases h);rw[toList_madeCells_one,<-a1l n (λr=>.slice (some ⟨G r,n,none⟩) n n)]at q8;go_wp2_with fail;go_loopw[13] (λi wr=>∃k:Nat,k<=n/\i=.int .i64 k/\Below w.heap.size w wr/\wr.ownsRow w.heap.size 22 1 (.slice (some ⟨w.heap.size,0,none⟩) n n) n (filled n k (λr=>.slice (some ⟨G r,n,none⟩) n n) (.slice none 0 0))) (λi _=>(n:Nat)-(intOf i).toNat)
 case atStart=>exact⟨0,Nat.zero_le _,rfl,t8,q8⟩
 case round=>
  obtain⟨k,hk,rfl,x6,t6⟩:=hrel;by_cases p9:k<n
  ·obtain⟨v0,x5⟩:∃v0,wr.cell? ⟨w.heap.size,k,none⟩=some v0:=by
    rw[t6.cellAt k (by omega)];exact⟨_,List.getElem?_eq_getElem (by simp[filled];exact p9)⟩
   have eC:=t6.frozenAt k;have hst:=(t6.stored k (.slice (some ⟨G k,n,none⟩) n n)).1;rw[a2i n k (λr=>.slice (some ⟨G r,n,none⟩) n n) _ p9]at hst;have x9:wr.cell? ⟨g,k,none⟩=some (.slice (some ⟨G k,0,none⟩) m m):=(x6.cell (p:=⟨g,k,none⟩) aY).trans (HO.out.cellTop k p9);go_wp2_with fail;go_roundw
   case rel=>exact⟨k+1,by omega,by go_num,x6.setCell (ql _) _,hst⟩
   case measure=>simp[intOf];omega
  ·have aM:k=n:=(by omega);subst aM;go_wp2_with fail;go_ret;refine⟨_,rfl,⟨λr=>some ⟨G r,k,none⟩,λ_=>k,.inr ⟨w.heap.size,0,rfl,λr hr=>?_⟩,λr hr=>⟨by show k<=maxLen;unfold maxLen;omega,.inr ⟨G r,k,rfl,λc hc=>?_⟩⟩⟩,x6⟩
   ·rw[a1m]at t6;rw[Nat.zero_add,t6.cellAt r (by omega)];simp[hr]
   ·have hc':c<k:=hc;have hr0:=HO.out.rows r hr;have e:=HO.out.cell r (k+c) hr (by have:=HM.out;omega);exact(x6.cell (p:=⟨G r,k+c,none⟩) (a2j hr0).2).trans e
theorem b5e (a:Option Addr)(n ca:Nat)(L:Nat->Nat)(X:Mx)(w:World)(ha:MatAt w a n L X)(g:Gd n L)(q:Bool)(hq:q=true↔n=L 0):
 Calls prog 180 #[.slice a n ca] w λe w'=>e=.returned (.bool q)/\w'=w:=by
 obtain⟨AR,CR,hA⟩:=ha;obtain⟨b,o,b',o',rfl,_,hc,_⟩:=hA.cell 0 0 (by have:=g.1;omega) (by have:=g.2.2.1;omega);rw[Nat.add_zero]at hc;have g1:=g.1;have g2:=g.2.1;have g3:=g.2.2.1;have g4:=g.2.2.2.1;generalize L 0=l at hc hq g3 g4;generalize CR 0=cr at hc;have h0:(0:Int)<(n:Int):=by omega
 have hq':((n:Int)==(l:Int))=q:=by
  by_cases e:n=l
  ·rw[hq.2 e,e];simp
  ·have:q=false:=by
    cases q with
    |false=>rfl
    |true=>exact absurd (hq.1 rfl) e
   rw[this];simp;omega
 clear hq hA g;go_enter func180,ntmps180;go_wp2;go_ret;exact⟨by rw[<-hq'];rfl,rfl⟩
def e6n (n:Nat)(L:Nat->Nat)(A:Mx)(e:Ending)(w':World):Prop:=
 (¬Gd n L/\e=.returned (.tuple #[.slice none 0 0,.int .i64 4]))\/
 (Gd n L/\n≠L 0/\e=.returned (.tuple #[.slice none 0 0,.int .i64 7]))\/
 (Gd n L/\n=L 0/\e=.returned (.tuple #[.slice none 0 0,.int .i64 6])/\∃c U,c<n/\Reach n (2*n) (a6g n A) U/\(∀r,r<n->∀j,j<c->U r j=idM r j)/\∀r,c<=r->r<n->U r c=0)\/
 (Gd n L/\n=L 0/\∃a' U,e=.returned (.tuple #[.slice a' n n,.int .i64 0])/\MatAt w' a' n (λ_=>n) (a7s n U)/\Reach n (2*n) (a6g n A) U/\∀r,r<n->∀j,j<n->U r j=idM r j)
theorem c9d (a:Option Addr)(n ca:Nat)(L:Nat->Nat)(A:Mx)(w:World)(hn:n<=maxLen)(hA:MatAt w a n L A):
 Calls prog 133 #[.slice a n ca] w λe w'=>Below w.heap.size w w'/\e6n n L A e w':=by
 by_cases gA:Gd n L
 ·have hg:=a7j a n ca L A w hn hA true (a9o gA);by_cases hs:n=L 0
  ·have nE:=λw1 h=>b5e a n ca L A w1 h gA true (by simp[hs]);have qW:=λw1 h=>d0m a n ca (2*n) L A w1 gA.1 gA.2.1 rfl h (λr hr=>by rw[gA.2.2.2.2 r hr,<-hs]);have dK:=λbase g c G X w1 hc hO hb fY=>c7w base g n (2*n) c G X w1 gA.1 gA.2.1 rfl hc hO hb fY;have hrh:=λbase g G X w1 hO=>b3f base g n (2*n) G X w1 gA.1 gA.2.1 rfl hO;have g1:=gA.1;have g2:=gA.2.1;have GA:Hid (Gd n L):=gA;have HS:Hid (n=L 0):=hs;clear gA hs hn;go_enter func133,ntmps133;go_wp2_with fail;go_at_call 106;refine hg.mono ?_;rintro e w1 ⟨rfl,hb1⟩;go_wp2_with fail;go_at_call 180;refine(nE _ (hA.below hb1)).mono ?_;rintro e w1' ⟨rfl,rfl⟩;go_wp2_with fail;go_at_call 181;refine(qW _ (hA.below hb1)).mono ?_;rintro e w2 ⟨g,G,rfl,hO,hb2⟩;have hW:=hO.wide;clear hO hg nE qW;have dJ:Below w.heap.size w w2:=hb1.trans (hb2.mono hb1.size);obtain⟨base,cC⟩:∃base,w1'.heap.size=base:=⟨_,rfl⟩;rw[cC]at hW;have cL:w.heap.size<=base:=(by rw[<-cC];exact hb1.size);have hbl2:base<=w2.heap.size:=(by rw[<-cC];exact hb2.size);clear cC;go_wp2_with fail;go_loopw[16] (λi wr=>∃k:Nat,k<=n/\i=.int .i64 k/\Below w.heap.size w wr/\base<=wr.heap.size/\∃G U,OwnW wr base g n (2*n) G U/\Reach n (2*n) (a6g n A) U/\∀r,r<n->∀j,j<k->U r j=idM r j) (λi _=>(n:Nat)-(intOf i).toNat)
   case atStart=>exact⟨0,Nat.zero_le _,rfl,dJ,hbl2,G,_,hW,.refl,λr _ j hj=>by omega⟩
   case round=>
    obtain⟨k,hk,rfl,aS,tN,G',U,kH,hRk,fI⟩:=hrel;have HR:Hid (Reach n (2*n) (a6g n A) U):=hRk;have HC:Hid (∀r,r<n->∀j,j<k->U r j=idM r j):=fI;clear hRk fI;by_cases p9:k<n
    ·have hst:=dK base g k G' U wr p9 kH tN HC.out;clear hW;go_wp2_with fail;go_at_call 182;refine hst.mono ?_;rintro e w3 ⟨hb3,⟨rfl,hz⟩|⟨rfl,G2,U2,hO2,hR2,hc2⟩⟩
     ·have HZ:Hid (∀r,k<=r->r<n->U r k=0):=hz;clear hz;go_wp2_with fail;go_ret2;exact⟨aS.trans (hb3.mono cL),.inr (.inr (.inl ⟨GA.out,HS.out,rfl,k,U,p9,HR.out,HC.out,HZ.out⟩))⟩
     ·have HC2:Hid (∀r,r<n->∀j,j<k+1->U2 r j=idM r j):=hc2;have HR2:Hid (Reach n (2*n) U U2):=hR2;clear hc2 hR2;go_wp2_with fail;go_roundw
      case rel=>exact⟨k+1,by omega,by go_num,aS.trans (hb3.mono cL),Nat.le_trans tN hb3.size,G2,U2,hO2,HR.out.trans HR2.out,HC2.out⟩
      case measure=>simp[intOf];omega
    ·have aM:k=n:=(by omega);subst aM;have hr:=hrh base g G' U wr kH;clear hW;go_wp2_with fail;go_at_call 183;refine hr.mono ?_;rintro e w3 ⟨a',rfl,hM,hb3⟩;go_wp2_with fail;go_ret2;exact⟨aS.trans (hb3.mono aS.size),.inr (.inr (.inr ⟨GA.out,HS.out,a',U,rfl,hM,HR.out,HC.out⟩))⟩
  ·have nE:=λw1 h=>b5e a n ca L A w1 h gA false (by simp[hs]);have GA:Hid (Gd n L):=gA;have HS:Hid (n≠L 0):=hs;clear gA hs hn;go_enter func133,ntmps133;go_wp2_with fail;go_at_call 106;refine hg.mono ?_;rintro e w1 ⟨rfl,hb1⟩;go_wp2_with fail;go_at_call 180;refine(nE _ (hA.below hb1)).mono ?_;rintro e w1' ⟨rfl,rfl⟩;go_wp2_with fail;go_ret2;exact⟨hb1,.inr (.inl ⟨GA.out,HS.out,rfl⟩)⟩
 ·have hg:=a7j a n ca L A w hn hA false (c5s gA);have GA:Hid (¬Gd n L):=gA;clear gA;go_enter func133,ntmps133;go_wp2_with fail;go_at_call 106;refine hg.mono ?_;rintro e w1 ⟨rfl,hb1⟩;go_wp2_with fail;go_ret2;exact⟨hb1,.inl ⟨GA.out,rfl⟩⟩
theorem c4o {w:World}{a:Option Addr}{n cap:Nat}{f:Nat->E}(h:e1s w a n f):(convert 22 9 (.slice a n cap)).run prog w=.ok (.string (strE n f)) w:=by
 rcases h with h0|⟨b,o,rfl,h⟩
 ·subst h0;have e:strE 0 f=strOfNums []:=rfl;rw[e]
  cases a with
  |none=>exact run_convert_bytes_nil w 22 5 underlying22 underlying5 0 cap 9 underlying9
  |some ad=>
   have hl:(loadCells ad 0).run prog w=.ok (([]:List Int).map (Value.int .u8)).toArray w:=run_loadCells_list (P:=prog) w ad [] (λj v hj=>by simp at hj);rw[run_convert_bytes_string w 22 9 5 _ 0 cap underlying22 underlying5 underlying9,run_bytesToString w _ 0 cap [] hl];rfl
 ·exact run_convert_bytes_arg (P:=prog) w 22 5 underlying22 underlying5 b o n cap (b3r n f) (a5a n f) (λi hi=>by
   rw[h i hi];simp[b3r,List.getD,hi,a1w]) 9 underlying9
theorem a9k {w:World}{base base':Nat}{e:TypeId}{size:Nat}{v:Value}{n:Nat}{xs:List Value}(h:w.ownsRow base e size v n xs)(hb:base'<=base):w.ownsRow base' e size v n xs:=by
 refine⟨h.1,?_⟩;rcases h.2 with hn|⟨g,cap,cur,rfl,hg0,rest⟩
 ·exact .inl hn
 ·exact .inr ⟨g,cap,cur,rfl,Nat.le_trans hb hg0,rest⟩
theorem a9d (a b:E)(w:World):Calls prog 111 #[.int .u8 (a.v:Int),.int .u8 (b.v:Int)] w λe w'=>e=.returned (.int .u8 ((a*b).v:Int))/\Below w.heap.size w w':=a7e a.v b.v a.h b.h w
theorem a3j (a b:E)(w:World):Calls prog 112 #[.int .u8 (a.v:Int),.int .u8 (b.v:Int)] w λe w'=>e=.returned (.int .u8 ((a+b).v:Int))/\Below w.heap.size w w':=c8l a.v b.v a.h b.h w
def RowsIn (w:World)(b o n l:Nat)(X:Mx):Prop:=∀x,Below w.heap.size w x->∀r,r<n->∃b' o' cr,x.cell? ⟨b,o+r,none⟩=some (.slice (some ⟨b',o',none⟩) l cr)/\∀k,k<l->x.cell? ⟨b',o'+k,none⟩=some (.int .u8 ((X r k).v:Int))
theorem b3c {w:World}{a:Option Addr}{n:Nat}{L:Nat->Nat}{X:Mx}(h:MatAt w a n L X)(g:Gd n L):∃b o,a=some ⟨b,o,none⟩/\RowsIn w b o n (L 0) X:=by
 obtain⟨AR,CR,hi⟩:=h;obtain⟨b,o,_,_,rfl,_,_,_⟩:=hi.cell 0 0 (by have:=g.1;omega) (by have:=g.2.2.1;omega);refine⟨b,o,rfl,λx hx r hr=>?_⟩;have hl:=g.2.2.2.2 r hr;obtain⟨b1,o1,b',o',e1,e2,e3,_⟩:=(hi.below hx).cell r 0 hr (by rw[hl];have:=g.2.2.1;omega)
 cases e1
 rw[hl]at e3;refine⟨b',o',_,e3,λk hk=>?_⟩;obtain⟨_,_,b2,o2,_,f2,_,f4⟩:=(hi.below hx).cell r k hr (by rw[hl];exact hk);rw[e2]at f2
 cases f2
 exact f4
open Go.ChangeShapes Go.WideShapes Go.RowKit
theorem a6i {ops:Array Oper}{o:Oper}{a:Act}{w:World}{K:Act->World->Prop}{Q:Exit->Act->World->Prop}{E':Prop}(y5:o.guard=none)(s x:Operand)(t tn:TypeId)
 (ho:o.op=.call {callee:=.builtin .append,args:=#[s,x],argTypes:=#[t,tn]})(vs vx:Value)(hs:a.eval s=vs)(hx:a.eval x=vx)
 (v':Value)(w':World)(hr:∀ty,(Builtin.append_ #[t,tn] ty #[vs,vx]).run prog w=.ok v' w')(h:K (a.put o.dst v') w'):
 if Region.wanted o (yielded ops a.tmps)=true then Oper.wp prog o a w K Q else E':=by
 have hw:Region.wanted o (yielded ops a.tmps)=true:=by simp[Region.wanted,y5]
 rw[qp hw];exact Lib.wp_append_run w s x t tn ho vs vx hs hx v' w' (hr _) h
def TxtAt (w:World)(a:Option Addr)(n:Nat)(M:Nat->Nat)(Y:Mx):Prop:=Vals w a n (λc=>.string (strE (M c) (Y c)))/\∀c,c<n->M c<=9223372036854775807
theorem TxtAt.below {w w':World}{a:Option Addr}{n:Nat}{M:Nat->Nat}{Y:Mx}(h:TxtAt w a n M Y)(hb:Below w.heap.size w w'):TxtAt w' a n M Y:=⟨h.1.below hb (ql _),h.2⟩
theorem TxtAt.cell {w:World}{a:Option Addr}{n:Nat}{M:Nat->Nat}{Y:Mx}(h:TxtAt w a n M Y)(h1:1<=n):∃b o,a=some ⟨b,o,none⟩/\∀i,i<n->w.cell? ⟨b,o+i,none⟩=some (.string (strE (M i) (Y i))):=by
 rcases h.1 with h0|h
 ·omega
 ·exact h
theorem b9x (K:Nat)(hK:K=158\/K=132)(cap:Array Value)(a:Option Addr)(n ca:Nat)(V:Nat->Value)(p:Nat->Bool)(w:World)(hn:n<=maxLen)(ha:Vals w a n V)
 (hp:∀r,r<n->Calls prog K (#[V r]++cap) w λe w'=>e=.returned (.bool (p r))/\w'=w):
 Calls prog 61 #[.slice a n ca,.func (.func K) #[] cap] w λe w'=>e=.returned (.int .i64 (first p n))/\w'=w:=by
 unfold maxLen at hn;have hs:=a5o p n;generalize first p n=z at hs
 rcases hK with rfl|rfl
 all_goals
  go_enter func61,ntmps61;go_wp2_with fail;go_loop [8] (λi=>∃k:Nat,k<=n/\i=.int .i64 k/\∀j,j<k->p j=false) (λi=>(n:Nat)-(intOf i).toNat)
  case atStart=>exact⟨0,Nat.zero_le _,rfl,λj hj=>by omega⟩
  case round=>
   obtain⟨k,hk,rfl,y7⟩:=hrel;by_cases p9:k<n
   ·rcases ha with h0|⟨b,o,rfl,ha⟩
    ·omega
    have x5:=ha k p9;go_wp2_with fail;refine(hp k p9).mono ?_;rintro e w' ⟨rfl,rfl⟩
    cases bH:p k
    ·go_wp2_with fail;go_round
     case rel=>exact⟨k+1,by omega,by go_num,λj hj=>by
      by_cases e:j=k
      ·rw[e];exact bH
      ·exact y7 j (by omega)⟩
     case measure=>simp[intOf];omega
    ·have hz:z=(k:Int):=by
      rcases hs with⟨_,h2⟩|⟨i,h1,h2,h3,h4⟩
      ·rw[h2 k p9]at bH;cases bH
      ·rw[h1];rcases Nat.lt_trichotomy i k with h|h|h
       ·rw[y7 i h]at h3;cases h3
       ·rw[h]
       ·rw[h4 k h]at bH;cases bH
     subst hz;go_wp2_with fail;go_ret;exact⟨rfl,rfl⟩
   ·have hz:z=-1:=by
     rcases hs with⟨h1,_⟩|⟨i,h1,h2,h3,h4⟩
     ·exact h1
     ·rw[y7 i (by omega)]at h3;cases h3
    subst hz;go_wp2_with fail;go_ret;exact⟨rfl,rfl⟩
theorem d0b (s t:BA)(m b o n ca:Nat)(w:World)(hs:s.size<=9223372036854775807)(ht:t.size<=9223372036854775807)(hn:0<n)(hm:w.cell? ⟨m,0,none⟩=some (.slice (some ⟨b,o,none⟩) n ca))(h0:w.cell? ⟨b,o,none⟩=some (.string t)):
 Calls prog 158 #[.string s,.pointer (some ⟨m,0,none⟩)] w λe w'=>e=.returned (.bool (s.size !=t.size))/\w'=w:=by
 obtain⟨q,hq⟩:∃q,(s.size !=t.size)=q:=⟨_,rfl⟩;have hq':((s.size:Int) !=(t.size:Int))=q:=by
  rw[<-hq];by_cases h:s.size=t.size
  ·rw[h];simp
  ·have h1:(s.size !=t.size)=true:=(by simpa using h);have h2:((s.size:Int) !=(t.size:Int))=true:=(by simp;omega);rw[h1,h2]
 rw[hq];have hn':(0:Int)<(n:Int):=by omega
 clear hq;go_enter func158,ntmps158;go_wp2;go_ret;exact⟨by rw[<-hq'];rfl,rfl⟩
theorem a6y (K:Nat)(hK:K=158\/K=132)(cap:Array Value)(a:Option Addr)(n ca:Nat)(V:Nat->Value)(p:Nat->Bool)(w:World)(hn:n<=maxLen)(ha:Vals w a n V)
 (hp:∀r,r<n->Calls prog K (#[V r]++cap) w λe w'=>e=.returned (.bool (p r))/\w'=w)(g:Bool)(hg:g=true↔∃r,r<n/\p r=true):
 Calls prog 27 #[.slice a n ca,.func (.func K) #[] cap] w λe w'=>e=.returned (.bool g)/\w'=w:=by
 have hi:=b9x K hK cap a n ca V p w hn ha hp;have hs:=a5o p n;generalize first p n=z at hs hi
 have hz:decide ((0:Int)<=z)=g:=by
  rcases hs with⟨h1,h2⟩|⟨i,h1,h2,h3,h4⟩
  ·cases g with
   |false=>rw[h1];decide
   |true=>
    obtain⟨r,hr,h⟩:=hg.1 rfl;rw[h2 r hr]at h;cases h
  ·rw[hg.2 ⟨i,h2,h3⟩,h1];exact decide_eq_true (by omega)
 clear hs hg hp ha;rcases hK with rfl|rfl
 all_goals
  go_enter func27,ntmps27;go_wp2_with fail;go_at_call 61;refine hi.mono ?_;rintro e w' ⟨rfl,rfl⟩;go_wp2_with fail;go_ret;exact⟨by rw[<-hz];rfl,rfl⟩
theorem b0d (a:Option Addr)(n ca:Nat)(M:Nat->Nat)(Y:Mx)(w:World)(hn:n<=maxLen)(ha:TxtAt w a n M Y)(g:Bool)(hg:g=true↔∀c,c<n->M c=M 0):
 Calls prog 107 #[.slice a n ca] w λe w'=>e=.returned (.bool g)/\Below w.heap.size w w':=by
 have hmf:∀(fn:Fn) (first cap:Array Value) (w:World),(Instr.makeFunc fn first cap).run prog w=.ok (.func fn first cap) w:=λ_ _ _ _=>rfl;have t8:Below w.heap.size w (w.alloc (.cells #[.slice a n ca] 23 (0,0))):=(qw _ _).alloc (ql _) _;have cO:=λ(w1:World) (h:Below w.heap.size w w1) (hm:w1.cell? ⟨w.heap.size,0,none⟩=some (.slice a n ca))=>
  a6y 158 (by decide) #[.pointer (some ⟨w.heap.size,0,none⟩)] a n ca (λc=>.string (strE (M c) (Y c))) (λc=>M c !=M 0) w1 hn (ha.1.below h (ql _)) (λr hr=>by
   obtain⟨b,o,rfl,hc⟩:=(ha.below h).cell (by omega);have h0:=hc 0 (by omega);rw[Nat.add_zero]at h0;have:=d0b (strE (M r) (Y r)) (strE (M 0) (Y 0)) w.heap.size b o n ca w1 (by rw[a0j];exact ha.2 r hr) (by rw[a0j];exact ha.2 0 (by omega)) (by omega) hm h0;rw[a0j,a0j]at this;exact this) (!g) (by
    cases g with
    |true=>
     have h':=hg.1 rfl;simp only[Bool.not_true,Bool.false_eq_true,false_iff,not_exists,not_and];intro r h hh;rw[h' r h]at hh;simp at hh
    |false=>
     simp only[Bool.not_false,true_iff];apply Classical.byContradiction;intro hh;have:(false:Bool)=true:=hg.2 λr h=>by
      apply Classical.byContradiction;intro h3;exact hh ⟨r,h,by simpa using h3⟩
     cases this)
 clear hg ha;go_enter func107,ntmps107;go_wp2_with fail;go_at_call 27;refine(cO _ t8 (by go_simp)).mono ?_;rintro e w' ⟨rfl,rfl⟩;go_wp2_with fail;go_ret;exact⟨by simp,t8⟩
def a4d (m:Nat)(f:Nat->E)(Y:Mx)(k:Nat):BA:=strE m λi=>S k λc=>f c*Y c i
theorem d1k (x:E)(m:Nat)(y:Nat->E)(w:World)(hm:m<=65536):
 Calls prog 159 #[.int .u8 (x.v:Int),.string (strE m y)] w λe w'=>e=.returned (.string (strE m λi=>x*y i))/\Below w.heap.size w w':=by
 have:=a8m x.v x.h (strE m y) w (by rw[a0j];unfold maxLen;omega) (by rw[a0j];omega);rw[a8f]at this;exact this
theorem xor_E (m:Nat)(x y:Nat->E)(w:World)(hm:m<=65536):
 Calls prog 160 #[.string (strE m x),.string (strE m y)] w λe w'=>e=.returned (.string (strE m λi=>x i+y i))/\Below w.heap.size w w':=by
 have:=c1o (strE m x) (strE m y) w (by rw[a0j];unfold maxLen;omega) (by rw[a0j];unfold maxLen;omega) (by rw[a0j];omega);rw[b8k]at this;exact this
theorem b4f (ar lt:Option Addr)(n cr cl m:Nat)(f:Nat->E)(Y:Mx)(w:World)(h1:1<=n)(hn:n<=16)(aL:n<=cl)(iH:cl<=9223372036854775807)(hm:m<=65536)(hR:e1s w ar n f)(hT:Vals w lt n (λc=>.string (strE m (Y c)))):
 Calls prog 108 #[.slice ar n cr,.slice lt n cl] w λe w'=>e=.returned (.string (a4d m f Y n))/\Below w.heap.size w w':=by
 rcases hR with h0|⟨br,orr,rfl,hR⟩
 ·omega
 rcases hT with h0|⟨bt',ot,rfl,hT⟩
 ·omega
 have HR:Hid (∀x,Below w.heap.size w x->∀i,i<n->x.cell? ⟨br,orr+i,none⟩=some (.int .u8 ((f i).v:Int))):=λx hx i hi=>(hx.cell (p:=⟨br,orr+i,none⟩) (a0p (hR i hi))).trans (hR i hi);have HT:Hid (∀x,Below w.heap.size w x->∀i,i<n->x.cell? ⟨bt',ot+i,none⟩=some (.string (strE m (Y i)))):=λx hx i hi=>(hx.cell (p:=⟨bt',ot+i,none⟩) (a0p (hT i hi))).trans (hT i hi);have dR:=λx=>d1k (f 0) m (Y 0) x hm;have e0:(strE m λi=>f 0*Y 0 i)=a4d m f Y 1:=a1j λi _=>by show _=S 0 _+_;show _=(0:E)+_;rw[E.zero_add]
 rw[e0]at dR;have HS:Hid (∀x,Below w.heap.size w x->x.cell? ⟨br,orr,none⟩=some (.int .u8 ((f 0).v:Int))/\x.cell? ⟨bt',ot,none⟩=some (.string (strE m (Y 0)))):=λx hx=>⟨by have:=HR.out x hx 0 (by omega);rwa[Nat.add_zero]at this,by have:=HT.out x hx 0 (by omega);rwa[Nat.add_zero]at this⟩;have hd:Below w.heap.size w w.drew:=(qw _ _).drew;have n0:(0:Int)<(n:Int):=by omega
 have n0':0<n:=by omega
 have n1:(1:Int)<=(n:Int):=by omega
 clear hR hT e0;generalize(f 0).v=x0 at dR HS;generalize strE m (Y 0)=s0 at dR HS;by_cases hc1:cl=1
 ·subst hc1;obtain rfl:n=1:=by omega
  go_enter func108,ntmps108;go_wp2_with fail
  go_region_held3 (λx=>x.cell? ⟨br,orr,none⟩=some (.int .u8 (x0:Int))/\x.cell? ⟨bt',ot,none⟩=some (.string s0)) (first|exact HS.out _ hd|exact HS.out _ (qw _ _)|exact HS.out _ (by assumption)) (first|(go_at_call 159;refine(dR _).mono ?_;rintro e w5 ⟨rfl,hb5⟩;have hx5:Below w.heap.size w w5:=hd.trans hb5))
  clear HS dR;go_wp2_with fail;go_loop [5,18] (λs i=>i=.int .i64 0/\s=.string (a4d m f Y 1)) (λ_ _=>0)
  case atStart=>exact⟨rfl,rfl⟩
  case round=>
   obtain⟨rfl,rfl⟩:=hrel;go_wp2_with fail;go_ret;exact⟨rfl,hx5⟩
 ·have hc2:1<cl:=by omega
  have hc3:¬cl=1:=hc1;go_enter func108,ntmps108;go_wp2_with fail
  go_region_held3 (λx=>x.cell? ⟨br,orr,none⟩=some (.int .u8 (x0:Int))/\x.cell? ⟨bt',ot,none⟩=some (.string s0)) (first|exact HS.out _ hd|exact HS.out _ (qw _ _)|exact HS.out _ (by assumption)) (first|(go_at_call 159;refine(dR _).mono ?_;rintro e w5 ⟨rfl,hb5⟩;have hx5:Below w.heap.size w w5:=hd.trans hb5))
  clear HS dR;go_wp2_with fail;obtain⟨N,hN⟩:∃N,n-1=N:=⟨_,rfl⟩;rw[hN];have HN:Hid (n=N+1):=(by omega:n=N+1);have hN16:N<=15:=by omega
  clear hN;go_loopw[5,18] (λs i wr=>∃k:Nat,k<=N/\i=.int .i64 k/\s=.string (a4d m f Y (k+1))/\Below w.heap.size w wr) (λ_ i _=>(N:Nat)-(intOf i).toNat)
  case atStart=>exact⟨0,Nat.zero_le _,rfl,rfl,hx5⟩
  case round=>
   obtain⟨k,hk,rfl,rfl,aS⟩:=hrel;by_cases p9:k<N
   ·have hk1:k+1<n:=(by have:=HN.out;omega);have hk1':(k:Int)+1<(n:Int):=(by omega);have c1:=HR.out wr aS (k+1) hk1;have c2:=HT.out wr aS (k+1) hk1;have e1:ot+(k+1)=ot+1+k:=(by omega);rw[e1]at c2;have hs1:=λx=>d1k (f (k+1)) m (Y (k+1)) x hm;have hs2:=λx=>xor_E m (λi=>S (k+1) λc=>f c*Y c i) (λi=>f (k+1)*Y (k+1) i) x hm;have hs3:∀x,Calls prog 160 #[.string (a4d m f Y (k+1)),.string (strE m λi=>f (k+1)*Y (k+1) i)] x λe w'=>e=.returned (.string (a4d m f Y (k+1+1)))/\Below x.heap.size x w':=hs2;clear hs2 e1;generalize(f (k+1)).v=x1 at c1 hs1;generalize(strE m λi=>f (k+1)*Y (k+1) i)=s2 at hs1 hs3;generalize strE m (Y (k+1))=s1 at c2 hs1;have hkN:(k:Int)<(N:Int):=(by omega);go_wp2_with fail;go_at_call 159;refine(hs1 _).mono ?_;rintro e w6 ⟨rfl,hb6⟩;go_wp2_with fail;go_at_call 160;refine(hs3 _).mono ?_;rintro e w7 ⟨rfl,hb7⟩;go_wp2_with fail;go_roundw
    case rel=>exact⟨k+1,by omega,by go_num,rfl,aS.trans ((hb6.mono aS.size).trans (hb7.mono (Nat.le_trans aS.size hb6.size)))⟩
    case measure=>simp[intOf];omega
   ·have aM:k=N:=(by omega);subst aM;go_wp2_with fail;go_ret;exact⟨by rw[HN.out];rfl,aS⟩
theorem minfo9:(prog.info? 9).map (λi=>(i.zero,i.size,i.bytes))=some (some (.string ⟨#[]⟩),1,16):=by kernel_rfl
def e6p (n k:Nat)(L M:Nat->Nat)(A Y:Mx)(v:Value)(er:Int)(w':World):Prop:=
 (¬Gd n L/\v=.slice none 0 0/\er=4)\/
 (Gd n L/\¬(k=L 0/\∀c,c<k->M c=M 0)/\v=.slice none 0 0/\er=7)\/
 (Gd n L/\(k=L 0/\∀c,c<k->M c=M 0)/\65536<M 0/\v=.slice none 0 0/\er=5)\/
 (Gd n L/\(k=L 0/\∀c,c<k->M c=M 0)/\M 0<=65536/\er=0/\∃a' c',v=.slice a' n c'/\n<=c'/\c'<=9223372036854775807/\TxtAt w' a' n (λ_=>M 0) (mulM k A Y))
theorem e1k (a l:Option Addr)(n k ca cl:Nat)(L M:Nat->Nat)(A Y:Mx)(w:World)(hn:n<=maxLen)(hA:MatAt w a n L A)(aL:k<=cl)(iH:cl<=9223372036854775807)(hT:TxtAt w l k M Y)
 (gA:Gd n L)(hk:k=L 0)(hM:∀c,c<k->M c=M 0)(h5:M 0<=65536):
 Calls prog 63 #[.slice a n ca,.slice l k cl] w λe w'=>Below w.heap.size w w'/\∃a',e=.returned (.tuple #[.slice a' n n,.int .i64 0])/\TxtAt w' a' n (λ_=>M 0) (mulM k A Y):=by
 obtain⟨i0,hi,hz0,hz1,hz2⟩:=info_parts minfo9;have hg:=a7j a n ca L A w hn hA true (a9o gA);have gP:=λx (h:Below w.heap.size w x)=>b0d l k cl M Y x (by unfold maxLen;omega) (hT.below h) true ⟨λ_=>hM,λ_=>rfl⟩;have hT0:∀x,Below w.heap.size w x->Vals x l k (λc=>.string (strE (M 0) (Y c))):=λx hx=>by
  rcases(hT.below hx).1 with h0|⟨b,o,rfl,h⟩
  ·exact .inl h0
  ·exact .inr ⟨b,o,rfl,λi hi=>by show _=some (Value.string (strE (M 0) (Y i)));rw[<-hM i hi];exact h i hi⟩
 obtain⟨ba,oa,rfl,hR⟩:=b3c hA gA;rw[<-hk]at hR;have k1:1<=k:=by rw[hk];exact gA.2.2.1
 have k16:k<=16:=by rw[hk];exact gA.2.2.2.1
 have n1:1<=n:=gA.1;have n16:n<=16:=gA.2.1;obtain⟨bl,ol,rfl,eP⟩:=hT.cell k1;obtain⟨m,hm⟩:∃m,M 0=m:=⟨_,rfl⟩;rw[hm]at hT0 h5⊢;have HC0:Hid (∀x,Below w.heap.size w x->∃s:BA,s.size=m/\x.cell? ⟨bl,ol,none⟩=some (.string s)):=λx hx=>by
  have h:=eP 0 (by omega);rw[Nat.add_zero]at h;exact⟨_,by rw[a0j,hm],(hx.cell (p:=⟨bl,ol,none⟩) (a0p h)).trans h⟩
 have HC:Hid (∀x,Below w.heap.size w x->∀r,r<n->∃b' o' cr,x.cell? ⟨ba,oa+r,none⟩=some (.slice (some ⟨b',o',none⟩) k cr)/\Calls prog 108 #[.slice (some ⟨b',o',none⟩) k cr,.slice (some ⟨bl,ol,none⟩) k cl] x λe w'=>e=.returned (.string (a4d m (A r) Y k))/\Below x.heap.size x w'):=λx hx r hr=>by
  obtain⟨b',o',cr,e1,f1⟩:=hR x hx r hr;exact⟨b',o',cr,e1,b4f _ _ k cr cl m (A r) Y x k1 k16 aL iH h5 (.inr ⟨b',o',rfl,f1⟩) (hT0 x hx)⟩
 have n0:(0:Int)<(n:Int):=by omega
 have n0':0<n:=by omega
 have k0:(0:Int)<(k:Int):=by omega
 have k0':0<k:=by omega
 have t0:((k:Int) !=(k:Int))=false:=by simp
 clear hR gA hk hM hm eP hT0 hn hA hT;go_enter func63,ntmps63;go_wp2_with fail;go_at_call 106;refine hg.mono ?_;rintro e w1 ⟨rfl,hb1⟩;obtain⟨b',o',cr,e1,-⟩:=HC.out w1 hb1 0 n0';rw[Nat.add_zero]at e1;have dG:=gP w1 hb1;clear gP hg;go_wp2_with fail;go_at_call 107;refine dG.mono ?_;rintro e w2 ⟨rfl,hb2⟩;have hb02:=hb1.trans (hb2.mono hb1.size);obtain⟨s0,hs0,e2⟩:=HC0.out w2 hb02;have hs5:¬(65536:Int)<(m:Int):=by omega
 clear dG e1 hb1 hb2;go_wp2_with(at_make;refine wpList_make_full _ rfl _ _ 23 rfl w2.heap.size 9 i0 (.string ⟨#[]⟩) 1 underlying23 hi hz0 hz1 _ _ _ _ n rfl rfl ?c0 ?c1 ?c2 ?c3 ?c4 ?_)
 case c0=>rfl
 case c1=>rfl
 case c2=>rw[hz2];omega
 case c3=>unfold maxLen;omega
 case c4=>exact ql _
 intro w3 q8 q9;have t8:Below w2.heap.size w2 w3:=(qw _ _).grown q9 (ql _) (λk h=>by cases h);rw[toList_madeCells_one,<-a1l n (λr=>.string (a4d m (A r) Y k))]at q8;clear e2 hs0;go_wp2_with fail;go_loopw[34] (λi wr=>∃r:Nat,r<=n/\i=.int .i64 r/\Below w2.heap.size w2 wr/\wr.ownsRow w2.heap.size 9 1 (.slice (some ⟨w2.heap.size,0,none⟩) n n) n (filled n r (λr=>.string (a4d m (A r) Y k)) (.string ⟨#[]⟩))) (λi _=>(n:Nat)-(intOf i).toNat)
 case atStart=>exact⟨0,Nat.zero_le _,rfl,t8,q8⟩
 case round=>
  obtain⟨r,hr,rfl,aZ,nP⟩:=hrel;by_cases p9:r<n
  ·obtain⟨b',o',cr,e1,eN⟩:=HC.out wr (hb02.trans (aZ.mono hb02.size)) r p9;go_wp2_with fail;go_at_call 108;refine eN.mono ?_;rintro e w4 ⟨rfl,hb4⟩;have ho4:=a0g nP hb4;obtain⟨v0,x5⟩:∃v0,w4.cell? ⟨w2.heap.size,r,none⟩=some v0:=by
    rw[ho4.cellAt r (by omega)];exact⟨_,List.getElem?_eq_getElem (by simp[filled];exact p9)⟩
   have eC:=ho4.frozenAt r;have hst:=(ho4.stored r (.string (a4d m (A r) Y k))).1;rw[a2i n r (λr=>.string (a4d m (A r) Y k)) _ p9]at hst;have hb5:=aZ.trans (hb4.mono aZ.size);have rn:(r:Int)<(n:Int):=(by omega);clear eN e1 ho4;go_wp2_with fail;go_roundw
   case rel=>exact⟨r+1,by omega,by go_num,hb5.setCell (ql _) _,hst⟩
   case measure=>simp[intOf];omega
  ·have hrn:r=n:=(by omega);subst hrn;go_wp2_with fail;go_ret2;rw[a1m]at nP;refine⟨hb02.trans (aZ.mono hb02.size),_,rfl,.inr ⟨w2.heap.size,0,rfl,λi hi=>?_⟩,λc hc=>by show m<=_;omega⟩;rw[Nat.zero_add,nP.cellAt i (by omega)];simp[hi,a4d];rfl
theorem d6i (a l:Option Addr)(n k ca cl:Nat)(L M:Nat->Nat)(A Y:Mx)(w:World)(hn:n<=maxLen)(hA:MatAt w a n L A)(aL:k<=cl)(iH:cl<=9223372036854775807)(hT:TxtAt w l k M Y):
 Calls prog 63 #[.slice a n ca,.slice l k cl] w λe w'=>Below w.heap.size w w'/\∃v er,e=.returned (.tuple #[v,.int .i64 er])/\e6p n k L M A Y v er w':=by
 by_cases gA:Gd n L
 ·have hg:=a7j a n ca L A w hn hA true (a9o gA);have n0':0<n:=by have:=gA.1;omega
  have n0:(0:Int)<(n:Int):=by omega
  by_cases hk:k=L 0
  ·by_cases hM:∀c,c<k->M c=M 0
   ·by_cases h5:M 0<=65536
    ·refine(e1k a l n k ca cl L M A Y w hn hA aL iH hT gA hk hM h5).mono ?_;rintro e w' ⟨hb,a',rfl,hT'⟩;exact⟨hb,_,_,rfl,.inr (.inr (.inr ⟨gA,⟨hk,hM⟩,h5,rfl,a',n,rfl,ql _,by unfold maxLen at hn;omega,hT'⟩))⟩
    ·have gP:=λx (h:Below w.heap.size w x)=>b0d l k cl M Y x (by unfold maxLen;omega) (hT.below h) true ⟨λ_=>hM,λ_=>rfl⟩;obtain⟨ba,oa,rfl,hR⟩:=b3c hA gA;rw[<-hk]at hR;have k1:1<=k:=(by rw[hk];exact gA.2.2.1);have k16:k<=16:=(by rw[hk];exact gA.2.2.2.1);obtain⟨bl,ol,rfl,eP⟩:=hT.cell k1;have HP:Hid (Gd n L/\(k=L 0/\∀c,c<k->M c=M 0)/\65536<M 0):=⟨gA,⟨hk,hM⟩,by omega⟩;obtain⟨m,hm⟩:∃m,M 0=m:=⟨_,rfl⟩;have hmm:m<=9223372036854775807:=(by rw[<-hm];exact hT.2 0 (by omega));have HC0:Hid (∀x,Below w.heap.size w x->∃s:BA,s.size=m/\x.cell? ⟨bl,ol,none⟩=some (.string s)):=λx hx=>by
      have h:=eP 0 (by omega);rw[Nat.add_zero]at h;exact⟨_,by rw[a0j,hm],(hx.cell (p:=⟨bl,ol,none⟩) (a0p h)).trans h⟩
     have HR:Hid (RowsIn w ba oa n k A):=hR;have k0:(0:Int)<(k:Int):=(by omega);have k0':0<k:=(by omega);have t0:((k:Int) !=(k:Int))=false:=(by simp);have hs5:(65536:Int)<(m:Int):=(by omega);clear hR gA hk hM hm eP hn hA hT h5;go_enter func63,ntmps63;go_wp2_with fail;go_at_call 106;refine hg.mono ?_;rintro e w1 ⟨rfl,hb1⟩;obtain⟨b',o',cr,e1,-⟩:=HR.out w1 hb1 0 n0';rw[Nat.add_zero]at e1;have dG:=gP w1 hb1;clear gP hg;go_wp2_with fail;go_at_call 107;refine dG.mono ?_;rintro e w2 ⟨rfl,hb2⟩;have hb02:=hb1.trans (hb2.mono hb1.size);obtain⟨s0,hs0,e2⟩:=HC0.out w2 hb02;clear dG e1 hb1 hb2;go_wp2_with fail;go_ret2;exact⟨hb02,_,_,rfl,.inr (.inr (.inl ⟨HP.out.1,HP.out.2.1,HP.out.2.2,rfl,rfl⟩))⟩
   ·have gP:=λx (h:Below w.heap.size w x)=>b0d l k cl M Y x (by unfold maxLen;omega) (hT.below h) false ⟨λh=>Bool.noConfusion h,λh=>absurd h hM⟩;obtain⟨ba,oa,rfl,hR⟩:=b3c hA gA;rw[<-hk]at hR;have HP:Hid (Gd n L/\¬(k=L 0/\∀c,c<k->M c=M 0)):=⟨gA,λh=>hM h.2⟩;have HR:Hid (RowsIn w ba oa n k A):=hR;have t0:((k:Int) !=(k:Int))=false:=(by simp);have k16:k<=16:=(by rw[hk];exact gA.2.2.2.1);clear hR gA hk hM hn hA hT;go_enter func63,ntmps63;go_wp2_with fail;go_at_call 106;refine hg.mono ?_;rintro e w1 ⟨rfl,hb1⟩;obtain⟨b',o',cr,e1,-⟩:=HR.out w1 hb1 0 n0';rw[Nat.add_zero]at e1;have dG:=gP w1 hb1;clear gP hg;go_wp2_with fail;go_at_call 107;refine dG.mono ?_;rintro e w2 ⟨rfl,hb2⟩;have hb02:=hb1.trans (hb2.mono hb1.size);clear dG e1 hb1 hb2;go_wp2_with fail;go_ret2;exact⟨hb02,_,_,rfl,.inr (.inl ⟨HP.out.1,HP.out.2,rfl,rfl⟩)⟩
  ·obtain⟨ba,oa,rfl,hR⟩:=b3c hA gA;have HP:Hid (Gd n L/\¬(k=L 0/\∀c,c<k->M c=M 0)):=⟨gA,λh=>hk h.1⟩;have l16:L 0<=16:=gA.2.2.2.1;obtain⟨l0,hl0⟩:∃l0,L 0=l0:=⟨_,rfl⟩;rw[hl0]at hR l16;have t0:((k:Int) !=(l0:Int))=true:=(by rw[<-hl0];simp;omega);have HR:Hid (RowsIn w ba oa n l0 A):=hR;have k16:k<=9223372036854775807:=(by omega);clear hR gA hk hn hA hT hl0;go_enter func63,ntmps63;go_wp2_with fail;go_at_call 106;refine hg.mono ?_;rintro e w1 ⟨rfl,hb1⟩;obtain⟨b',o',cr,e1,-⟩:=HR.out w1 hb1 0 n0';rw[Nat.add_zero]at e1;clear hg;go_wp2_with fail;go_ret2;exact⟨hb1,_,_,rfl,.inr (.inl ⟨HP.out.1,HP.out.2,rfl,rfl⟩)⟩
 ·have hg:=a7j a n ca L A w hn hA false (c5s gA);have GA:Hid (¬Gd n L):=gA;clear gA;go_enter func63,ntmps63;go_wp2_with fail;go_at_call 106;refine hg.mono ?_;rintro e w1 ⟨rfl,hb1⟩;go_wp2_with fail;go_ret2;exact⟨hb1,_,_,rfl,.inl ⟨GA.out,rfl,rfl⟩⟩
def a4c (k:Nat)(f:Nat->BA):List Value:=(List.range k).map λi=>.string (f i)
theorem a5s (k:Nat)(f:Nat->BA)(i:Nat)(h:i<k):(a4c k f)[i]?=some (.string (f i)):=by simp[a4c,h]
theorem a7c (k:Nat)(f:Nat->BA):a4c (k+1) f=a4c k f++[.string (f k)]:=by
 unfold a4c;rw[List.range_succ,List.map_append];rfl
section
variable {ops:Array Oper}{rest:List Oper}{o:Oper}{a:Act}{Q:Exit->Act->World->Prop}
theorem a8g (y5:o.guard=none)(s x:Operand)(ho:o.op=.call {callee:=.builtin .append,args:=#[s,x],argTypes:=#[23,23]})
 (w0:World)(base:Nat)(v:Value)(k:Nat)(f:Nat->BA)(hA:w0.ownsRow base 9 1 v k (a4c k f))(hs:a.eval s=v)(b:Value)(mJ:b=.string (f k))
 (sz:Nat)(hx:a.eval x=.slice (some ⟨sz,0,none⟩) 1 1)(aA:sz=w0.heap.size)(hk:k<1000000000)(aC:base<=w0.heap.size)
 (h:∀v' w',w'.ownsRow base 9 1 v' (k+1) (a4c (k+1) f)->Below base w0 w'->wpList prog ops Q rest (a.put o.dst v') w'):
 wpList prog ops Q (o::rest) a (w0.alloc (.cells #[b] 9 (0,0))):=by
 subst aA;subst mJ;obtain⟨i0,hi,hz0,hz1,hz2⟩:=info_parts minfo9;refine wpList_append_own _ y5 s x 23 ho base 9 i0 (.string ⟨#[]⟩) 1 16 underlying23 hi hz0 hz1 hz2 rfl (by decide) v k _ hs (hA.alloc _) ⟨w0.heap.size,0,none⟩ 1 1 [.string (f k)] hx rfl ?_ ?_ ?_ ?_ ?_ ?_
 ·intro j u hu
  match j,hu with
  |0,hu=>simp at hu;subst hu;simp[Addr.add]
 ·intro u hu;simp at hu;subst hu;rfl
 ·unfold maxLen;omega
 ·omega
 ·simp;omega
 ·intro v' w' q8 q9 _;have hb0:Below w0.heap.size w0 (w0.alloc (.cells #[.string (f k)] 9 (0,0))):=(qw _ _).alloc (ql _) _;refine h v' w' (by rw[a7c];exact q8) ?_;exact(hb0.mono aC).grown q9 (by simp;omega) (λg hg=>(hA.lt g hg).1)
end
theorem b2u {w:World}{base n:Nat}{v:Value}{m:Nat}{X:Mx}(h:w.ownsRow base 9 1 v n (a4c n λr=>strE m (X r)))(hm:m<=65536):∃a c,v=.slice a n c/\n<=c/\c<=9223372036854775807/\TxtAt w a n (λ_=>m) X:=by
 obtain⟨a,c,rfl,_,hv⟩:=a0v h _ (λi hi=>a5s _ _ i hi);refine⟨a,c,rfl,?_,?_,hv,λ_ _=>by show m<=_;omega⟩
 ·rcases h.2 with⟨h0,h1⟩|⟨g,cap,cur,e,_,_,h1,_⟩
  ·omega
  ·cases e;exact h1
 ·rcases h.2 with⟨h0,h1⟩|⟨g,cap,cur,e,_,_,_,h1,_⟩
  ·cases h0;omega
  ·cases e;unfold maxLen at h1;omega
def TPair (w:World)(v v':Value)(n:Nat):Prop:=n<=16/\∃a a' c c' M Y,v=.slice a n c/\v'=.slice a' n c'/\TxtAt w a n M Y/\TxtAt w a' n M Y
theorem TPair.below {w w':World}{v v':Value}{n:Nat}(h:TPair w v v' n)(hb:Below w.heap.size w w'):TPair w' v v' n:=by
 obtain⟨hn,a,a',c,c',M,Y,h1,h2,h3,h4⟩:=h;exact⟨hn,a,a',c,c',M,Y,h1,h2,h3.below hb,h4.below hb⟩
theorem TPair.nil (w:World):TPair w (.slice none 0 0) (.slice none 0 0) 0:=
 ⟨by decide,none,none,0,0,λ_=>0,λ_ _=>0,rfl,rfl,⟨.inl rfl,λc hc=>by omega⟩,⟨.inl rfl,λc hc=>by omega⟩⟩
open Go.ChangeShapes Go.WideShapes Go.RowKit Go.PlainAid
def teE (s:BA)(i:Nat):E:=⟨(bt s i).toNat%256,Nat.mod_lt _ (by decide)⟩
theorem b0n (s:BA):strE s.size (teE s)=s:=by
 apply a2q
 ·rw[a0j]
 ·intro i hi;rw[a0j]at hi;rw[a6z _ _ i hi];have h0:=bt_nonneg s i;have h1:=bt_le s i;show(((bt s i).toNat%256:Nat):Int)=_;omega
end Go.Proofs.YtokknmkleceooaaGreatDoor
