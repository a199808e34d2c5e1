import Derived.Test.YtokknmkleceooaaGreatDoorChM
import Derived.Test.YtokknmkleceooaaGreatDoorPoM
import Derived.Test.YtokknmkleceooaaGreatDoorBaseM
import Derived.Lib.ConvBytes
import Derived.ArgAppend
import Derived.Deep.AppendLies
import Derived.Test.YtokknmkleceooaaGreatDoorShaM
namespace Go.Proofs.YtokknmkleceooaaGreatDoor
set_option linter.unusedVariables false
set_option maxRecDepth 20000
set_option maxHeartbeats 8000000
open Go.Proofs.Tryz
open Go.RowKit Go.PlainAid
def upN (n:Nat):Nat:=(16-n%16)%16
theorem b4z (n:Nat):upN n<16:=by unfold upN;omega
theorem d0q (n:Nat):(n+upN n)%16=0:=by unfold upN;omega
def zt (n:Nat):BA:=strOfNums (List.replicate n 0)
theorem c1h (n:Nat):(zt n).size=n:=by unfold zt;rw[strOfNums_size,List.length_replicate]
theorem bt_zt (n i:Nat):bt (zt n) i=0:=by
 by_cases h:i<n
 ·unfold zt;rw[a3q _ (λx hx=>by rw[(List.mem_replicate.1 hx).2];omega) i (by simpa using h),List.getElem_replicate]
 ·exact b0a _ _ (by rw[c1h];omega)
def pdB (s:BA):BA:=s++zt (upN s.size)
theorem a2e (s:BA):(pdB s).size=s.size+upN s.size:=by unfold pdB;rw[ByteArray.size_append,c1h]
theorem e2w (s:BA)(i:Nat):bt (pdB s) i=bt s i:=by
 unfold pdB;by_cases h:i<s.size
 ·rw[a1q _ _ _ h]
 ·rw[a1o _ _ _ (by omega),bt_zt,b0a _ _ (by omega)]
def lnB (a b:Nat):BA:=leB a 8++leB b 8
theorem c5v (a b:Nat):(lnB a b).size=16:=by unfold lnB;rw[ByteArray.size_append,a2l,a2l]
def mcB (a c:BA):BA:=pdB a++pdB c++lnB a.size c.size
theorem b7d (a c:BA):(mcB a c).size=a.size+upN a.size+(c.size+upN c.size)+16:=by
 unfold mcB;rw[ByteArray.size_append,ByteArray.size_append,a2e,a2e,c5v]
def kyB (key nonce:BA):BA:=(blkB (stI key nonce 0)).extract 0 32
theorem c5x (key nonce:BA):(kyB key nonce).size=32:=by unfold kyB;rw[ByteArray.size_extract,a2r];rfl
def crB (key nonce p:BA):BA:=cryB (ks key nonce 1) p
theorem a9z (key nonce p:BA):(crB key nonce p).size=p.size:=a1u _ _
theorem d5i (key nonce p:BA):crB key nonce (crB key nonce p)=p:=c9p _ (a7h key nonce 1) p
theorem c6k (a b:BA)(n:Nat)(h:a.size=n):(a++b).extract 0 n=a:=by
 apply a2q
 ·rw[ByteArray.size_extract,ByteArray.size_append];omega
 ·intro i hi;rw[ByteArray.size_extract,ByteArray.size_append]at hi;rw[a2w _ 0 n i (by rw[ByteArray.size_append];omega) (by omega),Nat.zero_add,a1q _ _ _ (by omega)]
theorem c0s (a b:BA)(n m:Nat)(h:a.size=n)(hm:m=n+b.size):(a++b).extract n m=b:=by
 apply a2q
 ·rw[ByteArray.size_extract,ByteArray.size_append];omega
 ·intro i hi;rw[ByteArray.size_extract,ByteArray.size_append]at hi;rw[a2w _ n m i (by rw[ByteArray.size_append];omega) (by omega),a1o _ _ _ (by omega)];congr 1;omega
theorem c1x (a b:List Int):strOfNums (a++b)=strOfNums a++strOfNums b:=by
 apply ByteArray.ext;rw[ByteArray.data_append];unfold strOfNums;simp
def lw4 (a b:Nat)(i:Nat):Int:=((if i<2 then dg 32 a i else dg 32 b (i-2):Nat):Int)
theorem e8i (a b i:Nat):0<=lw4 a b i/\lw4 a b i<4294967296:=by
 unfold lw4;have h1:=a2k 32 a i;have h2:=a2k 32 b (i-2);rw[show(2:Nat)^32=4294967296 from rfl]at h1 h2
 split<;>omega
theorem d8y (a b:Nat):strOfNums (a1x four (lw4 a b) 4)=lnB a b:=by
 have ha:=c4b a 2;have hb:=c4b b 2;rw[a1y,a1y]at ha hb;rw[a1y,a1y,a1y,a1y,List.append_assoc,List.append_assoc];have e0:a1x four (lw4 a b) 0=[]:=rfl;unfold lnB leB;rw[<-c1x,<-ha,<-hb];rfl
def RowG (w:World)(base:Nat)(v:Value)(n:Nat)(f:Nat->Int):Prop:=
 ∃g cap,v=.slice (some ⟨g,0,none⟩) n cap/\base<=g/\g<w.heap.size/\n<=cap/\(∀i,i<n->w.cell? ⟨g,i,none⟩=some (.int .u8 (f i)))/\(∀i,i<cap->(w.cell? ⟨g,i,none⟩).isSome=true/\w.frozen? ⟨g,i,none⟩=false)
theorem e4e (w:World)(s:BA):∃c w',(convert 9 22 (.string s)).run prog w=.ok (.slice (some ⟨w.heap.size,0,none⟩) s.size c) w'/\RowG w' w.heap.size (.slice (some ⟨w.heap.size,0,none⟩) s.size c) s.size (bt s)/\Below w.heap.size w w':=by
 have hr:=Lib.run_convert_string_bytes (P:=prog) w 9 22 5 s underlying9 underlying22 underlying5;have hs:=Lib.bytesWorld_size w 5 s;have hn:=Lib.bytesWorld_at_new w 5 s;have mC:=grownCap_ge w s.size 0 5;have cR:(Lib.bytesCells w 5 s).size=grownCap w s.size 0 5:=by
  unfold Lib.bytesCells;have hd:s.data.size=s.size:=rfl;rw[Array.size_append,Array.size_map,Array.size_replicate,hd];omega
 refine⟨_,_,hr,⟨w.heap.size,_,rfl,ql _,by omega,mC,λi hi=>?_,λi hi=>⟨?_,?_⟩⟩,⟨rfl,rfl,rfl,by omega,λj hj=>Lib.bytesWorld_at_old w 5 s j hj⟩⟩
 ·rw[Lib.bytesWorld_cell w 5 s i hi];congr 2;unfold bt;rw[dif_pos hi,List.getD_eq_getElem?_getD];have hd:i<s.data.toList.length:=by rw[Array.length_toList];exact hi
  rw[List.getElem?_eq_getElem hd,Option.getD_some];simp;rfl
 ·simp only[World.cell?,hn];rw[Array.getElem?_eq_getElem (by rw[cR];exact hi)];rfl
 ·simp only[World.frozen?,hn];simp;omega
theorem b3d (x:Int)(w:World)(base:Nat)(v:Value)(n:Nat)(f:Nat->Int)(h:RowG w base v n f)(hf:f n=x)(hn:n<=1000000000)(hb:base<=w.heap.size):
 ∃v' w',(Builtin.append_ #[22,22] 22 #[v,.slice (some ⟨w.heap.size,0,none⟩) 1 1]).run prog (w.alloc (.cells #[.int .u8 x] 5))=.ok v' w'/\RowG w' base v' (n+1) f/\Below base w w':=by
 obtain⟨g,cap,rfl,gD,hg,qI,x5,bK⟩:=h;obtain⟨i0,hi,hz0,hz1,hz2⟩:=info_parts info5;have hold:∀j,(w.alloc (.cells #[.int .u8 x] 5)).cell? ⟨g,j,none⟩=w.cell? ⟨g,j,none⟩:=λj=>World.cell?_alloc_lt _ _ _ hg;have eC:∀j,(w.alloc (.cells #[.int .u8 x] 5)).frozen? ⟨g,j,none⟩=w.frozen? ⟨g,j,none⟩:=λj=>World.frozen?_alloc_past _ _ _ hg;have bY:∀(j:Nat) u,[Value.int .u8 x][j]?=some u->(w.alloc (.cells #[.int .u8 x] 5)).cell? ((⟨w.heap.size,0,none⟩:Addr).add j)=some u:=λj u hj=>by
  match j,hj with
  |0,hj=>simp at hj;subst hj;simp only[Addr.add];exact(Blk.new w 5 #[.int .u8 x]).cell rfl
 have cE:Below base w (w.alloc (.cells #[.int .u8 x] 5)):=(qw _ _).alloc hb _;by_cases eJ:n+1<=cap
 ·have r6:=run_append_room_cells (P:=prog) (w.alloc (.cells #[.int .u8 x] 5)) 22 22 5 i0 underlying22 hi g 0 n cap ⟨w.heap.size,0,none⟩ 1 1 [.int .u8 x] (by rw[hz1];rfl) bY (λu hu=>by simp at hu;subst hu;rfl) eJ
   (λj hj=>by simp at hj;subst hj;rw[hz1,hold];simpa using(bK n (by omega)).1) (λj hj=>by simp at hj;subst hj;rw[hz1,eC];simpa using(bK n (by omega)).2)
  rw[hz1]at r6;simp only[Nat.zero_add,Nat.mul_one,World.setCells]at r6;refine⟨_,_,r6,⟨g,cap,rfl,gD,by simp;omega,eJ,λi hi'=>?_,λi hi'=>⟨?_,?_⟩⟩,cE.setCell gD _⟩
  ·by_cases e:i=n
   ·subst e;rw[World.cell?_setCell_same' _ ⟨g,i,none⟩ _ (by rw[hold];exact(bK i (by omega)).1),hf]
   ·rw[World.cell?_setCell_other _ _ _ _ (λh=>by cases h;exact e rfl),hold];exact x5 i (by omega)
  ·by_cases e:i=n
   ·subst e;rw[World.cell?_setCell_same' _ ⟨g,i,none⟩ _ (by rw[hold];exact(bK i (by omega)).1)];rfl
   ·rw[World.cell?_setCell_other _ _ _ _ (λh=>by cases h;exact e rfl),hold];exact(bK i hi').1
  ·rw[World.frozen?_setCell,eC];exact(bK i hi').2
 ·obtain⟨v',w',r6,q8,q9⟩:=run_append_arg_grows (P:=prog) (w.alloc (.cells #[.int .u8 x] 5)) 22 22 5 i0 (.int .u8 0) 1 1 underlying22 hi hz0 hz1 hz2 rfl (by decide) ⟨g,0,none⟩ n cap ((List.range n).map λi=>.int .u8 (f i)) (by simp) (λj u hj=>by
   rw[Addr.add_mid,Nat.zero_add,hold];have sI:j<n:=by
    rcases Nat.lt_or_ge j n with h|h
    ·exact h
    ·rw[List.getElem?_eq_none (by simp;exact h)]at hj;cases hj
   rw[x5 j sI,<-hj];simp[sI]) ⟨w.heap.size,0,none⟩ 1 1 [.int .u8 x] rfl bY (by omega) (by unfold maxLen;omega) (by omega)
  obtain⟨g',cap',rfl,hb',aT⟩:=q8.form (by omega);refine⟨_,w',r6,?_,Below.grown cE q9 (by simp;omega) (λk h=>by cases h)⟩;have aA:(w.alloc (.cells #[.int .u8 x] 5)).heap.size=w.heap.size+1:=by simp
  rcases q8.2 with⟨hv,_⟩|⟨g2,cap2,cur,hv,_,jW,h1,_,h3,_⟩
  ·cases hv
  ·cases hv
   refine⟨g',cap',rfl,by omega,aT,h1,λi hi'=>?_,λi hi'=>⟨?_,?_⟩⟩
   ·rw[World.ownsRow.cellAt q8 i (by omega)];by_cases e:i=n
    ·subst e;rw[List.getElem?_append_right (by simp)];simp[hf]
    ·rw[List.getElem?_append_left (by simp;omega)];simp[show i<n by omega]
   ·simp only[World.cell?,jW];rw[Array.getElem?_eq_getElem (by omega)];rfl
   ·simp[World.frozen?,jW]
theorem d1q {w:World}{base:Nat}{v:Value}{n:Nat}{f:Nat->Int}(h:RowG w base v n f):(convert 22 9 v).run prog w=.ok (.string (strOfNums ((List.range n).map f))) w:=by
 obtain⟨g,cap,rfl,_,_,_,x5,_⟩:=h;exact run_convert_bytes_arg (P:=prog) w 22 5 underlying22 underlying5 g 0 n cap ((List.range n).map f) (by simp) (λi hi=>by
  rw[Nat.zero_add,x5 i hi];simp[hi]) 9 underlying9
theorem RowG.below {w w':World}{base:Nat}{v:Value}{n:Nat}{f:Nat->Int}(h:RowG w base v n f)(hb:Below w.heap.size w w'):RowG w' base v n f:=by
 obtain⟨g,cap,rfl,h1,h2,h3,h4,h5⟩:=h;exact⟨g,cap,rfl,h1,Nat.lt_of_lt_of_le h2 hb.size,h3,λi hi=>(hb.cell (p:=⟨g,i,none⟩) h2).trans (h4 i hi),λi hi=>⟨by rw[hb.cell (p:=⟨g,i,none⟩) h2];exact(h5 i hi).1,by rw[hb.frozen (p:=⟨g,i,none⟩) h2];exact(h5 i hi).2⟩⟩
theorem a3g {P:Program}{ops:Array Oper}{rest:List Oper}{o:Oper}{a:Act}{w:World}{Q:Exit->Act->World->Prop}(y5:o.guard=none)(s x:Operand)(t tn:TypeId)
 (ho:o.op=.call {callee:=.builtin .append,args:=#[s,x],argTypes:=#[t,tn]})(vs vx:Value)(hs:a.eval s=vs)(hx:a.eval x=vx)
 (v':Value)(w':World)(hr:(Builtin.append_ #[t,tn] o.type #[vs,vx]).run P w=.ok v' w')(h:wpList P ops Q rest (a.put o.dst v') w'):wpList P ops Q (o::rest) a w:=
 wpList_plain y5 λK hK=>by
  unfold Oper.wp;simp[execOp,ho,resolve,invoke,builtin,hs,hx,hr,Result.andThen];exact hK _ _ h
def d1d:Value->Nat
 |.slice _ n _=>n
 |_=>0
theorem RowG.congr {w:World}{base:Nat}{v:Value}{n:Nat}{f f':Nat->Int}(h:RowG w base v n f)(e:∀i,i<n->f i=f' i):RowG w base v n f':=by
 obtain⟨g,cap,rfl,h1,h2,h3,h4,h5⟩:=h;exact⟨g,cap,rfl,h1,h2,h3,λi hi=>by rw[<-e i hi];exact h4 i hi,h5⟩
theorem b3j (f:Nat->Int)(base n m:Nat)(v:Value)(w:World)(hnm:n<=m)(hm:m<n+16)(h16:m%16=0)(hbig:m<=1000000)(hz:∀i,n<=i->i<m->f i=0)(x9:RowG w base v n f)(aC:base<=w.heap.size):
 Calls prog 190 #[v] w λe w'=>∃v',e=.returned v'/\RowG w' base v' m f/\Below base w w':=by
 have dN:∀k,n<=k->k<m->¬k%16=0:=λk h1 h2 h3=>by omega
 have H16:Hid (m%16=0):=h16;clear h16;go_enter func190,ntmps190;go_wp2_with fail;go_loopw[0] (λv wr=>∃k:Nat,n<=k/\k<=m/\RowG wr base v k f/\Below base w wr/\base<=wr.heap.size) (λv _=>m-d1d v)
 case atStart=>exact⟨n,by omega,by omega,x9,qw _ _,aC⟩
 case round=>
  clear x9 aC;obtain⟨k,hk1,hk2,x9,hb,aC⟩:=hrel;have bJ:=x9;obtain⟨g,cap,rfl,hg1,hg2,hg3,hg4,hg5⟩:=x9;clear hg4 hg5;by_cases p9:k<m
  ·have y6:=dN k hk1 p9;have fP:(((k:Int)%16) !=0)=true:=(by rw[bne_iff_ne];omega);obtain⟨v',w',r6,cG,hb2⟩:=b3d 0 wr base _ k f bJ (hz k hk1 p9) (by omega) aC;obtain⟨g',cap',rfl,h1',h2',h3',h4',h5'⟩:=cG;have cQ:RowG w' base (.slice (some ⟨g',0,none⟩) (k+1) cap') (k+1) f:=⟨g',cap',rfl,h1',h2',h3',h4',h5'⟩;clear h4' h5' bJ;go_wp2_with(at_builtin;refine a3g rfl _ _ 22 22 rfl _ _ rfl rfl _ _ r6 ?_);refine⟨⟨k+1,by omega,by omega,cQ,hb.trans hb2,by omega⟩,?_⟩;show m-(k+1)<m-k;omega
  ·have kV:k=m:=(by omega);have fP:(((k:Int)%16) !=0)=false:=by
    have:=H16.out;rw[<-kV]at this;rw[bne_eq_false_iff_eq];omega
   go_wp2_with fail;go_ret;exact⟨_,rfl,kV▸bJ,hb⟩
theorem b3h (f:Nat->Int)(base n N:Nat)(v:Value)(w:World)(hbig:n<=1000000)(hN:N<=1000000000)(hz:∀i,i<8->f (n+i)=((dg 8 N i:Nat):Int))(x9:RowG w base v n f)(aC:base<=w.heap.size):
 Calls prog 191 #[v,.int .i64 (N:Int)] w λe w'=>∃v',e=.returned v'/\RowG w' base v' (n+8) f/\Below base w w':=by
 go_enter func191,ntmps191;go_wp2_with fail;go_loopw[0,1,5] (λv x i wr=>∃k M:Nat,k<=8/\i=.int .i64 k/\x=.int .i64 (M:Int)/\M<=1000000000/\M=N/2^(8*k)/\RowG wr base v (n+k) f/\Below base w wr/\base<=wr.heap.size) (λ_ _ i _=>8-(intOf i).toNat)
 case atStart=>exact⟨0,N,by omega,rfl,rfl,hN,by simp,x9,qw _ _,aC⟩
 case round=>
  clear x9 aC;obtain⟨k,M,hk,rfl,rfl,hM,hMk,x9,hb,aC⟩:=hrel;have HM:Hid (M=N/2^(8*k)):=hMk;clear hMk;have bJ:=x9;obtain⟨g,cap,rfl,hg1,hg2,hg3,hg4,hg5⟩:=x9;clear hg4 hg5;by_cases p9:k<8
  ·have hx:f (n+k)=(M:Int)%256:=by
    rw[hz k p9];unfold dg;rw[<-HM.out];omega
   obtain⟨v',w',r6,cG,hb2⟩:=b3d ((M:Int)%256) wr base _ (n+k) f bJ hx (by omega) aC;obtain⟨g',cap',rfl,h1',h2',h3',h4',h5'⟩:=cG;have cQ:RowG w' base (.slice (some ⟨g',0,none⟩) (n+k+1) cap') (n+(k+1)) f:=⟨g',cap',rfl,h1',h2',h3',h4',h5'⟩;have HM2:Hid (M/256=N/2^(8*(k+1))):=by
    have e:M/256=N/2^(8*(k+1)):=by
     rw[HM.out,Nat.div_div_eq_div_mul,show 8*(k+1)=8*k+8 by omega,Nat.pow_add]
    exact e
   clear h4' h5' bJ hx;go_wp2_with(at_builtin;refine a3g rfl _ _ 22 22 rfl _ _ rfl rfl _ _ r6 ?_);refine⟨⟨k+1,M/256,by omega,by go_num,by go_num,by omega,HM2.out,cQ,hb.trans hb2,by omega⟩,?_⟩;simp[intOf];omega
  ·have kV:k=8:=(by omega);subst kV;go_wp2_with fail;go_ret;exact⟨_,rfl,bJ,hb⟩
theorem b8e (a b:BA)(g:Nat)(w:World)(ha:a.size<=1000000)(hb:b.size<=1000000)(h0:w.cell? ⟨g,0,none⟩=some (.string a))(h1:w.cell? ⟨g,1,none⟩=some (.string b))(hg:g<w.heap.size):
 Calls prog 172 #[.slice (some ⟨g,0,none⟩) 2 2] w λe w'=>e=.returned (.string (lnB a.size b.size))/\Below w.heap.size w w':=by
 obtain⟨i0,hi,hz0,hz1,hz2⟩:=info_parts info195;obtain⟨S,hS⟩:∃S:Nat->BA,S=λk=>if k=0 then a else b:=⟨_,rfl⟩;have hSc:∀k,k<2->w.cell? ⟨g,k,none⟩=some (.string (S k)):=λk hk=>by
  have e:k=0\/k=1:=by omega
  rcases e with rfl|rfl
  ·rw[hS];exact h0
  ·rw[hS];exact h1
 have hSs:∀k,(S k).size<=1000000:=λk=>by rw[hS];show(if k=0 then a else b).size<=_;split<;>assumption
 have hSl:∀k,k<2->lw4 a.size b.size (2*k)=((S k).size:Int)/\lw4 a.size b.size (2*k+1)=0:=λk hk=>by
  have e:k=0\/k=1:=by omega
  rcases e with rfl|rfl
  ·rw[hS];unfold lw4 dg;simp;omega
  ·rw[hS];unfold lw4 dg;simp;omega
 have HL:Hid (strOfNums (a1x four (lw4 a.size b.size) 4)=lnB a.size b.size):=d8y _ _;have dN:=λi=>e8i a.size b.size i;generalize lnB a.size b.size=X at HL⊢;generalize lw4 a.size b.size=L at HL hSl dN;clear hS h0 h1 ha hb;go_enter func172,ntmps172;go_wp2_with fail;go_loopw[3,9] (λv i wr=>∃k:Nat,k<=2/\i=.int .i64 k/\wr.ownsRow w.heap.size 195 1 v (2*k) ((List.range (2*k)).map λi=>.int .u32 (L i))/\Below w.heap.size w wr) (λ_ i _=>2-(intOf i).toNat)
 case atStart=>exact⟨0,by omega,rfl,World.ownsRow_nil _ _ _ _,qw _ _⟩
 case round=>
  obtain⟨k,hk,rfl,q8,t8⟩:=hrel;by_cases p9:k<2
  ·have hc:wr.cell? ⟨g,k,none⟩=some (.string (S k)):=(t8.cell (p:=⟨g,k,none⟩) hg).trans (hSc k p9);have hss:=hSs k;obtain⟨l0,l1⟩:=hSl k p9;have hI:(k:Int)<2:=(by omega);generalize S k=s at hc hss l0;go_wp2_with(at_builtin;refine wpList_append_own _ rfl _ _ 254 rfl w.heap.size 195 i0 (.int .u32 0) 1 4 underlying254 hi hz0 hz1 hz2 rfl (by decide) _ _ _ rfl (q8.alloc _) ⟨wr.heap.size,0,none⟩ 2 2 [.int .u32 (s.size:Int),.int .u32 0] rfl rfl ?c1 ?c2 ?c3 ?c4 ?c5 ?_)
   case c1=>
    intro j u hj
    match j,hj with
    |0,hj=>simp at hj;subst hj;simp[Addr.add]
    |1,hj=>simp at hj;subst hj;simp[Addr.add];omega
    |j+2,hj=>simp at hj
   case c2=>intro u hu;simp at hu;rcases hu with rfl|rfl<;>rfl
   case c3=>unfold maxLen;omega
   case c4=>omega
   case c5=>have:=t8.size;simp;omega
   ·intro v' w1 t6 q9 _;have x6:Below w.heap.size w w1:=by
     refine Below.grown (t8.alloc t8.size _) q9 ?_ ?_
     ·have:=t8.size;simp;omega
     ·intro g hg;exact(q8.lt g hg).1
    have R:w1.ownsRow w.heap.size 195 1 v' (2*(k+1)) ((List.range (2*(k+1))).map λi=>.int .u32 (L i)):=by
     rw[show 2*(k+1)=2*k+1+1 by omega,List.range_succ,List.range_succ,List.map_append,List.map_append,List.append_assoc,List.map_singleton,List.map_singleton,l0,l1];exact t6
    clear t6 q9 q8 t8;go_wp2;go_roundw
    case rel=>exact⟨k+1,by omega,by go_num,R,x6⟩
    case measure=>simp[intOf];omega
  ·have aM:k=2:=(by omega);subst aM;obtain⟨A,cap,rfl,hAt⟩:=c4w q8;go_wp2_with fail;refine(a3w A cap 4 L wr (by omega) hAt (λi _=>dN i)).mono ?_;rintro e w2 ⟨rfl,hb2⟩;rw[HL.out];go_wp2_with fail;go_ret;exact⟨rfl,t8.trans (hb2.mono t8.size)⟩
def atg (key nonce a c:BA):BA:=tagB (kyB key nonce) (mcB a c)
theorem b2o (key nonce a c:BA):(atg key nonce a c).size=16:=by unfold atg tagB;rw[a2l]
def slB (key nonce a p:BA):BA:=crB key nonce p++atg key nonce a (crB key nonce p)
theorem b2a (key nonce a p:BA):(slB key nonce a p).size=p.size+16:=by unfold slB;rw[ByteArray.size_append,a9z,b2o]
theorem d7q (key nonce a p:BA):(slB key nonce a p).extract 0 p.size=crB key nonce p:=c6k _ _ _ (a9z _ _ _)
theorem d7p (key nonce a p:BA):(slB key nonce a p).extract p.size (p.size+16)=atg key nonce a (crB key nonce p):=c0s _ _ _ _ (a9z _ _ _) (by rw[b2o])
theorem b1n (s:BA)(hs:s.size<=1000000)(w:World):
 Calls prog 171 #[.string s] w λe w'=>e=.returned (.string (pdB s))/\Below w.heap.size w w':=by
 have c1:=λw=>a5x (upN s.size) w (by have:=b4z s.size;omega);have hn:(16-((s.size:Nat):Int)%16)%16=((upN s.size:Nat):Int):=by unfold upN;omega
 have hu:upN s.size<16:=b4z _;have HP:Hid (s++zt (upN s.size)=pdB s):=rfl;rw[show strOfNums (List.replicate (upN s.size) 0)=zt (upN s.size)from rfl]at c1;have mV:=c1h (upN s.size);generalize pdB s=X at HP⊢;generalize zt (upN s.size)=Z at HP c1 mV;generalize upN s.size=u at c1 hn hu mV;have hZw:(9223372036854775807<s.size+Z.size)=False:=by simp;omega
 have HZ:Hid (Z.size=u):=mV;clear mV;go_enter func171,ntmps171;go_wp2_with fail;refine(c1 w).mono ?_;rintro e w1 ⟨rfl,hb1⟩;go_wp2_with fail;go_ret;exact⟨by rw[<-HP.out];rfl,hb1⟩
theorem c1d (key nonce a c:BA)(hk:key.size=32)(hn:nonce.size=12)(ha:a.size<=16384)(hc:c.size<=16384)(w:World):
 Calls prog 119 #[.string key,.string nonce,.string a,.string c] w λe w'=>e=.returned (.string (atg key nonce a c))/\Below w.heap.size w w':=by
 have c0:=λw=>e1d key nonce 0 hk hn ⟨by decide,by decide⟩ w;have c1:=λw=>b1n a (by omega) w;have c2:=λw=>b1n c (by omega) w;have c3:=λg w=>b8e a c g w (by omega) (by omega);have kU:(mcB a c).size<=65536:=by
  have h1:=b4z a.size;have h2:=b4z c.size;rw[b7d];omega
 have c4:=λw=>e7f (kyB key nonce) (mcB a c) (c5x _ _) kU w;rw[show mcB a c=pdB a++pdB c++lnB a.size c.size from rfl]at c4 kU;have tS:(blkB (stI key nonce 0)).extract 0 32=kyB key nonce:=rfl;have gQ:(blkB (stI key nonce 0)).size=64:=a2r _;have HT:Hid (tagB (kyB key nonce) (pdB a++pdB c++lnB a.size c.size)=atg key nonce a c):=rfl;have lB:=c5v a.size c.size;generalize atg key nonce a c=T at HT⊢;generalize blkB (stI key nonce 0)=X at c0 tS gQ;generalize kyB key nonce=Y at c4 tS HT;generalize pdB a=A at c1 c4 HT kU;generalize pdB c=C at c2 c4 HT kU;generalize lnB a.size c.size=L at c3 c4 HT lB kU;rw[HT.out]at c4;have rW:=kU;rw[ByteArray.size_append,ByteArray.size_append]at rW;have hw1:(9223372036854775807<A.size+C.size)=False:=by simp;omega
 have hw2:(9223372036854775807<(A++C).size+L.size)=False:=by rw[ByteArray.size_append];simp;omega
 have hw2':(9223372036854775807<A.size+C.size+L.size)=False:=by simp;omega
 have hX32:((32:Int)<=((X.size:Nat):Int))=True:=by simp;omega
 have HXs:Hid (X.size=64):=gQ;clear HT kU rW lB gQ hk hn;go_enter func119,ntmps119;go_wp2_with fail;refine(c0 w).mono ?_;rintro e w0 ⟨rfl,hb0⟩;clear c0;go_wp2_with fail;refine wp_region_noPanic ?_;refine wp_region_held_drew (S:=λ_=>True) (by kernel_rfl) trivial (λp8=>?_);refine tkH 0 ?_;go_simp;refine tkH 1 ?_;go_simp;refine tkH 2 ?_;go_simp;refine tkH 4 ?_;go_simp;refine tkH 7 ?_;go_simp;refine tkH 8 ?_;go_simp;have tI:Below w.heap.size w w0.drew:=hb0.drew;generalize w0.drew=wd at tI p8⊢;have mI:=tI;refine wpAnyH_ready (rs:=[3,9]) (by kernel_rfl) (by simp) (AllReadyH.cons rfl (λK hK=>?_) (AllReadyH.cons rfl (λK hK=>?_) AllReadyH.nil))
 ·skip
  go_simp;go_at_call 171;refine(c1 _).mono ?_;rintro e wa ⟨rfl,bwa⟩;have gC:Below w.heap.size w wa:=mI.trans (bwa.mono mI.size);refine hK.out _ _ trivial (λp8=>?_);clear hK K;refine wpAnyH_ready (rs:=[5,9]) (by kernel_rfl) (by simp) (AllReadyH.cons rfl (λK hK=>?_) (AllReadyH.cons rfl (λK hK=>?_) AllReadyH.nil))
  ·skip
   go_simp;go_at_call 171;refine(c2 _).mono ?_;rintro e wb ⟨rfl,bwb⟩;have eT:Below w.heap.size w wb:=gC.trans (bwb.mono gC.size);refine hK.out _ _ trivial (λp8=>?_);clear hK K;refine tkH 6 ?_;go_simp;refine rdH 9 λK hK=>?_;go_simp;have kI:Blk (wb.alloc (.cells #[.string a,.string c] 9)) wb.heap.size 9 [.string a,.string c]:=Blk.box wb 9 [.string a,.string c];have oA:Below w.heap.size w (wb.alloc (.cells #[.string a,.string c] 9)):=eT.alloc eT.size _;refine hK.out _ _ trivial (λp8=>?_);clear hK K;generalize wb.alloc (.cells #[.string a,.string c] 9)=wc at kI oA⊢;generalize wb.heap.size=g at kI⊢;have dH:=kI;have eS:=oA;refine rdH 10 λK hK=>?_;go_simp;go_at_call 172;refine(c3 _ _ (dH.cell rfl) (dH.cell rfl) dH.lt).mono ?_;rintro e wl ⟨rfl,bwl⟩;have eQ:Below w.heap.size w wl:=eS.trans (bwl.mono eS.size);refine hK.out _ _ trivial (λp8=>?_);clear hK K;refine tkH 11 ?_;go_simp;refine rdH 12 λK hK=>?_;go_simp;go_at_call 170;refine(c4 _).mono ?_;rintro e ws ⟨rfl,bws⟩;have jZ:Below w.heap.size w ws:=eQ.trans (bws.mono eQ.size);refine hK.out _ _ trivial (λp8=>?_);clear hK K;refine tkH 13 ?_;go_simp;refine tkH 14 ?_;go_simp;refine tkH 15 ?_;go_simp;refine tkH 16 ?_;go_simp;refine tkH 17 ?_;go_simp;refine wpAnyH_done (by kernel_rfl) ?_ _;refine NoPanic.normal ?_;go_wp2_with fail;go_ret;exact⟨rfl,jZ⟩
  ·skip
   go_simp;have kJ:Blk (wa.alloc (.cells #[.string a,.string c] 9)) wa.heap.size 9 [.string a,.string c]:=Blk.box wa 9 [.string a,.string c];have oB:Below w.heap.size w (wa.alloc (.cells #[.string a,.string c] 9)):=gC.alloc gC.size _;refine hK.out _ _ trivial (λp8=>?_);clear hK K;generalize wa.alloc (.cells #[.string a,.string c] 9)=wb at kJ oB⊢;generalize wa.heap.size=g at kJ⊢;have kK:=kJ;have eT:=oB;refine rdH 5 λK hK=>?_;go_simp;go_at_call 171;refine(c2 _).mono ?_;rintro e wc ⟨rfl,bwc⟩;have eS:Below w.heap.size w wc:=eT.trans (bwc.mono eT.size);have dH:Blk wc _ 9 [.string a,.string c]:=kK.below bwc kK.lt;refine hK.out _ _ trivial (λp8=>?_);clear hK K;refine tkH 6 ?_;go_simp;refine rdH 10 λK hK=>?_;go_simp;go_at_call 172;refine(c3 _ _ (dH.cell rfl) (dH.cell rfl) dH.lt).mono ?_;rintro e wl ⟨rfl,bwl⟩;have eQ:Below w.heap.size w wl:=eS.trans (bwl.mono eS.size);refine hK.out _ _ trivial (λp8=>?_);clear hK K;refine tkH 11 ?_;go_simp;refine rdH 12 λK hK=>?_;go_simp;go_at_call 170;refine(c4 _).mono ?_;rintro e ws ⟨rfl,bws⟩;have jZ:Below w.heap.size w ws:=eQ.trans (bws.mono eQ.size);refine hK.out _ _ trivial (λp8=>?_);clear hK K;refine tkH 13 ?_;go_simp;refine tkH 14 ?_;go_simp;refine tkH 15 ?_;go_simp;refine tkH 16 ?_;go_simp;refine tkH 17 ?_;go_simp;refine wpAnyH_done (by kernel_rfl) ?_ _;refine NoPanic.normal ?_;go_wp2_with fail;go_ret;exact⟨rfl,jZ⟩
 ·skip
  go_simp;have kM:Blk (wd.alloc (.cells #[.string a,.string c] 9)) wd.heap.size 9 [.string a,.string c]:=Blk.box wd 9 [.string a,.string c];have oC:Below w.heap.size w (wd.alloc (.cells #[.string a,.string c] 9)):=mI.alloc mI.size _;refine hK.out _ _ trivial (λp8=>?_);clear hK K;generalize wd.alloc (.cells #[.string a,.string c] 9)=wa at kM oC⊢;generalize wd.heap.size=g at kM⊢;have uC:=kM;have gC:=oC;refine rdH 3 λK hK=>?_;go_simp;go_at_call 171;refine(c1 _).mono ?_;rintro e wb ⟨rfl,bwb⟩;have eT:Below w.heap.size w wb:=gC.trans (bwb.mono gC.size);have kK:Blk wb _ 9 [.string a,.string c]:=uC.below bwb uC.lt;refine hK.out _ _ trivial (λp8=>?_);clear hK K;refine rdH 5 λK hK=>?_;go_simp;go_at_call 171;refine(c2 _).mono ?_;rintro e wc ⟨rfl,bwc⟩;have eS:Below w.heap.size w wc:=eT.trans (bwc.mono eT.size);have dH:Blk wc _ 9 [.string a,.string c]:=kK.below bwc kK.lt;refine hK.out _ _ trivial (λp8=>?_);clear hK K;refine tkH 6 ?_;go_simp;refine rdH 10 λK hK=>?_;go_simp;go_at_call 172;refine(c3 _ _ (dH.cell rfl) (dH.cell rfl) dH.lt).mono ?_;rintro e wl ⟨rfl,bwl⟩;have eQ:Below w.heap.size w wl:=eS.trans (bwl.mono eS.size);refine hK.out _ _ trivial (λp8=>?_);clear hK K;refine tkH 11 ?_;go_simp;refine rdH 12 λK hK=>?_;go_simp;go_at_call 170;refine(c4 _).mono ?_;rintro e ws ⟨rfl,bws⟩;have jZ:Below w.heap.size w ws:=eQ.trans (bws.mono eQ.size);refine hK.out _ _ trivial (λp8=>?_);clear hK K;refine tkH 13 ?_;go_simp;refine tkH 14 ?_;go_simp;refine tkH 15 ?_;go_simp;refine tkH 16 ?_;go_simp;refine tkH 17 ?_;go_simp;refine wpAnyH_done (by kernel_rfl) ?_ _;refine NoPanic.normal ?_;go_wp2_with fail;go_ret;exact⟨rfl,jZ⟩
theorem a8q (key nonce:BA)(hk:key.size=32)(hn:nonce.size=12)(w:World):
 Calls prog 116 #[.string key,.string nonce] w λe w'=>e=.returned (.bool true)/\w'=w:=by
 have h1:(((key.size:Nat):Int)==32)=true:=by simp;omega
 have h2:(((nonce.size:Nat):Int)==12)=true:=by simp;omega
 clear hk hn;go_enter func116,ntmps116;go_wp2_with fail;go_ret;exact⟨rfl,rfl⟩
theorem c1g (a b:BA)(ha:a.size<=16384)(hb:b.size<=16384)(w:World):
 Calls prog 117 #[.string a,.string b] w λe w'=>e=.returned (.bool false)/\w'=w:=by
 have h1:¬((16384:Int)<((a.size:Nat):Int)):=by omega
 have h2:¬((16384:Int)<((b.size:Nat):Int)):=by omega
 go_enter func117,ntmps117;go_wp2_with fail;go_ret;exact⟨rfl,rfl⟩
theorem d6n (key nonce a p:BA)(hk:key.size=32)(hn:nonce.size=12)(ha:a.size<=16384)(hp:p.size<=16384)(w:World):
 Calls prog 74 #[.string key,.string nonce,.string a,.string p] w λe w'=>e=.returned (.tuple #[.string (slB key nonce a p),.int .i64 0])/\Below w.heap.size w w':=by
 have c1:=a8q key nonce hk hn w;have c2:=c1g a p ha hp w;have c3:=λw=>c6n key nonce p 1 hk hn ⟨by decide,by decide⟩ (by omega) w;rw[show cryB (ks key nonce 1) p=crB key nonce p from rfl]at c3;have uA:=a9z key nonce p;have c4:=λw=>c1d key nonce a (crB key nonce p) hk hn ha (by omega) w;have pW:=b2o key nonce a (crB key nonce p);have HS:Hid (crB key nonce p++atg key nonce a (crB key nonce p)=slB key nonce a p):=rfl;generalize slB key nonce a p=S at HS⊢;generalize crB key nonce p=C at c3 c4 uA pW HS;generalize atg key nonce a C=T at c4 pW HS;have hw:(9223372036854775807<C.size+T.size)=False:=by simp;omega
 clear hk hn ha hp uA pW;go_enter func74,ntmps74;go_wp2_with fail;refine c1.mono ?_;rintro e w1 ⟨rfl,hw1⟩;rw[hw1];go_wp2_with fail;refine c2.mono ?_;rintro e w2 ⟨rfl,hw2⟩;rw[hw2];clear c1 c2;go_wp2_with fail;refine(c3 w).mono ?_;rintro e w3 ⟨rfl,hb3⟩;go_wp2_with fail;refine(c4 w3).mono ?_;rintro e w4 ⟨rfl,hb4⟩;have hb5:=hb3.trans (hb4.mono hb3.size);clear c3 c4 hb3 hb4;go_wp2_with fail;go_ret2;exact⟨by rw[<-HS.out];rfl,hb5⟩
theorem c1f (key nonce a s:BA)(hk:key.size=32)(hn:nonce.size=12)(h:s.size<16)(w:World):
 Calls prog 105 #[.string key,.string nonce,.string a,.string s] w λe w'=>e=.returned (.tuple #[.string ⟨#[]⟩,.int .i64 3])/\Below w.heap.size w w':=by
 have c1:=a8q key nonce hk hn w;have h1:((s.size:Nat):Int)<16:=by omega
 clear hk hn;go_enter func105,ntmps105;go_wp2_with fail;refine c1.mono ?_;rintro e w1 ⟨rfl,hw1⟩;rw[hw1];go_wp2_with fail;go_ret2;exact⟨rfl,qw _ _⟩
theorem d0c (key nonce a s:BA)(n:Nat)(hk:key.size=32)(hn:nonce.size=12)(hs:s.size=n+16)(ha:a.size<=16384)(h:n<=16384)(w:World):
 Calls prog 105 #[.string key,.string nonce,.string a,.string s] w λe w'=>e=.returned (if s.extract n s.size=atg key nonce a (s.extract 0 n)then .tuple #[.string (crB key nonce (s.extract 0 n)),.int .i64 0]else .tuple #[.string ⟨#[]⟩,.int .i64 23])/\Below w.heap.size w w':=by
 have c1:=a8q key nonce hk hn w;obtain⟨B,hB⟩:∃B,s.extract 0 n=B:=⟨_,rfl⟩;obtain⟨D,hD⟩:∃D,s.extract n s.size=D:=⟨_,rfl⟩;have iV:B.size=n:=by rw[<-hB,ByteArray.size_extract];omega
 have hDs:D.size=16:=by rw[<-hD,ByteArray.size_extract];omega
 have c2:=λw=>c1g a B ha (by omega) w;have c3:=λw=>c1d key nonce a B hk hn ha (by omega) w;have c4:=λw=>d5b D (atg key nonce a B) (by omega) (by rw[b2o];omega) w;have c5:=λw=>c6n key nonce B 1 hk hn ⟨by decide,by decide⟩ (by omega) w;rw[show cryB (ks key nonce 1) B=crB key nonce B from rfl]at c5;rw[hB,hD];generalize crB key nonce B=C at c5⊢;generalize atg key nonce a B=T at c3 c4⊢;obtain⟨R,hR⟩:∃R,(if D=T then(.tuple #[.string C,.int .i64 0]:Value)else .tuple #[.string ⟨#[]⟩,.int .i64 23])=R:=⟨_,rfl⟩;rw[hR];have HR:Hid ((if D=T then(.tuple #[.string C,.int .i64 0]:Value)else .tuple #[.string ⟨#[]⟩,.int .i64 23])=R):=hR;clear hR;have hsI:((s.size:Nat):Int)=(n:Int)+16:=by omega
 have h1:¬((n:Int)+16<16):=by omega
 have h2:((n:Int)<=(n:Int)+16):=by omega
 have h0:(0:Int)<=(n:Int):=by omega
 have hn2:n<=s.size:=by omega
 have hn3:(n:Int)<=16384:=by omega
 clear hk hn ha iV hDs hs;go_enter func105,ntmps105;go_wp2_with fail;refine c1.mono ?_;rintro e w1 ⟨rfl,hw1⟩;rw[hw1];clear c1;go_wp2_with fail
 go_quiet(fail)
 have hl:Below w.heap.size w (w.drewN nq):=⟨rfl,rfl,rfl,ql _,λ_ _=>rfl⟩;generalize w.drewN nq=w2 at hl⊢;go_wp2_with fail;refine(c2 w2).mono ?_;rintro e w3 ⟨rfl,hw3⟩;rw[hw3];go_wp2_with fail;refine(c3 w2).mono ?_;rintro e w4 ⟨rfl,hb4⟩;have hl4:=hl.trans (hb4.mono hl.size);clear c3 hb4 hl hB hD c2;go_wp2_with fail;refine(c4 w4).mono ?_;rintro e w5 ⟨rfl,hb5⟩;have hl5:=hl4.trans (hb5.mono hl4.size);clear c4 hb5 hl4;by_cases iO:D=T
 ·rw[decide_eq_true iO];have HR2:Hid (R=.tuple #[.string C,.int .i64 0]):=HR.out.symm.trans (qp iO);clear iO HR;go_wp2_with fail;refine(c5 w5).mono ?_;rintro e w6 ⟨rfl,hb6⟩;have hl6:=hl5.trans (hb6.mono hl5.size);go_wp2_with fail;go_ret2;exact⟨by rw[HR2.out];rfl,hl6⟩
 ·rw[decide_eq_false iO];have HR2:Hid (R=.tuple #[.string ⟨#[]⟩,.int .i64 23]):=HR.out.symm.trans (qn iO);clear iO HR;go_wp2_with fail;go_ret2;exact⟨by rw[HR2.out];rfl,hl5⟩
section
variable(a c:BA)
theorem mc_a (i:Nat)(h:i<a.size+upN a.size):bt (mcB a c) i=bt a i:=by
 unfold mcB;rw[a1q _ _ _ (by rw[ByteArray.size_append,a2e];omega),a1q _ _ _ (by rw[a2e];omega),e2w]
theorem mc_c (i:Nat)(h:i<c.size+upN c.size):bt (mcB a c) (a.size+upN a.size+i)=bt c i:=by
 unfold mcB;rw[a1q _ _ _ (by rw[ByteArray.size_append,a2e,a2e];omega),a1o _ _ _ (by rw[a2e];omega),e2w,a2e];congr 1;omega
theorem mc_l (i:Nat)(h:i<8):bt (mcB a c) (a.size+upN a.size+(c.size+upN c.size)+i)=((dg 8 a.size i:Nat):Int):=by
 unfold mcB lnB;rw[a1o _ _ _ (by rw[ByteArray.size_append,a2e,a2e];omega),ByteArray.size_append,a2e,a2e,show a.size+upN a.size+(c.size+upN c.size)+i-(a.size+upN a.size+(c.size+upN c.size))=i by omega,a1q _ _ _ (by rw[a2l];exact h),b5u _ _ _ h]
theorem mc_m (i:Nat)(h:i<8):bt (mcB a c) (a.size+upN a.size+(c.size+upN c.size)+8+i)=((dg 8 c.size i:Nat):Int):=by
 unfold mcB lnB;rw[a1o _ _ _ (by rw[ByteArray.size_append,a2e,a2e];omega),ByteArray.size_append,a2e,a2e,show a.size+upN a.size+(c.size+upN c.size)+8+i-(a.size+upN a.size+(c.size+upN c.size))=8+i by omega,a1o _ _ _ (by rw[a2l];omega),a2l,show 8+i-8=i by omega,b5u _ _ _ h]
end
theorem c1e (key nonce a c:BA)(hk:key.size=32)(hn:nonce.size=12)(ha:a.size<=16384)(hc:c.size<=16384)(w:World):
 Calls prog 141 #[.string key,.string nonce,.string a,.string c] w λe w'=>e=.returned (.string (atg key nonce a c))/\Below w.heap.size w w':=by
 have c0:=λw=>b3k key nonce 0 hk hn ⟨by decide,by decide⟩ w;have hu1:=b4z a.size;have hu2:=b4z c.size;have hv1:=d0q a.size;have hv2:=d0q c.size;have f1:=mc_a a c;have f2:=mc_c a c;have f3:=mc_l a c;have f4:=mc_m a c;have kU:(mcB a c).size<=65536:=by rw[b7d];omega
 have c4:=λw=>d2b (kyB key nonce) (mcB a c) (c5x _ _) kU w;have tS:(blkB (stI key nonce 0)).extract 0 32=kyB key nonce:=rfl;have gQ:(blkB (stI key nonce 0)).size=64:=a2r _;have HT:Hid (tagB (kyB key nonce) (mcB a c)=atg key nonce a c):=rfl;have pY:=e3w (mcB a c);rw[b7d]at pY;generalize atg key nonce a c=T at HT⊢;generalize blkB (stI key nonce 0)=X at c0 tS gQ;generalize kyB key nonce=Y at c4 tS HT;obtain⟨f,hf⟩:∃f,bt (mcB a c)=f:=⟨_,rfl⟩;rw[hf]at f1 f2 f3 f4 pY;generalize mcB a c=M at c4 HT pY;rw[HT.out]at c4;have hX32:((32:Int)<=((X.size:Nat):Int))=True:=by simp;omega
 have HXs:Hid (X.size=64):=gQ;obtain⟨m1,hm1⟩:∃m,a.size+upN a.size=m:=⟨_,rfl⟩;obtain⟨m2,hm2⟩:∃m,m1+(c.size+upN c.size)=m:=⟨_,rfl⟩;rw[hm1]at f1 f2 f3 f4 pY hv1;rw[hm2]at f3 f4 pY;have HMt:Hid (strOfNums ((List.range (m2+8+8)).map f)=M):=pY
 --facts for the parts
 have Ha1:Hid (∀i,i<a.size->bt a i=f i):=λi hi=>(f1 i (by omega)).symm;have Ha2:Hid (∀i,a.size<=i->i<m1->f i=0):=λi h1 h2=>by rw[f1 i h2,b0a _ _ h1]
 have Hc1:Hid (∀i,i<c.size->f (m1+i)=bt c i):=λi hi=>f2 i (by omega);have Hc2:Hid (∀i,m1+c.size<=i->i<m2->f i=0):=λi h1 h2=>by
  have:=f2 (i-m1) (by omega);rw[show m1+(i-m1)=i by omega]at this;rw[this,b0a _ _ (by omega)]
 have Hl1:Hid (∀i,i<8->f (m2+i)=((dg 8 a.size i:Nat):Int)):=f3;have Hl2:Hid (∀i,i<8->f (m2+8+i)=((dg 8 c.size i:Nat):Int)):=f4;have N1:Hid (a.size<=m1/\m1<a.size+16/\m1%16=0/\m1<=1000000):=⟨by omega,by omega,by omega,by omega⟩;have N2:Hid (m1+c.size<=m2/\m2<m1+c.size+16/\m2%16=0/\m2<=900000):=⟨by omega,by omega,by omega,by omega⟩;clear HT pY kU gQ hf f1 f2 f3 f4 hu1 hu2 hv1 hv2 hm1 hm2 hk hn;go_enter func141,ntmps141;go_wp2_with fail;refine(c0 w).mono ?_;rintro e w0 ⟨rfl,hb0⟩;clear c0;obtain⟨cap0,w1,aK,nJ,hb1⟩:=e4e w0 a;have jD:=nJ.congr Ha1.out;have hl1:Below w.heap.size w w1:=hb0.trans (hb1.mono hb0.size);have iV:w.heap.size<=w0.heap.size:=hb0.size;have hs1:w0.heap.size<=w1.heap.size:=hb1.size;clear nJ hb1 hb0;generalize w0.heap.size=B at aK jD iV hs1;go_wp2_with fail;refine(b3j f B a.size m1 _ w1 N1.out.1 N1.out.2.1 N1.out.2.2.1 N1.out.2.2.2 Ha2.out jD hs1).mono ?_;rintro e w2 ⟨v2,rfl,cG,hb2⟩;have hl2:Below w.heap.size w w2:=hl1.trans (hb2.mono iV);have hs2:B<=w2.heap.size:=by have:=hb2.size;omega
 clear jD hl1 hb2 aK Ha1 Ha2;go_wp2_with fail;go_loopw[11,12] (λv i wr=>∃k:Nat,k<=c.size/\i=.int .i64 k/\RowG wr B v (m1+k) f/\Below w.heap.size w wr/\B<=wr.heap.size) (λ_ i _=>c.size-(intOf i).toNat)
 case atStart=>exact⟨0,by omega,rfl,cG,hl2,hs2⟩
 case round=>
  clear cG hl2 hs2;obtain⟨k,hk,rfl,x9,hl,hs⟩:=hrel;by_cases p9:k<c.size
  ·have hI:(k:Int)<((c.size:Nat):Int):=(by omega);have fT:=λw=>a8w c k p9 w;obtain⟨v',w',r6,cG,hb2⟩:=b3d ((bn c k:Nat):Int) wr B _ (m1+k) f x9 (by rw[Hc1.out k p9,a7u]) (by have:=N1.out.2.2.2;omega) hs;have hl':Below w.heap.size w w':=hl.trans (hb2.mono iV);have hs':B<=w'.heap.size:=(by have:=hb2.size;omega);generalize bn c k=x at fT r6;obtain⟨g,cap,rfl,hg1,hg2,hg3,hg4,hg5⟩:=x9;clear hg1 hg2 hg3 hg4 hg5 hl hb2;go_wp2_with(at_builtin;refine a3g rfl _ _ 22 22 rfl _ _ rfl rfl _ _ r6 ?_);refine⟨⟨k+1,by omega,by go_num,cG,hl',hs'⟩,?_⟩;simp[intOf];omega
  ·have kV:k=c.size:=(by omega);subst kV;clear p9 hk;have hI:¬(((c.size:Nat):Int)<((c.size:Nat):Int)):=(by omega);go_wp2_with fail;refine(b3j f B (m1+c.size) m2 _ wr N2.out.1 N2.out.2.1 N2.out.2.2.1 (by have:=N2.out.2.2.2;omega) Hc2.out x9 hs).mono ?_;rintro e w3 ⟨v3,rfl,cQ,hb3⟩;have hl3:Below w.heap.size w w3:=hl.trans (hb3.mono iV);have hs3:B<=w3.heap.size:=(by have:=hb3.size;omega);clear x9 hl hb3 hs Hc1 Hc2;go_wp2_with fail;refine(b3h f B m2 a.size _ w3 (by have:=N2.out.2.2.2;omega) (by omega) Hl1.out cQ hs3).mono ?_;rintro e w4 ⟨v4,rfl,nI,hb4⟩;have hl4:Below w.heap.size w w4:=hl3.trans (hb4.mono iV);have hs4:B<=w4.heap.size:=(by have:=hb4.size;omega);clear cQ hl3 hb4 hs3;go_wp2_with fail;refine(b3h f B (m2+8) c.size _ w4 (by have:=N2.out.2.2.2;have:=N1.out.2.2.2;omega) (by omega) Hl2.out nI hs4).mono ?_;rintro e w5 ⟨v5,rfl,nG,hb5⟩;have hl5:Below w.heap.size w w5:=hl4.trans (hb5.mono iV);clear nI hl4 hb5 hs4;have HC:Hid (∀z:World,RowG z B v5 (m2+8+8) f->(convert 22 9 v5).run prog z=.ok (.string M) z):=λz h=>by
    have:=d1q h;rw[HMt.out]at this;exact this
   have hS0:(λz:World=>RowG z B v5 (m2+8+8) f) w5.drew:=nG;have lP:Below w.heap.size w w5.drew:=hl5.drew;clear nG hl5;go_wp2_with fail;refine wp_region_noPanic ?_;refine wp_region_held_drew (S:=λz:World=>RowG z B v5 (m2+8+8) f) (by kernel_rfl) hS0 (λp8=>?_);refine tkH 0 ?_;go_simp;refine tkH 1 ?_;go_simp;refine tkH 2 ?_;go_simp;refine wpAnyH_take (i:=3) (v:=?_) rfl (by kernel_rfl) (by kernel_rfl) (by kernel_rfl) (λ_ _ _ h=>h) (Or.inl ⟨by rfl,?_⟩) (by assumption) ?_;rotate_left
   ·intro z aO;have hcz:=HC.out z aO;go_simp;try with_reducible rfl
   go_simp;refine rdH 4 λK hK=>?_;go_simp;go_at_call 192;refine(c4 _).mono ?_;rintro e w6 ⟨rfl,hb6⟩;have hS6:RowG w6 B v5 (m2+8+8) f:=RowG.below hS0 hb6;have hl6:Below w.heap.size w w6:=lP.trans (hb6.mono lP.size);refine hK.out _ _ hS6 (λp8=>?_);clear hK K;refine tkH 5 ?_;go_simp;refine tkH 6 ?_;go_simp;refine tkH 7 ?_;go_simp;refine tkH 8 ?_;go_simp;refine tkH 9 ?_;go_simp;refine wpAnyH_done (by kernel_rfl) ?_ _;refine NoPanic.normal ?_;go_wp2_with fail;go_ret;exact⟨rfl,hl6⟩
theorem b6p (key nonce a s:BA)(hk:key.size=32)(hn:nonce.size=12)(h:s.size<16)(w:World):
 Calls prog 95 #[.string key,.string nonce,.string a,.string s] w λe w'=>e=.returned (.tuple #[.string ⟨#[]⟩,.int .i64 3])/\Below w.heap.size w w':=by
 have h1:(((key.size:Nat):Int) !=32)=false:=by simp;omega
 have h2:(((nonce.size:Nat):Int) !=12)=false:=by simp;omega
 have h3:((s.size:Nat):Int)<16:=by omega
 clear hk hn;go_enter func95,ntmps95;go_wp2_with fail;go_ret2;exact⟨rfl,qw _ _⟩
theorem c2p (key nonce a s:BA)(n:Nat)(hk:key.size=32)(hn:nonce.size=12)(hs:s.size=n+16)(ha:a.size<=3000)(h:n<=3000)(w:World):
 Calls prog 95 #[.string key,.string nonce,.string a,.string s] w λe w'=>e=.returned (if s.extract n s.size=atg key nonce a (s.extract 0 n)then .tuple #[.string (crB key nonce (s.extract 0 n)),.int .i64 0]else .tuple #[.string ⟨#[]⟩,.int .i64 23])/\Below w.heap.size w w':=by
 have h5:(((key.size:Nat):Int) !=32)=false:=by simp;omega
 have h6:(((nonce.size:Nat):Int) !=12)=false:=by simp;omega
 obtain⟨B,hB⟩:∃B,s.extract 0 n=B:=⟨_,rfl⟩;obtain⟨D,hD⟩:∃D,s.extract n s.size=D:=⟨_,rfl⟩;have iV:B.size=n:=by rw[<-hB,ByteArray.size_extract];omega
 have c3:=λw=>c1e key nonce a B hk hn (by omega) (by omega) w;have c5:=λw=>c2s key nonce B 1 hk hn ⟨by decide,by decide⟩ (by omega) w;rw[show cryB (ks key nonce 1) B=crB key nonce B from rfl]at c5;rw[hB,hD];generalize crB key nonce B=C at c5⊢;generalize atg key nonce a B=T at c3⊢;obtain⟨R,hR⟩:∃R,(if D=T then(.tuple #[.string C,.int .i64 0]:Value)else .tuple #[.string ⟨#[]⟩,.int .i64 23])=R:=⟨_,rfl⟩;rw[hR];have HR:Hid ((if D=T then(.tuple #[.string C,.int .i64 0]:Value)else .tuple #[.string ⟨#[]⟩,.int .i64 23])=R):=hR;clear hR;have hq:=toList_eq T D;have hsI:((s.size:Nat):Int)=(n:Int)+16:=by omega
 have h1:¬((n:Int)+16<16):=by omega
 have h2:((n:Int)<=(n:Int)+16):=by omega
 have h0:(0:Int)<=(n:Int):=by omega
 have hn2:n<=s.size:=by omega
 have hn3:¬((16384:Int)<(n:Int)):=by omega
 have ha3:¬((16384:Int)<((a.size:Nat):Int)):=by omega
 clear hk hn iV hs;go_enter func95,ntmps95;go_wp2_with fail;refine(c3 w).mono ?_;rintro e w4 ⟨rfl,hl4⟩;clear c3;by_cases iO:D=T
 ·rw[decide_eq_true iO.symm]at hq;have HR2:Hid (R=.tuple #[.string C,.int .i64 0]):=HR.out.symm.trans (qp iO);clear iO HR;go_wp2_with fail;refine(c5 w4).mono ?_;rintro e w6 ⟨rfl,hb6⟩;have hl6:=hl4.trans (hb6.mono hl4.size);go_wp2_with fail;go_ret2;exact⟨by rw[HR2.out];rfl,hl6⟩
 ·rw[decide_eq_false (λe=>iO e.symm)]at hq;have HR2:Hid (R=.tuple #[.string ⟨#[]⟩,.int .i64 23]):=HR.out.symm.trans (qn iO);clear iO HR;go_wp2_with fail;go_ret2;exact⟨by rw[HR2.out];rfl,hl4⟩
end Go.Proofs.YtokknmkleceooaaGreatDoor
