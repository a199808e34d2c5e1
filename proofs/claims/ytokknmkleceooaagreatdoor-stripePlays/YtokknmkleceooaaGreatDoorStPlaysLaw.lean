import Derived.Test.YtokknmkleceooaaGreatDoorStRM
import Derived.Test.YtokknmkleceooaaGreatDoorStArg3
namespace Go.Proofs.YtokknmkleceooaaGreatDoor
set_option linter.unusedVariables false
set_option maxRecDepth 20000
set_option maxHeartbeats 8000000
open Go.Proofs.Tryz
open Go.RowKit Go.PlainAid
theorem b2x (x0 x1 x2 x3:Int)(a2:Option Addr)(len2 cap2:Nat)(xc:Bool)(W:World)(hx0:-9223372036854775808<=x0/\x0<=9223372036854775807)(hx1:-9223372036854775808<=x1/\x1<=9223372036854775807)(hx2:-9223372036854775808<=x2/\x2<=9223372036854775807)(hx3:-9223372036854775808<=x3/\x3<=9223372036854775807)(hs:Has W a2 len2 cap2)(ht:Tabs W)(hrt:RTabs W):
 Calls prog 4 #[.agg #[.int .i64 x0,.int .i64 x1,.int .i64 x2,.int .i64 x3],.slice a2 len2 cap2,.bool xc] W λe w'=>e=.returned (.bool true)/\Below W.heap.size W w':=by
 have hl1:=hs.1;have hl2:=hs.2.1;unfold maxLen at hl2;have HA:Hid (Has W a2 len2 cap2):=hs;have cE:Below W.heap.size W (W.alloc (.cells #[.int .i64 x0,.int .i64 x1,.int .i64 x2,.int .i64 x3] 34)):=(qw _ _).alloc (ql _) _;have hB:=Blk.new W 34 #[.int .i64 x0,.int .i64 x1,.int .i64 x2,.int .i64 x3];have HX:Hid (∀z,Below (W.alloc (.cells #[.int .i64 x0,.int .i64 x1,.int .i64 x2,.int .i64 x3] 34)).heap.size (W.alloc (.cells #[.int .i64 x0,.int .i64 x1,.int .i64 x2,.int .i64 x3] 34)) z->z.cell? ⟨W.heap.size,0,none⟩=some (.int .i64 x0)/\z.cell? ⟨W.heap.size,1,none⟩=some (.int .i64 x1)/\z.cell? ⟨W.heap.size,2,none⟩=some (.int .i64 x2)/\z.cell? ⟨W.heap.size,3,none⟩=some (.int .i64 x3)):=λz hz=>by
  have hC:=hB.below hz hB.lt;exact⟨hC.cell (i:=0) rfl,hC.cell (i:=1) rfl,hC.cell (i:=2) rfl,hC.cell (i:=3) rfl⟩
 have HBA:Hid (Below W.heap.size W (W.alloc (.cells #[.int .i64 x0,.int .i64 x1,.int .i64 x2,.int .i64 x3] 34))):=cE;have HT:Hid (∀z,Below W.heap.size W z->Tabs z):=λz hz=>ht.below hz ht.lt;obtain⟨y,hy⟩:∃y:Nat,x1.toNat=y:=⟨_,rfl⟩;have m1:(if 0<x1 then x1 else 0)=(y:Int):=by split<;>omega
 have m2:max 0 x1=(y:Int):=by omega
 obtain⟨e,he⟩:∃e:Nat,y%4=e:=⟨_,rfl⟩;have m3:(y:Int).tmod 4=(e:Int):=by rw[Int.tmod_eq_emod_of_nonneg (by omega)];omega
 have he4:(e:Int)<4:=by omega
 have he0:0<=(e:Int):=by omega
 have he4':e<4:=by omega
 obtain⟨n,hn⟩:∃n:Nat,2^(e+1)=n:=⟨_,rfl⟩;have m6:wrap64 (2*2^e)=(n:Int):=by rw[<-hn];rcases(by omega:e=0\/e=1\/e=2\/e=3)with h|h|h|h<;>rw[h]<;>kernel_rfl
 have hn2:2<=n/\n<=16:=by rw[<-hn];rcases(by omega:e=0\/e=1\/e=2\/e=3)with h|h|h|h<;>rw[h]<;>decide
 have hd:1<=e+1/\e+1<=4:=by omega
 have m7:¬(n:Int)=0:=by omega
 obtain⟨yy,hyy⟩:∃y:Nat,x2.toNat=y:=⟨_,rfl⟩;have m8:(if 0<x2 then x2 else 0)=(yy:Int):=by split<;>omega
 have m9:max 0 x2=(yy:Int):=by omega
 obtain⟨sl,gK⟩:∃sl:Nat,yy%n=sl:=⟨_,rfl⟩;have hsn:sl<n:=by rw[<-gK];exact Nat.mod_lt _ (by omega)
 have m10:(yy:Int).tmod (n:Int)=(sl:Int):=by rw[Int.tmod_eq_emod_of_nonneg (by omega),<-gK];exact(Int.natCast_emod yy n).symm
 have HRT:Hid (∀z,Below W.heap.size W z->RTabs z):=λz hz=>hrt.below hz hrt.lt;obtain⟨q0,hq0⟩:∃q:Nat,(x0%256).toNat=q:=⟨_,rfl⟩;have hq0256:q0<256:=by omega
 have m10a:IntKind.u8.wrap x0=(q0:Int):=by rw[IntKind.wrap_u8'];omega
 obtain⟨q,hq⟩:∃q:Nat,(x3%256).toNat=q:=⟨_,rfl⟩;have hq256:q<256:=by omega
 have m11:IntKind.u8.wrap x3=(q:Int):=by rw[IntKind.wrap_u8'];omega
 obtain⟨y3,hy3⟩:∃y:Nat,x3.toNat=y:=⟨_,rfl⟩;have n1:(if 0<x3 then x3 else 0)=(y3:Int):=by split<;>omega
 have n2:max 0 x3=(y3:Int):=by omega
 obtain⟨r3,hr3⟩:∃r:Nat,y3%4=r:=⟨_,rfl⟩;have hr34:r3<4:=by omega
 have n3:(y3:Int).tmod 4=(r3:Int):=by rw[Int.tmod_eq_emod_of_nonneg (by omega)];omega
 obtain⟨m,hm⟩:∃m,bkN x0=m:=⟨_,rfl⟩;have hm2:2<=m/\m<=8:=by rw[<-hm];unfold bkN;omega
 obtain⟨N,hN⟩:∃N,m+2=N:=⟨_,rfl⟩;have hN4:4<=N/\N<=10:=by omega
 have HF:Hid (∀i,(bkF 2 (λi=>if i=0 then q0 else q) i).size=32):=λi=>c6w _ _ i;have kP:Hid (∀z:World,Calls prog 8 #[.int .i64 x0,.slice (some ⟨z.heap.size,0,none⟩) 2 2] (z.alloc (.cells #[.int .u8 (q0:Int),.int .u8 (q:Int)] 5)) _):=λz=>b5v x0 hx0.2 (some ⟨z.heap.size,0,none⟩) 2 2 (λi=>if i=0 then q0 else q) (z.alloc (.cells #[.int .u8 (q0:Int),.int .u8 (q:Int)] 5)) (by decide) ⟨λi=>by show(if i=0 then q0 else q)<256;split<;>assumption,.inr ⟨_,0,rfl,λi hi=>by
  rcases(by omega:i=0\/i=1)with rfl|rfl
  ·exact(Blk.new z 5 #[.int .u8 (q0:Int),.int .u8 (q:Int)]).cell (i:=0) rfl
  ·exact(Blk.new z 5 #[.int .u8 (q0:Int),.int .u8 (q:Int)]).cell (i:=1) rfl⟩⟩
 rw[hm]at kP;generalize bkF 2 (λi=>if i=0 then q0 else q)=F at*;obtain⟨C,hC1,hC2,hC3⟩:∃C:Nat,(if(10:Int)<(len2:Int)then(10:Int)else(len2:Int))=(C:Int)/\C<=10/\C<=len2:=⟨min len2 10,by split<;>omega,by omega,by omega⟩;have hC4:C<=cap2:=by omega
 have hC5:min (len2:Int) 10=(C:Int):=by omega
 have hC6:(C:Int)<=(len2:Int):=by omega
 have hC7:(C:Int)<=(cap2:Int):=by omega
 clear cE hB hs ht hrt hy he hyy gK hq hq0 hm hy3 hr3;go_enter func4,ntmps4;go_upto_region 1 with fail
 generalize W.alloc (.cells #[.int .i64 x0,.int .i64 x1,.int .i64 x2,.int .i64 x3] 34)=Wa at*;obtain⟨k0,k1,k2,k3⟩:=HX.out _ (qw _ _);go_upto_region 3 with fail
 have HWa:Hid (Below Wa.heap.size Wa (Wa.alloc (.cells #[.int .u8 (q0:Int),.int .u8 (q:Int)] 5))):=(qw _ _).alloc (ql _) _;go_upto_region 4 with(first
  |(go_at_call 8;refine(kP.out _).mono ?_;rintro e w2 ⟨v,rfl,hr2,hb2⟩;have HR2:Hid (World.ownsRow w2 _ 9 1 v m (strs m F)):=hr2;have HB2:Hid (Below Wa.heap.size Wa w2):=HWa.out.trans (hb2.mono HWa.out.size);clear hr2 hb2 kP HWa k0 k1 k2 k3;obtain⟨ga,ca,rfl,k1,k2,kv⟩:=a9l HR2.out (by omega);have HB0:Hid (Below W.heap.size W w2):=HBA.out.trans (HB2.out.mono HBA.out.size);have jO:=d3x (HT.out _ HB0.out) (some ⟨ga,0,none⟩) m N ca F hN hm2 ⟨k1,k2⟩ kv (λi _=>HF.out i) (n:=n) (slot:=sl) hn hd hsn;have lE:Hid (Calls _ _ _ _ _):=jO;clear k1 k2 kv jO)
  |(go_at_call 13;refine lE.out.mono ?_;rintro e w3 ⟨g,gr,b,b',vl,vm,vc,P,rfl,h3,h4⟩;have HL:Hid (Ly w2.heap.size w2 w3 g gr N b b' vl vm vc N (shS g n P) (mkC m F) a0i):=h3;have HS:Hid (Hd N b b'):=h4.hd;clear h3 h4 lE))
 obtain⟨hl,cl,rfl⟩:=b2d HL.out.l (by omega);obtain⟨hm,cm,rfl⟩:=b2d HL.out.m (by omega);have aL:=d8n HL.out.l;have HL3:Hid (Lh w2.heap.size w2 w3 g gr N n hl cl hm cm b b' vc P (λ_=>true) (mkC m F) a0i):=HL.out.lw;have HX2:Hid (∀z,Below w2.heap.size w2 z->z.cell? ⟨W.heap.size,2,none⟩=some (.int .i64 x2)/\z.cell? ⟨W.heap.size,3,none⟩=some (.int .i64 x3)):=λz hz=>by
  obtain⟨_,_,a2,a3⟩:=HX.out z (HB2.out.trans (hz.mono HB2.out.size));exact⟨a2,a3⟩
 clear HL HX HB2 HR2;generalize mkC m F=Ck at*;go_upto_region 6 with(go_at_call 12;refine(c1s (HT.out _ (HB0.out.trans ((Lw.low HL3.out).mono HB0.out.size)))).mono ?_;rintro e w4 ⟨rfl,hb4⟩;have HL4:Hid (Lh w2.heap.size w2 w4 g gr N n hl cl hm cm b b' vc P (λ_=>true) Ck a0i):=Lw.below a0c HL3.out hb4;clear hb4 HL3)
 go_wp2_with fail;go_loopw[71] (λj wr=>∃(k:Nat) (bq bq':Bs) (P':Nat->BA) (u':Nat->Bool),k<=C/\j=.int .i64 (k:Int)/\Hid (Lh w2.heap.size w2 wr g gr N n hl cl hm cm bq bq' vc P' u' Ck a0i)/\Hid (Hd N bq bq')) (λj _=>C-(intOf j).toNat)
 case atStart=>exact⟨0,b,b',P,λ_=>true,Nat.zero_le _,rfl,HL4.out,HS.out⟩
 case round=>
  clear HL4 HS;obtain⟨k,bq,bq',P',u',hk,rfl,HL,HS⟩:=hrel;by_cases p9:k<C
  ·have hk':(k:Int)<(C:Int):=(by omega);obtain⟨sb,so,A,hsa,hA,x9⟩:=e8p HA.out (HB0.out.trans ((Lw.low HL.out).mono HB0.out.size)) k (by omega);subst hsa;obtain⟨ad,ak,aa,ac⟩:=A;obtain⟨ha1,ha2,ha3,ha4⟩:=hA;unfold maxLen at ha4;have uF:Hid (wr.rangeAt sb (so+k*4) [.int .i64 ad,.int .i64 ak,.int .i64 aa,.string ac]):=x9;have lG:Hid (Blk (wr.alloc (.cells #[.int .i64 ad,.int .i64 ak,.int .i64 aa,.string ac] 41)) wr.heap.size 41 [.int .i64 ad,.int .i64 ak,.int .i64 aa,.string ac]):=Blk.box wr 41 [.int .i64 ad,.int .i64 ak,.int .i64 aa,.string ac];have HL5:Hid (Lh w2.heap.size w2 (wr.alloc (.cells #[.int .i64 ad,.int .i64 ak,.int .i64 aa,.string ac] 41)) g gr N n hl cl hm cm bq bq' vc P' u' Ck a0i):=Lw.below a0c HL.out ((qw _ _).alloc (ql _) _);have hhm:=d9l a0c HL5.out HS.out (by omega) ad ak aa ac ha1 ha2 ha3 (by omega);have HHM:Hid (Calls _ _ _ _ _):=hhm;have gH:Hid ((prog.info? 41).map (·.size)=some 4):=size41;have hz:=d6u;clear x9 ha1 ha2 ha3 ha4 hhm HL;go_upto_region 9 with(first
    |(refine wpList_load_mid rfl 41 _ rfl sb (so+k*4) rfl [.int .i64 ad,.int .i64 ak,.int .i64 aa,.string ac] _ uF.out underlying41 rfl gH.out ?_))
   generalize hwb:wr.alloc (.cells #[.int .i64 ad,.int .i64 ak,.int .i64 aa,.string ac] 41)=wb at*;generalize hga:wr.heap.size=gh at*;clear hwb hga hz uF;go_wp2_with(first
    |(refine a0a rfl 41 _ rfl gh rfl 41 [.int .i64 ad,.int .i64 ak,.int .i64 aa,.string ac] _ lG.out underlying41 rfl gH.out ?_)
    |(go_at_call 14;refine HHM.out.mono ?_;rintro x w5 ⟨rfl,br,br',Pr,ur,h5,h6,-⟩;have H5:Hid (Lh w2.heap.size w2 w5 g gr N n hl cl hm cm br br' vc Pr ur Ck a0i):=h5;have H6:Hid (Hd N br br'):=h6;clear h5 h6 HL5 lG HHM))
   go_roundw
   case rel=>exact⟨k+1,br,br',Pr,ur,by omega,by go_num,H5.out,H6.out⟩
   case measure=>simp[intOf];omega
  ·obtain rfl:k=C:=(by omega);have hk':¬(k:Int)<(k:Int):=(by omega);have qE:Hid (∀z,Below w2.heap.size w2 z->Tabs z/\RTabs z):=λz hz=>⟨HT.out z (HB0.out.trans (hz.mono HB0.out.size)),HRT.out z (HB0.out.trans (hz.mono HB0.out.size))⟩;subst hn;have hN0:(0:Int)<(N:Int):=(by omega);go_upto_if 80 with fail
   go_cut[12]from 93 (λx wc=>x=.bool true/\∃br br',Lh w2.heap.size w2 wc g gr N (2^(e+1)) hl cl hm cm br br' vc P' u' Ck a0i/\Hp N br br')
   case first=>
    cases xc with
    |false=>
     go_wp2_with fail
     go_meet
     exact⟨rfl,_,_,HL.out,HS.out.hp⟩
    |true=>
     have c0:wr.cell? ⟨hl,0,none⟩=some (.pointer (some ⟨g,0,none⟩)):=(Lw.cell HL.out (i:=0) (j:=0) (by omega) rfl).1;have iE:=Lw.cut a0c HL.out;have mT:Hid (Calls _ _ _ _ _):=iE;clear iE;go_upto_region 13 with(go_at_call 15;refine mT.out.mono ?_;rintro x w5 ⟨rfl,h5⟩;have HL5:Hid (Lh w2.heap.size w2 w5 g gr N (2^(e+1)) hl cl hm cm (cuB bq) bq' vc P' u' Ck a0i):=h5;clear h5 mT HL c0)
     have c0:w5.cell? ⟨hm,0,none⟩=some (.pointer (some ⟨gr,0,none⟩)):=(Lw.mcell HL5.out (i:=0) (j:=0) (by omega) rfl).1;have iE:=Lw.rcut a0c HL5.out;have mT:Hid (Calls _ _ _ _ _):=iE;clear iE;go_wp2_with(go_at_call 16;refine mT.out.mono ?_;rintro x w6 ⟨rfl,h6⟩;have HL6:Hid (Lh w2.heap.size w2 w6 g gr N (2^(e+1)) hl cl hm cm (cuB bq) (cuB bq') vc P' u' Ck a0i):=h6;clear h6 mT HL5 c0)
     go_meet
     exact⟨rfl,_,_,HL6.out,HS.out.cut⟩
   case rest=>
   obtain⟨rfl,br,br',h5,h6⟩:=hcut;have HL5:Hid (Lh w2.heap.size w2 wc g gr N (2^(e+1)) hl cl hm cm br br' vc P' u' Ck a0i):=h5;have HP:Hid (Hp N br br'):=h6;have hx2':=(HX2.out wc (Lw.low h5)).1;have HL7:Hid (Lh w2.heap.size w2 (wc.alloc (.cells #[.int .i64 (sl:Int),.int .i64 x2] 3)) g gr N (2^(e+1)) hl cl hm cm br br' vc P' u' Ck (star (blkA wc.heap.size 3 (plL sl x2)) a0i)):=Lw.box a0c HL5.out _ _;clear h5 h6 HL5 HL HS;go_wp2_with fail;generalize wc.alloc (.cells #[.int .i64 (sl:Int),.int .i64 x2] 3)=wd at*;generalize wc.heap.size=gs at*;have eG:Hid (Firm (star (blkA gs 3 (plL sl x2)) a0i)):=(a0e _ _ _).star a0c;go_loopw[98] (λj wz=>∃q:Nat,q<=2/\j=.int .i64 (q:Int)/\Hid (Lh w2.heap.size w2 wz g gr N (2^(e+1)) hl cl hm cm br br' vc P' u' Ck (star (blkA gs 3 (plL sl x2)) a0i))) (λj _=>2-(intOf j).toNat)
   case atStart=>exact⟨0,Nat.zero_le _,rfl,HL7.out⟩
   case round=>
    clear HL7;obtain⟨q,hq,rfl,HI⟩:=hrel;by_cases hq2:q<2
    ·have hq2':(q:Int)<2:=(by omega);obtain⟨t,ht⟩:∃t,plT sl x2 q=t:=⟨_,rfl⟩;have c0:wr.cell? ⟨gs,q,none⟩=some (.int .i64 t):=(by rw[<-ht];exact(Lw.boxed HI.out).cell (e7s sl x2 hq2));clear ht;obtain⟨E,hE⟩:∃E,feE br (e+1) P' u' t=E:=⟨_,rfl⟩;obtain⟨T,hT⟩:∃T,feT br (e+1) P' u' t=T:=⟨_,rfl⟩;have fL:Hid (∀z,Lh w2.heap.size w2 z g gr N (2^(e+1)) hl cl hm cm br br' vc P' u' Ck (star (blkA gs 3 (plL sl x2)) a0i)->Calls prog 17 #[.slice (some ⟨hl,0,none⟩) N cl,.int .i64 t] z _):=λz h=>by
      have:=Lw.load h HP.out.okn (by omega) rfl hd (qE.out _ (Lw.low h)).1 t;rw[hE,hT]at this;exact this
     have HRL:Hid (∀z,Lh w2.heap.size w2 z g gr N (2^(e+1)) hl cl hm cm br br' vc P' u' Ck (star (blkA gs 3 (plL sl x2)) a0i)->Calls prog 18 #[.slice (some ⟨hm,0,none⟩) N cm,.int .i64 t] z _):=λz h=>by
      have:=Lw.rload h HP.out (by omega) rfl hd (qE.out _ (Lw.low h)).2 t;rw[hE,hT]at this;exact this
     have uH:Hid (∀z,Lh w2.heap.size w2 z g gr N (2^(e+1)) hl cl hm cm br br' vc P' u' Ck (star (blkA gs 3 (plL sl x2)) a0i)->Calls prog 19 #[.slice (some ⟨hl,0,none⟩) N cl,.int .i64 t,.int .i64 x3] z _):=λz h=>by
      have:=Lw.one h HP.out.okn (by omega) rfl hd (qE.out _ (Lw.low h)).1 t x3;rw[hE,hT]at this;exact this
     have HRO:Hid (∀z,Lh w2.heap.size w2 z g gr N (2^(e+1)) hl cl hm cm br br' vc P' u' Ck (star (blkA gs 3 (plL sl x2)) a0i)->Calls prog 20 #[.slice (some ⟨hm,0,none⟩) N cm,.int .i64 t,.int .i64 x3] z _):=λz h=>by
      have:=Lw.rone h HP.out (by omega) rfl hd (qE.out _ (Lw.low h)).2 t x3;rw[hE,hT]at this;exact this
     have iW:Hid (∀z,Lh w2.heap.size w2 z g gr N (2^(e+1)) hl cl hm cm br br' vc P' u' Ck (star (blkA gs 3 (plL sl x2)) a0i)->Calls prog 21 #[.slice (some ⟨hl,0,none⟩) N cl,.int .i64 t] z _):=λz h=>by
      have:=Lw.whole h HP.out.okn (by omega) rfl hd (qE.out _ (Lw.low h)).1 t;rw[hE,hT]at this;exact this
     have oI:Hid (∀z,Lh w2.heap.size w2 z g gr N (2^(e+1)) hl cl hm cm br br' vc P' u' Ck (star (blkA gs 3 (plL sl x2)) a0i)->Calls prog 22 #[.slice (some ⟨hm,0,none⟩) N cm,.int .i64 t] z _):=λz h=>by
      have:=Lw.rwhole h HP.out (by omega) rfl hd (qE.out _ (Lw.low h)).2 t;rw[hE,hT]at this;exact this
     clear hE hT;go_upto_region 18 with(go_at_call 17;refine(fL.out _ HI.out).mono ?_;rintro x w5 ⟨hb5,v1,v2,er,G,rfl,hD,hz,hv⟩;have HD1:Hid (LdR N T E er G):=hD;have HZ1:Hid (er≠0->v1=.slice none 0 0/\v2=.slice none 0 0):=hz;have HV1:Hid (er=0->World.ownsRow w5 _ 9 1 v1 N (strs N G)/\World.ownsRow w5 _ 3 1 v2 _ _):=hv;have H5:Hid (Lh w2.heap.size w2 w5 g gr N (2^(e+1)) hl cl hm cm br br' vc P' u' Ck (star (blkA gs 3 (plL sl x2)) a0i)):=Lw.below eG.out HI.out hb5;clear hb5 hD hz hv fL HI c0)
     go_upto_region 19 with(go_at_call 18;refine(HRL.out _ H5.out).mono ?_;rintro x w6 ⟨hb6,v3,v4,er',G',rfl,hD,hz,hv⟩;have HB6:Hid (Below w5.heap.size w5 w6):=hb6;obtain⟨rfl,hG⟩:=HD1.out.one hD;have HGG:Hid (er=0->G=G'):=hG;have HZ2:Hid (er≠0->v3=.slice none 0 0/\v4=.slice none 0 0):=hz;have HV2:Hid (er=0->World.ownsRow w6 _ 9 1 v3 N (strs N G')/\World.ownsRow w6 _ 3 1 v4 _ _):=hv;have H6:Hid (Lh w2.heap.size w2 w6 g gr N (2^(e+1)) hl cl hm cm br br' vc P' u' Ck (star (blkA gs 3 (plL sl x2)) a0i)):=Lw.below eG.out H5.out hb6;clear hb6 hD hz hv HRL H5 hG)
     have c3:=(HX2.out w6 (Lw.low H6.out)).2;go_upto_region 20 with(go_at_call 19;refine(uH.out _ H6.out).mono ?_;rintro x w7 ⟨hb7,s,f,rfl,hO⟩;have HO1:Hid (OnR N T E x3 s f):=hO;have HB7:Hid (Below w6.heap.size w6 w7):=hb7;have H7:Hid (Lh w2.heap.size w2 w7 g gr N (2^(e+1)) hl cl hm cm br br' vc P' u' Ck (star (blkA gs 3 (plL sl x2)) a0i)):=Lw.below eG.out H6.out hb7;clear hb7 hO uH H6 c3)
     have c3:=(HX2.out w7 (Lw.low H7.out)).2;go_upto_region 21 with(go_at_call 20;refine(HRO.out _ H7.out).mono ?_;rintro x w8 ⟨hb8,s',f',rfl,hO⟩;obtain⟨rfl,rfl⟩:=HO1.out.one hO;have HB8:Hid (Below w6.heap.size w6 w8):=HB7.out.trans (hb8.mono HB7.out.size);have H8:Hid (Lh w2.heap.size w2 w8 g gr N (2^(e+1)) hl cl hm cm br br' vc P' u' Ck (star (blkA gs 3 (plL sl x2)) a0i)):=Lw.below eG.out H7.out hb8;clear hb8 hO HRO H7 c3)
     obtain⟨n9,hn9⟩:∃n9,n9=if er=0 then N else 0:=⟨_,rfl⟩;obtain⟨m9,hm9⟩:∃m9,m9=if er=0 then(misL (λi=>decide (E i=0)) N).length else 0:=⟨_,rfl⟩;have hn9':n9<=1000:=(by rw[hn9];split<;>omega);have hm9':m9<=10:=(by have:=c3p (λi=>decide (E i=0)) N;rw[hm9];split<;>omega);obtain⟨a1,c1,a2,c2,rfl,rfl,hv1,hv2⟩:=d3v HZ1.out HV1.out (HB6.out.trans (HB8.out.mono HB6.out.size)) hn9 hm9;obtain⟨a3,c3,a4,c4,rfl,rfl,hv3,hv4⟩:=d3v HZ2.out HV2.out HB8.out hn9 hm9;have hv3':Vals w8 a3 n9 λi=>.string (G i):=by
      by_cases h0:er=0
      ·rw[HGG.out h0];exact hv3
      ·exact .inl (by rw[hn9,qn h0])
     have uM:Hid (Calls _ _ _ _ _):=c4i a1 a3 n9 c1 c3 G w8 hn9' hv1 hv3';have HV2':=hv2.at;have HV4':=hv4.at;clear hv1 hv2 hv3 hv4 hv3' hn9 hm9 HZ1 HZ2 HV1 HV2 HGG HD1 HO1 HB6 HB7 HB8;have e1:(er !=er)=false:=(by simp);have e2:(f !=f)=false:=(by simp);have e4:((m9:Int) !=(m9:Int))=false:=(by simp);generalize whB N T E=wb at*;have e5:(wb !=wb)=false:=(by simp);go_wp2_with(first
      |(go_at_call 11;refine uM.out.mono ?_;rintro x w9 ⟨rfl,hb9⟩;have HB9:Hid (Below w8.heap.size w8 w9):=hb9;have H9:Hid (Lh w2.heap.size w2 w9 g gr N (2^(e+1)) hl cl hm cm br br' vc P' u' Ck (star (blkA gs 3 (plL sl x2)) a0i)):=Lw.below eG.out H8.out hb9;clear hb9 uM)
      |(go_at_call 21;refine(iW.out _ H9.out).mono ?_;rintro x w10 ⟨hb10,rfl⟩;have HB10:Hid (Below w8.heap.size w8 w10):=HB9.out.trans (hb10.mono HB9.out.size);have H10:Hid (Lh w2.heap.size w2 w10 g gr N (2^(e+1)) hl cl hm cm br br' vc P' u' Ck (star (blkA gs 3 (plL sl x2)) a0i)):=Lw.below eG.out H9.out hb10;clear hb10 iW)
      |(go_at_call 22;refine(oI.out _ H10.out).mono ?_;rintro x w11 ⟨hb11,rfl⟩;have HB11:Hid (Below w8.heap.size w8 w11):=HB10.out.trans (hb11.mono HB10.out.size);have H11:Hid (Lh w2.heap.size w2 w11 g gr N (2^(e+1)) hl cl hm cm br br' vc P' u' Ck (star (blkA gs 3 (plL sl x2)) a0i)):=Lw.below eG.out H10.out hb11;clear hb11 oI))
     go_loopw[169] (λj wy=>∃i:Nat,i<=m9/\j=.int .i64 (i:Int)/\Hid (Below w11.heap.size w11 wy)) (λj _=>m9-(intOf j).toNat)
     case atStart=>exact⟨0,Nat.zero_le _,rfl,qw _ _⟩
     case round=>
      obtain⟨i,hi,rfl,HBJ⟩:=hrel;have HB12:Hid (Below w8.heap.size w8 wr):=HB11.out.trans (HBJ.out.mono HB11.out.size);by_cases him:i<m9
      ·have him':(i:Int)<(m9:Int):=(by omega);obtain⟨b3,o3,rfl,c5⟩:=HV2'.out wr HB12.out i him;obtain⟨b4,o4,rfl,c6⟩:=HV4'.out wr HB12.out i him;have e7:((((misL (λi=>decide (E i=0)) N).getD i 0:Nat):Int) !=(((misL (λi=>decide (E i=0)) N).getD i 0:Nat):Int))=false:=(by simp);generalize(misL (λi=>decide (E i=0)) N).getD i 0=vi at*;go_upto_region 26 with fail
       go_region
       all_goals(go_wp2_with fail;go_roundw)
       case rel=>exact⟨i+1,by omega,by go_num,HBJ.out.trans ((qw _ _).drew.mono HBJ.out.size)⟩
       case measure=>simp[intOf];omega
      ·obtain rfl:i=m9:=(by omega);have him':¬(i:Int)<(i:Int):=(by omega);go_wp2_with fail;go_roundw
       case rel=>exact⟨q+1,by omega,by go_num,Lw.below eG.out H11.out HBJ.out⟩
       case measure=>simp[intOf];omega
    ·obtain rfl:q=2:=(by omega);have c3:=(HX2.out wr (Lw.low HI.out)).2;have n4:(if(r3:Int)<(N:Int)then(r3:Int)else(N:Int))=(r3:Int):=(by split<;>omega);have n5:min (N:Int) (r3:Int)=(r3:Int):=(by omega);have n6:(r3:Int)<=(N:Int):=(by omega);have n7:(r3:Int)<=(cl:Int):=(by omega);have n8:r3<=cl:=(by omega);have hfw:=Lw.few HI.out HP.out.okn (by omega) rfl hd (qE.out _ (Lw.low HI.out)).1 (sl:Int) hr34 (by omega);have HFW:Hid (Calls _ _ _ _ _):=hfw;clear hfw;go_wp2_with(go_at_call 17;refine HFW.out.mono ?_;rintro x w5 ⟨hb5,v1,v2,rfl⟩;have HB5:Hid (Below w2.heap.size w2 w5):=(Lw.low HI.out).trans (hb5.mono (Lw.low HI.out).size);clear hb5);go_ret;exact⟨rfl,HB0.out.trans (HB5.out.mono HB0.out.size)⟩
end Go.Proofs.YtokknmkleceooaaGreatDoor
