import Derived.Test.YtokknmkleceooaaGreatDoorStLyM
namespace Go.Proofs.YtokknmkleceooaaGreatDoor
set_option linter.unusedVariables false
set_option maxRecDepth 20000
set_option maxHeartbeats 8000000
open Go.Proofs.Tryz
open Go.RowKit Go.PlainAid
theorem LyS.okn {N d slot:Nat}{b b':Bs}{C P:Nat->BA}(h:LyS N N d slot b b' C P):Okn N b:=λj hj=>by
 obtain⟨l,h1,_⟩:=h.done j hj;exact⟨h1.n,λa=>by rw[h1.ll];exact h1.sz a,λw hw=>by rw[h1.q]at hw;cases hw⟩
theorem Okn.fa {N:Nat}{b:Bs}(h:Okn N b)(i:Nat):Okn N (faB b i):=λj hj=>by
 show(updD b.D i _ j).n=140/\_;by_cases e:j=i
 ·subst e;show((faB b j).D j).n=140/\(∀a,(((faB b j).D j).l a).size<=2048)/\∀w∈((faB b j).D j).q,w.2.size<=2048;have e1:(faB b j).D j=⟨(b.D j).g,(b.D j).n,λ_=>noB,[],true⟩:=a0r _ _ _;rw[e1];exact⟨(h j hj).1,λa=>by show noB.size<=_;decide,λw hw=>by cases hw⟩
 ·have e1:(faB b i).D j=b.D j:=a1g _ _ _ _ e;show((faB b i).D j).n=140/\(∀a,(((faB b i).D j).l a).size<=2048)/\∀w∈((faB b i).D j).q,w.2.size<=2048;rw[e1];exact h j hj
theorem d9o {b b2:Bs}{i:Nat}(hp:b2.p=b.p)(hD:b2.D i=b.D i)(d:Nat)(key top:BA)(t:Int):gtE b2 i d key top t=gtE b i d key top t/\gtT b2 i d key top t=gtT b i d key top t:=by
 unfold gtE gtT;rw[hp,hD];exact⟨rfl,rfl⟩
theorem a9l {w:World}{b n:Nat}{v:Value}{F:Nat->BA}(h:w.ownsRow b 9 1 v n (strs n F))(hn:1<=n):∃g c,v=.slice (some ⟨g,0,none⟩) n c/\n<=c/\c<=9223372036854775807/\Vals w (some ⟨g,0,none⟩) n λi=>.string (F i):=by
 rcases h.2 with⟨h0,h1⟩|⟨g,cap,cur,e,_,_,h2,h3,_⟩
 ·omega
 ·subst e;unfold maxLen at h3;refine⟨g,cap,rfl,h2,by omega,.inr ⟨g,0,rfl,λi hi=>?_⟩⟩;rw[Nat.zero_add,h.cellAt i (by omega)];exact a0s n F i hi
theorem d6x {b b':Bs}{F P:Nat->BA}(h:LyS 4 4 2 1 b b' (ceC 1 (mkC 2 F)) P){E:Nat->Int}{T:Nat->BA}(hE:feE (faB b 0) 2 P (λj=>if j=3 then false else true) 1=E)(hT:feT (faB b 0) 2 P (λj=>if j=3 then false else true) 1=T):
 (E 0=20/\E 1=0/\E 2=0/\E 3=11)/\T 1=mkC 2 F 1/\T 2=mkC 2 F 2:=by
 subst hE hT;have h1:∀i,1<=i->i<=2->feE (faB b 0) 2 P (λj=>if j=3 then false else true) 1 i=0/\feT (faB b 0) 2 P (λj=>if j=3 then false else true) 1 i=mkC 2 F i:=λi i1 i2=>by
  obtain⟨l,h2,h3⟩:=h.done i (by omega);have h4:=d9o (b:=b) (b2:=faB b 0) (i:=i) rfl (a1g _ _ _ _ (by omega)) 2 kB19 (P i) 1;have h5:=e8v (F:=mkC 2 F) h2 (by decide) (by decide:1<2^2) h3;unfold feE feT;have hu:(λj=>if j=3 then false else true) i=true:=qn (by omega);rw[qp hu,qp hu,h4.1,h4.2];exact h5
 refine⟨⟨?_,(h1 1 (by decide) (by decide)).1,(h1 2 (by decide) (by decide)).1,rfl⟩,(h1 1 (by decide) (by decide)).2,(h1 2 (by decide) (by decide)).2⟩;have h6:=d9w (b:=faB b 0) (i:=0) (d:=2) (key:=kB19) (top:=P 0) (s:=1) (by decide) (by show b.p≠_;rw[h.p];exact λh=>by cases h) (by
  have e:(faB b 0).D 0=⟨(b.D 0).g,(b.D 0).n,λ_=>noB,[],true⟩:=by show updD b.D 0 _ 0=_;exact a0r _ _ _
  rw[e])
 exact h6
theorem c1s {w:World}(ht:Tabs w):Calls prog 12 #[] w λe w'=>e=.returned (.bool true)/\Below w.heap.size w w':=by
 have HT:Hid (∀z,Below w.heap.size w z->Tabs z):=λz hz=>ht.below hz ht.lt;have h1:Below w.heap.size w (w.alloc (.cells #[.int .u8 5,.int .u8 7] 5)):=(qw _ _).alloc (ql _) _;have gB:BytA (w.alloc (.cells #[.int .u8 5,.int .u8 7] 5)) (some ⟨w.heap.size,0,none⟩) 2 (λi=>if i=0 then 5 else 7):=by
  refine⟨λi=>by dsimp only;split<;>omega,.inr ⟨w.heap.size,0,rfl,λi hi=>?_⟩⟩;have hb:=Blk.new w 5 #[.int .u8 5,.int .u8 7];rcases(by omega:i=0\/i=1)with rfl|rfl
  ·exact hb.cell (i:=0) rfl
  ·exact hb.cell (i:=1) rfl
 have cL:=b5v 0 (by decide) _ 2 2 _ _ (by decide) gB;rw[show bkN 0=2 from rfl]at cL;have kP:Hid (Calls _ _ _ _ _):=cL;have HB1:Hid (Below w.heap.size w (w.alloc (.cells #[.int .u8 5,.int .u8 7] 5))):=h1;have HF:Hid (∀i,(bkF 2 (λi=>if i=0 then 5 else 7) i).size=32):=λi=>c6w _ _ i;clear ht h1 gB cL;generalize bkF 2 (λi=>if i=0 then 5 else 7)=F at*;go_enter func12,ntmps12;go_wp2_with(go_at_call 8;refine kP.out.mono ?_;rintro e w2 ⟨v,rfl,hr2,hb2⟩;have HR2:Hid (World.ownsRow w2 _ 9 1 v 2 (strs 2 F)):=hr2;have HB2:Hid (Below w.heap.size w w2):=HB1.out.trans (hb2.mono HB1.out.size);clear hr2 hb2 kP HB1;obtain⟨ga,ca,rfl,k1,k2,kv⟩:=a9l HR2.out (by decide));have jO:=d3x (HT.out _ HB2.out) (some ⟨ga,0,none⟩) 2 4 ca F rfl ⟨by decide,by decide⟩ ⟨k1,k2⟩ kv (λi _=>HF.out i) (d:=2) (n:=4) (slot:=1) rfl ⟨by decide,by decide⟩ (by decide);have lE:Hid (Calls _ _ _ _ _):=jO;clear k1 k2 kv jO;go_upto_region 4 with(go_at_call 13;refine lE.out.mono ?_;rintro e w3 ⟨g,gr,b,b',vl,vm,vc,P,rfl,h3,h4⟩;have HL:Hid (Ly w2.heap.size w2 w3 g gr 4 b b' vl vm vc 4 (shS g 4 P) (mkC 2 F) a0i):=h3;have HS:Hid (LyS 4 4 2 1 b b' (ceC 1 (mkC 2 F)) P):=h4;clear h3 h4 lE;obtain⟨hl,cl,rfl⟩:=b2d HL.out.l (by decide);obtain⟨hc,cc,rfl⟩:=b2d HL.out.c (by decide))
 have HW3:Hid (Lw w2.heap.size w2 w3 g gr 4 b b' (.slice (some ⟨hl,0,none⟩) 4 cl) vm (.slice (some ⟨hc,0,none⟩) 4 cc) (shX g 4 P λ_=>true) (λi=>(shS g 4 P i).at gr) (mkC 2 F) a0i):=HL.out.lw;clear HL HR2;have c0:w3.cell? ⟨hl,0,none⟩=some (.pointer (some ⟨g,0,none⟩)):=(HW3.out.cell (i:=0) (j:=0) (by decide) rfl).1;have sZ:=HW3.out.disk (i:=0) (by decide);have sV:=HW3.out.fail a0c (i:=0) (by decide);have lF:Hid (Calls _ _ _ _ _):=sV;clear sV;go_upto_region 5 with(first
  |(go_at_call 24;refine sZ.mono ?_;rintro e wa ⟨rfl,aP⟩;rw[aP];clear aP wa)
  |(go_at_call 25;refine lF.out.mono ?_;rintro e w4 ⟨rfl,h4⟩;have HW4:Hid (Lw w2.heap.size w2 w4 g gr 4 (faB b 0) b' (.slice (some ⟨hl,0,none⟩) 4 cl) vm (.slice (some ⟨hc,0,none⟩) 4 cc) (shX g 4 P λ_=>true) (λi=>(shS g 4 P i).at gr) (mkC 2 F) a0i):=h4;clear h4 lF HW3 sZ c0))
 obtain⟨c23,f23⟩:=HW4.out.cell (i:=3) (j:=5) (by decide) rfl;replace c23:w4.cell? ⟨hl,23,none⟩=some (.bool true):=c23;replace f23:w4.frozen? ⟨hl,23,none⟩=false:=f23;have HW5:Hid (Lw w2.heap.size w2 (w4.setCell ⟨hl,23,none⟩ (.bool false)) g gr 4 (faB b 0) b' (.slice (some ⟨hl,0,none⟩) 4 cl) vm (.slice (some ⟨hc,0,none⟩) 4 cc) (shX g 4 P λj=>if j=3 then false else true) (λi=>(shS g 4 P i).at gr) (mkC 2 F) a0i):=HW4.out.unuse a0c (i:=3) (by decide);clear HW4;go_upto_region 6 with fail
 clear c23 f23;generalize w4.setCell ⟨hl,23,none⟩ (.bool false)=w5 at*;have aG:=HS.out.okn.fa 0;obtain⟨E,hE⟩:∃E,feE (faB b 0) 2 P (λj=>if j=3 then false else true) 1=E:=⟨_,rfl⟩;obtain⟨T,mP⟩:∃T,feT (faB b 0) 2 P (λj=>if j=3 then false else true) 1=T:=⟨_,rfl⟩;have hfc:=d6x HS.out hE mP;have HFC:Hid ((E 0=20/\E 1=0/\E 2=0/\E 3=11)/\T 1=mkC 2 F 1/\T 2=mkC 2 F 2):=hfc;have uP:Hid (cnt (λi=>decide (E i=0)) 4=2):=by
  show _=_;obtain⟨⟨a0,a1,a2,a3⟩,_⟩:=hfc;simp[cnt,a0,a1,a2,a3]
 have HBK:Hid (∀er G,LdR 4 T E er G->er=0/\G=λi=>mkC 2 F i):=λer G h=>e5l ⟨by decide,by decide⟩ (λi hi=>by
  obtain⟨⟨a0,a1,a2,a3⟩,_⟩:=HFC.out;rcases(by omega:i=0\/i=1\/i=2\/i=3)with rfl|rfl|rfl|rfl<;>omega) (by rw[uP.out];decide) (λi hi h0=>by
  obtain⟨⟨a0,a1,a2,a3⟩,a4,a5⟩:=HFC.out;rcases(by omega:i=0\/i=1\/i=2\/i=3)with rfl|rfl|rfl|rfl
  ·omega
  ·exact a4
  ·exact a5
  ·omega) h
 have lP:=HW5.out.load aG (by decide) (d:=2) rfl ⟨by decide,by decide⟩ (HT.out _ (HB2.out.trans (HW5.out.low.mono HB2.out.size))) 1;rw[hE,mP]at lP;have fL:Hid (Calls _ _ _ _ _):=lP;clear lP hfc;go_upto_region 7 with(go_at_call 17;refine fL.out.mono ?_;rintro e w6 ⟨hb6,v1,v2,er,G,rfl,hD,-,hv⟩;obtain⟨rfl,rfl⟩:=HBK.out _ _ hD;obtain⟨hv1,hv2⟩:=hv rfl;have HV1:Hid (World.ownsRow w6 _ 9 1 v1 4 (strs 4 λi=>mkC 2 F i)):=hv1;have HV2:Hid (World.ownsRow w6 _ 3 1 v2 _ _):=hv2;have HB6:Hid (Below w5.heap.size w5 w6):=hb6;clear hb6 hD hv hv1 hv2 fL)
 have HW6:Hid (Lw w2.heap.size w2 w6 g gr 4 (faB b 0) b' (.slice (some ⟨hl,0,none⟩) 4 cl) vm (.slice (some ⟨hc,0,none⟩) 4 cc) (shX g 4 P λj=>if j=3 then false else true) (λi=>(shS g 4 P i).at gr) (mkC 2 F) a0i):=HW5.out.below a0c HB6.out;have rT:=HW6.out.one aG (by decide) (d:=2) rfl ⟨by decide,by decide⟩ (HT.out _ (HB2.out.trans (HW6.out.low.mono HB2.out.size))) 1 0;rw[hE,mP]at rT;have uH:Hid (Calls _ _ _ _ _):=rT;have HO1:Hid (∀s er,OnR 4 T E 0 s er->er=0/\s=mkC 2 F 0):=λs er h=>by
  rcases h with⟨a1,_⟩|⟨k,a1,_,_,a2⟩
  ·exact absurd ⟨⟨by decide,by decide⟩,by decide,by decide⟩ a1
  ·obtain rfl:k=0:=(by omega);rcases a2 with⟨a3,_⟩|⟨_,G',a4,rfl⟩
   ·have:=HFC.out.1.1;omega
   ·obtain⟨rfl,rfl⟩:=HBK.out _ _ a4;exact⟨rfl,qp rfl⟩
 have dY:Hid (Okn 4 (faB b 0)):=aG;have uM:Hid (feE (faB b 0) 2 P (λj=>if j=3 then false else true) 1=E/\feT (faB b 0) 2 P (λj=>if j=3 then false else true) 1=T):=⟨hE,mP⟩;clear rT HW5 aG hE mP;go_upto_region 8 with(go_at_call 19;refine uH.out.mono ?_;rintro e w7 ⟨hb7,s,er,rfl,hD⟩;obtain⟨rfl,rfl⟩:=HO1.out _ _ hD;have HB7:Hid (Below w6.heap.size w6 w7):=hb7;clear hb7 hD uH)
 have HW7:Hid (Lw w2.heap.size w2 w7.drew g gr 4 (faB b 0) b' (.slice (some ⟨hl,0,none⟩) 4 cl) vm (.slice (some ⟨hc,0,none⟩) 4 cc) (shX g 4 P λj=>if j=3 then false else true) (λi=>(shS g 4 P i).at gr) (mkC 2 F) a0i):=(HW6.out.below a0c HB7.out).below a0c (qw _ _).drew;have HV1':Hid (World.ownsRow w7.drew _ 9 1 v1 4 (strs 4 λi=>mkC 2 F i)):=a0g (a0g HV1.out HB7.out) (qw _ _).drew;obtain⟨a1,d1,rfl,-,-,mY⟩:=a9l HV1'.out (by decide);have c1:w7.drew.cell? ⟨a1,0,none⟩=some (.string (mkC 2 F 0)):=by
  rcases mY with h|⟨b1,o1,e1,h⟩
  ·cases h
  ·cases e1;exact h 0 (by decide)
 have c2:w7.drew.cell? ⟨hc,0,none⟩=some (.string (mkC 2 F 0)):=HW7.out.chunk (i:=0) (by decide);obtain⟨a2,d2,rfl⟩:∃a2 d2,v2=.slice a2 2 d2:=by
  have hm:=b7c (λi=>decide (E i=0)) 4;rw[uP.out]at hm;obtain⟨a2,d2,rfl⟩:=a2a HV2.out;exact⟨a2,d2,by rw[show(misL (λi=>decide (E i=0)) 4).length=2 by omega]⟩
 have iQ:=HW7.out.whole dY.out (by decide) (d:=2) rfl ⟨by decide,by decide⟩ (HT.out _ (HB2.out.trans (HW7.out.low.mono HB2.out.size))) 1;rw[uM.out.1,uM.out.2,show whB 4 T E=false from b8o λh'=>by have:=h'.2 0 (by decide);have:=HFC.out.1.1;omega]at iQ;have iW:Hid (Calls _ _ _ _ _):=iQ;have HC12:Hid (w7.drew.cell? ⟨a1,0,none⟩=some (.string (mkC 2 F 0))/\w7.drew.cell? ⟨hc,0,none⟩=some (.string (mkC 2 F 0))):=⟨c1,c2⟩;clear c1 c2 mY iQ HV1 HV2 HV1' HW6;generalize mkC 2 F 0=ck at*;refine wp_region_noPanic ?_;refine wp_region_held_drew (S:=λz:World=>z.cell? ⟨a1,0,none⟩=some (.string ck)/\z.cell? ⟨hc,0,none⟩=some (.string ck)) (by kernel_rfl) HC12.out (λp8=>?_);refine tkH 0 ?_;go_simp;refine tkH 1 ?_;go_simp;refine tkH 2 ?_;go_simp;refine tkH 3 ?_;go_simp;refine tkH 4 ?_;go_simp;refine tkH 5 ?_;go_simp;refine tkH 6 ?_;go_simp;refine tkH 7 ?_;go_simp;refine tkH 8 ?_;go_simp;refine tkH 9 ?_;go_simp;refine tkH 10 ?_;go_simp;refine tkH 11 ?_;go_simp;refine tkH 12 ?_;go_simp;refine tkH 13 ?_;go_simp;refine tkH 14 ?_;go_simp;refine tkH 15 ?_;go_simp;refine tkH 16 ?_;go_simp;refine tkH 17 ?_;go_simp;refine tkH 18 ?_;go_simp;refine tkH 19 ?_;go_simp;refine tkH 20 ?_;go_simp;refine tkH 21 ?_;go_simp;refine tkH 22 ?_;go_simp;refine tkH 23 ?_;go_simp;refine tkH 24 ?_;go_simp;refine tkH 25 ?_;go_simp;refine tkH 26 ?_;go_simp;refine tkH 27 ?_;go_simp;refine tkH 28 ?_;go_simp;refine tkH 29 ?_;go_simp;refine tkH 30 ?_;go_simp;refine tkH 31 ?_;go_simp;refine tkH 32 ?_;go_simp;refine tkH 33 ?_;go_simp;refine rdH 34 λK hK=>?_;go_simp;go_at_call 21;refine iW.out.mono ?_;rintro x w8 ⟨hb8,rfl⟩;have HB8:Hid (Below w7.drew.heap.size w7.drew w8):=hb8;clear hb8 iW;refine hK.out _ _ ⟨(HB8.out.cell (p:=⟨a1,0,none⟩) (a0p HC12.out.1)).trans HC12.out.1,(HB8.out.cell (p:=⟨hc,0,none⟩) (a0p HC12.out.2)).trans HC12.out.2⟩ (λp8=>?_);clear hK K;refine tkH 35 ?_;go_simp;refine tkH 36 ?_;go_simp;refine tkH 37 ?_;go_simp;refine wpAnyH_done (by kernel_rfl) ?_ _;refine NoPanic.normal ?_;go_wp2_with fail;go_ret;exact⟨rfl,HB2.out.trans ((HW7.out.low.trans (HB8.out.mono HW7.out.low.size)).mono HB2.out.size)⟩
end Go.Proofs.YtokknmkleceooaaGreatDoor
