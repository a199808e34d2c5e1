import Derived.Test.YtokknmkleceooaaGreatDoorSlGtM
namespace Go.Proofs.YtokknmkleceooaaGreatDoor
set_option linter.unusedVariables false
set_option maxRecDepth 20000
set_option maxHeartbeats 8000000
open Go.Proofs.Tryz
open Go.RowKit Go.PlainAid
theorem e6f (w:World)(top:BA):ChgIs w (.map none) (sl0 top).ch:=.inl ⟨rfl,λ_=>rfl⟩
theorem d7s {w:World}{g N:Nat}{D:Nat->Dk}{sn:Nat}{p:Option Nat}(hB:Bk w g N D sn p)(ht:Tabs w){i:Nat}(hi:i<N)(hi2:i<=1000)(fG:140<=(D i).n)(aA:∀a,(rdS p (D i) a).size<=2048){d n:Nat}(hn:2^d=n)(hd:1<=d/\d<=4){key:BA}(jR:key.size=32)(top:BA){s:Nat}(hs:s<n)
 (hf:b4o w (slV (.pointer (some ⟨g,0,none⟩)) (i:Int) (n:Int) key) (s:Int) 0):
 Calls prog 23 #[slV (.pointer (some ⟨g,0,none⟩)) (i:Int) (n:Int) key,.string top,.int .i64 (s:Int)] w λe w'=>e=.returned (.tuple #[.string (slGT (rdS p (D i)) (eR p (D i)) d s top (opT key (plc i s))),.int .i64 (slGE (rdS p (D i)) (eR p (D i)) d s top (opE key (plc i s)))])/\Below w.heap.size w w':=by
 have h16:n<=16:=by rw[<-hn];exact a1f d hd.2
 have hb:Hid (Below w.heap.size w (w.alloc (.cells #[.pointer (some ⟨g,0,none⟩),.int .i64 (i:Int),.int .i64 (n:Int),.string key] 45))):=(qw _ _).alloc (ql _) _;have dX:Hid (Blk _ _ _ _):=Blk.box w 45 [.pointer (some ⟨g,0,none⟩),.int .i64 (i:Int),.int .i64 (n:Int),.string key];have hc:Hid (Calls _ _ _ _ _):=hf _ hb.out;have hz:Hid ((prog.info? 45).map (·.size)=some 4):=size45;have hz3:Hid ((prog.info? 119).map (·.size)=some 3):=sizeWay17;have hzw:=c1j;have fF:Hid (∀z,Below w.heap.size w z->Calls prog 54 #[slV (.pointer (some ⟨g,0,none⟩)) (i:Int) (n:Int) key,.string top,.int .i64 (s:Int),.map none] z λe w'=>(∃a1 n1 c1 a2 n2 c2 lf,e=.returned (.tuple #[.agg #[.slice a1 n1 c1,.slice a2 n2 c2,.string lf],.int .i64 (ovE (rdS p (D i)) (eR p (D i)) (sl0 top) d s)])/\
  (ovE (rdS p (D i)) (eR p (D i)) (sl0 top) d s=0->fol d s (slk (rdS p (D i)) (sl0 top) d s) top d=some lf))/\Below z.heap.size z w'):=λz hz=>(b8x (hB.below hz) (ht.below hz ht.lt) hi fG hn hd key (sl0 top) (e6f z top) hs).mono λe w' ⟨⟨a1,n1,c1,a2,n2,c2,lf,h1,h2⟩,h3⟩=>⟨⟨a1,n1,c1,a2,n2,c2,lf,h1,λh=>(h2 h).2.2.1⟩,h3⟩
 have mG:Hid (∀z,Calls prog 56 #[.int .i64 (s:Int)] z λe w'=>e=.returned (.int .i64 ((120+s:Nat):Int))/\w'=z):=λz=>b1c s (by omega) z;have lM:Hid (∀z,Below w.heap.size w z->Calls prog 55 #[.pointer (some ⟨g,0,none⟩),.int .i64 (i:Int),.int .i64 ((120+s:Nat):Int)] z λe w'=>e=.returned (.tuple #[.string (rdS p (D i) (120+s)),.int .i64 (eR p (D i))])/\w'=z):=λz hz=>c6u (hB.below hz) hi (by omega);have hlf:Hid (∀z,Below w.heap.size w z->Calls prog 57 #[.string (rdS p (D i) (120+s))] z λe w'=>e=.returned (.string (lH (rdS p (D i) (120+s))))/\Below z.heap.size z w'):=λz hz=>b7i _ (Nat.le_trans (aA _) (by decide)) z (ht.below hz ht.lt);have jK:Hid (∀z,Calls prog 58 #[slV (.pointer (some ⟨g,0,none⟩)) (i:Int) (n:Int) key,.int .i64 (s:Int),.string (rdS p (D i) (120+s))] z λe w'=>e=.returned (.tuple #[.string (opT key (plc i s) (rdS p (D i) (120+s))),.int .i64 (opE key (plc i s) (rdS p (D i) (120+s)))])/\Below z.heap.size z w'):=λz=>d1c _ _ hi2 (by omega) jR (aA _);have G1:Hid (ovE (rdS p (D i)) (eR p (D i)) (sl0 top) d s≠0->slGE (rdS p (D i)) (eR p (D i)) d s top (opE key (plc i s))=ovE (rdS p (D i)) (eR p (D i)) (sl0 top) d s/\slGT (rdS p (D i)) (eR p (D i)) d s top (opT key (plc i s))=noB):=λh=>d1g hd.1 h;have G2:Hid (ovE (rdS p (D i)) (eR p (D i)) (sl0 top) d s=0->eR p (D i)=0):=λh=>c5j hd.1 h;have G3:Hid (∀lf,eR p (D i)=0->fol d s (slk (rdS p (D i)) (sl0 top) d s) top d=some lf->lH (rdS p (D i) (120+s))≠lf->slGE (rdS p (D i)) (eR p (D i)) d s top (opE key (plc i s))=22/\slGT (rdS p (D i)) (eR p (D i)) d s top (opT key (plc i s))=noB):=λlf e h1 h2=>by rw[e];exact d1f h1 h2
 have G4:Hid (∀lf,eR p (D i)=0->fol d s (slk (rdS p (D i)) (sl0 top) d s) top d=some lf->lH (rdS p (D i) (120+s))=lf->slGE (rdS p (D i)) (eR p (D i)) d s top (opE key (plc i s))=opE key (plc i s) (rdS p (D i) (120+s))/\slGT (rdS p (D i)) (eR p (D i)) d s top (opT key (plc i s))=opT key (plc i s) (rdS p (D i) (120+s))):=λlf e h1 h2=>by rw[e];exact e2a (h2▸h1)
 generalize slGE (rdS p (D i)) (eR p (D i)) d s top (opE key (plc i s))=GE at*;generalize slGT (rdS p (D i)) (eR p (D i)) d s top (opT key (plc i s))=GT at*;generalize ovE (rdS p (D i)) (eR p (D i)) (sl0 top) d s=OV at*;generalize fol d s (slk (rdS p (D i)) (sl0 top) d s) top d=FO at*;generalize lH (rdS p (D i) (120+s))=LH at*;generalize opT key (plc i s) (rdS p (D i) (120+s))=OT at*;generalize opE key (plc i s) (rdS p (D i) (120+s))=OE at*;generalize rdS p (D i) (120+s)=cl at*;generalize eR p (D i)=E at*;generalize((120+s:Nat):Int)=A at*;generalize jF:Value.pointer (some ⟨g,0,none⟩)=pv at*;clear jF aA hB ht hi fG hn hd hs hf jR hi2 h16;have tokA:True:=trivial;go_enter func23,ntmps23;generalize hw0:w.alloc (.cells #[pv,.int .i64 (i:Int),.int .i64 (n:Int),.string key] 45)=w0 at*;have aY:Hid (w.heap.size<w0.heap.size):=dX.out.lt;by_cases gR:OV=0
 ·have hE:=G2.out gR;have g3:Hid (∀lf,FO=some lf->LH≠lf->GE=22/\GT=noB):=λlf=>G3.out lf hE;have g4:Hid (∀lf,FO=some lf->LH=lf->GE=OE/\GT=OT):=λlf=>G4.out lf hE;clear G1 G2 G3 G4;subst gR;subst hE;go_wp2_with(first
   |(have _t:=tokA;refine a0a rfl 45 _ rfl w.heap.size rfl 45 [pv,.int .i64 (i:Int),.int .i64 (n:Int),.string key] _ dX.out underlying45 rfl hz.out ?_;clear tokA)
   |(go_at_call 53;refine hc.out.mono ?_;rintro e w1 ⟨rfl,hw⟩;have LL:Hid (Below w0.heap.size w0 w1):=hw;have hB1:Hid (Blk w1 w.heap.size 45 [pv,.int .i64 (i:Int),.int .i64 (n:Int),.string key]):=dX.out.below hw aY.out;clear hw)
   |(refine a0a rfl 45 _ rfl w.heap.size rfl 45 [pv,.int .i64 (i:Int),.int .i64 (n:Int),.string key] _ hB1.out underlying45 rfl hz.out ?_)
   |(go_at_call 54;refine(fF.out _ (hb.out.trans (LL.out.mono hb.out.size))).mono ?_;rintro e w2 ⟨⟨a1,n1,c1,a2,n2,c2,lf,rfl,lO⟩,hw⟩;have sQ:FO=some lf:=(by simpa using lO);have kO:Hid (FO=some lf):=sQ;clear sQ;have L2:Hid (Below w0.heap.size w0 w2):=LL.out.trans (hw.mono LL.out.size);clear hw lO)
   |(refine a0b rfl 119 _ _ rfl w2.heap.size [.slice none 0 0,.slice none 0 0,.string noB] [.slice a1 n1 c1,.slice a2 n2 c2,.string lf] rfl rfl 119 (Blk.box _ _ _) hz3.out rfl (a7y _ _ _ _ _ _ _) ?_;rw[a2d]))
  have hgl2:Hid (w0.heap.size<=w2.heap.size):=L2.out.size;have L3:Hid (Below w0.heap.size w0 (w2.alloc (.cells [.slice a1 n1 c1,.slice a2 n2 c2,.string lf].toArray 119))):=L2.out.alloc L2.out.size _;have fA:Hid (Blk (w2.alloc (.cells [.slice a1 n1 c1,.slice a2 n2 c2,.string lf].toArray 119)) w2.heap.size 119 [.slice a1 n1 c1,.slice a2 n2 c2,.string lf]):=Blk.box _ _ _;generalize hw3:w2.alloc (.cells [.slice a1 n1 c1,.slice a2 n2 c2,.string lf].toArray 119)=w3 at*;generalize cV:w2.heap.size=gw at*;have hS:Hid (∀z,Below w3.heap.size w3 z->(z.cell? ⟨w.heap.size,0,none⟩=some pv/\z.cell? ⟨w.heap.size,1,none⟩=some (.int .i64 (i:Int))/\z.cell? ⟨gw,2,none⟩=some (.string lf))/\Blk z w.heap.size 45 [pv,.int .i64 (i:Int),.int .i64 (n:Int),.string key]/\Below w.heap.size w z):=λz hz=>by
   have hq:Below w0.heap.size w0 z:=L3.out.trans (hz.mono L3.out.size);have h1:=dX.out.below hq aY.out;have h2:=fA.out.below hz fA.out.lt;exact⟨⟨h1.cell (i:=0) rfl,h1.cell (i:=1) rfl,h2.cell (i:=2) rfl⟩,h1,hb.out.trans (hq.mono hb.out.size)⟩
  have M0:Hid (Below w3.heap.size w3 w3.drew):=(qw _ _).drew;clear hw3 cV fA L3 L2 LL hB1 fF hc;refine wp_region_noPanic ?_;refine wp_region_held_drew (S:=λz:World=>z.cell? ⟨w.heap.size,0,none⟩=some pv/\z.cell? ⟨w.heap.size,1,none⟩=some (.int .i64 (i:Int))/\z.cell? ⟨gw,2,none⟩=some (.string lf)) (by kernel_rfl) (hS.out _ M0.out).1 (λp8=>?_);refine tkH 0 ?_;go_simp;refine tkH 1 ?_;go_simp;refine tkH 2 ?_;go_simp;refine tkH 3 ?_;go_simp;refine tkH 4 ?_;go_simp;refine rdH 5 λK hK=>?_;go_simp;go_at_call 56;refine(mG.out _).mono ?_;rintro x wa ⟨rfl,hw⟩;rw[hw];clear hw wa;refine hK.out _ _ (hS.out _ M0.out).1 (λp8=>?_);clear hK K;refine rdH 6 λK hK=>?_;go_simp;go_at_call 55;refine(lM.out _ (hS.out _ M0.out).2.2).mono ?_;rintro x wa ⟨rfl,hw⟩;rw[hw];clear hw wa;refine hK.out _ _ (hS.out _ M0.out).1 (λp8=>?_);clear hK K;refine tkH 7 ?_;go_simp;refine tkH 8 ?_;go_simp;refine tkH 9 ?_;go_simp;refine tkH 10 ?_;go_simp;refine tkH 11 ?_;go_simp;refine wpAnyH_done (by kernel_rfl) ?_ _;refine NoPanic.normal ?_;go_wp2;have M1:Hid (Below w3.heap.size w3 w3.drew.drew):=M0.out.drew;refine wp_region_noPanic ?_;refine wp_region_held_drew (S:=λz:World=>z.cell? ⟨w.heap.size,0,none⟩=some pv/\z.cell? ⟨w.heap.size,1,none⟩=some (.int .i64 (i:Int))/\z.cell? ⟨gw,2,none⟩=some (.string lf)) (by kernel_rfl) (hS.out _ M1.out).1 (λp8=>?_);refine tkH 0 ?_;go_simp;refine tkH 2 ?_;go_simp;refine tkH 3 ?_;go_simp;refine rdH 1 λK hK=>?_;go_simp;go_at_call 57;refine(hlf.out _ (hS.out _ M1.out).2.2).mono ?_;rintro x wa ⟨rfl,cE⟩;have M2:Hid (Below w3.heap.size w3 wa):=M1.out.trans (cE.mono M1.out.size);clear cE;refine hK.out _ _ (hS.out _ M2.out).1 (λp8=>?_);clear hK K;refine tkH 4 ?_;go_simp;refine wpAnyH_done (by kernel_rfl) ?_ _;refine NoPanic.normal ?_;by_cases hL:LH=lf
  ·have HG:Hid (GE=OE/\GT=OT):=g4.out lf kO.out hL;have sY:(LH.toList==lf.toList)=true:=(by rw[teq];exact decide_eq_true hL);have HL:Hid (LH=lf):=hL;clear hL;rw[sY];have dW:Hid (Blk wa w.heap.size 45 [pv,.int .i64 (i:Int),.int .i64 (n:Int),.string key]):=(hS.out _ M2.out).2.1;go_wp2_with(first
    |(refine a0a rfl 45 _ rfl w.heap.size rfl 45 [pv,.int .i64 (i:Int),.int .i64 (n:Int),.string key] _ dW.out underlying45 rfl hz.out ?_)
    |(go_at_call 58;refine(jK.out _).mono ?_;rintro e wb ⟨rfl,dJ⟩;have M3:Hid (Below w3.heap.size w3 wb):=M2.out.trans (dJ.mono M2.out.size);clear dJ))
   go_ret2;exact⟨by rw[HG.out.1,HG.out.2];rfl,(hS.out _ M3.out).2.2⟩
  ·have HG:Hid (GE=22/\GT=noB):=g3.out lf kO.out hL;have sY:(LH.toList==lf.toList)=false:=(by rw[teq];exact decide_eq_false hL);rw[sY];go_wp2;go_ret2;exact⟨by rw[HG.out.1,HG.out.2];rfl,(hS.out _ M2.out).2.2⟩
 ·have HG:Hid (GE=OV/\GT=noB):=G1.out gR;have hE':(OV !=0)=true:=by simpa using gR
  go_wp2_with(first
   |(have _t:=tokA;refine a0a rfl 45 _ rfl w.heap.size rfl 45 [pv,.int .i64 (i:Int),.int .i64 (n:Int),.string key] _ dX.out underlying45 rfl hz.out ?_;clear tokA)
   |(go_at_call 53;refine hc.out.mono ?_;rintro e w1 ⟨rfl,hw⟩;have LL:Hid (Below w0.heap.size w0 w1):=hw;have hB1:Hid (Blk w1 w.heap.size 45 [pv,.int .i64 (i:Int),.int .i64 (n:Int),.string key]):=dX.out.below hw aY.out;clear hw)
   |(refine a0a rfl 45 _ rfl w.heap.size rfl 45 [pv,.int .i64 (i:Int),.int .i64 (n:Int),.string key] _ hB1.out underlying45 rfl hz.out ?_)
   |(go_at_call 54;refine(fF.out _ (hb.out.trans (LL.out.mono hb.out.size))).mono ?_;rintro e w2 ⟨⟨a1,n1,c1,a2,n2,c2,lf,rfl,lO⟩,hw⟩;have L2:Hid (Below w0.heap.size w0 w2):=LL.out.trans (hw.mono LL.out.size);clear hw lO)
   |(refine a0b rfl 119 _ _ rfl w2.heap.size [.slice none 0 0,.slice none 0 0,.string noB] [.slice a1 n1 c1,.slice a2 n2 c2,.string lf] rfl rfl 119 (Blk.box _ _ _) hz3.out rfl (a7y _ _ _ _ _ _ _) ?_;rw[a2d]))
  go_ret2;exact⟨by rw[HG.out.1,HG.out.2];rfl,(hb.out.trans (L2.out.mono hb.out.size)).alloc (Nat.le_trans hb.out.size L2.out.size) _⟩
structure Bs where
 D:Nat->Dk
 s:Nat
 p:Option Nat
abbrev bkA (g N:Nat)(b:Bs):Asn:=bnk g N b.D b.s b.p
abbrev rkA (g N:Nat)(b:Bs):Asn:=rbk g N b.D b.s b.p
def apW (N i:Nat)(b:Bs)(w:Wr):Bs:=⟨stD N b.p (i:Int) b.D (putD (b.D i) (w.1:Int) w.2),stS N b.p (i:Int) b.s,stP N b.p (i:Int)⟩
def apE (N i:Nat)(b:Bs)(w:Wr):Int:=stE N b.p (i:Int) (errW (b.D i).dead (b.D i).n (w.1:Int) w.2)
def apF (N i:Nat)(b:Bs):Bs:=⟨stD N b.p (i:Int) b.D (a4w (b.D i)),stS N b.p (i:Int) b.s,stP N b.p (i:Int)⟩
def apR (N i:Nat):Bs->List Wr->Int×Bs
 |b,[]=>(stE N b.p (i:Int) (errD (b.D i).dead),apF N i b)
 |b,w::r=>if apE N i b w=0 then apR N i (apW N i b w) r else(apE N i b w,apW N i b w)
def a8r (N:Nat)(b:Bs)(m:Nat):Prop:=b.s<=m/\∀j,j<N->(b.D j).q.length<=m
theorem e9a {N i:Nat}(hi:i<N){b:Bs}{m:Nat}(h:a8r N b m)(w:Wr):a8r N (apW N i b w) (m+1):=by
 refine⟨Nat.le_trans (e1x N b.p (i:Int) b.s) (Nat.add_le_add_right h.1 1),λj hj=>?_⟩;show((stD N b.p (i:Int) b.D (putD (b.D i) (w.1:Int) w.2)) j).q.length<=m+1;unfold stD;rw[qn (a2o N i hi)];by_cases hp:b.p=some 0
 ·rw[qp hp];exact Nat.le_succ_of_le (h.2 j hj)
 ·rw[qn hp,Int.toNat_natCast];by_cases e:j=i
  ·subst e;rw[a0r];exact Nat.le_trans (c2z _ _ _ _ _) (Nat.add_le_add_right (h.2 j hj) 1)
  ·rw[a1g _ _ _ _ e];exact Nat.le_succ_of_le (h.2 j hj)
theorem few_f {N i:Nat}(hi:i<N){b:Bs}{m:Nat}(h:a8r N b m):a8r N (apF N i b) (m+1):=by
 refine⟨Nat.le_trans (e1x N b.p (i:Int) b.s) (Nat.add_le_add_right h.1 1),λj hj=>?_⟩;show((stD N b.p (i:Int) b.D (a4w (b.D i))) j).q.length<=m+1;unfold stD;rw[qn (a2o N i hi)];by_cases hp:b.p=some 0
 ·rw[qp hp];exact Nat.le_succ_of_le (h.2 j hj)
 ·rw[qn hp,Int.toNat_natCast];by_cases e:j=i
  ·subst e;rw[a0r];exact Nat.le_trans (b7p _ _) (Nat.add_le_add_right (h.2 j hj) 1)
  ·rw[a1g _ _ _ _ e];exact Nat.le_succ_of_le (h.2 j hj)
theorem e0e {N i:Nat}(hi:i<N):∀(q:List Wr) {b:Bs} {m:Nat},a8r N b m->a8r N (apR N i b q).2 (m+q.length+1)
 |[],b,m,h=>few_f hi h
 |w::r,b,m,h=>by
  show a8r N (if apE N i b w=0 then apR N i (apW N i b w) r else(apE N i b w,apW N i b w)).2 _;have h1:=e9a hi h w;by_cases e:apE N i b w=0
  ·rw[qp e];have h2:=e0e hi r h1;rw[List.length_cons,show m+(r.length+1)+1=m+1+r.length+1 by omega];exact h2
  ·rw[qn e];exact⟨Nat.le_trans h1.1 (by simp),λj hj=>Nat.le_trans (h1.2 j hj) (by simp)⟩
theorem e6m (N i:Nat)(b:Bs):apR N i b []=(stE N b.p (i:Int) (errD (b.D i).dead),apF N i b):=rfl
theorem c1c {N i:Nat}{b:Bs}{w:Wr}{r:List Wr}(h:apE N i b w=0):apR N i b (w::r)=apR N i (apW N i b w) r:=qp h
theorem b8d {N i:Nat}{b:Bs}{w:Wr}{r:List Wr}(h:apE N i b w≠0):apR N i b (w::r)=(apE N i b w,apW N i b w):=qn h
theorem c3f {w:World}{T:TypeId}{a:Option Addr}{n c b:Nat}{q:List Wr}(h:w.ownsRow b T 2 (.slice a n c) n (a1e q)){k:Nat}{p:Wr}(hk:q[k]?=some p):∃g,a=some ⟨g,0,none⟩/\w.rangeAt g (k*2) [.int .i64 (p.1:Int),.string p.2]:=by
 obtain⟨h1,h2⟩:=b6v q k p hk;obtain⟨g,rfl,c1⟩:=a2b h h1;obtain⟨g',e,c2⟩:=a2b h h2
 cases e
 refine⟨g,rfl,λj v hv=>?_⟩
 match j,hv with
 |0,hv=>cases hv;exact c1
 |1,hv=>cases hv;exact c2
 |j+2,hv=>simp at hv
def Ay (B:Nat)(w0 w:World)(g N gb:Nat)(b:Bs)(sb:List Value)(v:Value)(m:Nat)(q:List Wr)(R:Asn):Prop:=Hold B w0 w (star (bkA g N b) (star (blkA gb 45 sb) (star (rowK 144 2 v m (a1e q)) R)))
section
variable {B:Nat}{w0 w w':World}{g N gb:Nat}{b:Bs}{sb:List Value}{v:Value}{m:Nat}{q:List Wr}{R:Asn}
theorem c4r (hR:Firm R):Firm (star (blkA gb 45 sb) (star (rowK 144 2 v m (a1e q)) R)):=(a0e _ _ _).star ((a0d _ _ _ _ _).star hR)
theorem Ay.below (hR:Firm R)(h:Ay B w0 w g N gb b sb v m q R)(hb:Below w.heap.size w w'):Ay B w0 w' g N gb b sb v m q R:=Hold.below h ((a2f _ _ _ _ _).star (c4r hR)) hb
theorem Ay.box (h:Ay B w0 w g N gb b sb v m q R):Blk w gb 45 sb:=(Hold.right h).blk
theorem Ay.row (h:Ay B w0 w g N gb b sb v m q R):w.ownsRow 0 144 2 v m (a1e q):=(Hold.right (Hold.right h)).rowK
theorem Ay.back (h:Ay B w0 w g N gb b sb v m q R):Hold B w0 w (star (bkA g N b) (star (rowK 144 2 v m (a1e q)) R)):=by
 have h1:=Hold.monoR h λF h=>a8y h;obtain⟨a1,a2,F,⟨G,H,a3,⟨G2,H2,a4,a5,a6,a7⟩,a8,a9⟩,a10⟩:=h1;refine⟨a1,a2,λk=>G k\/G2 k,⟨G,G2,a3,a4,λk hg hg2=>a8 k hg ((a7 k).2 (.inl hg2)),λk=>Iff.rfl⟩,?_⟩;rintro k (hk|hk)
 ·exact a10 k ((a9 k).2 (.inl hk))
 ·exact a10 k ((a9 k).2 (.inr ((a7 k).2 (.inl hk))))
theorem Ay.write (hR:Firm R)(h:Ay B w0 w g N gb b sb v m q R){i:Nat}(hs:b.s<=1000000000)(hq:∀j,j<N->(b.D j).q.length<=1000000)(p:Wr):Calls prog 76 #[.pointer (some ⟨g,0,none⟩),.int .i64 (i:Int),.int .i64 (p.1:Int),.string p.2] w λe w'=>e=.returned (.int .i64 (apE N i b p))/\Ay B w0 w' g N gb (apW N i b p) sb v m q R:=by
 have h1:=c9s (c4r hR) h hs hq (i:Int) (p.1:Int) p.2;rw[Int.toNat_natCast]at h1;exact h1
theorem Ay.flush (hR:Firm R)(h:Ay B w0 w g N gb b sb v m q R){i:Nat}(hs:b.s<=1000000000):Calls prog 77 #[.pointer (some ⟨g,0,none⟩),.int .i64 (i:Int)] w λe w'=>e=.returned (.int .i64 (stE N b.p (i:Int) (errD (b.D i).dead)))/\Ay B w0 w' g N gb (apF N i b) sb v m q R:=by
 have h1:=c9w (c4r hR) h hs (i:Int);rw[Int.toNat_natCast]at h1;exact h1
theorem Ay.start (hR:Firm R)(h:Hold B w0 w (star (bkA g N b) (star (rowK 144 2 v m (a1e q)) R)))(sb:List Value):Ay B w0 (w.alloc (.cells sb.toArray 45)) g N w.heap.size b sb v m q R:=by
 have:=(h.newBlk ((a2f _ _ _ _ _).star ((a0d _ _ _ _ _).star hR)) 45 sb.toArray).swap
 rwa[List.toList_toArray]at this
end
theorem c7y {B:Nat}{w0 w:World}{R:Asn}(hR:Firm R){g N i:Nat}{n:Int}{key:BA}(hg:GoodIs w (slV (.pointer (some ⟨g,0,none⟩)) (i:Int) n key) true){b:Bs}{v:Value}{q:List Wr}(h:Hold B w0 w (star (bkA g N b) (star (rowK 144 2 v q.length (a1e q)) R)))(hi:i<N){M:Nat}(hf:a8r N b M)(hM:M+q.length<=100000):
 Calls prog 36 #[slV (.pointer (some ⟨g,0,none⟩)) (i:Int) n key,v] w λe w'=>e=.returned (.int .i64 (apR N i b q).1)/\Hold B w0 w' (star (bkA g N (apR N i b q).2) (star (rowK 144 2 v q.length (a1e q)) R)):=by
 have hb:Hid (Below w.heap.size w (w.alloc (.cells #[.pointer (some ⟨g,0,none⟩),.int .i64 (i:Int),.int .i64 n,.string key] 45))):=(qw _ _).alloc (ql _) _;have hB:Hid (Blk _ _ _ _):=Blk.box w 45 [.pointer (some ⟨g,0,none⟩),.int .i64 (i:Int),.int .i64 n,.string key];have hc:Hid (Calls _ _ _ _ _):=hg _ hb.out;have hz:Hid ((prog.info? 45).map (·.size)=some 4):=size45;have hz2:Hid ((prog.info? 144).map (·.size)=some 2):=sizeWr17;have hzw:=a8s;have H0:Hid (Ay B w0 _ g N w.heap.size b [.pointer (some ⟨g,0,none⟩),.int .i64 (i:Int),.int .i64 n,.string key] v q.length q R):=Ay.start hR h _;obtain⟨a,c,rfl⟩:=a2a h.right.rowK;have HF:Hid (a8r N b M):=hf;have HR:Hid (Firm R):=hR;have HX:Hid (∃X,apR N i b q=X):=⟨_,rfl⟩;obtain⟨X,hX⟩:=HX.out;rw[hX];have fD:Hid (apR N i b q=X):=hX;have Hq:Hid (∀k p,q[k]?=some p->q.drop k=p::q.drop (k+1)):=λk p hk=>by
  obtain⟨h1,h2⟩:=List.getElem?_eq_some_iff.1 hk;rw[List.drop_eq_getElem_cons h1,h2]
 generalize jE:q.length=m at*;have oJ:Hid (q.length=m):=jE;clear hX HX h hg hf jE;go_enter func36,ntmps36;go_wp2_with(first
  |(refine a0a rfl 45 _ rfl w.heap.size rfl 45 [.pointer (some ⟨g,0,none⟩),.int .i64 (i:Int),.int .i64 n,.string key] _ hB.out underlying45 rfl hz.out ?_)
  |(go_at_call 70;refine hc.out.mono ?_;rintro e w1 ⟨rfl,hw⟩;have H1:Hid (Ay B w0 w1 g N w.heap.size b [.pointer (some ⟨g,0,none⟩),.int .i64 (i:Int),.int .i64 n,.string key] (.slice a m c) m q R):=H0.out.below HR.out hw;clear hw H0))
 go_loopw[13] (λj wr=>∃(k:Nat) (b':Bs),k<=m/\j=.int .i64 (k:Int)/\Hid (a8r N b' (M+k))/\Hid (apR N i b' (q.drop k)=X)/\Hid (Ay B w0 wr g N w.heap.size b' [.pointer (some ⟨g,0,none⟩),.int .i64 (i:Int),.int .i64 n,.string key] (.slice a m c) m q R)) (λj _=>m-(intOf j).toNat)
 case atStart=>exact⟨0,b,Nat.zero_le _,rfl,HF.out,fD.out,H1.out⟩
 case round=>
  clear H1 HF fD hc hB;obtain⟨k,b',hk,rfl,hf',bG,hh⟩:=hrel;have dP:=hh.out.box;have c0:=dP.cell (i:=0) rfl;have c1:=dP.cell (i:=1) rfl;have aY:w.heap.size<wr.heap.size:=dP.lt;clear dP;by_cases p9:k<m
  ·have hk':(k:Int)<(m:Int):=(by omega);obtain⟨p,hp⟩:∃p,q[k]?=some p:=⟨_,List.getElem?_eq_getElem (by have:=oJ.out;omega)⟩;obtain⟨gq,sL,fE⟩:=c3f hh.out.row hp;subst sL;have lD:Hid (wr.rangeAt gq (k*2) [.int .i64 (p.1:Int),.string p.2]):=fE;have hh2:Hid (Ay B w0 (wr.alloc (.cells [.int .i64 (p.1:Int),.string p.2].toArray 144)) g N w.heap.size b' [.pointer (some ⟨g,0,none⟩),.int .i64 (i:Int),.int .i64 n,.string key] (.slice (some ⟨gq,0,none⟩) m c) m q R):=hh.out.below HR.out ((qw _ _).alloc (ql _) _);have gV:=hh2.out.write HR.out (i:=i) (by have:=hf'.out.1;omega) (λj hj=>by have:=hf'.out.2 j hj;omega) p;have d0:=hh2.out.box.cell (i:=0) rfl;have d1:=hh2.out.box.cell (i:=1) rfl;have sR:Hid (a8r N (apW N i b' p) (M+(k+1))):=e9a hi hf'.out p;have bL:=Hq.out k p hp;by_cases hE:apE N i b' p=0
   ·have pR:Hid (apR N i (apW N i b' p) (q.drop (k+1))=X):=(by show _=_;rw[<-bG.out,bL,c1c hE]);rw[hE]at gV;clear bG hh bL fE hE;go_wp2_with(first
     |(refine wpList_load_mid rfl 144 _ rfl gq (k*2) rfl [.int .i64 (p.1:Int),.string p.2] _ lD.out underlying144 rfl hz2.out ?_)
     |(refine a0b rfl 144 _ _ rfl wr.heap.size [.int .i64 0,.string noB] [.int .i64 (p.1:Int),.string p.2] rfl rfl 144 (Blk.box _ _ _) hz2.out rfl (a8t _ _) ?_;rw[a2d])
     |(go_at_call 76;refine gV.mono ?_;rintro e w3 ⟨rfl,h3⟩;have H3:Hid (Ay B w0 w3 g N w.heap.size (apW N i b' p) [.pointer (some ⟨g,0,none⟩),.int .i64 (i:Int),.int .i64 n,.string key] (.slice (some ⟨gq,0,none⟩) m c) m q R):=h3;clear h3 gV hh2))
    go_roundw
    case rel=>exact⟨k+1,_,by omega,by go_num,sR.out,pR.out,H3.out⟩
    case measure=>simp[intOf];omega
   ·have hX:Hid (X=(apE N i b' p,apW N i b' p)):=(by show _=_;rw[<-bG.out,bL,b8d hE]);generalize apE N i b' p=E at*;have hE':(E !=0)=true:=(by simpa using hE);clear bG hh bL fE;go_wp2_with(first
     |(refine wpList_load_mid rfl 144 _ rfl gq (k*2) rfl [.int .i64 (p.1:Int),.string p.2] _ lD.out underlying144 rfl hz2.out ?_)
     |(refine a0b rfl 144 _ _ rfl wr.heap.size [.int .i64 0,.string noB] [.int .i64 (p.1:Int),.string p.2] rfl rfl 144 (Blk.box _ _ _) hz2.out rfl (a8t _ _) ?_;rw[a2d])
     |(go_at_call 76;refine gV.mono ?_;rintro e w3 ⟨rfl,h3⟩;have H3:Hid (Ay B w0 w3 g N w.heap.size (apW N i b' p) [.pointer (some ⟨g,0,none⟩),.int .i64 (i:Int),.int .i64 n,.string key] (.slice (some ⟨gq,0,none⟩) m c) m q R):=h3;clear h3 gV hh2))
    go_ret;exact⟨by rw[hX.out];rfl,by rw[hX.out];exact H3.out.back⟩
  ·obtain rfl:k=m:=(by omega);have hk':¬(k:Int)<(k:Int):=(by omega);have hX:Hid (X=(stE N b'.p (i:Int) (errD (b'.D i).dead),apF N i b')):=by
    show _=_;rw[<-bG.out,List.drop_eq_nil_of_le (by have:=oJ.out;omega)];rfl
   have fV:=hh.out.flush HR.out (i:=i) (by have:=hf'.out.1;omega);generalize stE N b'.p (i:Int) (errD (b'.D i).dead)=E at*;clear bG hh;go_wp2_with(go_at_call 77;refine fV.mono ?_;rintro e w3 ⟨rfl,h3⟩;have H3:Hid (Ay B w0 w3 g N w.heap.size (apF N i b') [.pointer (some ⟨g,0,none⟩),.int .i64 (i:Int),.int .i64 n,.string key] (.slice a k c) k q R):=h3;clear h3 fV);go_ret;exact⟨by rw[hX.out];rfl,by rw[hX.out];exact H3.out.back⟩
end Go.Proofs.YtokknmkleceooaaGreatDoor
