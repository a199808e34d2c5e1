import Derived.Test.YtokknmkleceooaaGreatDoorSlPrM
import Derived.BigRegion
namespace Go.Proofs.YtokknmkleceooaaGreatDoor
set_option linter.unusedVariables false
set_option maxRecDepth 20000
set_option maxHeartbeats 8000000
open Go.Proofs.Tryz
open Go.RowKit Go.PlainAid
def RGoodIs (w:World)(sv:Value)(b:Bool):Prop:=∀z,Below w.heap.size w z->Calls prog 90 #[sv] z λe w'=>e=.returned (.bool b)/\Below z.heap.size z w'
theorem RGoodIs.below {w w':World}{sv:Value}{b:Bool}(h:RGoodIs w sv b)(hb:Below w.heap.size w w'):RGoodIs w' sv b:=λz hz=>h z (hb.trans (hz.mono hb.size))
theorem size52:(prog.info? 52).map (·.size)=some 4:=by kernel_rfl
theorem Rk.top {w:World}{g N:Nat}{D:Nat->Dk}{s:Nat}{p:Option Nat}(h:Rk w g N D s p):∃gd cap,w.cell? ⟨g,0,none⟩=some (.slice (some ⟨gd,0,none⟩) N cap)/\N<=12:=by
 obtain⟨gd,cap,h1,h2,h3⟩:=h.hold.rbkTop;exact⟨gd,cap,h1.cell (i:=0) rfl,h.hold.rbkN.2⟩
theorem d1x {w:World}{g N:Nat}{D:Nat->Dk}{s:Nat}{p:Option Nat}(h:Rk w g N D s p)(i n:Int)(key:BA):Calls prog 90 #[slV (.pointer (some ⟨g,0,none⟩)) i n key] w λe w'=>e=.returned (.bool (decide (shpS n key/\¬Out N i)))/\Below w.heap.size w w':=by
 have hb:Hid (Below w.heap.size w (w.alloc (.cells #[.pointer (some ⟨g,0,none⟩),.int .i64 i,.int .i64 n,.string key] 52))):=(qw _ _).alloc (ql _) _;have hB:=Blk.box w 52 [.pointer (some ⟨g,0,none⟩),.int .i64 i,.int .i64 n,.string key];obtain⟨gd,cap,hcd,hN⟩:=(h.below hb.out).top;have nY:Hid (∀z,Calls prog 135 #[.int .i64 n] z λe w'=>e=.returned (.int .i64 (depI n))/\w'=z):=λz=>b5i n z;have c0:=hB.cell (i:=0) rfl;have c1:=hB.cell (i:=1) rfl;have c2:=hB.cell (i:=2) rfl;have c3:=hB.cell (i:=3) rfl;obtain⟨b,hb2⟩:∃b,decide (shpS n key/\¬Out N i)=b:=⟨_,rfl⟩;rw[hb2];have HB:Hid (decide (shpS n key/\¬Out N i)=b):=hb2;clear hb2 h hB;go_enter func90,ntmps90;generalize hw1:w.alloc (.cells #[.pointer (some ⟨g,0,none⟩),.int .i64 i,.int .i64 n,.string key] 52)=w1 at*;by_cases h1:n=2\/n=4\/n=8\/n=16
 ·have hd:(0:Int)<depI n:=by
   obtain⟨d,d1,d2,e⟩:=c6i n h1;rw[e,c6j d d1 d2];omega
  generalize depI n=dd at*;by_cases h2:key.size=32
  ·have h2':(key.size:Int)=32:=(by omega);by_cases h3:i<0
   ·have HF:Hid (b=false):=HB.out.symm.trans (decide_eq_false (λh=>h.2 (.inl h3)));have h3':¬(0:Int)<=i:=(by omega);have h3d:decide ((0:Int)<=i)=false:=decide_eq_false h3';go_wp2_with(go_at_call 135;refine(nY.out _).mono ?_;rintro e w2 ⟨rfl,hw⟩;rw[hw];clear hw w2)
    go_quiet(fail)
    go_wp2;go_ret;exact⟨by rw[HF.out];rfl,below_drewN hb.out _⟩
   ·have h3':(0:Int)<=i:=(by omega);by_cases h4:i<(N:Int)
    ·have HF:Hid (b=true):=HB.out.symm.trans (decide_eq_true ⟨⟨h1,h2⟩,λh=>by rcases h with h|h<;>omega⟩);go_wp2_with(go_at_call 135;refine(nY.out _).mono ?_;rintro e w2 ⟨rfl,hw⟩;rw[hw];clear hw w2)
     go_quiet(fail)
     go_wp2;go_ret;exact⟨by rw[HF.out];rfl,below_drewN hb.out _⟩
    ·have HF:Hid (b=false):=HB.out.symm.trans (decide_eq_false (λh=>h.2 (.inr (by omega))));have h4d:decide (i<(N:Int))=false:=decide_eq_false h4;go_wp2_with(go_at_call 135;refine(nY.out _).mono ?_;rintro e w2 ⟨rfl,hw⟩;rw[hw];clear hw w2)
     go_quiet(fail)
     go_wp2;go_ret;exact⟨by rw[HF.out];rfl,below_drewN hb.out _⟩
  ·have HF:Hid (b=false):=HB.out.symm.trans (decide_eq_false (λh=>h2 h.1.2));have h2':¬(key.size:Int)=32:=(by omega);have h2d:decide ((key.size:Int)=32)=false:=decide_eq_false h2';have h2e:((key.size:Int)==32)=false:=(by simpa using h2');go_wp2_with(go_at_call 135;refine(nY.out _).mono ?_;rintro e w2 ⟨rfl,hw⟩;rw[hw];clear hw w2)
   go_quiet(fail)
   go_wp2;go_ret;exact⟨by rw[HF.out];rfl,below_drewN hb.out _⟩
 ·have HF:Hid (b=false):=HB.out.symm.trans (decide_eq_false (λh=>h1 h.1.1));have hd:depI n=0:=e5y n h1;rw[hd]at nY;go_wp2_with(go_at_call 135;refine(nY.out _).mono ?_;rintro e w2 ⟨rfl,hw⟩;rw[hw];clear hw w2)
  go_quiet(fail)
  go_wp2;go_ret;exact⟨by rw[HF.out];rfl,below_drewN hb.out _⟩
theorem c8f {w:World}{g N:Nat}{D:Nat->Dk}{s:Nat}{p:Option Nat}(h:Rk w g N D s p)(i n:Int)(key:BA):RGoodIs w (slV (.pointer (some ⟨g,0,none⟩)) i n key) (decide (shpS n key/\¬Out N i)):=λz hz=>d1x (h.below hz) i n key
theorem kind0 (s:BA):a3p (strOfNums [((0:Nat):Int)]++s)=lH s:=rfl
theorem d1w (s:BA)(hs:s.size<=100000)(w:World)(ht:RTabs w):Calls prog 93 #[.int .u8 0,.string s] w λe w'=>e=.returned (.string (lH s))/\Below w.heap.size w w':=by
 have h:=b3i 0 (by decide) s (by omega) w ht;rw[kind0]at h;exact h
theorem d1l (pv:Value)(i k:Nat)(n:Int)(key:BA)(hi:i<=1000)(hk:k<=1000)(w:World):Calls prog 94 #[slV pv (i:Int) n key,.int .i64 (k:Int)] w λe w'=>e=.returned (.string (plc i k))/\Below w.heap.size w w':=by
 have hb:Hid (Below w.heap.size w (w.alloc (.cells #[pv,.int .i64 i,.int .i64 n,.string key] 52))):=(qw _ _).alloc (ql _) _;have h1:Hid (∀z,Calls prog 140 #[.int .u64 (i:Int)] z λe w'=>e=.returned (.string (numB (i:Int)))/\Below z.heap.size z w'):=λz=>b9c i (by omega) z;have h2:Hid (∀z,Calls prog 140 #[.int .u64 (k:Int)] z λe w'=>e=.returned (.string (numB (k:Int)))/\Below z.heap.size z w'):=λz=>b9c k (by omega) z;have ei:(i:Int)%18446744073709551616=(i:Int):=by omega
 have ek:(k:Int)%18446744073709551616=(k:Int):=by omega
 have HP:Hid (plc i k=numB (i:Int)++numB (k:Int)):=rfl;have sA:=a5l (i:Int);have sB:=a5l (k:Int);generalize plc i k=P at*;generalize numB (i:Int)=A at*;generalize numB (k:Int)=Bb at*;have tok:True:=trivial;go_enter func94,ntmps94;go_wp2_with(first
  |(go_at_call 140;have _t:=tok;refine(h1.out _).mono ?_;rintro e w1 ⟨rfl,hw⟩;have L1:Hid (Below w.heap.size w w1):=hb.out.trans (hw.mono hb.out.size);clear hw tok)
  |(go_at_call 140;refine(h2.out _).mono ?_;rintro e w2 ⟨rfl,hw⟩;have L2:Hid (Below w.heap.size w w2):=L1.out.trans (hw.mono L1.out.size);clear hw))
 go_ret;exact⟨by rw[HP.out];rfl,L2.out⟩
theorem e7z {T:BA}(h:T.size≠0):T.toList.isEmpty=false:=by rw[b7q];exact decide_eq_false h
def cfT (f:Nat->Option BA)(k:Nat):BA:=(f k).getD noB
def Full (f:Nat->Option BA):Prop:=∀k c,f k=some c->c.size≠0
theorem d4t:Full (λ_=>none):=λ_ _ h=>by cases h
def Lo (w z:World)(pv:Value)(i n:Int)(key:BA)(v nv:Value)(d k:Nat)(q cf:Nat->BA)(s:Nat):Prop:=
 Hold w.heap.size w z (star (rowK 9 1 v k (strs k q)) (star (rowK 3 1 nv d (nr .i64 d (nd d s))) (star (blkA w.heap.size 52 [pv,.int .i64 i,.int .i64 n,.string key]) (star (blkA (w.heap.size+1) 167 (strs 16 cf)) a0i))))
section
variable {w z z':World}{pv:Value}{i n:Int}{key:BA}{v nv:Value}{d k:Nat}{q cf:Nat->BA}{s:Nat}
theorem c3s:Firm (star (rowK 3 1 nv d (nr .i64 d (nd d s))) (star (blkA w.heap.size 52 [pv,.int .i64 i,.int .i64 n,.string key]) (star (blkA (w.heap.size+1) 167 (strs 16 cf)) a0i))):=(a0d _ _ _ _ _).star ((a0e _ _ _).star ((a0e _ _ _).star a0c))
theorem Lo.below (h:Lo w z pv i n key v nv d k q cf s)(hb:Below z.heap.size z z'):Lo w z' pv i n key v nv d k q cf s:=Hold.below h ((a0d _ _ _ _ _).star c3s) hb
theorem Lo.low (h:Lo w z pv i n key v nv d k q cf s):Below w.heap.size w z:=Hold.low h
theorem Lo.box (h:Lo w z pv i n key v nv d k q cf s):Blk z w.heap.size 52 [pv,.int .i64 i,.int .i64 n,.string key]:=(Hold.right (Hold.right h)).blk
theorem Lo.chg (h:Lo w z pv i n key v nv d k q cf s):Blk z (w.heap.size+1) 167 (strs 16 cf):=(Hold.right (Hold.right (Hold.right h))).blk
theorem Lo.sc {g1 c1:Nat}(h:Lo w z pv i n key v (.slice (some ⟨g1,0,none⟩) d c1) d k q cf s)(hk:k<d):z.cell? ⟨w.heap.size,0,none⟩=some pv/\z.cell? ⟨w.heap.size,1,none⟩=some (.int .i64 i)/\z.cell? ⟨g1,k,none⟩=some (.int .i64 (nd d s k:Int)):=by
 obtain⟨g2,e,hc⟩:=a2b (Hold.rowK (Hold.right h)) (a3c .i64 d (nd d s) k hk)
 cases e
 exact⟨h.box.cell (i:=0) rfl,h.box.cell (i:=1) rfl,hc⟩
end
theorem d9b (w:World)(pv:Value)(i n:Int)(key:BA)(cf:Nat->BA):Hold w.heap.size w ((w.alloc (.cells #[pv,.int .i64 i,.int .i64 n,.string key] 52)).alloc (.cells (strs 16 cf).toArray 167)) (star (blkA w.heap.size 52 [pv,.int .i64 i,.int .i64 n,.string key]) (star (blkA (w.heap.size+1) 167 (strs 16 cf)) a0i)):=by
 have h1:=(a1k w.heap.size w w (ql _) (qw _ _)).newBlk a0c 52 #[pv,.int .i64 i,.int .i64 n,.string key];have h2:=h1.newBlk ((a0e _ _ _).star a0c) 167 (strs 16 cf).toArray;have e:(w.alloc (.cells #[pv,.int .i64 i,.int .i64 n,.string key] 52)).heap.size=w.heap.size+1:=by simp
 rw[e,List.toList_toArray]at h2;exact h2.swap
theorem d1s {w:World}{g N:Nat}{D:Nat->Dk}{sn:Nat}{p:Option Nat}(hB:Rk w g N D sn p)(hQ:∀j,j<N->(D j).q.length<=1000000)(ht:RTabs w){i:Nat}(hi:i<N)(fG:140<=(D i).n){d n:Nat}(hn:2^d=n)(hd:1<=d/\d<=4)(key:BA)(S:Sl)(hS:Full S.ch){s:Nat}(hs:s<n):
 Calls prog 91 #[slV (.pointer (some ⟨g,0,none⟩)) (i:Int) (n:Int) key,.string S.top,.int .i64 (s:Int),.agg (strs 16 (cfT S.ch)).toArray] w λe w'=>∃v lf,e=.returned (.tuple #[v,.string lf,.int .i64 (ovE (rdS p (D i)) (eR p (D i)) S d s)])/\
  (ovE (rdS p (D i)) (eR p (D i)) S d s=0->fol d s (slk (rdS p (D i)) S d s) S.top d=some lf/\w'.ownsRow w.heap.size 9 1 v d (strs d (slk (rdS p (D i)) S d s)))/\Below w.heap.size w w':=by
 have aG:okS d (s:Int):=⟨hd.1,hd.2,by omega,by omega⟩;have h16:n<=16:=by rw[<-hn];exact a1f d hd.2
 have hp:Hid (∀z,Calls prog 136 #[.int .i64 (n:Int),.int .i64 (s:Int)] z λe w'=>∃v,e=.returned (.tuple #[v,.int .i64 0])/\w'.ownsRow z.heap.size 3 1 v d (nr .i64 d (nd d s))/\Below z.heap.size z w'):=λz=>c5h d n s hn aG z;have hnd:Hid (∀k,k<d->nd d s k<16):=λk hk=>by have:=(a2u d s k hk (by omega)).2;omega
 have lM:Hid (∀z,Below w.heap.size w z->∀k:Nat,k<16->Calls prog 92 #[.pointer (some ⟨g,0,none⟩),.int .i64 (i:Int),.int .i64 (100+(k:Int))] z λe w'=>e=.returned (.tuple #[.string (rdS p (D i) (100+k)),.int .i64 (eR p (D i))])/\w'=z):=λz hz k hk=>by
  have:=c5c (hB.below hz) hQ hi (a:=100+k) (by omega);rw[show((100+k:Nat):Int)=100+(k:Int) by omega]at this;exact this
 have HQ0:Hid (∀k,S.ch (nd d s k)=none->slk (rdS p (D i)) S d s k=rdS p (D i) (100+nd d s k)):=λk h=>by show(S.ch (nd d s k)).getD _=_;rw[h];rfl
 have HQ1:Hid (∀k c,S.ch (nd d s k)=some c->slk (rdS p (D i)) S d s k=c):=λk c h=>by show(S.ch (nd d s k)).getD _=_;rw[h];rfl
 have HC0:Hid (∀k,S.ch k=none->cfT S.ch k=noB):=λk h=>by unfold cfT;rw[h];rfl
 have HC1:Hid (∀k c,S.ch k=some c->cfT S.ch k=c/\c.size≠0):=λk c h=>⟨by unfold cfT;rw[h];rfl,hS k c h⟩;have fV:Hid (∀z a c q,Below w.heap.size w z->Sa z a d q->Calls prog 137 #[.string S.top,.int .i64 (s:Int),.slice a d c] z λe w'=>e=.returned (.tuple #[.string (folS d (s:Int) q S.top),.int .i64 (folE d (s:Int) q S.top)])/\Below z.heap.size z w'):=λz a c q hz hq=>c2x S.top (s:Int) a d c (by omega) q z hq (ht.below hz ht.lt);have nW:Hid (∀q,folS d (s:Int) q S.top=(fol d s q S.top d).getD noB/\folE d (s:Int) q S.top=oE (fol d s q S.top d)):=λq=>by
  unfold folS folE;rw[qp aG,qp aG,Int.toNat_natCast];exact⟨rfl,rfl⟩
 have HO1:Hid (∀k,k<d->eR p (D i)≠0->S.ch (nd d s k)=none->ovE (rdS p (D i)) (eR p (D i)) S d s=eR p (D i)):=λk hk h1 h2=>b2e h1 hk h2;have HO2:Hid ((eR p (D i)=0\/∀k,k<d->S.ch (nd d s k)≠none)->ovE (rdS p (D i)) (eR p (D i)) S d s=oE (fol d s (slk (rdS p (D i)) S d s) S.top d)):=λh=>c3i h;have H0:=d9b w (.pointer (some ⟨g,0,none⟩)) (i:Int) (n:Int) key (cfT S.ch);have hd1:=hd.1;have hd2:=hd.2;have y6:noB.toList.isEmpty=true:=by rw[b7q];rfl
 generalize nE:slk (rdS p (D i)) S d s=q at*;generalize gR:ovE (rdS p (D i)) (eR p (D i)) S d s=OV at*;generalize heR:eR p (D i)=E at*;generalize rdS p (D i)=rd at*;generalize cfT S.ch=cf at*;clear nE gR heR hB ht fG hi aG hn hQ hS;generalize jF:Value.pointer (some ⟨g,0,none⟩)=pv at*;generalize cZ:S.top=top at*;clear jF cZ;have c2:=H0.blk.cell (i:=2) rfl;go_enter func91,ntmps91;generalize hw1:(w.alloc (.cells #[pv,.int .i64 (i:Int),.int .i64 (n:Int),.string key] 52)).alloc (.cells (strs 16 cf).toArray 167)=w1 at*;go_wp2_with(go_at_call 136;refine(hp.out _).mono ?_;rintro e w2 ⟨nv,rfl,x9,hb2⟩;obtain⟨a1,c1,rfl⟩:=a2a x9;have H2:Hid (Lo w w2 pv (i:Int) (n:Int) key (.slice none 0 0) (.slice a1 d c1) d 0 q cf s):=(H0.newRow ((a0e _ _ _).star ((a0e _ _ _).star a0c)) hb2 x9).mono λF h=>a2g h;clear x9 hb2 hp H0 c2);go_loopw[13,14] (λv j wr=>∃(k c:Nat) (a:Option Addr),k<=d/\j=.int .i64 (k:Int)/\v=.slice a k c/\Hid (E=0\/∀k',k'<k->S.ch (nd d s k')≠none)/\Hid (Lo w wr pv (i:Int) (n:Int) key (.slice a k c) (.slice a1 d c1) d k q cf s)) (λ_ j _=>d-(intOf j).toNat)
 case atStart=>exact⟨0,0,none,Nat.zero_le _,rfl,rfl,.inr λk hk=>by omega,H2.out⟩
 case round=>
  clear H2;obtain⟨k,c,a,hk,rfl,rfl,aR,hh⟩:=hrel;by_cases p9:k<d
  ·have hk':(k:Int)<(d:Int):=(by omega);obtain⟨g1,hg1,x5⟩:=a2b (Hold.rowK (Hold.right hh.out)) (a3c .i64 d (nd d s) k p9);subst hg1;have hx16:=hnd.out k p9;have hch:=hh.out.chg.cell (a0s 16 cf (nd d s k) hx16)
   cases kZ:S.ch (nd d s k)with
   |some x=>
    have jV:=(HC1.out _ x kZ).1;have hx0:=e7z (HC1.out _ x kZ).2;have qH:=HQ1.out k x kZ;rw[jV]at hch;have HA:Hid (E=0\/∀k',k'<k+1->S.ch (nd d s k')≠none):=by
     rcases aR.out with h|h
     ·exact .inl h
     ·refine .inr λk' hk'=>?_;by_cases e:k'=k
      ·rw[e,kZ];exact λh=>by cases h
      ·exact h k' (by omega)
    obtain⟨a',c',w4,r6,h4⟩:=a2t c3s hh.out (by omega) x qH;have H4:Hid (Lo w w4 pv (i:Int) (n:Int) key (.slice a' (k+1) c') (.slice (some ⟨g1,0,none⟩) d c1) d (k+1) q cf s):=h4;clear h4 hh aR kZ jV qH;generalize nd d s k=x0 at*;have hx16':(x0:Int)<16:=(by omega);go_wp2_with(at_builtin;refine Lib.wpList_append_run _ rfl _ _ 23 23 rfl _ _ rfl rfl _ _ r6 ?_);go_roundw
    case rel=>exact⟨k+1,c',a',by omega,by go_num,rfl,HA.out,H4.out⟩
    case measure=>simp[intOf];omega
   |none=>
    have jV:=HC0.out _ kZ;rw[jV]at hch;have qH:=HQ0.out k kZ;have H5:Hid (Lo w wr.drew pv (i:Int) (n:Int) key (.slice a k c) (.slice (some ⟨g1,0,none⟩) d c1) d k q cf s):=hh.out.below (qw _ _).drew;have dR:=H5.out.sc p9;have aL:=lM.out _ H5.out.low (nd d s k) hx16;rw[<-qH]at aL;have kG:IntKind.i64.wrap (100+(nd d s k:Int))=100+(nd d s k:Int):=IntWalk.i64_in _ ⟨by omega,by omega⟩;have HP4:=a2t c3s H5.out (by omega) (q k) rfl;have fC:Hid (k<d):=p9;by_cases hE:E=0
    ·have HA0:Hid (E=0\/∀k',k'<k+1->S.ch (nd d s k')≠none):=.inl hE;subst hE;obtain⟨a',c',w4,r6,h4⟩:=HP4;have H4:Hid (Lo w w4 pv (i:Int) (n:Int) key (.slice a' (k+1) c') (.slice (some ⟨g1,0,none⟩) d c1) d (k+1) q cf s):=h4;clear h4 hh aR jV qH kZ;generalize q k=t at*;generalize nd d s k=x0 at*;have hx16':(x0:Int)<16:=(by omega);go_wp2_with fail;clear hch x5;refine wp_region_noPanic ?_;refine wp_region_held_drew (S:=λz:World=>z.cell? ⟨w.heap.size,0,none⟩=some pv/\z.cell? ⟨w.heap.size,1,none⟩=some (.int .i64 (i:Int))/\z.cell? ⟨g1,k,none⟩=some (.int .i64 (x0:Int))) (by kernel_rfl) dR (λp8=>?_);refine tkH 0 ?_;go_simp;refine tkH 1 ?_;go_simp;refine tkH 2 ?_;go_simp;refine tkH 3 ?_;go_simp;refine tkH 4 ?_;go_simp;refine tkH 5 ?_;go_simp;refine tkH 6 ?_;go_simp;refine tkH 7 ?_;go_simp;refine tkH 8 ?_;go_simp;refine rdH 9 λK hK=>?_;go_simp;go_at_call 92;refine aL.mono ?_;rintro x wa ⟨rfl,hw⟩;rw[hw];clear hw wa;refine hK.out _ _ dR (λp8=>?_);clear hK K;refine tkH 10 ?_;go_simp;refine tkH 11 ?_;go_simp;refine tkH 12 ?_;go_simp;refine tkH 13 ?_;go_simp;refine tkH 14 ?_;go_simp;refine wpAnyH_done (by kernel_rfl) ?_ _;refine NoPanic.normal ?_;go_wp2_with(at_builtin;refine Lib.wpList_append_run _ rfl _ _ 23 23 rfl _ _ rfl rfl _ _ r6 ?_);go_roundw
     case rel=>exact⟨k+1,c',a',by have:=fC.out;omega,by go_num,rfl,HA0.out,H4.out⟩
     case measure=>simp[intOf];have:=fC.out;omega
    ·have fK:Hid (OV=E/\¬OV=0):=by
      have:=HO1.out k p9 hE kZ;exact⟨this,by rw[this];exact hE⟩
     have hE':(E !=0)=true:=(by simpa using hE);clear hh aR jV qH kZ HP4;generalize q k=t at*;generalize nd d s k=x0 at*;have hx16':(x0:Int)<16:=(by omega);go_wp2_with fail;clear hch x5;refine wp_region_noPanic ?_;refine wp_region_held_drew (S:=λz:World=>z.cell? ⟨w.heap.size,0,none⟩=some pv/\z.cell? ⟨w.heap.size,1,none⟩=some (.int .i64 (i:Int))/\z.cell? ⟨g1,k,none⟩=some (.int .i64 (x0:Int))) (by kernel_rfl) dR (λp8=>?_);refine tkH 0 ?_;go_simp;refine tkH 1 ?_;go_simp;refine tkH 2 ?_;go_simp;refine tkH 3 ?_;go_simp;refine tkH 4 ?_;go_simp;refine tkH 5 ?_;go_simp;refine tkH 6 ?_;go_simp;refine tkH 7 ?_;go_simp;refine tkH 8 ?_;go_simp;refine rdH 9 λK hK=>?_;go_simp;go_at_call 92;refine aL.mono ?_;rintro x wa ⟨rfl,hw⟩;rw[hw];clear hw wa;refine hK.out _ _ dR (λp8=>?_);clear hK K;refine tkH 10 ?_;go_simp;refine tkH 11 ?_;go_simp;refine tkH 12 ?_;go_simp;refine tkH 13 ?_;go_simp;refine tkH 14 ?_;go_simp;refine wpAnyH_done (by kernel_rfl) ?_ _;refine NoPanic.normal ?_;go_wp2;go_ret3;exact⟨_,_,by rw[fK.out.1];rfl,λh0=>absurd h0 fK.out.2,H5.out.low⟩
  ·obtain rfl:k=d:=(by omega);have hk':¬(k:Int)<(k:Int):=(by omega);have fK:Hid (OV=oE (fol k s q top k)):=HO2.out aR.out;have pX:Hid (Sa wr a k q):=by
    obtain⟨a',c',e1,e2⟩:=Sa.owns (Hold.rowK hh.out)
    cases e1;exact e2
   have aL:=fV.out wr a c q hh.out.low pX.out;rw[(nW.out q).1,(nW.out q).2]at aL;clear aR HO1 HO2 fV pX;generalize hFO:fol k s q top k=FO at*;have kO:Hid (fol k s q top k=FO):=hFO;clear hFO;have HX:Hid (OV=0->FO=some (FO.getD noB)):=λh=>by
    rw[fK.out]at h
    cases FO with
    |none=>cases h
    |some x=>rfl
   rw[<-fK.out]at aL;generalize FO.getD noB=lf at*;go_wp2_with(go_at_call 137;refine aL.mono ?_;rintro e w3 ⟨rfl,hb3⟩;have H3:Hid (Lo w w3 pv (i:Int) (n:Int) key (.slice a k c) (.slice a1 k c1) k k q cf s):=hh.out.below hb3;clear hb3 hh aL);go_ret3;exact⟨_,_,rfl,λh0=>⟨by rw[kO.out];exact HX.out h0,Hold.rowBack H3.out⟩,H3.out.low⟩
theorem c8p {w:World}{pv:Value}{i n:Int}{key:BA}(hg:RGoodIs w (slV pv i n key) true)(top:BA){k:Int}(hk:slE17 n k≠0):Calls prog 47 #[slV pv i n key,.string top,.int .i64 k] w λe w'=>e=.returned (.tuple #[.string noB,.int .i64 2])/\Below w.heap.size w w':=by
 have hb:Hid (Below w.heap.size w (w.alloc (.cells #[pv,.int .i64 i,.int .i64 n,.string key] 52))):=(qw _ _).alloc (ql _) _;have hB:Hid (Blk _ _ _ _):=Blk.box w 52 [pv,.int .i64 i,.int .i64 n,.string key];have hc:Hid (Calls _ _ _ _ _):=hg _ hb.out;have hz:Hid ((prog.info? 52).map (·.size)=some 4):=size52;have tokA:True:=trivial;have hk1:k<0\/(¬k<0/\n<=k):=by
  unfold slE17 at hk;by_cases e:k<0\/n<=k
  ·omega
  ·rw[qn e]at hk;exact absurd rfl hk
 clear hk hg;rcases hk1 with h1|⟨h1,h2⟩
 ·have h1':decide (k<0)=true:=decide_eq_true h1;go_enter func47,ntmps47;go_wp2_with(first
   |(have _t:=tokA;refine a0a rfl 52 _ rfl w.heap.size rfl 52 [pv,.int .i64 i,.int .i64 n,.string key] _ hB.out underlying52 rfl hz.out ?_;clear tokA)
   |(go_at_call 90;refine hc.out.mono ?_;rintro e w1 ⟨rfl,hw⟩;have L1:Hid (Below w.heap.size w w1):=hb.out.trans (hw.mono hb.out.size);have hB1:Hid (Blk w1 w.heap.size 52 [pv,.int .i64 i,.int .i64 n,.string key]):=hB.out.below hw (by simp);have c2:=hB1.out.cell (i:=2) rfl;clear hw hc))
  go_ret2;exact⟨rfl,L1.out⟩
 ·have h1':decide (k<0)=false:=decide_eq_false h1;have h2':decide (n<=k)=true:=decide_eq_true h2;go_enter func47,ntmps47;go_wp2_with(first
   |(have _t:=tokA;refine a0a rfl 52 _ rfl w.heap.size rfl 52 [pv,.int .i64 i,.int .i64 n,.string key] _ hB.out underlying52 rfl hz.out ?_;clear tokA)
   |(go_at_call 90;refine hc.out.mono ?_;rintro e w1 ⟨rfl,hw⟩;have L1:Hid (Below w.heap.size w w1):=hb.out.trans (hw.mono hb.out.size);have hB1:Hid (Blk w1 w.heap.size 52 [pv,.int .i64 i,.int .i64 n,.string key]):=hB.out.below hw (by simp);have c2:=hB1.out.cell (i:=2) rfl;clear hw hc))
  go_ret2;exact⟨rfl,L1.out⟩
theorem e3c (w:World):(zeroValue 167).run prog w=.ok (.agg (strs 16 λ_=>noB).toArray) w:=by
 obtain⟨i0,hi,hz⟩:=Option.map_eq_some_iff.1 (show(prog.info? 167).map (λi=>i.zero)=some (some (.agg (strs 16 λ_=>noB).toArray)) by kernel_rfl);simp[zeroValue,typeInfo,hi,hz]
theorem size167:(prog.info? 167).map (·.size)=some 16:=by kernel_rfl
theorem c8q {w:World}{g N:Nat}{D:Nat->Dk}{sn:Nat}{p:Option Nat}(hB:Rk w g N D sn p)(hQ:∀j,j<N->(D j).q.length<=1000000)(ht:RTabs w){i:Nat}(hi:i<N)(hi2:i<=1000)(fG:140<=(D i).n)(aA:∀a,(rdS p (D i) a).size<=2048){d n:Nat}(hn:2^d=n)(hd:1<=d/\d<=4){key:BA}(jR:key.size=32)(top:BA){s:Nat}(hs:s<n)
 (hg:RGoodIs w (slV (.pointer (some ⟨g,0,none⟩)) (i:Int) (n:Int) key) true):
 Calls prog 47 #[slV (.pointer (some ⟨g,0,none⟩)) (i:Int) (n:Int) key,.string top,.int .i64 (s:Int)] w λe w'=>e=.returned (.tuple #[.string (slGT (rdS p (D i)) (eR p (D i)) d s top (opT key (plc i s))),.int .i64 (slGE (rdS p (D i)) (eR p (D i)) d s top (opE key (plc i s)))])/\Below w.heap.size w w':=by
 have h16:n<=16:=by rw[<-hn];exact a1f d hd.2
 have hb:Hid (Below w.heap.size w (w.alloc (.cells #[.pointer (some ⟨g,0,none⟩),.int .i64 (i:Int),.int .i64 (n:Int),.string key] 52))):=(qw _ _).alloc (ql _) _;have dX:Hid (Blk _ _ _ _):=Blk.box w 52 [.pointer (some ⟨g,0,none⟩),.int .i64 (i:Int),.int .i64 (n:Int),.string key];have hc:Hid (Calls _ _ _ _ _):=hg _ hb.out;have hz:Hid ((prog.info? 52).map (·.size)=some 4):=size52;have hz3:Hid ((prog.info? 167).map (·.size)=some (strs 16 λ_=>noB).length):=by rw[a0o];exact size167
 have hov:Hid (∀z,Below w.heap.size w z->Calls prog 91 #[slV (.pointer (some ⟨g,0,none⟩)) (i:Int) (n:Int) key,.string top,.int .i64 (s:Int),.agg (strs 16 λ_=>noB).toArray] z λe w'=>∃v lf,e=.returned (.tuple #[v,.string lf,.int .i64 (ovE (rdS p (D i)) (eR p (D i)) (sl0 top) d s)])/\
  (ovE (rdS p (D i)) (eR p (D i)) (sl0 top) d s=0->fol d s (slk (rdS p (D i)) (sl0 top) d s) top d=some lf)/\Below z.heap.size z w'):=λz hz=>(d1s (hB.below hz) hQ (ht.below hz ht.lt) hi fG hn hd key (sl0 top) d4t hs).mono λe w' ⟨v,lf,h1,h2,h3⟩=>⟨v,lf,h1,λh=>(h2 h).1,h3⟩
 have lM:Hid (∀z,Below w.heap.size w z->Calls prog 92 #[.pointer (some ⟨g,0,none⟩),.int .i64 (i:Int),.int .i64 (120+(s:Int))] z λe w'=>e=.returned (.tuple #[.string (rdS p (D i) (120+s)),.int .i64 (eR p (D i))])/\w'=z):=λz hz=>by
  have:=c5c (hB.below hz) hQ hi (a:=120+s) (by omega);rw[show((120+s:Nat):Int)=120+(s:Int) by omega]at this;exact this
 have kG:IntKind.i64.wrap (120+(s:Int))=120+(s:Int):=IntWalk.i64_in _ ⟨by omega,by omega⟩;have hlf:Hid (∀z,Below w.heap.size w z->Calls prog 93 #[.int .u8 0,.string (rdS p (D i) (120+s))] z λe w'=>e=.returned (.string (lH (rdS p (D i) (120+s))))/\Below z.heap.size z w'):=λz hz=>d1w _ (Nat.le_trans (aA _) (by decide)) z (ht.below hz ht.lt);have hwi:Hid (∀z,Calls prog 94 #[slV (.pointer (some ⟨g,0,none⟩)) (i:Int) (n:Int) key,.int .i64 (s:Int)] z λe w'=>e=.returned (.string (plc i s))/\Below z.heap.size z w'):=λz=>d1l _ i s (n:Int) key hi2 (by omega) z;have jK:Hid (12<=(rdS p (D i) (120+s)).size->∀z,Calls prog 95 #[.string key,.string ((rdS p (D i) (120+s)).extract 0 12),.string (plc i s),.string ((rdS p (D i) (120+s)).extract 12 (rdS p (D i) (120+s)).size)] z λe w'=>e=.returned (.tuple #[.string (opT key (plc i s) (rdS p (D i) (120+s))),.int .i64 (opE key (plc i s) (rdS p (D i) (120+s)))])/\Below z.heap.size z w'):=λh z=>c8d jR (b6u i s) h (aA _) z;have HN0:Hid ((rdS p (D i) (120+s)).size=0->rdS p (D i) (120+s)=noB/\opT key (plc i s) (rdS p (D i) (120+s))=zB 32/\opE key (plc i s) (rdS p (D i) (120+s))=0):=λh=>by
  have e:=b3s h;rw[e];exact⟨rfl,(b6y key (plc i s)).2,(b6y key (plc i s)).1⟩
 have HN1:Hid ((rdS p (D i) (120+s)).size≠0->(rdS p (D i) (120+s)).size<12->opT key (plc i s) (rdS p (D i) (120+s))=noB/\opE key (plc i s) (rdS p (D i) (120+s))=3):=λh1 h2=>c8y h1 (by omega);have cR:Hid ((rdS p (D i) (120+s)).size<=2048):=aA _;have G1:Hid (ovE (rdS p (D i)) (eR p (D i)) (sl0 top) d s≠0->slGE (rdS p (D i)) (eR p (D i)) d s top (opE key (plc i s))=ovE (rdS p (D i)) (eR p (D i)) (sl0 top) d s/\slGT (rdS p (D i)) (eR p (D i)) d s top (opT key (plc i s))=noB):=λh=>d1g hd.1 h;have G2:Hid (ovE (rdS p (D i)) (eR p (D i)) (sl0 top) d s=0->eR p (D i)=0):=λh=>c5j hd.1 h;have G3:Hid (∀lf,eR p (D i)=0->fol d s (slk (rdS p (D i)) (sl0 top) d s) top d=some lf->lH (rdS p (D i) (120+s))≠lf->slGE (rdS p (D i)) (eR p (D i)) d s top (opE key (plc i s))=22/\slGT (rdS p (D i)) (eR p (D i)) d s top (opT key (plc i s))=noB):=λlf e h1 h2=>by rw[e];exact d1f h1 h2
 have G4:Hid (∀lf,eR p (D i)=0->fol d s (slk (rdS p (D i)) (sl0 top) d s) top d=some lf->lH (rdS p (D i) (120+s))=lf->slGE (rdS p (D i)) (eR p (D i)) d s top (opE key (plc i s))=opE key (plc i s) (rdS p (D i) (120+s))/\slGT (rdS p (D i)) (eR p (D i)) d s top (opT key (plc i s))=opT key (plc i s) (rdS p (D i) (120+s))):=λlf e h1 h2=>by rw[e];exact e2a (h2▸h1)
 generalize slGE (rdS p (D i)) (eR p (D i)) d s top (opE key (plc i s))=GE at*;generalize slGT (rdS p (D i)) (eR p (D i)) d s top (opT key (plc i s))=GT at*;generalize ovE (rdS p (D i)) (eR p (D i)) (sl0 top) d s=OV at*;generalize fol d s (slk (rdS p (D i)) (sl0 top) d s) top d=FO at*;generalize lH (rdS p (D i) (120+s))=LH at*;generalize opT key (plc i s) (rdS p (D i) (120+s))=OT at*;generalize opE key (plc i s) (rdS p (D i) (120+s))=OE at*;generalize rdS p (D i) (120+s)=cl at*;generalize eR p (D i)=E at*;generalize plc i s=P at*;generalize jF:Value.pointer (some ⟨g,0,none⟩)=pv at*;have hsn:(s:Int)<(n:Int):=by omega
 clear jF aA hB ht hi fG hn hd hg jR hi2 h16 hQ hs;have hs0:¬(s:Int)<0:=by omega
 have hs1:¬(n:Int)<=(s:Int):=by omega
 have hs0':decide ((s:Int)<0)=false:=decide_eq_false hs0;have hs1':decide ((n:Int)<=(s:Int))=false:=decide_eq_false hs1;have hz16:=e3c;obtain⟨Z32,hm32,hc32⟩:=d6s 32 (by omega);rw[show strOfNums (List.replicate 32 0)=zB 32 from rfl]at hc32;have HZ32:Hid ((∀x:World,(Instr.makeSlice 22 (.int .i64 32) (.int .i64 32)).run prog x=.ok (.slice (some ⟨x.heap.size,0,none⟩) 32 32) (x.alloc (.cells Z32 5 (0,0))))/\∀x:World,(convert 22 9 (.slice (some ⟨x.heap.size,0,none⟩) 32 32)).run prog (x.alloc (.cells Z32 5 (0,0)))=.ok (.string (zB 32)) (x.alloc (.cells Z32 5 (0,0)))):=⟨hm32,hc32⟩;clear hm32 hc32;have tokA:True:=trivial;go_enter func47,ntmps47;generalize hw0:w.alloc (.cells #[pv,.int .i64 (i:Int),.int .i64 (n:Int),.string key] 52)=w0 at*;have aY:Hid (w.heap.size<w0.heap.size):=dX.out.lt;have HL:Hid (∀z,Below w0.heap.size w0 z->Below w.heap.size w z):=λz hz=>hb.out.trans (hz.mono hb.out.size);have lG:Hid (∀z,Below w0.heap.size w0 z->Blk z w.heap.size 52 [pv,.int .i64 (i:Int),.int .i64 (n:Int),.string key]):=λz hz=>dX.out.below hz aY.out;go_upto_region 8 with(first
  |(have _t:=tokA;refine a0a rfl 52 _ rfl w.heap.size rfl 52 [pv,.int .i64 (i:Int),.int .i64 (n:Int),.string key] _ dX.out underlying52 rfl hz.out ?_;clear tokA)
  |(go_at_call 90;refine hc.out.mono ?_;rintro e w1 ⟨rfl,hw⟩;have LL:Hid (Below w0.heap.size w0 w1):=hw;have c2:=(lG.out _ hw).cell (i:=2) rfl;have hB16:Hid (Blk (w1.alloc (.cells (strs 16 λ_=>noB).toArray 167)) w1.heap.size 167 (strs 16 λ_=>noB)):=Blk.box _ _ _;have LM:Hid (Below w0.heap.size w0 (w1.alloc (.cells (strs 16 λ_=>noB).toArray 167))):=hw.alloc hw.size _;have hB1:Hid (Blk (w1.alloc (.cells (strs 16 λ_=>noB).toArray 167)) w.heap.size 52 [pv,.int .i64 (i:Int),.int .i64 (n:Int),.string key]):=lG.out _ LM.out;clear hw hc)
  |(refine a0a rfl 52 _ rfl w.heap.size rfl 52 [pv,.int .i64 (i:Int),.int .i64 (n:Int),.string key] _ hB1.out underlying52 rfl hz.out ?_)
  |(refine a0a rfl 167 _ rfl w1.heap.size rfl 167 (strs 16 λ_=>noB) _ hB16.out underlying167 rfl hz3.out ?_)
  |(go_at_call 91;refine(hov.out _ (HL.out _ LM.out)).mono ?_;rintro e w2 ⟨v2,lf,rfl,sO,hw⟩;have L2:Hid (Below w0.heap.size w0 w2):=LM.out.trans (hw.mono LM.out.size);have uL:Hid (OV=0->FO=some lf):=sO;clear hw sO hov c2 LL LM hB16 hB1))
 have mH:=lG.out _ L2.out;have c0:=mH.cell (i:=0) rfl;have c1:=mH.cell (i:=1) rfl;have c3:=mH.cell (i:=3) rfl;clear hz16;by_cases gR:OV=0
 ·have hE:=G2.out gR;have kO:=uL.out gR;have g3:Hid (LH≠lf->GE=22/\GT=noB):=G3.out lf hE kO;have g4:Hid (LH=lf->GE=OE/\GT=OT):=G4.out lf hE kO;clear G1 G2 G3 G4 kO uL;subst gR;subst hE;go_upto_region 14 with(first
   |(go_at_call 92;refine(lM.out _ (HL.out _ L2.out)).mono ?_;rintro e w3 ⟨rfl,hw⟩;rw[hw];clear hw w3)
   |(go_at_call 93;refine(hlf.out _ (HL.out _ L2.out)).mono ?_;rintro e w3 ⟨rfl,hw⟩;have L3:Hid (Below w0.heap.size w0 w3):=L2.out.trans (hw.mono L2.out.size);clear hw hlf c0 c1 c3 mH))
  by_cases hL:LH=lf
  ·have HG:Hid (GE=OE/\GT=OT):=g4.out hL;have sY:(LH.toList==lf.toList)=true:=(by rw[teq];exact decide_eq_true hL);clear hL g3 g4;by_cases h0:cl.size=0
   ·obtain⟨rfl,e1,e2⟩:=HN0.out h0;have y6:noB.toList.isEmpty=true:=(by rw[b7q];rfl);have hm:=HZ32.out.1 w3;have fH:=HZ32.out.2 w3;clear jK HN1 h0;go_wp2;go_ret2;exact⟨by rw[HG.out.1,HG.out.2,e1,e2];rfl,HL.out _ (L3.out.alloc L3.out.size _)⟩
   ·have y6:cl.toList.isEmpty=false:=e7z h0;by_cases h12:cl.size<12
    ·obtain⟨e1,e2⟩:=HN1.out h0 h12;have h12':(cl.size:Int)<12:=(by omega);clear jK;go_wp2;go_ret2;exact⟨by rw[HG.out.1,HG.out.2,e1,e2];rfl,HL.out _ L3.out⟩
    ·have h12':¬(cl.size:Int)<12:=(by omega);have h12d:decide ((cl.size:Int)<12)=false:=decide_eq_false h12';have eH:(12:Int)<=(cl.size:Int):=(by omega);have ho:Hid (∀z,Calls _ _ _ z _):=jK.out (by omega);have hb3:Hid (Blk w3 w.heap.size 52 [pv,.int .i64 (i:Int),.int .i64 (n:Int),.string key]):=lG.out _ L3.out;clear jK h12;go_wp2_with(first
      |(refine a0a rfl 52 _ rfl w.heap.size rfl 52 [pv,.int .i64 (i:Int),.int .i64 (n:Int),.string key] _ hb3.out underlying52 rfl hz.out ?_)
      |(go_at_call 94;refine(hwi.out _).mono ?_;rintro e w4 ⟨rfl,hw⟩;have L4:Hid (Below w0.heap.size w0 w4):=L3.out.trans (hw.mono L3.out.size);clear hw hb3))
     have L5:Hid (Below w0.heap.size w0 w4.drew):=L4.out.drew;have dR:=(lG.out _ L5.out).cell (i:=3) rfl;refine wp_region_noPanic ?_;refine wp_region_held_drew (S:=λz:World=>z.cell? ⟨w.heap.size,3,none⟩=some (.string key)) (by kernel_rfl) dR (λp8=>?_);refine tkH 0 ?_;go_simp;refine tkH 1 ?_;go_simp;refine tkH 2 ?_;go_simp;refine tkH 3 ?_;go_simp;refine tkH 4 ?_;go_simp;refine tkH 5 ?_;go_simp;refine tkH 6 ?_;go_simp;refine rdH 7 λK hK=>?_;go_simp;go_at_call 95;refine(ho.out _).mono ?_;rintro x wb ⟨rfl,dJ⟩;have L6:Hid (Below w0.heap.size w0 wb):=L5.out.trans (dJ.mono L5.out.size);clear dJ dR;refine hK.out _ _ ((lG.out _ L6.out).cell (i:=3) rfl) (λp8=>?_);clear hK K;have dR:=(lG.out _ L6.out).cell (i:=3) rfl;refine tkH 8 ?_;go_simp;refine tkH 9 ?_;go_simp;refine tkH 10 ?_;go_simp;refine tkH 11 ?_;go_simp;refine wpAnyH_done (by kernel_rfl) ?_ _;refine NoPanic.normal ?_;go_wp2;go_ret2;exact⟨by rw[HG.out.1,HG.out.2];rfl,HL.out _ L6.out⟩
  ·have HG:Hid (GE=22/\GT=noB):=g3.out hL;have sY:(LH.toList==lf.toList)=false:=(by rw[teq];exact decide_eq_false hL);go_wp2;go_ret2;exact⟨by rw[HG.out.1,HG.out.2];rfl,HL.out _ L3.out⟩
 ·have HG:Hid (GE=OV/\GT=noB):=G1.out gR;have hE':(OV !=0)=true:=by simpa using gR
  go_wp2;go_ret2;exact⟨by rw[HG.out.1,HG.out.2];rfl,HL.out _ L2.out⟩
end Go.Proofs.YtokknmkleceooaaGreatDoor
