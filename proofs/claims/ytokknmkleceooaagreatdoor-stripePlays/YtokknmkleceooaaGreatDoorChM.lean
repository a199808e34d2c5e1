import Derived.Test.YtokknmkleceooaaGreatDoorBaseM
import Derived.Deep.MidRow
import Derived.Test.YtokknmkleceooaaGreatDoorBufM
import Derived.Deep.AppendLies
import Derived.Maps.AppendAt
namespace Go.Proofs.YtokknmkleceooaaGreatDoor
set_option linter.unusedVariables false
set_option maxRecDepth 20000
set_option maxHeartbeats 8000000
open Go.Proofs.Tryz
open Go.RowKit Go.PlainAid
def W32 (x:Int):Prop:=0<=x/\x<4294967296
def ad (x y:Int):Int:=(x+y)%4294967296
theorem ad_lo (x y:Int):W32 (ad x y):=by unfold ad W32;omega
def xtr (n:Nat)(z x:Int):Int:=turn n (bits .xor .u32 z x)
def q1a (a b c d:Int):Int:=ad a b
def q1d (a b c d:Int):Int:=xtr 16 d (q1a a b c d)
def q1c (a b c d:Int):Int:=ad c (q1d a b c d)
def q1b (a b c d:Int):Int:=xtr 12 b (q1c a b c d)
def qa (a b c d:Int):Int:=ad (q1a a b c d) (q1b a b c d)
def qd (a b c d:Int):Int:=xtr 8 (q1d a b c d) (qa a b c d)
def qc (a b c d:Int):Int:=ad (q1c a b c d) (qd a b c d)
def qb (a b c d:Int):Int:=xtr 7 (q1b a b c d) (qc a b c d)
def qS (S:Nat->Int)(a b c d:Nat)(i:Nat):Int:=
 if i=d then qd (S a) (S b) (S c) (S d)else if i=c then qc (S a) (S b) (S c) (S d)else if i=b then qb (S a) (S b) (S c) (S d)else if i=a then qa (S a) (S b) (S c) (S d)else S i
def rq (S:Nat->Int)(n:Nat):Nat->Nat->Int
 |0=>S
 |k+1=>qS (rq S n k) k (4+(k+n)%4) (8+(k+2*n)%4) (12+(k+3*n)%4)
def rn (S:Nat->Int):Nat->Nat->Int
 |0=>S
 |k+1=>rq (rn S k) (k%2) 4
theorem rq0 (S:Nat->Int):rq S 0 4=qS (qS (qS (qS S 0 4 8 12) 1 5 9 13) 2 6 10 14) 3 7 11 15:=rfl
theorem rq1 (S:Nat->Int):rq S 1 4=qS (qS (qS (qS S 0 5 10 15) 1 6 11 12) 2 7 8 13) 3 4 9 14:=rfl
theorem e7l (S:Nat->Int)(k:Nat):rn S (2*(k+1))=rq (rq (rn S (2*k)) 0 4) 1 4:=by
 rw[show 2*(k+1)=(2*k+1)+1 by omega,rn,rn,show(2*k+1)%2=1 by omega,show 2*k%2=0 by omega]
def out (S:Nat->Int)(i:Nat):Int:=ad (rn S 20 i) (S i)
theorem e2j (S:Nat->Int)(i:Nat):0<=out S i/\out S i<4294967296:=ad_lo _ _
def blkB (S:Nat->Int):BA:=strOfNums (a1x four (out S) 16)
theorem a3u (x:Int):(four x).length=4:=rfl
theorem a2r (S:Nat->Int):(blkB S).size=64:=by unfold blkB;rw[strOfNums_size,a1h four a3u]
def cst (i:Nat):Int:=if i=0 then 1634760805 else if i=1 then 857760878 else if i=2 then 2036477234 else 1797285236
def stI (key nonce:BA)(c:Int)(i:Nat):Int:=
 if i<4 then cst i else if i<12 then a0h le4 key (i-4)else if i<13 then c else a0h le4 nonce (i-13)
def ks (key nonce:BA)(c:Int)(i:Nat):Int:=bt (blkB (stI key nonce ((c+(i/64:Nat))%4294967296))) (i%64)
theorem a7h (key nonce:BA)(c:Int)(i:Nat):0<=ks key nonce c i/\ks key nonce c i<=255:=⟨bt_nonneg _ _,bt_le _ _⟩
def cryL (f:Nat->Int)(s:BA)(n:Nat):List Int:=(List.range n).map λi=>bits .xor .u8 (bt s i) (f i)
def cryB (f:Nat->Int)(s:BA):BA:=strOfNums (cryL f s s.size)
theorem a1u (f:Nat->Int)(s:BA):(cryB f s).size=s.size:=by
 unfold cryB;rw[strOfNums_size];simp[cryL]
theorem c9o (f:Nat->Int)(hf:∀i,0<=f i/\f i<=255)(s:BA)(n:Nat):∀x∈cryL f s n,0<=x/\x<=255:=by
 intro x hx;obtain⟨i,_,rfl⟩:=List.mem_map.1 hx;exact b4w _ _ (bt_nonneg s i) (bt_le s i) (hf i).1 (hf i).2
theorem b4j (f:Nat->Int)(hf:∀i,0<=f i/\f i<=255)(s:BA)(i:Nat)(h:i<s.size):bt (cryB f s) i=(((bt s i).toNat^^^(f i).toNat:Nat):Int):=by
 unfold cryB;rw[a3q _ (c9o f hf s s.size) i (by simpa[cryL]using h)];unfold cryL;rw[List.getElem_map,List.getElem_range];have h1:=bt_nonneg s i;have h2:=bt_le s i;have h3:=hf i;rw[u8_xor _ _ h1 (by omega) h3.1 (by omega)]
theorem c9p (f:Nat->Int)(hf:∀i,0<=f i/\f i<=255)(s:BA):cryB f (cryB f s)=s:=by
 apply a2q
 ·rw[a1u,a1u]
 ·intro i hi;rw[a1u,a1u]at hi;rw[b4j f hf _ i (by rw[a1u];exact hi),b4j f hf s i hi];have h1:=bt_nonneg s i;simp only[Int.toNat_natCast,Nat.xor_assoc,Nat.xor_self,Nat.xor_zero];omega
theorem e5k (x:Int)(n:Nat)(hn:n<32)(h:W32 x)(w:World):
 Calls prog 263 #[.int .u32 x,.int .i64 (n:Int)] w λe w'=>e=.returned (.int .u32 (turn n x))/\w'=w:=by
 refine(d9d x n h.1 h.2 w).mono ?_;rintro e w' ⟨rfl,rfl⟩;refine⟨?_,rfl⟩;rw[show((n:Int)%32).toNat=n by omega]
theorem b2f (x y z:Int)(n:Nat)(hn:n<32)(w:World):
 Calls prog 246 #[.int .u32 x,.int .u32 y,.int .u32 z,.int .i64 (n:Int)] w λe w'=>e=.returned (.tuple #[.int .u32 (ad x y),.int .u32 (xtr n z (ad x y))])/\w'=w:=by
 have hl:=λw=>e5k (bits .xor .u32 z (ad x y)) n hn (b8j _ _) w;rw[show turn n (bits .xor .u32 z (ad x y))=xtr n z (ad x y)from rfl]at hl;obtain⟨s,hs⟩:∃s,ad x y=s:=⟨_,rfl⟩;have hs':(x+y)%4294967296=s:=hs;rw[hs]at hl⊢;clear hs;go_enter func246,ntmps246;go_wp2_with(go_at_call 263;refine(hl _).mono ?_;rintro e w' ⟨rfl,rfl⟩);go_ret2;exact⟨rfl,rfl⟩
theorem c2y (a b c d:Int)(w:World):
 Calls prog 236 #[.int .u32 a,.int .u32 b,.int .u32 c,.int .u32 d] w λe w'=>e=.returned (.tuple #[.int .u32 (qa a b c d),.int .u32 (qb a b c d),.int .u32 (qc a b c d),.int .u32 (qd a b c d)])/\w'=w:=by
 have h1:=λw=>b2f a b d 16 (by decide) w;have h2:=λw=>b2f c (q1d a b c d) b 12 (by decide) w;have h3:=λw=>b2f (q1a a b c d) (q1b a b c d) (q1d a b c d) 8 (by decide) w;have h4:=λw=>b2f (q1c a b c d) (qd a b c d) (q1b a b c d) 7 (by decide) w;rw[show xtr 16 d (ad a b)=q1d a b c d from rfl,show ad a b=q1a a b c d from rfl]at h1;rw[show xtr 12 b (ad c (q1d a b c d))=q1b a b c d from rfl,show ad c (q1d a b c d)=q1c a b c d from rfl]at h2;rw[show xtr 8 (q1d a b c d) (ad (q1a a b c d) (q1b a b c d))=qd a b c d from rfl,show ad (q1a a b c d) (q1b a b c d)=qa a b c d from rfl]at h3;rw[show xtr 7 (q1b a b c d) (ad (q1c a b c d) (qd a b c d))=qb a b c d from rfl,show ad (q1c a b c d) (qd a b c d)=qc a b c d from rfl]at h4;generalize q1a a b c d=a1 at h1 h3;generalize q1b a b c d=b1 at h2 h3 h4;generalize q1c a b c d=c1 at h2 h4;generalize q1d a b c d=d1 at h1 h2 h3;generalize qa a b c d=A at h3⊢;generalize qb a b c d=B at h4⊢;generalize qc a b c d=C at h4⊢;generalize qd a b c d=D at h3 h4⊢;go_enter func236,ntmps236;go_wp2_with fail;refine(h1 _).mono ?_;rintro e w' ⟨rfl,rfl⟩;go_wp2_with fail;refine(h2 _).mono ?_;rintro e w' ⟨rfl,rfl⟩;go_wp2_with fail;refine(h3 _).mono ?_;rintro e w' ⟨rfl,rfl⟩;go_wp2_with fail;refine(h4 _).mono ?_;rintro e w' ⟨rfl,rfl⟩;go_wp2_with fail;exact bodyPost_ret (v:=.tuple #[.int .u32 A,.int .u32 B,.int .u32 C,.int .u32 D]) (by simp[results,results236,go_sem]) rfl ⟨rfl,rfl⟩
theorem a7f (x:Int)(n:Nat)(hn:n<32)(h:W32 x)(w:World):
 Calls prog 258 #[.int .u32 x,.int .i64 (n:Int)] w λe w'=>e=.returned (.int .u32 (turn n x))/\w'=w:=by
 refine(c2q x n h.1 h.2 (by omega) (by omega) w).mono ?_;rintro e w' ⟨rfl,rfl⟩;refine⟨?_,rfl⟩;rw[show((n:Int)%32).toNat=n by omega]
theorem b4t (a b c d:Int)(w:World):
 Calls prog 242 #[.int .u32 a,.int .u32 b,.int .u32 c,.int .u32 d] w λe w'=>e=.returned (.agg #[.int .u32 (qa a b c d),.int .u32 (qb a b c d),.int .u32 (qc a b c d),.int .u32 (qd a b c d)])/\Below w.heap.size w w':=by
 have h1:=λw=>a7f (bits .xor .u32 d (q1a a b c d)) 16 (by decide) (b8j _ _) w;have h2:=λw=>a7f (bits .xor .u32 b (q1c a b c d)) 12 (by decide) (b8j _ _) w;have h3:=λw=>a7f (bits .xor .u32 (q1d a b c d) (qa a b c d)) 8 (by decide) (b8j _ _) w;have h4:=λw=>a7f (bits .xor .u32 (q1b a b c d) (qc a b c d)) 7 (by decide) (b8j _ _) w;rw[show turn 16 (bits .xor .u32 d (q1a a b c d))=q1d a b c d from rfl]at h1;rw[show turn 12 (bits .xor .u32 b (q1c a b c d))=q1b a b c d from rfl]at h2;rw[show turn 8 (bits .xor .u32 (q1d a b c d) (qa a b c d))=qd a b c d from rfl]at h3;rw[show turn 7 (bits .xor .u32 (q1b a b c d) (qc a b c d))=qb a b c d from rfl]at h4;have e1:(a+b)%4294967296=q1a a b c d:=rfl;have e2:(c+q1d a b c d)%4294967296=q1c a b c d:=rfl;have e3:(q1a a b c d+q1b a b c d)%4294967296=qa a b c d:=rfl;have e4:(q1c a b c d+qd a b c d)%4294967296=qc a b c d:=rfl;generalize q1a a b c d=a1 at*;generalize q1b a b c d=b1 at*;generalize q1c a b c d=c1 at*;generalize q1d a b c d=d1 at*;generalize qa a b c d=A at*;generalize qb a b c d=B at*;generalize qc a b c d=C at*;generalize qd a b c d=D at*;go_enter func242,ntmps242;go_wp2_with fail;refine(h1 _).mono ?_;rintro e w' ⟨rfl,rfl⟩;go_wp2_with fail;refine(h2 _).mono ?_;rintro e w' ⟨rfl,rfl⟩;go_wp2_with fail;refine(h3 _).mono ?_;rintro e w' ⟨rfl,rfl⟩;go_wp2_with fail;refine(h4 _).mono ?_;rintro e w' ⟨rfl,rfl⟩;go_wp2_with fail;exact bodyPost_ret (v:=.agg #[.int .u32 A,.int .u32 B,.int .u32 C,.int .u32 D]) (by simp[results,results242,go_sem]) rfl ⟨rfl,(qw _ _).alloc (ql _) _⟩
theorem zero246:(prog.info? 246).map (λi=>i.zero)=some (some (.agg (ws 16 (λ_=>0)).toArray)):=by kernel_rfl
theorem a3a (w:World):(zeroValue 246).run prog w=.ok (.agg (ws 16 (λ_=>0)).toArray) w:=by
 obtain⟨i,hi,hz⟩:=Option.map_eq_some_iff.1 zero246;simp[zeroValue,typeInfo,hi,hz]
theorem size246:(prog.info? 246).map (·.size)=some 16:=by kernel_rfl
theorem b7h {w:World}{g:Nat}{T:TypeId}{S:Nat->Int}(h:Blk w g T (ws 16 S)):(loadVar 246 ⟨g,0,none⟩).run prog w=.ok (.agg (ws 16 S).toArray) w:=
 run_loadVar_row w g T 246 _ (0,0) _ h underlying246 rfl (by rw[size246];simp[a0f])
theorem e3h (S:Nat->Int)(a b c d:Nat)(x y z u:Int):((((ws 16 S).set a (.int .u32 x)).set b (.int .u32 y)).set c (.int .u32 z)).set d (.int .u32 u)=ws 16 (λi=>if i=d then u else if i=c then z else if i=b then y else if i=a then x else S i):=by
 rw[a7p,a7p,a7p,a7p]
theorem c7e (S:Nat->Int)(a b c d:Nat):((((ws 16 S).set a (.int .u32 (qa (S a) (S b) (S c) (S d)))).set b (.int .u32 (qb (S a) (S b) (S c) (S d)))).set c (.int .u32 (qc (S a) (S b) (S c) (S d)))).set d (.int .u32 (qd (S a) (S b) (S c) (S d)))=ws 16 (qS S a b c d):=by
 rw[e3h];rfl
theorem Blk.four {w:World}{g:Nat}{T:TypeId}{S:Nat->Int}(h:Blk w g T (ws 16 S))(a b c d:Nat):
 Blk ((((w.setCell ⟨g,a,none⟩ (.int .u32 (qa (S a) (S b) (S c) (S d)))).setCell ⟨g,b,none⟩ (.int .u32 (qb (S a) (S b) (S c) (S d)))).setCell ⟨g,c,none⟩ (.int .u32 (qc (S a) (S b) (S c) (S d)))).setCell ⟨g,d,none⟩ (.int .u32 (qd (S a) (S b) (S c) (S d)))) g T (ws 16 (qS S a b c d)):=by
 rw[<-c7e];exact(((h.setCell a _).setCell b _).setCell c _).setCell d _
theorem c7m (S:Nat->Int)(n:Nat)(hn:n<=1)(w:World):
 Calls prog 204 #[.agg (ws 16 S).toArray,.int .i64 (n:Int)] w λe w'=>e=.returned (.agg (ws 16 (rq S n 4)).toArray)/\Below w.heap.size w w':=by
 have aI:=a3a;obtain⟨Z,hZ⟩:∃Z,ws 16 (λ_=>0)=Z:=⟨_,rfl⟩;obtain⟨Y,hY⟩:∃Y,ws 16 S=Y:=⟨_,rfl⟩;rw[hZ]at aI;rw[hY];have HY:Hid (ws 16 S=Y):=hY;have HZ:Hid (ws 16 (λ_=>0)=Z):=hZ;clear hY hZ;go_enter func204,ntmps204;go_wp2_with fail;have hA0:Blk ((w.alloc (.cells Y.toArray 246)).alloc (.cells Z.toArray 246)) w.heap.size 246 (ws 16 (rq S n 0)):=by
  show Blk _ _ _ (ws 16 S);rw[HY.out];have:=(Blk.new w 246 Y.toArray).alloc (.cells Z.toArray 246);simpa using this
 have hB0:Blk ((w.alloc (.cells Y.toArray 246)).alloc (.cells Z.toArray 246)) (w.heap.size+1) 246 (ws 16 (λ_=>0)):=by
  rw[HZ.out];have:=Blk.new (w.alloc (.cells Y.toArray 246)) 246 Z.toArray;simpa using this
 have hl0:Below w.heap.size w ((w.alloc (.cells Y.toArray 246)).alloc (.cells Z.toArray 246)):=((qw _ w).alloc (ql _) _).alloc (by simp) _;clear aI HZ HY;generalize(w.alloc (.cells Y.toArray 246)).alloc (.cells Z.toArray 246)=w0 at hA0 hB0 hl0⊢;obtain⟨g,y5⟩:∃g,w.heap.size=g:=⟨_,rfl⟩;rw[y5]at hA0 hB0 hl0⊢;have HG:Hid (w.heap.size=g):=y5;clear y5;go_loopw[9] (λi wr=>∃k:Nat,k<=4/\i=.int .i64 k/\Blk wr g 246 (ws 16 (rq S n k))/\Blk wr (g+1) 246 (ws 16 (λ_=>0))/\Below g w wr) (λi _=>(4-intOf i).toNat)
 case atStart=>exact⟨0,by omega,rfl,hA0,hB0,hl0⟩
 case round=>
  clear hA0 hB0 hl0;obtain⟨k,hk,rfl,hA,hB,hl⟩:=hrel;by_cases p9:k<4
  ·have aT:(k:Int)<4:=(by omega);have qK:(0:Int)<=(k:Int):=(by omega);have hnI:(0:Int)<=(n:Int):=(by omega);obtain⟨b,hb⟩:∃b:Nat,4+(k+n)%4=b:=⟨_,rfl⟩;obtain⟨c,hc⟩:∃c:Nat,8+(k+2*n)%4=c:=⟨_,rfl⟩;obtain⟨d,hd⟩:∃d:Nat,12+(k+3*n)%4=d:=⟨_,rfl⟩;have eb:4+((k:Int)+(n:Int))%4=(b:Int):=(by omega);have ec:8+((k:Int)+2*(n:Int))%4=(c:Int):=(by omega);have ed:12+((k:Int)+3*(n:Int))%4=(d:Int):=(by omega);have k16:k<16:=(by omega);have b16:b<16:=(by omega);have c16:c<16:=(by omega);have d16:d<16:=(by omega);have hq:rq S n (k+1)=qS (rq S n k) k b c d:=(by rw[rq,hb,hc,hd]);have HQ:Hid (rq S n (k+1)=qS (rq S n k) k b c d):=hq;clear hb hc hd hq;generalize rq S n k=R at hA HQ;have ck:=hA.cell (a0z 16 R k k16);have cb:=hA.cell (a0z 16 R b b16);have cc:=hA.cell (a0z 16 R c c16);have cd:=hA.cell (a0z 16 R d d16);have k16':(k:Int)<16:=(by omega);have b16':(b:Int)<16:=(by omega);have c16':(c:Int)<16:=(by omega);have d16':(d:Int)<16:=(by omega);go_wp2_with fail;have HS:(λz:World=>z.cell? ⟨g,k,none⟩=some (.int .u32 (R k))/\z.cell? ⟨g,b,none⟩=some (.int .u32 (R b))/\z.cell? ⟨g,c,none⟩=some (.int .u32 (R c))/\z.cell? ⟨g,d,none⟩=some (.int .u32 (R d))) wr.drew:=⟨ck,cb,cc,cd⟩;have hA1:=Blk.four hA.drew k b c d;have hB1:Blk ((((wr.drew.setCell ⟨g,k,none⟩ (.int .u32 (qa (R k) (R b) (R c) (R d)))).setCell ⟨g,b,none⟩ (.int .u32 (qb (R k) (R b) (R c) (R d)))).setCell ⟨g,c,none⟩ (.int .u32 (qc (R k) (R b) (R c) (R d)))).setCell ⟨g,d,none⟩ (.int .u32 (qd (R k) (R b) (R c) (R d)))) (g+1) 246 (ws 16 (λ_=>0)):=(((hB.drew.setOther (by omega) k _).setOther (by omega) b _).setOther (by omega) c _).setOther (by omega) d _;have hl1:Below g w ((((wr.drew.setCell ⟨g,k,none⟩ (.int .u32 (qa (R k) (R b) (R c) (R d)))).setCell ⟨g,b,none⟩ (.int .u32 (qb (R k) (R b) (R c) (R d)))).setCell ⟨g,c,none⟩ (.int .u32 (qc (R k) (R b) (R c) (R d)))).setCell ⟨g,d,none⟩ (.int .u32 (qd (R k) (R b) (R c) (R d)))):=(((hl.drew.setCell (ql _) _).setCell (ql _) _).setCell (ql _) _).setCell (ql _) _;have s1:=hA.setCell k (.int .u32 (qa (R k) (R b) (R c) (R d)));have s2:=s1.setCell b (.int .u32 (qb (R k) (R b) (R c) (R d)));have s3:=s2.setCell c (.int .u32 (qc (R k) (R b) (R c) (R d)));have fz0:=hA.frozen k;have fz1:=s1.frozen b;have fz2:=s2.frozen c;have fz3:=s3.frozen d;obtain⟨u1,hu1⟩:=s1.hasCell b (by simp[a0f];exact b16);obtain⟨u2,hu2⟩:=s2.hasCell c (by simp[a0f];exact c16);obtain⟨u3,hu3⟩:=s3.hasCell d (by simp[a0f];exact d16);clear s1 s2 s3;have pA:=λw=>c2y (R k) (R b) (R c) (R d) w;clear hA hB hl cb cc cd;refine wp_region_noPanic ?_;refine a7w (c:=16) (S:=λz:World=>z.cell? ⟨g,k,none⟩=some (.int .u32 (R k))/\z.cell? ⟨g,b,none⟩=some (.int .u32 (R b))/\z.cell? ⟨g,c,none⟩=some (.int .u32 (R c))/\z.cell? ⟨g,d,none⟩=some (.int .u32 (R d))) (by kernel_rfl) ?_;refine a0m (i:=0) (v:=?_) rfl (by kernel_rfl) (by kernel_rfl) (by kernel_rfl) (by kernel_rfl) (λ_ _ _ h=>h) (Or.inl ⟨by rfl,?_⟩) (λ_=>HS) ?_;rotate_left
   ·intro w aO;go_simp;try with_reducible rfl
   go_simp;refine a0m (i:=1) (v:=?_) rfl (by kernel_rfl) (by kernel_rfl) (by kernel_rfl) (by kernel_rfl) (λ_ _ _ h=>h) (Or.inl ⟨by rfl,?_⟩) (λ_=>HS) ?_;rotate_left
   ·intro w aO;go_simp;try with_reducible rfl
   go_simp;refine a0m (i:=2) (v:=?_) rfl (by kernel_rfl) (by kernel_rfl) (by kernel_rfl) (by kernel_rfl) (λ_ _ _ h=>h) (Or.inl ⟨by rfl,?_⟩) (λ_=>HS) ?_;rotate_left
   ·intro w aO;go_simp;try with_reducible rfl
   go_simp;refine a0m (i:=3) (v:=?_) rfl (by kernel_rfl) (by kernel_rfl) (by kernel_rfl) (by kernel_rfl) (λ_ _ _ h=>h) (Or.inl ⟨by rfl,?_⟩) (λ_=>HS) ?_;rotate_left
   ·intro w aO;go_simp;try with_reducible rfl
   go_simp;refine a0m (i:=4) (v:=?_) rfl (by kernel_rfl) (by kernel_rfl) (by kernel_rfl) (by kernel_rfl) (λ_ _ _ h=>h) (Or.inl ⟨by rfl,?_⟩) (λ_=>HS) ?_;rotate_left
   ·intro w aO;go_simp;try with_reducible rfl
   go_simp;refine a0m (i:=5) (v:=?_) rfl (by kernel_rfl) (by kernel_rfl) (by kernel_rfl) (by kernel_rfl) (λ_ _ _ h=>h) (Or.inl ⟨by rfl,?_⟩) (λ_=>HS) ?_;rotate_left
   ·intro w aO;go_simp;try with_reducible rfl
   go_simp;refine a0m (i:=7) (v:=?_) rfl (by kernel_rfl) (by kernel_rfl) (by kernel_rfl) (by kernel_rfl) (λ_ _ _ h=>h) (Or.inl ⟨by rfl,?_⟩) (λ_=>HS) ?_;rotate_left
   ·intro w aO;go_simp;try with_reducible rfl
   go_simp;refine a0m (i:=8) (v:=?_) rfl (by kernel_rfl) (by kernel_rfl) (by kernel_rfl) (by kernel_rfl) (λ_ _ _ h=>h) (Or.inl ⟨by rfl,?_⟩) (λ_=>HS) ?_;rotate_left
   ·intro w aO;go_simp;try with_reducible rfl
   go_simp;refine a0m (i:=10) (v:=?_) rfl (by kernel_rfl) (by kernel_rfl) (by kernel_rfl) (by kernel_rfl) (λ_ _ _ h=>h) (Or.inl ⟨by rfl,?_⟩) (λ_=>HS) ?_;rotate_left
   ·intro w aO;go_simp;try with_reducible rfl
   go_simp;refine a0m (i:=11) (v:=?_) rfl (by kernel_rfl) (by kernel_rfl) (by kernel_rfl) (by kernel_rfl) (λ_ _ _ h=>h) (Or.inl ⟨by rfl,?_⟩) (λ_=>HS) ?_;rotate_left
   ·intro w aO;go_simp;try with_reducible rfl
   go_simp;refine a0m (i:=13) (v:=?_) rfl (by kernel_rfl) (by kernel_rfl) (by kernel_rfl) (by kernel_rfl) (λ_ _ _ h=>h) (Or.inl ⟨by rfl,?_⟩) (λ_=>HS) ?_;rotate_left
   ·intro w aO;go_simp;try with_reducible rfl
   go_simp;refine a0m (i:=14) (v:=?_) rfl (by kernel_rfl) (by kernel_rfl) (by kernel_rfl) (by kernel_rfl) (λ_ _ _ h=>h) (Or.inl ⟨by rfl,?_⟩) (λ_=>HS) ?_;rotate_left
   ·intro w aO;go_simp;try with_reducible rfl
   go_simp;refine a3b (i:=6) (v:=?_) rfl (by kernel_rfl) (by kernel_rfl) (by kernel_rfl) (by kernel_rfl) (λ_ _ _ h=>h) (Or.inl ⟨by rfl,?_⟩) HS ?_;rotate_left
   ·rintro w ⟨s0,s1,s2,s3⟩;go_simp;try with_reducible rfl
   go_simp;refine a3b (i:=9) (v:=?_) rfl (by kernel_rfl) (by kernel_rfl) (by kernel_rfl) (by kernel_rfl) (λ_ _ _ h=>h) (Or.inl ⟨by rfl,?_⟩) HS ?_;rotate_left
   ·rintro w ⟨s0,s1,s2,s3⟩;go_simp;try with_reducible rfl
   go_simp;refine a3b (i:=12) (v:=?_) rfl (by kernel_rfl) (by kernel_rfl) (by kernel_rfl) (by kernel_rfl) (λ_ _ _ h=>h) (Or.inl ⟨by rfl,?_⟩) HS ?_;rotate_left
   ·rintro w ⟨s0,s1,s2,s3⟩;go_simp;try with_reducible rfl
   go_simp;refine a3b (i:=15) (v:=?_) rfl (by kernel_rfl) (by kernel_rfl) (by kernel_rfl) (by kernel_rfl) (λ_ _ _ h=>h) (Or.inl ⟨by rfl,?_⟩) HS ?_;rotate_left
   ·rintro w ⟨s0,s1,s2,s3⟩;go_simp;try with_reducible rfl
   go_simp;refine a1i (i:=16) (by kernel_rfl) rfl (λK hK=>?_);go_simp;go_at_call 236;refine(pA _).mono ?_;rintro e wx ⟨rfl,rfl⟩;go_simp;refine hK.out _ _ (λh=>by cases h) ?_;clear hK K;refine a0m (i:=17) (v:=?_) rfl (by kernel_rfl) (by kernel_rfl) (by kernel_rfl) (by kernel_rfl) (λ_ _ _ h=>h) (Or.inl ⟨by rfl,?_⟩) (λh=>by cases h) ?_;rotate_left
   ·intro w aO;go_simp;try with_reducible rfl
   go_simp;refine a0m (i:=18) (v:=?_) rfl (by kernel_rfl) (by kernel_rfl) (by kernel_rfl) (by kernel_rfl) (λ_ _ _ h=>h) (Or.inl ⟨by rfl,?_⟩) (λh=>by cases h) ?_;rotate_left
   ·intro w aO;go_simp;try with_reducible rfl
   go_simp;refine a0m (i:=19) (v:=?_) rfl (by kernel_rfl) (by kernel_rfl) (by kernel_rfl) (by kernel_rfl) (λ_ _ _ h=>h) (Or.inl ⟨by rfl,?_⟩) (λh=>by cases h) ?_;rotate_left
   ·intro w aO;go_simp;try with_reducible rfl
   go_simp;refine a0m (i:=20) (v:=?_) rfl (by kernel_rfl) (by kernel_rfl) (by kernel_rfl) (by kernel_rfl) (λ_ _ _ h=>h) (Or.inl ⟨by rfl,?_⟩) (λh=>by cases h) ?_;rotate_left
   ·intro w aO;go_simp;try with_reducible rfl
   go_simp;refine a0m (i:=21) (v:=?_) rfl (by kernel_rfl) (by kernel_rfl) (by kernel_rfl) (by kernel_rfl) (λ_ _ _ h=>h) (Or.inl ⟨by rfl,?_⟩) (λh=>by cases h) ?_;rotate_left
   ·intro w aO;go_simp;try with_reducible rfl
   go_simp;refine a0m (i:=22) (v:=?_) rfl (by kernel_rfl) (by kernel_rfl) (by kernel_rfl) (by kernel_rfl) (λ_ _ _ h=>h) (Or.inl ⟨by rfl,?_⟩) (λh=>by cases h) ?_;rotate_left
   ·intro w aO;go_simp;try with_reducible rfl
   go_simp;refine a1i (i:=23) (by kernel_rfl) rfl (λK hK=>?_);go_simp;refine hK.out _ _ (λh=>by cases h) ?_;clear hK K;refine a0m (i:=24) (v:=?_) rfl (by kernel_rfl) (by kernel_rfl) (by kernel_rfl) (by kernel_rfl) (λ_ _ _ h=>h) (Or.inl ⟨by rfl,?_⟩) (λh=>by cases h) ?_;rotate_left
   ·intro w aO;go_simp;try with_reducible rfl
   go_simp;refine a1i (i:=25) (by kernel_rfl) rfl (λK hK=>?_);go_simp;refine hK.out _ _ (λh=>by cases h) ?_;clear hK K;refine a0m (i:=26) (v:=?_) rfl (by kernel_rfl) (by kernel_rfl) (by kernel_rfl) (by kernel_rfl) (λ_ _ _ h=>h) (Or.inl ⟨by rfl,?_⟩) (λh=>by cases h) ?_;rotate_left
   ·intro w aO;go_simp;try with_reducible rfl
   go_simp;refine a1i (i:=27) (by kernel_rfl) rfl (λK hK=>?_);go_simp;refine hK.out _ _ (λh=>by cases h) ?_;clear hK K;refine a0m (i:=28) (v:=?_) rfl (by kernel_rfl) (by kernel_rfl) (by kernel_rfl) (by kernel_rfl) (λ_ _ _ h=>h) (Or.inl ⟨by rfl,?_⟩) (λh=>by cases h) ?_;rotate_left
   ·intro w aO;go_simp;try with_reducible rfl
   go_simp;refine a1i (i:=29) (by kernel_rfl) rfl (λK hK=>?_);go_simp;refine hK.out _ _ (λh=>by cases h) ?_;clear hK K;refine a7x (by kernel_rfl) ?_ _;refine NoPanic.normal ?_;rw[<-HQ.out]at hA1;clear pA fz0 fz1 fz2 fz3 HS HQ hu1 hu2 hu3 ck;generalize qa (R k) (R b) (R c) (R d)=va at hA1 hB1 hl1⊢;generalize qb (R k) (R b) (R c) (R d)=vb at hA1 hB1 hl1⊢;generalize qc (R k) (R b) (R c) (R d)=vc at hA1 hB1 hl1⊢;generalize qd (R k) (R b) (R c) (R d)=vd at hA1 hB1 hl1⊢;have hA2:Blk ((((wr.setCell ⟨g,k,none⟩ (.int .u32 va)).setCell ⟨g,b,none⟩ (.int .u32 vb)).setCell ⟨g,c,none⟩ (.int .u32 vc)).setCell ⟨g,d,none⟩ (.int .u32 vd)).drew g 246 _:=hA1;have hB2:Blk ((((wr.setCell ⟨g,k,none⟩ (.int .u32 va)).setCell ⟨g,b,none⟩ (.int .u32 vb)).setCell ⟨g,c,none⟩ (.int .u32 vc)).setCell ⟨g,d,none⟩ (.int .u32 vd)).drew (g+1) 246 _:=hB1;have hl2:Below g w ((((wr.setCell ⟨g,k,none⟩ (.int .u32 va)).setCell ⟨g,b,none⟩ (.int .u32 vb)).setCell ⟨g,c,none⟩ (.int .u32 vc)).setCell ⟨g,d,none⟩ (.int .u32 vd)).drew:=hl1;clear hA1 hB1 hl1;generalize((((wr.setCell ⟨g,k,none⟩ (.int .u32 va)).setCell ⟨g,b,none⟩ (.int .u32 vb)).setCell ⟨g,c,none⟩ (.int .u32 vc)).setCell ⟨g,d,none⟩ (.int .u32 vd)).drew=w4 at hA2 hB2 hl2⊢;go_wp2_with fail;go_roundw
   case rel=>exact⟨k+1,by omega,by go_num,hA2,hB2,hl2⟩
   case measure=>simp[intOf];omega
  ·have hk4:k=4:=(by omega);subst hk4;have hA':Blk (wr.setRow (g+1) (ws 16 (rq S n 4)).toArray) (g+1) 246 (ws 16 (rq S n 4)):=hB.setRow;have hR:=b7h hA';have hl':Below g w (wr.setRow (g+1) (ws 16 (rq S n 4)).toArray):=below_setRow hl (by omega) _;obtain⟨U,hU⟩:∃U,ws 16 (rq S n 4)=U:=⟨_,rfl⟩;have bO:U.length=16:=(by rw[<-hU,a0f]);have gF:∀v∈U,v.oneCell'=true:=(by rw[<-hU];exact a3f _ _);rw[hU]at hA hR hl';have HU:Hid (ws 16 (rq S n 4)=U):=hU;clear hA' hl hU;go_wp2_with(first|(refine a0a rfl 246 _ rfl g rfl 246 U _ hA underlying246 rfl (by rw[size246,bO]) ?_)|(refine a0b rfl 246 _ _ rfl (g+1) _ U rfl rfl 246 hB (by rw[size246,bO]) (by rw[a0f,bO]) gF ?_));refine bodyPost_ret_by (v:=.agg U.toArray) (a1a 4 246 ⟨g+1,0,none⟩ results204 rfl hR) rfl ⟨by rw[HU.out],?_⟩;rw[HG.out];exact hl'
theorem c6v (S:Nat->Int)(w:World):
 Calls prog 168 #[.agg (ws 16 S).toArray] w λe w'=>e=.returned (.string (blkB S))/\Below w.heap.size w w':=by
 have aI:=a3a;obtain⟨Z,hZ⟩:∃Z,ws 16 (λ_=>0)=Z:=⟨_,rfl⟩;obtain⟨Y,hY⟩:∃Y,ws 16 S=Y:=⟨_,rfl⟩;rw[hZ]at aI;rw[hY];have iM:Y.length=16:=by rw[<-hY,a0f]
 have cU:Z.length=16:=by rw[<-hZ,a0f]
 have pT:∀v∈Y,v.oneCell'=true:=by rw[<-hY];exact a3f _ _
 have HY:Hid (ws 16 S=Y):=hY;clear hY hZ;have hL0:Blk (w.alloc (.cells Y.toArray 246)) w.heap.size 246 Y:=by
  have:=Blk.new w 246 Y.toArray;simpa using this
 have hS0:Blk ((w.alloc (.cells Y.toArray 246)).alloc (.cells Z.toArray 246)) (w.heap.size+1) 246 Z:=by
  have:=Blk.new (w.alloc (.cells Y.toArray 246)) 246 Z.toArray;simpa using this
 have hb0:Below w.heap.size w ((w.alloc (.cells Y.toArray 246)).alloc (.cells Z.toArray 246)):=((qw _ w).alloc (ql _) _).alloc (by simp) _;go_enter func168,ntmps168;go_wp2_with(first|(refine a0a rfl 246 _ rfl w.heap.size rfl 246 Y _ hL0 underlying246 rfl (by rw[size246,iM]) ?_)|(refine a0b rfl 246 _ _ rfl (w.heap.size+1) Z Y rfl rfl 246 hS0 (by rw[size246,iM]) (by rw[cU,iM]) pT ?_));have hn:Blk (((w.alloc (.cells Y.toArray 246)).alloc (.cells Z.toArray 246)).setRow (w.heap.size+1) Y.toArray) (w.heap.size+1) 246 (ws 16 S):=by
  rw[HY.out];exact hS0.setRow
 have hs:Blk (((w.alloc (.cells Y.toArray 246)).alloc (.cells Z.toArray 246)).setRow (w.heap.size+1) Y.toArray) w.heap.size 246 (ws 16 S):=by
  rw[HY.out];exact(hL0.alloc _).setRowOther (by omega) _
 have hb1:Below w.heap.size w (((w.alloc (.cells Y.toArray 246)).alloc (.cells Z.toArray 246)).setRow (w.heap.size+1) Y.toArray):=below_setRow hb0 (by omega) _;clear hL0 hS0 hb0 aI iM cU pT HY;generalize(((w.alloc (.cells Y.toArray 246)).alloc (.cells Z.toArray 246)).setRow (w.heap.size+1) Y.toArray)=w0 at hn hs hb1⊢;obtain⟨g,y5⟩:∃g,w.heap.size=g:=⟨_,rfl⟩;rw[y5]at hn hs hb1⊢;have HG:Hid (w.heap.size=g):=y5;clear y5;go_loopw[7] (λi wr=>∃k:Nat,k<=20/\i=.int .i64 k/\Blk wr (g+1) 246 (ws 16 (rn S k))/\Blk wr g 246 (ws 16 S)/\Below g w wr) (λi _=>(20-intOf i).toNat)
 case atStart=>exact⟨0,by omega,rfl,hn,hs,hb1⟩
 case round=>
  clear hn hs hb1;obtain⟨k,hk,rfl,hn,hs,hl⟩:=hrel;by_cases p9:k<20
  ·have aT:(k:Int)<20:=(by omega);obtain⟨m,hm⟩:∃m:Nat,k%2=m:=⟨_,rfl⟩;have em:(k:Int)%2=(m:Int):=(by omega);have x8:=c7m (rn S k) m (by omega) wr;have HQ:Hid (ws 16 (rn S (k+1))=ws 16 (rq (rn S k) m 4)):=(by rw[<-hm];exact rfl);obtain⟨U,hU⟩:∃U,ws 16 (rn S k)=U:=⟨_,rfl⟩;obtain⟨V,hV⟩:∃V,ws 16 (rq (rn S k) m 4)=V:=⟨_,rfl⟩;have bO:U.length=16:=(by rw[<-hU,a0f]);have pU:V.length=16:=(by rw[<-hV,a0f]);have hVo:∀v∈V,v.oneCell'=true:=(by rw[<-hV];exact a3f _ _);rw[hU]at x8 hn;rw[hV]at x8 HQ;clear hU hV hm;have y8:∀w2,Below wr.heap.size wr w2->Blk w2 (g+1) 246 U/\Blk (w2.setRow (g+1) V.toArray) (g+1) 246 V/\Blk (w2.setRow (g+1) V.toArray) g 246 (ws 16 S)/\Below g w (w2.setRow (g+1) V.toArray):=by
    intro w2 hb;have h1:=hn.below hb hn.lt;refine⟨h1,h1.setRow,(hs.below hb hs.lt).setRowOther (by omega) _,below_setRow (hl.trans (hb.mono (Nat.le_of_lt hs.lt))) (by omega) _⟩
   go_wp2_with(first|(refine a0a rfl 246 _ rfl (g+1) rfl 246 U _ hn underlying246 rfl (by rw[size246,bO]) ?_)|(go_at_call 204;refine x8.mono ?_;rintro e w2 ⟨rfl,hb2⟩;obtain⟨hU2,hV2,hs2,hl2⟩:=y8 w2 hb2)|(refine a0b rfl 246 _ _ rfl (g+1) U V rfl rfl 246 hU2 (by rw[size246,pU]) (by rw[bO,pU]) hVo ?_));clear x8 y8 hU2 hb2 hn hs hl;generalize w2.setRow (g+1) V.toArray=w3 at hV2 hs2 hl2⊢;go_roundw
   case rel=>exact⟨k+1,by omega,by go_num,by rw[HQ.out];exact hV2,hs2,hl2⟩
   case measure=>simp[intOf];omega
  ·have hk20:k=20:=(by omega);subst hk20;rw[show((20:Nat):Int)=(20:Int)from rfl];have HO:Hid (∀i,out S i=(rn S 20 i+S i)%4294967296):=λi=>rfl;generalize rn S 20=R at hn HO;go_wp2_with fail;go_loopw[15] (λi wr=>∃q:Nat,q<=16/\i=.int .i64 q/\Blk wr (g+1) 246 (ws 16 (λi=>if i<q then(R i+S i)%4294967296 else R i))/\Blk wr g 246 (ws 16 S)/\Below g w wr) (λi _=>(16-intOf i).toNat)
   case atStart=>exact⟨0,by omega,rfl,hn,hs,hl⟩
   case round=>
    clear hn hs hl;obtain⟨q,hq,rfl,hn,hs,hl⟩:=hrel;by_cases aD:q<16
    ·have hq':(q:Int)<16:=(by omega);have cn:wr.cell? ⟨g+1,q,none⟩=some (.int .u32 (R q)):=by
      have:=hn.cell (a0z 16 _ q aD);rw[qn (by omega)]at this;exact this
     have cs:=hs.cell (a0z 16 S q aD);have fn:=hn.frozen q;obtain⟨V,hV⟩:∃V,IntKind.u32.wrap (R q+S q)=V:=⟨_,rfl⟩;have HV:Hid ((R q+S q)%4294967296=V):=(by rw[<-hV,IntKind.wrap_u32'];exact rfl);have hn2:Blk (wr.drew.setCell ⟨g+1,q,none⟩ (.int .u32 V)) (g+1) 246 (ws 16 (λi=>if i<q+1 then(R i+S i)%4294967296 else R i)):=by
      have hh:=hn.drew.setCell q (.int .u32 V);rw[a7p]at hh;rw[a4k 16 (λi=>if i<q+1 then(R i+S i)%4294967296 else R i) (λi=>if i=q then V else if i<q then(R i+S i)%4294967296 else R i) ?_]
      ·exact hh
      ·intro i _;show(if i<q+1 then(R i+S i)%4294967296 else R i)=if i=q then V else if i<q then(R i+S i)%4294967296 else R i;by_cases h1:i=q
       ·subst h1;rw[qp (by omega),qp rfl,HV.out]
       ·rw[qn h1];by_cases h2:i<q
        ·rw[qp h2,qp (by omega)]
        ·rw[qn h2,qn (by omega)]
     have hs2:Blk (wr.drew.setCell ⟨g+1,q,none⟩ (.int .u32 V)) g 246 (ws 16 S):=hs.drew.setOther (by omega) q _;have hl2:Below g w (wr.drew.setCell ⟨g+1,q,none⟩ (.int .u32 V)):=hl.drew.setCell (by show g<=g+1;omega) _;have es:=hs2.cell (a0z 16 S q aD);clear hn hs hl HV;go_wp2_with fail;refine wp_region_noPanic ?_;refine wp_region_held_drew (S:=λz=>z.cell? ⟨g,q,none⟩=some (.int .u32 (S q))) (by kernel_rfl) cs (λp8=>?_);refine tkH 0 ?_;go_simp;refine tkH 1 ?_;go_simp;refine tkH 3 ?_;go_simp;refine tkH 4 ?_;go_simp;refine tkH 5 ?_;go_simp;refine rdH 2 λK hK=>?_;go_simp;refine hK.out _ _ cs (λp8=>?_);clear hK K;refine tkH 6 ?_;go_simp;refine tkH 7 ?_;go_simp;refine rdH 8 λK hK=>?_;go_simp;refine hK.out _ _ es (λp8=>?_);clear hK K;refine wpAnyH_done (by kernel_rfl) ?_ _;refine NoPanic.normal ?_;have hn3:Blk (wr.setCell ⟨g+1,q,none⟩ (.int .u32 V)).drew (g+1) 246 _:=hn2;have hs3:Blk (wr.setCell ⟨g+1,q,none⟩ (.int .u32 V)).drew g 246 _:=hs2;have hl3:Below g w (wr.setCell ⟨g+1,q,none⟩ (.int .u32 V)).drew:=hl2;clear hn2 hs2 hl2 es cs cn fn hV;generalize(wr.setCell ⟨g+1,q,none⟩ (.int .u32 V)).drew=w4 at hn3 hs3 hl3⊢;go_wp2_with fail;go_roundw
     case rel=>exact⟨q+1,by omega,by go_num,hn3,hs3,hl3⟩
     case measure=>simp[intOf];omega
    ·have hq16:q=16:=(by omega);subst hq16;have bM:At wr (some ⟨g+1,0,none⟩) 16 (out S):=.inr ⟨g+1,0,rfl,λi hi=>by
      rw[Nat.zero_add,HO.out i];have:=hn.cell (a0z 16 _ i hi);rw[qp hi]at this;exact this⟩
     have x8:=a3w (some ⟨g+1,0,none⟩) 16 16 (out S) wr (by omega) bM (λi _=>e2j S i);rw[show strOfNums (a1x four (out S) 16)=blkB S from rfl]at x8;have aY:g<=wr.heap.size:=Nat.le_of_lt hs.lt;clear bM hn hs HO;go_wp2_with(go_at_call 203;refine x8.mono ?_;rintro e w5 ⟨rfl,hb5⟩);go_ret;refine⟨rfl,?_⟩;rw[HG.out];exact hl.trans (hb5.mono aY)
def cB:BA:=⟨#[101,120,112,97,110,100,32,51,50,45,98,121,116,101,32,107]⟩
theorem e0x (i:Nat)(h:i<4):a0h le4 cB i=cst i:=by
 have e:i=0\/i=1\/i=2\/i=3:=by omega
 rcases e with rfl|rfl|rfl|rfl<;>decide+kernel
def wB (c:Int):BA:=strOfNums (a1x four (λ_=>c) 1)
theorem a7z (c:Int):(wB c).size=4:=by unfold wB;rw[strOfNums_size,a1h four a3u]
theorem e3l (c:Int)(h:W32 c):le4 (bt (wB c) 0) (bt (wB c) 1) (bt (wB c) 2) (bt (wB c) 3)=c:=by
 obtain⟨h0,h1⟩:=h;have e:wB c=strOfNums (four c):=rfl;have hl:∀x∈four c,0<=x/\x<=255:=by
  intro x hx;simp only[four,List.mem_cons,List.not_mem_nil,or_false]at hx;rcases hx with rfl|rfl|rfl|rfl<;>omega
 rw[e,a3q _ hl 0 (by rw[a3u];decide),a3q _ hl 1 (by rw[a3u];decide),a3q _ hl 2 (by rw[a3u];decide),a3q _ hl 3 (by rw[a3u];decide)];simp only[four,le4,List.getElem_cons_zero,List.getElem_cons_succ];omega
def tB (key nonce:BA)(c:Int):BA:=cB++key++wB c++nonce
theorem e3u (key nonce:BA)(c:Int)(hk:key.size=32)(hn:nonce.size=12):(tB key nonce c).size=64:=by
 unfold tB;simp only[ByteArray.size_append,a7z,hk,hn,show cB.size=16 from rfl]
theorem b7z (key nonce:BA)(c:Int)(hk:key.size=32)(j:Nat)(h:j<16):bt (tB key nonce c) j=bt cB j:=by
 unfold tB;rw[a1q _ _ _ (by simp only[ByteArray.size_append,hk,show cB.size=16 from rfl,a7z];omega),a1q _ _ _ (by simp only[ByteArray.size_append,hk,show cB.size=16 from rfl];omega),a1q _ _ _ (by rw[show cB.size=16 from rfl];exact h)]
theorem b7y (key nonce:BA)(c:Int)(hk:key.size=32)(j:Nat)(h:j<32):bt (tB key nonce c) (16+j)=bt key j:=by
 unfold tB;rw[a1q _ _ _ (by simp only[ByteArray.size_append,hk,show cB.size=16 from rfl,a7z];omega),a1q _ _ _ (by simp only[ByteArray.size_append,hk,show cB.size=16 from rfl];omega),a1o _ _ _ (by rw[show cB.size=16 from rfl];omega),show cB.size=16 from rfl,Nat.add_sub_cancel_left]
theorem b7w (key nonce:BA)(c:Int)(hk:key.size=32)(j:Nat)(h:j<4):bt (tB key nonce c) (48+j)=bt (wB c) j:=by
 unfold tB;rw[a1q _ _ _ (by simp only[ByteArray.size_append,hk,show cB.size=16 from rfl,a7z];omega),a1o _ _ _ (by simp only[ByteArray.size_append,hk,show cB.size=16 from rfl];omega)];simp only[ByteArray.size_append,hk,show cB.size=16 from rfl];rw[show 48+j-(16+32)=j by omega]
theorem b7x (key nonce:BA)(c:Int)(hk:key.size=32)(j:Nat):bt (tB key nonce c) (52+j)=bt nonce j:=by
 unfold tB;rw[a1o _ _ _ (by simp only[ByteArray.size_append,hk,show cB.size=16 from rfl,a7z];omega)];simp only[ByteArray.size_append,hk,show cB.size=16 from rfl,a7z];rw[show 52+j-(16+32+4)=j by omega]
theorem d7g (key nonce:BA)(c:Int)(hk:key.size=32)(hc:W32 c)(i:Nat)(h:i<16):a0h le4 (tB key nonce c) i=stI key nonce c i:=by
 unfold stI;by_cases h1:i<4
 ·rw[qp h1,<-e0x i h1];unfold a0h;rw[b7z key nonce c hk _ (by omega),b7z key nonce c hk _ (by omega),b7z key nonce c hk _ (by omega),b7z key nonce c hk _ (by omega)]
 ·rw[qn h1];by_cases h2:i<12
  ·rw[qp h2];unfold a0h;have e:i*4=16+(i-4)*4:=(by omega);rw[e];simp only[Nat.add_assoc];rw[b7y key nonce c hk _ (by omega),b7y key nonce c hk _ (by omega),b7y key nonce c hk _ (by omega),b7y key nonce c hk _ (by omega)]
  ·rw[qn h2];by_cases h3:i<13
   ·rw[qp h3];obtain rfl:i=12:=(by omega);unfold a0h;rw[show 12*4=48+0 from rfl,show 48+0+1=48+1 from rfl,show 48+0+2=48+2 from rfl,show 48+0+3=48+3 from rfl,b7w key nonce c hk 0 (by omega),b7w key nonce c hk 1 (by omega),b7w key nonce c hk 2 (by omega),b7w key nonce c hk 3 (by omega)];exact e3l c hc
   ·rw[qn h3];unfold a0h;have e:i*4=52+(i-13)*4:=(by omega);rw[e];simp only[Nat.add_assoc];rw[b7x key nonce c hk,b7x key nonce c hk,b7x key nonce c hk,b7x key nonce c hk]
theorem c6x (key nonce:BA)(c:Int)(hk:key.size=32)(hn:nonce.size=12)(hc:W32 c)(w:World):
 Calls prog 167 #[.string key,.string nonce,.int .u32 c] w λe w'=>e=.returned (.tuple #[.agg (ws 16 (stI key nonce c)).toArray,.int .i64 0])/\Below w.heap.size w w':=by
 have aI:=a3a;obtain⟨Z,hZ⟩:∃Z,ws 16 (λ_=>0)=Z:=⟨_,rfl⟩;rw[hZ]at aI;have cU:Z.length=16:=by rw[<-hZ,a0f]
 clear hZ;have hA0:Blk ((w.alloc (.cells Z.toArray 246)).alloc (.cells Z.toArray 246)) w.heap.size 246 Z:=by
  have:=(Blk.new w 246 Z.toArray).alloc (.cells Z.toArray 246);simpa using this
 have hB0:Blk ((w.alloc (.cells Z.toArray 246)).alloc (.cells Z.toArray 246)) (w.heap.size+1) 246 Z:=by
  have:=Blk.new (w.alloc (.cells Z.toArray 246)) 246 Z.toArray;simpa using this
 have hl0:Below w.heap.size w ((w.alloc (.cells Z.toArray 246)).alloc (.cells Z.toArray 246)):=((qw _ w).alloc (ql _) _).alloc (by simp) _;have qK:(((key.size:Nat):Int) !=32)=false:=by simp;omega
 have hnI:(((nonce.size:Nat):Int) !=12)=false:=by simp;omega
 have HT:Hid ((tB key nonce c).size=64):=e3u key nonce c hk hn;have HW:Hid (∀i,i<16->a0h le4 (tB key nonce c) i=stI key nonce c i):=d7g key nonce c hk hc;have lQ:key.size<=32:=by omega
 have jL:nonce.size<=12:=by omega
 have HK:Hid (key.size=32):=hk;clear hk hn;go_enter func167,ntmps167;go_wp2_with fail;have bM:At (((w.alloc (.cells Z.toArray 246)).alloc (.cells Z.toArray 246)).alloc (.cells #[.int .u32 c] 195)) (some ⟨w.heap.size+1+1,0,none⟩) 1 (λ_=>c):=by
  refine .inr ⟨w.heap.size+1+1,0,rfl,λi hi=>?_⟩;obtain rfl:i=0:=by omega
  have hb:Blk (((w.alloc (.cells Z.toArray 246)).alloc (.cells Z.toArray 246)).alloc (.cells #[.int .u32 c] 195)) (w.heap.size+1+1) 195 [.int .u32 c]:=by
   have:=Blk.new ((w.alloc (.cells Z.toArray 246)).alloc (.cells Z.toArray 246)) 195 #[.int .u32 c];simpa using this
  exact hb.cell rfl
 have hA1:=hA0.alloc (.cells #[.int .u32 c] 195);have hB1:=hB0.alloc (.cells #[.int .u32 c] 195);have hl1:=hl0.alloc (o:=.cells #[.int .u32 c] 195) (by simp;omega);refine(a3w _ 1 1 (λ_=>c) _ (by omega) bM (λi _=>hc)).mono ?_;rintro e w1 ⟨rfl,hb1⟩;have hA2:=hA1.below hb1 hA1.lt;have hB2:=hB1.below hb1 hB1.lt;have hl2:Below w.heap.size w w1:=hl1.trans (hb1.mono (by simp;omega));clear bM hA0 hB0 hl0 hA1 hB1 hl1 hb1 aI;rw[show strOfNums (a1x four (λ_=>c) 1)=wB c from rfl];obtain⟨F,hF⟩:∃F,wB c=F:=⟨_,rfl⟩;have hFs:F.size<=4:=by rw[<-hF,a7z];omega
 obtain⟨T,hTe⟩:∃T,(⟨#[101,120,112,97,110,100,32,51,50,45,98,121,116,101,32,107]⟩:BA)++key++F++nonce=T:=⟨_,rfl⟩;have mP:tB key nonce c=T:=by rw[<-hTe,<-hF];rfl
 rw[hF];have hT64:T.size=64:=by rw[<-mP];exact HT.out
 have HW':Hid (∀i,i<16->a0h le4 T i=stI key nonce c i):=by rw[<-mP];exact HW.out
 clear HT HW hF mP;go_wp2_with fail;obtain⟨g,y5⟩:∃g,w.heap.size=g:=⟨_,rfl⟩;rw[y5]at hA2 hB2 hl2⊢;have HG:Hid (w.heap.size=g):=y5;clear y5 hTe;have pZ:=b3w T w1 (by omega) (by omega);rw[hT64]at pZ;refine pZ.mono ?_;rintro e w2 ⟨rfl,x9,t8⟩;clear pZ;have hA3:=hA2.below t8 hA2.lt;have hB3:=hB2.below t8 hB2.lt;have hl3:Below g w w2:=hl2.trans (t8.mono (Nat.le_of_lt hA2.lt));obtain⟨L,hL⟩:∃L,ws 16 (stI key nonce c)=L:=⟨_,rfl⟩;have eE:L.length=16:=by rw[<-hL,a0f]
 have gS:∀v∈L,v.oneCell'=true:=by rw[<-hL];exact a3f _ _
 have dA:∀(j:Nat) v,L[j]?=some v->w2.cell? ((⟨w1.heap.size,0,none⟩:Addr).add j)=some v:=by
  intro j v hj;rw[Addr.add_mid,Nat.zero_add];have hj16:j<16:=by
   rcases Nat.lt_or_ge j 16 with h|h
   ·exact h
   ·rw[List.getElem?_eq_none (by rw[eE];exact h)]at hj;cases hj
  rw[World.ownsRow.cellAt x9 j (by omega),<-hj,<-hL,a0z 16 _ j hj16,<-HW'.out j hj16];simp[hj16]
 have HL:Hid (ws 16 (stI key nonce c)=L):=hL;clear hL x9 t8 hA2 hB2 hl2 HW';have r6:=run_copy_row prog w2 254 254 3 195 (g+1) 0 16 16 ⟨w1.heap.size,0,none⟩ 16 16 Z.toArray 246 L underlying254 size195 hB3 (by rw[eE];rfl) dA (by rw[eE];simp[cU]) gS;have e16:List.take 0 Z.toArray.toList++L++List.drop (0+16) Z.toArray.toList=L:=by
  rw[List.toList_toArray,List.take_zero,List.nil_append,Nat.zero_add,List.drop_eq_nil_of_le (by rw[cU];exact ql _),List.append_nil]
 rw[eE,e16]at r6;clear dA e16;have hB4:Blk (w2.setRow (g+1) L.toArray) (g+1) 246 L:=hB3.setRow;have hA4:Blk (w2.setRow (g+1) L.toArray) g 246 Z:=hA3.setRowOther (by omega) _;have hl4:Below g w (w2.setRow (g+1) L.toArray):=below_setRow hl3 (by omega) _;have hR:(loadVar 246 ⟨g,0,none⟩).run prog ((w2.setRow (g+1) L.toArray).setRow g L.toArray)=.ok (.agg L.toArray) ((w2.setRow (g+1) L.toArray).setRow g L.toArray):=by
  have h1:Blk ((w2.setRow (g+1) L.toArray).setRow g L.toArray) g 246 (ws 16 (stI key nonce c)):=by rw[HL.out];exact hA4.setRow
  have h2:=b7h h1;rw[HL.out]at h2;exact h2
 have hl5:=below_setRow hl4 (ql g) L.toArray;go_wp2_with(first|(refine a0a rfl 246 _ rfl (g+1) rfl 246 L _ hB4 underlying246 rfl (by rw[size246,eE]) ?_)|(refine a0b rfl 246 _ _ rfl g Z L rfl rfl 246 hA4 (by rw[size246,eE]) (by rw[cU,eE]) gS ?_));refine bodyPost_ret_by (v:=.tuple #[.agg L.toArray,.int .i64 0]) (results_cell_tmp 6 7 246 ⟨g,0,none⟩ results167 rfl hR rfl) rfl ⟨by rw[HL.out],?_⟩;rw[HG.out];exact hl5
theorem e1d (key nonce:BA)(c:Int)(hk:key.size=32)(hn:nonce.size=12)(hc:W32 c)(w:World):
 Calls prog 169 #[.string key,.string nonce,.int .u32 c] w λe w'=>e=.returned (.tuple #[.string (blkB (stI key nonce c)),.int .i64 0])/\Below w.heap.size w w':=by
 have x8:=c6x key nonce c hk hn hc w;have bS:=λw=>c6v (stI key nonce c) w;have aI:=a3a;obtain⟨Z,hZ⟩:∃Z,ws 16 (λ_=>0)=Z:=⟨_,rfl⟩;obtain⟨L,hL⟩:∃L,ws 16 (stI key nonce c)=L:=⟨_,rfl⟩;rw[hZ]at aI;rw[hL]at x8 bS;have cU:Z.length=16:=by rw[<-hZ,a0f]
 have lB:L.length=16:=by rw[<-hL,a0f]
 have gS:∀v∈L,v.oneCell'=true:=by rw[<-hL];exact a3f _ _
 clear hZ hL hk hn;generalize blkB (stI key nonce c)=X at bS⊢;go_enter func169,ntmps169;go_wp2_with fail;refine x8.mono ?_;rintro e w1 ⟨rfl,hb1⟩;have hB:Blk (w1.alloc (.cells Z.toArray 246)) w1.heap.size 246 Z:=by
  have:=Blk.new w1 246 Z.toArray;simpa using this
 have hB2:Blk ((w1.alloc (.cells Z.toArray 246)).setRow w1.heap.size L.toArray) w1.heap.size 246 L:=hB.setRow;have hl:Below w.heap.size w ((w1.alloc (.cells Z.toArray 246)).setRow w1.heap.size L.toArray):=below_setRow (hb1.alloc hb1.size _) hb1.size _;clear x8;go_wp2_with(first|(refine a0b rfl 246 _ _ rfl w1.heap.size Z L rfl rfl 246 hB (by rw[size246,lB]) (by rw[cU,lB]) gS ?_)|(refine a0a rfl 246 _ rfl w1.heap.size rfl 246 L _ hB2 underlying246 rfl (by rw[size246,lB]) ?_)|(go_at_call 168;refine(bS _).mono ?_;rintro e w2 ⟨rfl,hb2⟩));go_ret2;exact⟨rfl,hl.trans (hb2.mono hl.size)⟩
theorem e0n (key nonce s:BA)(c:Int)(k:Nat)(h:64*k<s.size):
 (cryB (ks key nonce c) s).extract 0 (64*k)++xorB (s.extract (64*k) s.size) (blkB (stI key nonce ((c+(k:Int))%4294967296)))=(cryB (ks key nonce c) s).extract 0 (64*(k+1)):=by
 apply a2q
 ·rw[ByteArray.size_append,a4a,a2r];simp only[ByteArray.size_extract,a1u];omega
 ·intro i hi;rw[ByteArray.size_append,a4a,a2r]at hi;simp only[ByteArray.size_extract,a1u]at hi;rw[b7v _ (64*(k+1)) i (by omega) (by rw[a1u];omega),b4j _ (a7h key nonce c) s i (by omega)];by_cases p9:i<64*k
  ·rw[a1q _ _ _ (by simp only[ByteArray.size_extract,a1u];omega),b7v _ (64*k) i p9 (by rw[a1u];omega),b4j _ (a7h key nonce c) s i (by omega)]
  ·have es:((cryB (ks key nonce c) s).extract 0 (64*k)).size=64*k:=(by simp only[ByteArray.size_extract,a1u];omega);rw[a1o _ _ _ (by rw[es];omega),es,b7u _ _ _ (by rw[a2r];simp only[ByteArray.size_extract];omega),a2w s (64*k) s.size _ (ql _) (by omega),show 64*k+(i-64*k)=i by omega];unfold ks;rw[show i/64=k by omega,show i%64=i-64*k by omega]
theorem d7m (key nonce:BA)(x y:Int):(ws 16 (stI key nonce x)).set 12 (.int .u32 y)=ws 16 (stI key nonce y):=by
 rw[a7p];apply a4k;intro i hi;unfold stI;by_cases h:i=12
 ·subst h;rfl
 ·rw[qn h];by_cases h1:i<4
  ·rw[qp h1,qp h1]
  ·rw[qn h1,qn h1];by_cases h2:i<12
   ·rw[qp h2,qp h2]
   ·rw[qn h2,qn h2,qn (by omega),qn (by omega)]
theorem c6n (key nonce s:BA)(c:Int)(hk:key.size=32)(hn:nonce.size=12)(hc:W32 c)(hs:s.size<=65536)(w:World):
 Calls prog 118 #[.string key,.string nonce,.int .u32 c,.string s] w λe w'=>e=.returned (.tuple #[.string (cryB (ks key nonce c) s),.int .i64 0])/\Below w.heap.size w w':=by
 have x8:=c6x key nonce c hk hn hc w;have aI:=a3a;obtain⟨Z,hZ⟩:∃Z,ws 16 (λ_=>0)=Z:=⟨_,rfl⟩;obtain⟨L,hL⟩:∃L,ws 16 (stI key nonce c)=L:=⟨_,rfl⟩;rw[hZ]at aI;rw[hL]at x8;have cU:Z.length=16:=by rw[<-hZ,a0f]
 have lB:L.length=16:=by rw[<-hL,a0f]
 have gS:∀v∈L,v.oneCell'=true:=by rw[<-hL];exact a3f _ _
 have hsI:¬((65536:Int)<(s.size:Int)):=by omega
 have HL:Hid (ws 16 (stI key nonce c)=L):=hL;clear hZ hL hk hn;go_enter func118,ntmps118;go_wp2_with fail;refine x8.mono ?_;rintro e w1 ⟨rfl,hb1⟩;have hB:Blk (w1.alloc (.cells Z.toArray 246)) w1.heap.size 246 Z:=by
  have:=Blk.new w1 246 Z.toArray;simpa using this
 have hB1:Blk ((w1.alloc (.cells Z.toArray 246)).setRow w1.heap.size L.toArray) w1.heap.size 246 L:=hB.setRow;have aA:((w1.alloc (.cells Z.toArray 246)).setRow w1.heap.size L.toArray).heap.size=w1.heap.size+1:=by simp[World.setRow]
 have hl:Below w.heap.size w ((w1.alloc (.cells Z.toArray 246)).setRow w1.heap.size L.toArray):=below_setRow (hb1.alloc hb1.size _) hb1.size _;clear x8;go_wp2_with(refine a0b rfl 246 _ _ rfl w1.heap.size Z L rfl rfl 246 hB (by rw[size246,lB]) (by rw[cU,lB]) gS ?_);have cV:=hb1.size;clear hB aI cU lB gS hb1;generalize(w1.alloc (.cells Z.toArray 246)).setRow w1.heap.size L.toArray=w2 at hB1 aA hl⊢;obtain⟨g,y5⟩:∃g,w1.heap.size=g:=⟨_,rfl⟩;rw[y5]at hB1 aA cV⊢;clear y5;have hF0:BufAt (w2.alloc (.cells #[.pointer none,.slice none 0 0] 230)) (g+1) ⟨#[]⟩:=by
  have:=BufAt.new w2;rw[aA]at this;exact this
 have hB2:Blk (w2.alloc (.cells #[.pointer none,.slice none 0 0] 230)) g 246 (ws 16 (stI key nonce ((c+((0:Nat):Int))%4294967296))):=by
  rw[show(c+((0:Nat):Int))%4294967296=c by have h1:=hc.1;have h2:=hc.2;omega,HL.out];exact hB1.alloc _
 have hl2:Below w.heap.size w (w2.alloc (.cells #[.pointer none,.slice none 0 0] 230)):=hl.alloc (by rw[aA];omega) _;clear hB1 aA hl HL;generalize w2.alloc (.cells #[.pointer none,.slice none 0 0] 230)=w3 at hF0 hB2 hl2⊢;obtain⟨M,hM1,hM2⟩:∃M,s.size<=64*M/\64*M<s.size+64:=⟨(s.size+63)/64,by omega,by omega⟩;have hMs:(64*M:Nat)<=65600:=by omega
 go_loopw[13] (λi wr=>∃k:Nat,k<=M/\i=.int .i64 (64*(k:Int))/\Blk wr g 246 (ws 16 (stI key nonce ((c+(k:Int))%4294967296)))/\BufAt wr (g+1) ((cryB (ks key nonce c) s).extract 0 (64*k))/\Below w.heap.size w wr) (λi _=>(64*(M:Int)-intOf i).toNat)
 case atStart=>
  refine⟨0,by omega,rfl,hB2,?_,hl2⟩;rw[show(cryB (ks key nonce c) s).extract 0 (64*0)=⟨#[]⟩ by
   apply a2q
   ·rw[ByteArray.size_extract];simp;rfl
   ·intro i hi;rw[ByteArray.size_extract]at hi;omega]
  exact hF0
 case round=>
  clear hB2 hF0 hl2;obtain⟨k,hk,rfl,hB,hF,hl⟩:=hrel;by_cases p9:k<M
  ·have hsk:64*k<s.size:=(by omega);have rZ:64*(k:Int)<(s.size:Int):=(by omega);have hleI:64*(k:Int)<=(s.size:Int):=(by omega);have h0I:(0:Int)<=64*(k:Int):=(by omega);have t0:(64*(k:Int)).toNat=64*k:=(by omega);have bI:=e0n key nonce s c k hsk;have tV:((cryB (ks key nonce c) s).extract 0 (64*k)).size<=65536:=(by rw[ByteArray.size_extract,a1u];omega);have gQ:(xorB (s.extract (64*k) s.size) (blkB (stI key nonce ((c+(k:Int))%4294967296)))).size<=64:=(by rw[a4a,a2r];omega);obtain⟨x,hx⟩:∃x,(c+(k:Int))%4294967296=x:=⟨_,rfl⟩;have HX:Hid ((x+1)%4294967296=(c+((k+1:Nat):Int))%4294967296):=(by rw[<-hx];unfold Hid;omega);rw[hx]at hB bI gQ;clear hx;have cL:=λw=>c6v (stI key nonce x) w;have qV:=λw=>c1o (s.extract (64*k) s.size) (blkB (stI key nonce x)) w (by unfold maxLen;rw[ByteArray.size_extract];omega) (by unfold maxLen;rw[a2r];omega) (by rw[ByteArray.size_extract];omega);have hc12:(ws 16 (stI key nonce x))[12]?=some (.int .u32 x):=a0z 16 _ 12 (by decide);have dU:=d7m key nonce x ((x+1)%4294967296);obtain⟨U,hU⟩:∃U,ws 16 (stI key nonce x)=U:=⟨_,rfl⟩;have bO:U.length=16:=(by rw[<-hU,a0f]);rw[hU]at hB cL dU hc12;generalize blkB (stI key nonce x)=X at cL qV bI gQ;generalize(cryB (ks key nonce c) s).extract 0 (64*k)=P at hF tV bI;obtain⟨q,hq⟩:∃q,s.extract (64*k) s.size=q:=⟨_,rfl⟩;rw[hq]at qV bI gQ;generalize xorB q X=Y at qV bI gQ;clear hU;go_wp2_with fail;refine wp_region_noPanic ?_;refine wp_region_held_drew (S:=λ_=>True) (by kernel_rfl) trivial (λp8=>?_);refine tkH 0 ?_;go_simp;refine tkH 1 ?_;go_simp;refine tkH 2 ?_;go_simp;refine rdH 3 λK hK=>?_;refine b6b rfl 246 _ rfl g rfl 246 U _ hB.drew underlying246 rfl (by rw[size246,bO]) ?_;refine hK.out _ _ trivial (λp8=>?_);clear hK K;go_simp;refine rdH 4 λK hK=>?_;go_simp;go_at_call 168;refine(cL _).mono ?_;rintro e wa ⟨rfl,ba⟩;refine hK.out _ _ trivial (λp8=>?_);clear hK K;refine rdH 5 λK hK=>?_;go_simp;go_at_call 160;refine(qV _).mono ?_;rintro e wb ⟨rfl,bb⟩;refine hK.out _ _ trivial (λp8=>?_);clear hK K;refine rdH 6 λK hK=>?_;go_simp;go_at_call 151;have hFb:BufAt wb (g+1) P:=(hF.drew.below ba).below bb;have hBb:Blk wb g 246 U:=(hB.drew.below ba hB.drew.lt).below bb (Nat.lt_of_lt_of_le hB.drew.lt ba.size);have hlb:Below w.heap.size w wb:=(hl.drew.trans (ba.mono hl.drew.size)).trans (bb.mono (Nat.le_trans hl.drew.size ba.size));refine(d5t (g+1) P Y wb hFb (by omega)).mono ?_;rintro e wc ⟨rfl,hFc,bc⟩;refine hK.out _ _ trivial (λp8=>?_);clear hK K;refine wpAnyH_done (by kernel_rfl) ?_ _;refine NoPanic.normal ?_;have qC:Blk wc g 246 U:=hBb.below bc (by omega);have hlc:Below w.heap.size w wc:=hlb.trans (bc.mono (by omega));rw[bI]at hFc;clear ba bb bc hFb hBb hlb cL qV hB hF hl;have c12:=qC.cell hc12;have f12:=qC.frozen 12;obtain⟨y,hy⟩:∃y,(x+1)%4294967296=y:=⟨_,rfl⟩;have gT:=qC.setCell 12 (.int .u32 y);have hFd:=hFc.set (k:=g) (by omega) 12 (.int .u32 y);have lP:Below w.heap.size w (wc.setCell ⟨g,12,none⟩ (.int .u32 y)):=hlc.setCell cV _;rw[hy]at dU;rw[dU]at gT;have HY:Hid (y=(c+((k+1:Nat):Int))%4294967296):=(by rw[<-hy];exact HX.out);clear dU bI qC hFc hlc HX;go_wp2_with fail;clear c12 f12 hc12;generalize wc.setCell ⟨g,12,none⟩ (.int .u32 y)=wd at gT hFd lP⊢;refine⟨⟨k+1,by omega,by go_num,by rw[<-HY.out];exact gT,hFd,lP⟩,?_⟩;simp[intOf];omega
  ·have pL:k=M:=(by omega);subst pL;have sM:¬(64*(k:Int)<(s.size:Int)):=(by omega);rw[b6a _ _ (by rw[a1u];exact hM1)]at hF;have hst:=c9t (g+1) (cryB (ks key nonce c) s) wr hF;obtain⟨R,hR⟩:∃R,cryB (ks key nonce c) s=R:=⟨_,rfl⟩;rw[hR]at hst;have HR:Hid (cryB (ks key nonce c) s=R):=hR;clear hB hF hM1 hM2 hR;go_wp2_with(go_at_call 153;refine hst.mono ?_;rintro e w9 ⟨rfl,hb9⟩);go_ret2;refine⟨?_,hl.trans (hb9.mono (by omega))⟩;rw[HR.out];rfl
theorem zero321:(prog.info? 321).map (λi=>i.zero)=some (some (.agg (ws 4 (λ_=>0)).toArray)):=by kernel_rfl
theorem size321:(prog.info? 321).map (·.size)=some 4:=by kernel_rfl
theorem c1k (w:World):(zeroValue 321).run prog w=.ok (.agg (ws 4 (λ_=>0)).toArray) w:=by
 obtain⟨i,hi,hz⟩:=Option.map_eq_some_iff.1 zero321;simp[zeroValue,typeInfo,hi,hz]
theorem d7z (S:Nat->Int)(a b c d:Nat)(a16:a<16)(b16:b<16)(c16:c<16)(d16:d<16)(w:World):
 Calls prog 223 #[.agg (ws 16 S).toArray,.int .i64 (a:Int),.int .i64 (b:Int),.int .i64 (c:Int),.int .i64 (d:Int)] w λe w'=>e=.returned (.agg (ws 16 (qS S a b c d)).toArray)/\Below w.heap.size w w':=by
 have aI:=a3a;have hzq:=c1k;obtain⟨Z,hZ⟩:∃Z,ws 16 (λ_=>0)=Z:=⟨_,rfl⟩;obtain⟨Y,hY⟩:∃Y,ws 16 S=Y:=⟨_,rfl⟩;obtain⟨O,hO⟩:∃O,ws 4 (λ_=>0)=O:=⟨_,rfl⟩;rw[hZ]at aI;rw[hO]at hzq;rw[hY];have hOl:O.length=4:=by rw[<-hO,a0f]
 have fJ:Z.length=16:=by rw[<-hZ,a0f]
 have HY:Hid (ws 16 S=Y):=hY;clear hY hZ hO;go_enter func223,ntmps223;go_wp2_with fail;have hA0:Blk ((w.alloc (.cells Y.toArray 246)).alloc (.cells Z.toArray 246)) w.heap.size 246 (ws 16 S):=by
  rw[HY.out];have:=(Blk.new w 246 Y.toArray).alloc (.cells Z.toArray 246);simpa using this
 have hB0:Blk ((w.alloc (.cells Y.toArray 246)).alloc (.cells Z.toArray 246)) (w.heap.size+1) 246 Z:=by
  have:=Blk.new (w.alloc (.cells Y.toArray 246)) 246 Z.toArray;simpa using this
 have hl0:Below w.heap.size w ((w.alloc (.cells Y.toArray 246)).alloc (.cells Z.toArray 246)):=((qw _ w).alloc (ql _) _).alloc (by simp) _;clear aI HY;generalize(w.alloc (.cells Y.toArray 246)).alloc (.cells Z.toArray 246)=w0 at hA0 hB0 hl0⊢;obtain⟨g,y5⟩:∃g,w.heap.size=g:=⟨_,rfl⟩;rw[y5]at hA0 hB0 hl0⊢;have HG:Hid (w.heap.size=g):=y5;clear y5;have a16':(a:Int)<16:=by omega
 have b16':(b:Int)<16:=by omega
 have c16':(c:Int)<16:=by omega
 have d16':(d:Int)<16:=by omega
 have pA:=λw=>b4t (S a) (S b) (S c) (S d) w;have x5:∀z,Blk z g 246 (ws 16 S)->z.cell? ⟨g,a,none⟩=some (.int .u32 (S a))/\z.cell? ⟨g,b,none⟩=some (.int .u32 (S b))/\z.cell? ⟨g,c,none⟩=some (.int .u32 (S c))/\z.cell? ⟨g,d,none⟩=some (.int .u32 (S d)):=λz h=>⟨h.cell (a0z 16 S a a16),h.cell (a0z 16 S b b16),h.cell (a0z 16 S c c16),h.cell (a0z 16 S d d16)⟩;have HC:Hid (∀z,Blk z g 246 (ws 16 S)->z.cell? ⟨g,a,none⟩=some (.int .u32 (S a))/\z.cell? ⟨g,b,none⟩=some (.int .u32 (S b))/\z.cell? ⟨g,c,none⟩=some (.int .u32 (S c))/\z.cell? ⟨g,d,none⟩=some (.int .u32 (S d))):=x5;clear x5;refine wp_region_noPanic ?_;refine wp_region_held_drew (S:=λz=>z.cell? ⟨g,a,none⟩=some (.int .u32 (S a))/\z.cell? ⟨g,b,none⟩=some (.int .u32 (S b))/\z.cell? ⟨g,c,none⟩=some (.int .u32 (S c))/\z.cell? ⟨g,d,none⟩=some (.int .u32 (S d))) (by kernel_rfl) (HC.out _ hA0.drew) (λp8=>?_);refine tkH 0 ?_;go_simp;refine tkH 1 ?_;go_simp;refine tkH 3 ?_;go_simp;refine tkH 4 ?_;go_simp;refine tkH 6 ?_;go_simp;refine tkH 7 ?_;go_simp;refine tkH 9 ?_;go_simp;refine tkH 10 ?_;go_simp;refine wpAnyH_take (i:=2) (v:=?_) rfl (by kernel_rfl) (by kernel_rfl) (by kernel_rfl) (λ_ _ _ h=>h) (Or.inl ⟨by rfl,?_⟩) (by assumption) ?_;rotate_left
 ·rintro w ⟨s0,s1,s2,s3⟩;go_simp;try with_reducible rfl
 go_simp;refine wpAnyH_take (i:=5) (v:=?_) rfl (by kernel_rfl) (by kernel_rfl) (by kernel_rfl) (λ_ _ _ h=>h) (Or.inl ⟨by rfl,?_⟩) (by assumption) ?_;rotate_left
 ·rintro w ⟨s0,s1,s2,s3⟩;go_simp;try with_reducible rfl
 go_simp;refine wpAnyH_take (i:=8) (v:=?_) rfl (by kernel_rfl) (by kernel_rfl) (by kernel_rfl) (λ_ _ _ h=>h) (Or.inl ⟨by rfl,?_⟩) (by assumption) ?_;rotate_left
 ·rintro w ⟨s0,s1,s2,s3⟩;go_simp;try with_reducible rfl
 go_simp;refine wpAnyH_take (i:=11) (v:=?_) rfl (by kernel_rfl) (by kernel_rfl) (by kernel_rfl) (λ_ _ _ h=>h) (Or.inl ⟨by rfl,?_⟩) (by assumption) ?_;rotate_left
 ·rintro w ⟨s0,s1,s2,s3⟩;go_simp;try with_reducible rfl
 go_simp;refine wpAnyH_ready (rs:=[12,13]) (by kernel_rfl) (by simp) (AllReadyH.cons rfl (λK hK=>?_) (AllReadyH.cons rfl (λK hK=>?_) AllReadyH.nil))
 ·go_simp;go_at_call 242;refine(pA _).mono ?_;rintro e wx ⟨rfl,dP⟩;have qN:=hA0.drew.below dP hA0.drew.lt;have dX:=hB0.drew.below dP hB0.drew.lt;have hlx:Below g w wx:=hl0.drew.trans (dP.mono (Nat.le_of_lt hA0.drew.lt));have aY:=dX.lt;refine hK.out _ _ (HC.out _ qN) (λp8=>?_);clear hK K hA0 hB0 hl0 dP;have qD:=qN.alloc (.cells O.toArray 321);have uB:=dX.alloc (.cells O.toArray 321);have jO:=hlx.alloc (by omega:g<=wx.heap.size) (.cells O.toArray 321);have mQ:Blk (wx.alloc (.cells O.toArray 321)) wx.heap.size 321 O:=by
   have:=Blk.new wx 321 O.toArray;simpa using this
  have hgG:g+1<wx.heap.size:=aY;refine rdH 13 λK hK=>?_;go_simp;refine hK.out _ _ (HC.out _ qD) (λp8=>?_);clear hK K;clear qN dX hlx aY;obtain⟨G,tY⟩:∃G,wx.heap.size=G:=⟨_,rfl⟩;rw[tY]at mQ hgG⊢;clear tY;refine rdH 14 λK hK=>?_;refine a2v rfl 321 _ _ rfl G O [.int .u32 (qa (S a) (S b) (S c) (S d)),.int .u32 (qb (S a) (S b) (S c) (S d)),.int .u32 (qc (S a) (S b) (S c) (S d)),.int .u32 (qd (S a) (S b) (S c) (S d))] rfl rfl 321 mQ (by rw[size321];rfl) (by rw[hOl];rfl) (by intro v hv;simp at hv;rcases hv with rfl|rfl|rfl|rfl<;>rfl) ?_;have dI:=qD.setRowOther (by omega:g≠G) [.int .u32 (qa (S a) (S b) (S c) (S d)),.int .u32 (qb (S a) (S b) (S c) (S d)),.int .u32 (qc (S a) (S b) (S c) (S d)),.int .u32 (qd (S a) (S b) (S c) (S d))].toArray;have dW:=uB.setRowOther (by omega:g+1≠G) [.int .u32 (qa (S a) (S b) (S c) (S d)),.int .u32 (qb (S a) (S b) (S c) (S d)),.int .u32 (qc (S a) (S b) (S c) (S d)),.int .u32 (qd (S a) (S b) (S c) (S d))].toArray;have eX:=mQ.setRow (M:=[.int .u32 (qa (S a) (S b) (S c) (S d)),.int .u32 (qb (S a) (S b) (S c) (S d)),.int .u32 (qc (S a) (S b) (S c) (S d)),.int .u32 (qd (S a) (S b) (S c) (S d))]);have fQ:=below_setRow jO (by omega:g<=G) [.int .u32 (qa (S a) (S b) (S c) (S d)),.int .u32 (qb (S a) (S b) (S c) (S d)),.int .u32 (qc (S a) (S b) (S c) (S d)),.int .u32 (qd (S a) (S b) (S c) (S d))].toArray;refine hK.out _ _ (HC.out _ dI) (λp8=>?_);clear hK K;go_simp;refine wpAnyH_done (by kernel_rfl) ?_ _;refine NoPanic.normal ?_;clear qD uB mQ jO pA HC hOl;have y8:=Blk.four dI a b c d;have HQ:Hid (ws 16 (qS S a b c d)=ws 16 (qS S a b c d)):=rfl;obtain⟨U,hU⟩:∃U,ws 16 (qS S a b c d)=U:=⟨_,rfl⟩;rw[hU]at y8 HQ;have HU:Hid (ws 16 (qS S a b c d)=U):=hU;have bO:U.length=16:=by rw[<-hU,a0f]
  have gF:∀v∈U,v.oneCell'=true:=by rw[<-hU];exact a3f _ _
  clear hU HQ;generalize qa (S a) (S b) (S c) (S d)=va at dI dW eX fQ y8⊢;generalize qb (S a) (S b) (S c) (S d)=vb at dI dW eX fQ y8⊢;generalize qc (S a) (S b) (S c) (S d)=vc at dI dW eX fQ y8⊢;generalize qd (S a) (S b) (S c) (S d)=vd at dI dW eX fQ y8⊢;generalize World.setRow _ G _=wz at dI dW eX fQ y8⊢;have g0:=eX.cell (i:=0) rfl;have A1:=dI.setCell a (.int .u32 va);have G1:=eX.setOther (by omega:G≠g) a (.int .u32 va);have g1:=G1.cell (i:=1) rfl;have A2:=A1.setCell b (.int .u32 vb);have G2:=G1.setOther (by omega:G≠g) b (.int .u32 vb);have g2:=G2.cell (i:=2) rfl;have A3:=A2.setCell c (.int .u32 vc);have G3:=G2.setOther (by omega:G≠g) c (.int .u32 vc);have g3:=G3.cell (i:=3) rfl;have fz0:=dI.frozen a;have fz1:=A1.frozen b;have fz2:=A2.frozen c;have fz3:=A3.frozen d;obtain⟨u0,hu0⟩:=dI.hasCell a (by simp[a0f];exact a16);obtain⟨u1,hu1⟩:=A1.hasCell b (by simp[a0f];exact b16);obtain⟨u2,hu2⟩:=A2.hasCell c (by simp[a0f];exact c16);obtain⟨u3,hu3⟩:=A3.hasCell d (by simp[a0f];exact d16);have hB4:=(((dW.setOther (by omega:g+1≠g) a (.int .u32 va)).setOther (by omega:g+1≠g) b (.int .u32 vb)).setOther (by omega:g+1≠g) c (.int .u32 vc)).setOther (by omega:g+1≠g) d (.int .u32 vd);have hl4:Below g w ((((wz.setCell ⟨g,a,none⟩ (.int .u32 va)).setCell ⟨g,b,none⟩ (.int .u32 vb)).setCell ⟨g,c,none⟩ (.int .u32 vc)).setCell ⟨g,d,none⟩ (.int .u32 vd)):=(((fQ.setCell (ql _) _).setCell (ql _) _).setCell (ql _) _).setCell (ql _) _;have hR:(loadVar 246 ⟨g+1,0,none⟩).run prog (((((wz.setCell ⟨g,a,none⟩ (.int .u32 va)).setCell ⟨g,b,none⟩ (.int .u32 vb)).setCell ⟨g,c,none⟩ (.int .u32 vc)).setCell ⟨g,d,none⟩ (.int .u32 vd)).setRow (g+1) U.toArray)=.ok (.agg U.toArray) (((((wz.setCell ⟨g,a,none⟩ (.int .u32 va)).setCell ⟨g,b,none⟩ (.int .u32 vb)).setCell ⟨g,c,none⟩ (.int .u32 vc)).setCell ⟨g,d,none⟩ (.int .u32 vd)).setRow (g+1) U.toArray):=by
   have h1:Blk (((((wz.setCell ⟨g,a,none⟩ (.int .u32 va)).setCell ⟨g,b,none⟩ (.int .u32 vb)).setCell ⟨g,c,none⟩ (.int .u32 vc)).setCell ⟨g,d,none⟩ (.int .u32 vd)).setRow (g+1) U.toArray) (g+1) 246 (ws 16 (qS S a b c d)):=(by rw[HU.out];exact hB4.setRow);have h2:=b7h h1;rw[HU.out]at h2;exact h2
  have hl5:=below_setRow hl4 (by omega:g<=g+1) U.toArray;clear A1 A2 A3 G1 G2 G3 dI dW eX fQ;go_wp2_with(first|(refine a0a rfl 246 _ rfl g rfl 246 U _ ?_ underlying246 rfl (by rw[size246,bO]) ?_;exact y8)|(refine a0b rfl 246 _ _ rfl (g+1) Z U rfl rfl 246 ?_ (by rw[size246,bO]) (by rw[fJ,bO]) gF ?_;exact hB4));refine bodyPost_ret_by (v:=.agg U.toArray) (a1a 10 246 ⟨g+1,0,none⟩ results223 rfl hR) rfl ⟨by rw[HU.out],?_⟩;rw[HG.out];exact hl5
 ·go_simp;have hA1:=hA0.drew.alloc (.cells O.toArray 321);have hB1:=hB0.drew.alloc (.cells O.toArray 321);have hl1:=hl0.drew.alloc (Nat.le_of_lt hA0.drew.lt) (.cells O.toArray 321);have hG1:Blk (w0.drew.alloc (.cells O.toArray 321)) w0.heap.size 321 O:=by
   have:=Blk.new w0.drew 321 O.toArray;simpa using this
  have hgG:g+1<w0.heap.size:=hB0.lt;refine hK.out _ _ (HC.out _ hA1) (λp8=>?_);clear hK K;refine rdH 12 λK hK=>?_;go_simp;go_at_call 242;refine(pA _).mono ?_;rintro e wx ⟨rfl,dP⟩;have qD:=hA1.below dP hA1.lt;have uB:=hB1.below dP hB1.lt;have mQ:=hG1.below dP hG1.lt;have jO:Below g w wx:=hl1.trans (dP.mono (Nat.le_of_lt hA1.lt));refine hK.out _ _ (HC.out _ qD) (λp8=>?_);clear hK K;clear hA0 hB0 hl0 hA1 hB1 hG1 hl1 dP;obtain⟨G,tY⟩:∃G,w0.heap.size=G:=⟨_,rfl⟩;rw[tY]at mQ hgG⊢;clear tY;refine rdH 14 λK hK=>?_;refine a2v rfl 321 _ _ rfl G O [.int .u32 (qa (S a) (S b) (S c) (S d)),.int .u32 (qb (S a) (S b) (S c) (S d)),.int .u32 (qc (S a) (S b) (S c) (S d)),.int .u32 (qd (S a) (S b) (S c) (S d))] rfl rfl 321 mQ (by rw[size321];rfl) (by rw[hOl];rfl) (by intro v hv;simp at hv;rcases hv with rfl|rfl|rfl|rfl<;>rfl) ?_;have dI:=qD.setRowOther (by omega:g≠G) [.int .u32 (qa (S a) (S b) (S c) (S d)),.int .u32 (qb (S a) (S b) (S c) (S d)),.int .u32 (qc (S a) (S b) (S c) (S d)),.int .u32 (qd (S a) (S b) (S c) (S d))].toArray;have dW:=uB.setRowOther (by omega:g+1≠G) [.int .u32 (qa (S a) (S b) (S c) (S d)),.int .u32 (qb (S a) (S b) (S c) (S d)),.int .u32 (qc (S a) (S b) (S c) (S d)),.int .u32 (qd (S a) (S b) (S c) (S d))].toArray;have eX:=mQ.setRow (M:=[.int .u32 (qa (S a) (S b) (S c) (S d)),.int .u32 (qb (S a) (S b) (S c) (S d)),.int .u32 (qc (S a) (S b) (S c) (S d)),.int .u32 (qd (S a) (S b) (S c) (S d))]);have fQ:=below_setRow jO (by omega:g<=G) [.int .u32 (qa (S a) (S b) (S c) (S d)),.int .u32 (qb (S a) (S b) (S c) (S d)),.int .u32 (qc (S a) (S b) (S c) (S d)),.int .u32 (qd (S a) (S b) (S c) (S d))].toArray;refine hK.out _ _ (HC.out _ dI) (λp8=>?_);clear hK K;go_simp;refine wpAnyH_done (by kernel_rfl) ?_ _;refine NoPanic.normal ?_;clear qD uB mQ jO pA HC hOl;have y8:=Blk.four dI a b c d;have HQ:Hid (ws 16 (qS S a b c d)=ws 16 (qS S a b c d)):=rfl;obtain⟨U,hU⟩:∃U,ws 16 (qS S a b c d)=U:=⟨_,rfl⟩;rw[hU]at y8 HQ;have HU:Hid (ws 16 (qS S a b c d)=U):=hU;have bO:U.length=16:=by rw[<-hU,a0f]
  have gF:∀v∈U,v.oneCell'=true:=by rw[<-hU];exact a3f _ _
  clear hU HQ;generalize qa (S a) (S b) (S c) (S d)=va at dI dW eX fQ y8⊢;generalize qb (S a) (S b) (S c) (S d)=vb at dI dW eX fQ y8⊢;generalize qc (S a) (S b) (S c) (S d)=vc at dI dW eX fQ y8⊢;generalize qd (S a) (S b) (S c) (S d)=vd at dI dW eX fQ y8⊢;generalize World.setRow _ G _=wz at dI dW eX fQ y8⊢;have g0:=eX.cell (i:=0) rfl;have A1:=dI.setCell a (.int .u32 va);have G1:=eX.setOther (by omega:G≠g) a (.int .u32 va);have g1:=G1.cell (i:=1) rfl;have A2:=A1.setCell b (.int .u32 vb);have G2:=G1.setOther (by omega:G≠g) b (.int .u32 vb);have g2:=G2.cell (i:=2) rfl;have A3:=A2.setCell c (.int .u32 vc);have G3:=G2.setOther (by omega:G≠g) c (.int .u32 vc);have g3:=G3.cell (i:=3) rfl;have fz0:=dI.frozen a;have fz1:=A1.frozen b;have fz2:=A2.frozen c;have fz3:=A3.frozen d;obtain⟨u0,hu0⟩:=dI.hasCell a (by simp[a0f];exact a16);obtain⟨u1,hu1⟩:=A1.hasCell b (by simp[a0f];exact b16);obtain⟨u2,hu2⟩:=A2.hasCell c (by simp[a0f];exact c16);obtain⟨u3,hu3⟩:=A3.hasCell d (by simp[a0f];exact d16);have hB4:=(((dW.setOther (by omega:g+1≠g) a (.int .u32 va)).setOther (by omega:g+1≠g) b (.int .u32 vb)).setOther (by omega:g+1≠g) c (.int .u32 vc)).setOther (by omega:g+1≠g) d (.int .u32 vd);have hl4:Below g w ((((wz.setCell ⟨g,a,none⟩ (.int .u32 va)).setCell ⟨g,b,none⟩ (.int .u32 vb)).setCell ⟨g,c,none⟩ (.int .u32 vc)).setCell ⟨g,d,none⟩ (.int .u32 vd)):=(((fQ.setCell (ql _) _).setCell (ql _) _).setCell (ql _) _).setCell (ql _) _;have hR:(loadVar 246 ⟨g+1,0,none⟩).run prog (((((wz.setCell ⟨g,a,none⟩ (.int .u32 va)).setCell ⟨g,b,none⟩ (.int .u32 vb)).setCell ⟨g,c,none⟩ (.int .u32 vc)).setCell ⟨g,d,none⟩ (.int .u32 vd)).setRow (g+1) U.toArray)=.ok (.agg U.toArray) (((((wz.setCell ⟨g,a,none⟩ (.int .u32 va)).setCell ⟨g,b,none⟩ (.int .u32 vb)).setCell ⟨g,c,none⟩ (.int .u32 vc)).setCell ⟨g,d,none⟩ (.int .u32 vd)).setRow (g+1) U.toArray):=by
   have h1:Blk (((((wz.setCell ⟨g,a,none⟩ (.int .u32 va)).setCell ⟨g,b,none⟩ (.int .u32 vb)).setCell ⟨g,c,none⟩ (.int .u32 vc)).setCell ⟨g,d,none⟩ (.int .u32 vd)).setRow (g+1) U.toArray) (g+1) 246 (ws 16 (qS S a b c d)):=(by rw[HU.out];exact hB4.setRow);have h2:=b7h h1;rw[HU.out]at h2;exact h2
  have hl5:=below_setRow hl4 (by omega:g<=g+1) U.toArray;clear A1 A2 A3 G1 G2 G3 dI dW eX fQ;go_wp2_with(first|(refine a0a rfl 246 _ rfl g rfl 246 U _ ?_ underlying246 rfl (by rw[size246,bO]) ?_;exact y8)|(refine a0b rfl 246 _ _ rfl (g+1) Z U rfl rfl 246 ?_ (by rw[size246,bO]) (by rw[fJ,bO]) gF ?_;exact hB4));refine bodyPost_ret_by (v:=.agg U.toArray) (a1a 10 246 ⟨g+1,0,none⟩ results223 rfl hR) rfl ⟨by rw[HU.out],?_⟩;rw[HG.out];exact hl5
theorem set16 (Z:List Value)(h:Z.length=16)(v0 v1 v2 v3 v4 v5 v6 v7 v8 v9 v10 v11 v12 v13 v14 v15:Value):(((((((((((((((Z.set 0 v0).set 1 v1).set 2 v2).set 3 v3).set 4 v4).set 5 v5).set 6 v6).set 7 v7).set 8 v8).set 9 v9).set 10 v10).set 11 v11).set 12 v12).set 13 v13).set 14 v14).set 15 v15=[v0,v1,v2,v3,v4,v5,v6,v7,v8,v9,v10,v11,v12,v13,v14,v15]:=by
 match Z,h with
 |[a0,a1,a2,a3,a4,a5,a6,a7,a8,a9,a10,a11,a12,a13,a14,a15],_=>rfl
theorem b0i {ops:Array Oper}{rest:List Oper}{o:Oper}{a:Act}{w w0:World}{Q:Exit->Act->World->Prop}{g B:Nat}{R R' f:Nat->Int}(y5:o.guard=none)(x y:Operand)(ho:o.op=.store 246 x y)
 (hx:a.eval x=.pointer (some ⟨g+1,0,none⟩))(hy:a.eval y=.agg (ws 16 R').toArray)(hn:Blk w (g+1) 246 (ws 16 R))(hs:Blk w g 246 (ws 16 f))(hl:Below B w0 w)(hB:B<=g)
 (h:∀w',Blk w' (g+1) 246 (ws 16 R')->Blk w' g 246 (ws 16 f)->Below B w0 w'->wpList prog ops Q rest (a.put o.dst undef) w'):wpList prog ops Q (o::rest) a w:=
 a0b y5 246 x y ho (g+1) (ws 16 R) (ws 16 R') hx hy 246 hn (by rw[size246,a0f]) (by rw[a0f,a0f]) (a3f _ _)
  (h _ hn.setRow (hs.setRowOther (by omega) _) (below_setRow hl (by omega) _))
theorem d7y (S:Nat->Int)(a b c d:Int)(ha:0<=a/\a<16)(hb:0<=b/\b<16)(hc:0<=c/\c<16)(hd:0<=d/\d<16)(w:World):
 Calls prog 223 #[.agg (ws 16 S).toArray,.int .i64 a,.int .i64 b,.int .i64 c,.int .i64 d] w λe w'=>e=.returned (.agg (ws 16 (qS S a.toNat b.toNat c.toNat d.toNat)).toArray)/\Below w.heap.size w w':=by
 have h:=d7z S a.toNat b.toNat c.toNat d.toNat (by omega) (by omega) (by omega) (by omega) w;rw[Int.toNat_of_nonneg ha.1,Int.toNat_of_nonneg hb.1,Int.toNat_of_nonneg hc.1,Int.toNat_of_nonneg hd.1]at h;exact h
theorem b3k (key nonce:BA)(c:Int)(hk:key.size=32)(hn:nonce.size=12)(hc:W32 c)(w:World):
 Calls prog 189 #[.string key,.string nonce,.int .u32 c] w λe w'=>e=.returned (.tuple #[.string (blkB (stI key nonce c)),.int .i64 0])/\Below w.heap.size w w':=by
 have aI:=a3a;obtain⟨Z,hZ⟩:∃Z,ws 16 (λ_=>0)=Z:=⟨_,rfl⟩;rw[hZ]at aI;have fJ:Z.length=16:=by rw[<-hZ,a0f]
 clear hZ;have hZn:(Z=[])=False:=by
  apply eq_false;intro e;rw[e]at fJ
  cases fJ
 obtain⟨L,hL⟩:∃L,ws 16 (stI key nonce c)=L:=⟨_,rfl⟩;have dK:(((((((((((((((Z.set 0 (.int .u32 1634760805)).set 1 (.int .u32 857760878)).set 2 (.int .u32 2036477234)).set 3 (.int .u32 1797285236)).set 4 (.int .u32 (a0h le4 key 0))).set 5 (.int .u32 (a0h le4 key 1))).set 6 (.int .u32 (a0h le4 key 2))).set 7 (.int .u32 (a0h le4 key 3))).set 8 (.int .u32 (a0h le4 key 4))).set 9 (.int .u32 (a0h le4 key 5))).set 10 (.int .u32 (a0h le4 key 6))).set 11 (.int .u32 (a0h le4 key 7))).set 12 (.int .u32 c)).set 13 (.int .u32 (a0h le4 nonce 0))).set 14 (.int .u32 (a0h le4 nonce 1))).set 15 (.int .u32 (a0h le4 nonce 2))=L:=by
  rw[set16 Z fJ,<-hL];rfl
 have HL:Hid (ws 16 (stI key nonce c)=L):=hL;have eE:L.length=16:=by rw[<-hL,a0f]
 have gS:∀v∈L,v.oneCell'=true:=by rw[<-hL];exact a3f _ _
 clear hL;have qK:(((key.size:Nat):Int) !=32)=false:=by simp;omega
 have hnI:(((nonce.size:Nat):Int) !=12)=false:=by simp;omega
 have hWk:=λw=>a6j key w (by omega) (by omega);have hWn:=λw=>a6j nonce w (by omega) (by omega);rw[hk]at hWk;rw[hn]at hWn;have HKN:Hid (key.size=32/\nonce.size=12):=⟨hk,hn⟩;have lQ:key.size<=32:=by omega
 have jL:nonce.size<=12:=by omega
 clear hk hn;go_enter func189,ntmps189;go_wp2_with fail;refine(hWk w).mono ?_;rintro e w1 ⟨v1,rfl,ho1,hb1⟩;go_wp2_with fail;refine(hWn w1).mono ?_;rintro e w2 ⟨v2,rfl,ho2,hb2⟩;have ho1':=a3d ho1 hb2;obtain⟨gk,capk,rfl,hgk1,hgk2⟩:=ho1'.form (by decide);obtain⟨gn,capn,rfl,hgn1,hgn2⟩:=ho2.form (by decide);have hl2:Below w.heap.size w w2:=hb1.trans (hb2.mono hb1.size);have cK:∀i,i<8->w2.cell? ⟨gk,i,none⟩=some (.int .u32 (a0h le4 key i)):=λi hi=>by
  rw[World.ownsRow.cellAt ho1' i (by omega)];unfold a5h;rw[show 32/4=8 from rfl];simp[hi]
 have cN:∀i,i<3->w2.cell? ⟨gn,i,none⟩=some (.int .u32 (a0h le4 nonce i)):=λi hi=>by
  rw[World.ownsRow.cellAt ho2 i (by omega)];unfold a5h;rw[show 12/4=3 from rfl];simp[hi]
 have mB:gk<w2.heap.size:=a6b (cK 0 (by decide));have hgn:gn<w2.heap.size:=a6b (cN 0 (by decide));have hSK:∀z,Below w2.heap.size w2 z->z.cell? ⟨gk,0,none⟩=some (.int .u32 (a0h le4 key 0))/\z.cell? ⟨gk,1,none⟩=some (.int .u32 (a0h le4 key 1))/\z.cell? ⟨gk,2,none⟩=some (.int .u32 (a0h le4 key 2))/\z.cell? ⟨gk,3,none⟩=some (.int .u32 (a0h le4 key 3))/\z.cell? ⟨gk,4,none⟩=some (.int .u32 (a0h le4 key 4))/\z.cell? ⟨gk,5,none⟩=some (.int .u32 (a0h le4 key 5))/\z.cell? ⟨gk,6,none⟩=some (.int .u32 (a0h le4 key 6))/\z.cell? ⟨gk,7,none⟩=some (.int .u32 (a0h le4 key 7))/\z.cell? ⟨gn,0,none⟩=some (.int .u32 (a0h le4 nonce 0))/\z.cell? ⟨gn,1,none⟩=some (.int .u32 (a0h le4 nonce 1))/\z.cell? ⟨gn,2,none⟩=some (.int .u32 (a0h le4 nonce 2)):=λz hb=>
  ⟨(hb.cell (p:=⟨gk,0,none⟩) mB).trans (cK 0 (by decide)),(hb.cell (p:=⟨gk,1,none⟩) mB).trans (cK 1 (by decide)),(hb.cell (p:=⟨gk,2,none⟩) mB).trans (cK 2 (by decide)),(hb.cell (p:=⟨gk,3,none⟩) mB).trans (cK 3 (by decide)),(hb.cell (p:=⟨gk,4,none⟩) mB).trans (cK 4 (by decide)),(hb.cell (p:=⟨gk,5,none⟩) mB).trans (cK 5 (by decide)),(hb.cell (p:=⟨gk,6,none⟩) mB).trans (cK 6 (by decide)),(hb.cell (p:=⟨gk,7,none⟩) mB).trans (cK 7 (by decide)),(hb.cell (p:=⟨gn,0,none⟩) hgn).trans (cN 0 (by decide)),(hb.cell (p:=⟨gn,1,none⟩) hgn).trans (cN 1 (by decide)),(hb.cell (p:=⟨gn,2,none⟩) hgn).trans (cN 2 (by decide))⟩
 have bC:Hid (∀z,Below w2.heap.size w2 z->z.cell? ⟨gk,0,none⟩=some (.int .u32 (a0h le4 key 0))/\z.cell? ⟨gk,1,none⟩=some (.int .u32 (a0h le4 key 1))/\z.cell? ⟨gk,2,none⟩=some (.int .u32 (a0h le4 key 2))/\z.cell? ⟨gk,3,none⟩=some (.int .u32 (a0h le4 key 3))/\z.cell? ⟨gk,4,none⟩=some (.int .u32 (a0h le4 key 4))/\z.cell? ⟨gk,5,none⟩=some (.int .u32 (a0h le4 key 5))/\z.cell? ⟨gk,6,none⟩=some (.int .u32 (a0h le4 key 6))/\z.cell? ⟨gk,7,none⟩=some (.int .u32 (a0h le4 key 7))/\z.cell? ⟨gn,0,none⟩=some (.int .u32 (a0h le4 nonce 0))/\z.cell? ⟨gn,1,none⟩=some (.int .u32 (a0h le4 nonce 1))/\z.cell? ⟨gn,2,none⟩=some (.int .u32 (a0h le4 nonce 2))):=hSK;clear hSK ho1 ho1' ho2 hb1 hb2 hWk hWn cK cN hgk1 hgk2 hgn1 hgn2 mB hgn;go_wp2_with fail;refine wp_region_noPanic ?_;refine wp_region_held_drew (S:=λz=>z.cell? ⟨gk,0,none⟩=some (.int .u32 (a0h le4 key 0))/\z.cell? ⟨gk,1,none⟩=some (.int .u32 (a0h le4 key 1))/\z.cell? ⟨gk,2,none⟩=some (.int .u32 (a0h le4 key 2))/\z.cell? ⟨gk,3,none⟩=some (.int .u32 (a0h le4 key 3))/\z.cell? ⟨gk,4,none⟩=some (.int .u32 (a0h le4 key 4))/\z.cell? ⟨gk,5,none⟩=some (.int .u32 (a0h le4 key 5))/\z.cell? ⟨gk,6,none⟩=some (.int .u32 (a0h le4 key 6))/\z.cell? ⟨gk,7,none⟩=some (.int .u32 (a0h le4 key 7))/\z.cell? ⟨gn,0,none⟩=some (.int .u32 (a0h le4 nonce 0))/\z.cell? ⟨gn,1,none⟩=some (.int .u32 (a0h le4 nonce 1))/\z.cell? ⟨gn,2,none⟩=some (.int .u32 (a0h le4 nonce 2))) (by kernel_rfl) (bC.out _ (qw _ _).drew) (λp8=>?_);refine tkH 0 ?_;go_simp;refine tkH 1 ?_;go_simp;refine tkH 3 ?_;go_simp;refine tkH 4 ?_;go_simp;refine tkH 6 ?_;go_simp;refine tkH 7 ?_;go_simp;refine tkH 9 ?_;go_simp;refine tkH 10 ?_;go_simp;refine tkH 12 ?_;go_simp;refine tkH 13 ?_;go_simp;refine tkH 15 ?_;go_simp;refine tkH 16 ?_;go_simp;refine tkH 18 ?_;go_simp;refine tkH 19 ?_;go_simp;refine tkH 21 ?_;go_simp;refine tkH 22 ?_;go_simp;refine tkH 24 ?_;go_simp;refine tkH 25 ?_;go_simp;refine tkH 26 ?_;go_simp;refine tkH 28 ?_;go_simp;refine tkH 29 ?_;go_simp;refine tkH 31 ?_;go_simp;refine tkH 32 ?_;go_simp;refine wpAnyH_take (i:=2) (v:=?_) rfl (by kernel_rfl) (by kernel_rfl) (by kernel_rfl) (λ_ _ _ h=>h) (Or.inl ⟨by rfl,?_⟩) (by assumption) ?_;rotate_left
 ·rintro w ⟨s0,s1,s2,s3,s4,s5,s6,s7,s8,s9,s10⟩;go_simp;try with_reducible rfl
 go_simp;refine wpAnyH_take (i:=5) (v:=?_) rfl (by kernel_rfl) (by kernel_rfl) (by kernel_rfl) (λ_ _ _ h=>h) (Or.inl ⟨by rfl,?_⟩) (by assumption) ?_;rotate_left
 ·rintro w ⟨s0,s1,s2,s3,s4,s5,s6,s7,s8,s9,s10⟩;go_simp;try with_reducible rfl
 go_simp;refine wpAnyH_take (i:=8) (v:=?_) rfl (by kernel_rfl) (by kernel_rfl) (by kernel_rfl) (λ_ _ _ h=>h) (Or.inl ⟨by rfl,?_⟩) (by assumption) ?_;rotate_left
 ·rintro w ⟨s0,s1,s2,s3,s4,s5,s6,s7,s8,s9,s10⟩;go_simp;try with_reducible rfl
 go_simp;refine wpAnyH_take (i:=11) (v:=?_) rfl (by kernel_rfl) (by kernel_rfl) (by kernel_rfl) (λ_ _ _ h=>h) (Or.inl ⟨by rfl,?_⟩) (by assumption) ?_;rotate_left
 ·rintro w ⟨s0,s1,s2,s3,s4,s5,s6,s7,s8,s9,s10⟩;go_simp;try with_reducible rfl
 go_simp;refine wpAnyH_take (i:=14) (v:=?_) rfl (by kernel_rfl) (by kernel_rfl) (by kernel_rfl) (λ_ _ _ h=>h) (Or.inl ⟨by rfl,?_⟩) (by assumption) ?_;rotate_left
 ·rintro w ⟨s0,s1,s2,s3,s4,s5,s6,s7,s8,s9,s10⟩;go_simp;try with_reducible rfl
 go_simp;refine wpAnyH_take (i:=17) (v:=?_) rfl (by kernel_rfl) (by kernel_rfl) (by kernel_rfl) (λ_ _ _ h=>h) (Or.inl ⟨by rfl,?_⟩) (by assumption) ?_;rotate_left
 ·rintro w ⟨s0,s1,s2,s3,s4,s5,s6,s7,s8,s9,s10⟩;go_simp;try with_reducible rfl
 go_simp;refine wpAnyH_take (i:=20) (v:=?_) rfl (by kernel_rfl) (by kernel_rfl) (by kernel_rfl) (λ_ _ _ h=>h) (Or.inl ⟨by rfl,?_⟩) (by assumption) ?_;rotate_left
 ·rintro w ⟨s0,s1,s2,s3,s4,s5,s6,s7,s8,s9,s10⟩;go_simp;try with_reducible rfl
 go_simp;refine wpAnyH_take (i:=23) (v:=?_) rfl (by kernel_rfl) (by kernel_rfl) (by kernel_rfl) (λ_ _ _ h=>h) (Or.inl ⟨by rfl,?_⟩) (by assumption) ?_;rotate_left
 ·rintro w ⟨s0,s1,s2,s3,s4,s5,s6,s7,s8,s9,s10⟩;go_simp;try with_reducible rfl
 go_simp;refine wpAnyH_take (i:=27) (v:=?_) rfl (by kernel_rfl) (by kernel_rfl) (by kernel_rfl) (λ_ _ _ h=>h) (Or.inl ⟨by rfl,?_⟩) (by assumption) ?_;rotate_left
 ·rintro w ⟨s0,s1,s2,s3,s4,s5,s6,s7,s8,s9,s10⟩;go_simp;try with_reducible rfl
 go_simp;refine wpAnyH_take (i:=30) (v:=?_) rfl (by kernel_rfl) (by kernel_rfl) (by kernel_rfl) (λ_ _ _ h=>h) (Or.inl ⟨by rfl,?_⟩) (by assumption) ?_;rotate_left
 ·rintro w ⟨s0,s1,s2,s3,s4,s5,s6,s7,s8,s9,s10⟩;go_simp;try with_reducible rfl
 go_simp;refine wpAnyH_take (i:=33) (v:=?_) rfl (by kernel_rfl) (by kernel_rfl) (by kernel_rfl) (λ_ _ _ h=>h) (Or.inl ⟨by rfl,?_⟩) (by assumption) ?_;rotate_left
 ·rintro w ⟨s0,s1,s2,s3,s4,s5,s6,s7,s8,s9,s10⟩;go_simp;try with_reducible rfl
 go_simp;refine tkH 34 ?_;go_simp;have hF1:Blk (w2.alloc (.cells Z.toArray 246)).drew w2.heap.size 246 Z:=by
  have:=(Blk.new w2 246 Z.toArray).drew;simpa using this
 have hb35:Below w2.heap.size w2 (w2.alloc (.cells Z.toArray 246)).drew:=((qw _ _).alloc (ql _) _).drew;have hb36:Below w2.heap.size w2 ((w2.alloc (.cells Z.toArray 246)).drew.setRow w2.heap.size L.toArray):=below_setRow hb35 (ql _) _;have hF2:Blk ((w2.alloc (.cells Z.toArray 246)).drew.setRow w2.heap.size L.toArray) w2.heap.size 246 L:=hF1.setRow;refine rdH 35 λK hK=>?_;go_simp;refine hK.out _ _ (bC.out _ hb35) (λp8=>?_);clear hK K;refine rdH 36 λK hK=>?_;refine a2v rfl 246 _ _ rfl w2.heap.size Z L rfl rfl 246 hF1 (by rw[size246,eE]) (by rw[fJ,eE]) gS ?_;refine hK.out _ _ (bC.out _ hb36) (λp8=>?_);clear hK K p8;go_simp;refine wpAnyH_done (by kernel_rfl) ?_ _;refine NoPanic.normal ?_;clear bC hF1 hb35 dK qK hnI;have hl3:Below w.heap.size w ((w2.alloc (.cells Z.toArray 246)).drew.setRow w2.heap.size L.toArray):=hl2.trans (hb36.mono hl2.size);have iZ:((w2.alloc (.cells Z.toArray 246)).drew.setRow w2.heap.size L.toArray).heap.size=w2.heap.size+1:=by simp[World.setRow]
 have cV:=hl2.size;clear hl2 hb36;generalize(w2.alloc (.cells Z.toArray 246)).drew.setRow w2.heap.size L.toArray=w3 at hF2 hl3 iZ⊢;obtain⟨g,y5⟩:∃g,w2.heap.size=g:=⟨_,rfl⟩;rw[y5]at hF2 iZ cV⊢;clear y5;have hS1:Blk (w3.alloc (.cells Z.toArray 246)) (g+1) 246 Z:=by
  have:=Blk.new w3 246 Z.toArray;rw[iZ]at this;simpa using this
 have hS2:Blk ((w3.alloc (.cells Z.toArray 246)).setRow (g+1) L.toArray) (g+1) 246 L:=hS1.setRow;have hF3:Blk ((w3.alloc (.cells Z.toArray 246)).setRow (g+1) L.toArray) g 246 L:=(hF2.alloc _).setRowOther (by omega) _;have hl4:Below w.heap.size w ((w3.alloc (.cells Z.toArray 246)).setRow (g+1) L.toArray):=below_setRow (hl3.alloc (by omega) _) (by omega) _;go_wp2_with(first|(refine a0a rfl 246 _ rfl g rfl 246 L _ ?_ underlying246 rfl (by rw[size246,eE]) ?_;exact hF2)|(refine a0b rfl 246 _ _ rfl (g+1) Z L rfl rfl 246 ?_ (by rw[size246,eE]) (by rw[fJ,eE]) gS ?_;first|exact hS1|(rw[iZ];exact hS1)));clear hS1 hF2 hl3 iZ aI hZn;generalize(w3.alloc (.cells Z.toArray 246)).setRow (g+1) L.toArray=w4 at hS2 hF3 hl4⊢;rw[<-HL.out]at hS2 hF3;clear HL eE gS fJ;obtain⟨f,hf⟩:∃f,stI key nonce c=f:=⟨_,rfl⟩;rw[hf]at hS2 hF3;have HF:Hid (stI key nonce c=f):=hf;clear hf;go_loopw[14] (λi wr=>∃k:Nat,k<=10/\i=.int .i64 k/\Blk wr (g+1) 246 (ws 16 (rn f (2*k)))/\Blk wr g 246 (ws 16 f)/\Below w.heap.size w wr) (λi _=>(10-intOf i).toNat)
 case atStart=>exact⟨0,by omega,rfl,hS2,hF3,hl4⟩
 case round=>
  clear hS2 hF3 hl4;obtain⟨k,hk,rfl,hn,hs,hl⟩:=hrel;by_cases p9:k<10
  ·have aT:(k:Int)<10:=(by omega);have HQ:Hid (rn f (2*(k+1))=qS (qS (qS (qS (qS (qS (qS (qS (rn f (2*k)) 0 4 8 12) 1 5 9 13) 2 6 10 14) 3 7 11 15) 0 5 10 15) 1 6 11 12) 2 7 8 13) 3 4 9 14):=(by rw[e7l,rq0,rq1];exact rfl);generalize rn f (2*k)=R at hn HQ;go_wp2_with(first
    |(refine a0a rfl 246 _ rfl (g+1) rfl 246 (ws 16 ?_) _ ?_ underlying246 rfl ?_ ?_;rotate_left;exact hn;(rw[size246,a0f]))
    |(go_at_call 223;refine(d7y _ _ _ _ _ (by decide) (by decide) (by decide) (by decide) _).mono ?_;rintro e wy ⟨rfl,gB⟩;replace hl:=hl.trans (gB.mono hl.size);replace hs:=hs.below gB hs.lt;replace hn:=hn.below gB hn.lt;clear gB)
    |(refine b0i (g:=g) rfl _ _ rfl rfl rfl hn hs hl cV ?_;intro wz hn hs hl))
   go_roundw
   case rel=>exact⟨k+1,by omega,by go_num,by rw[HQ.out];exact hn,hs,hl⟩
   case measure=>simp[intOf];omega
  ·have hk10:k=10:=(by omega);subst hk10;rw[show((10:Nat):Int)=(10:Int)from rfl];obtain⟨i0,hi,hz0,hz1,hz2⟩:=info_parts info195;have HO:Hid (∀i,out f i=(rn f 20 i+f i)%4294967296):=λi=>rfl;rw[show 2*10=20 from rfl]at hn;generalize rn f 20=R at hn HO;go_wp2_with fail;obtain⟨B,gT⟩:∃B,wr.heap.size=B:=⟨_,rfl⟩;have hgB:g+1<B:=(by rw[<-gT];exact hn.lt);have qF:w.heap.size<=B:=(by rw[<-gT];exact hl.size);go_loopw[15,16] (λv i wz=>∃q:Nat,q<=16/\i=.int .i64 q/\wz.ownsRow B 195 1 v q (ws q (out f))/\B<=wz.heap.size/\Below B wr wz) (λ_ i _=>(16-intOf i).toNat)
   case atStart=>exact⟨0,by omega,rfl,World.ownsRow_nil _ _ _ _,by omega,qw _ _⟩
   case round=>
    rename World=>wz
    rename_i v15
    obtain⟨q,hq,rfl,q8,dW,iI⟩:=hrel;by_cases aD:q<16
    ·have hq':(q:Int)<16:=(by omega);have pG:=hn.below iI hgB;have aA:=hs.below iI (by omega);have cn:=pG.cell (a0z 16 R q aD);have cs:=aA.cell (a0z 16 f q aD);obtain⟨V,hV⟩:∃V,IntKind.u32.wrap (R q+f q)=V:=⟨_,rfl⟩;have HV:Hid (out f q=V):=(by rw[<-hV,IntKind.wrap_u32'];exact HO.out q);obtain⟨v',w',r6,t6,q9,-,-⟩:=run_append_own_at (P:=prog) ((wz.alloc (.cells #[.int .u32 V] 195)).drew) B 254 254 195 i0 (.int .u32 0) 1 4 underlying254 hi hz0 hz1 hz2 rfl (by decide) _ q (ws q (out f)) (q8.alloc _).drew ⟨wz.heap.size,0,none⟩ 1 1 [.int .u32 V] rfl (λj u hj=>by
      match j,hj with
      |0,hj=>simp at hj;subst hj;simp only[Addr.add];exact(Blk.new wz 195 #[.int .u32 V]).drew.cell rfl) (λu hu=>by simp at hu;subst hu;rfl) (by unfold maxLen;omega) (by omega) (by simp;omega)
     have hb':Below B wr w':=by
      refine Below.grown ((iI.alloc dW _).drew) q9 (by simp;omega) ?_;intro x hx;exact(q8.lt x hx).1
     have hB':B<=w'.heap.size:=(by have:=q9.size;simp at this;omega);have aB:w'.ownsRow B 195 1 v' (q+1) (ws (q+1) (out f)):=by
      have e:ws (q+1) (out f)=ws q (out f)++[.int .u32 V]:=by
       rw[<-HV.out];unfold ws;rw[List.range_succ,List.map_append];rfl
      rw[e];exact t6
     have en:((wz.alloc (.cells #[.int .u32 V] 195)).drew).cell? ⟨g+1,q,none⟩=some (.int .u32 (R q)):=(pG.alloc (.cells #[.int .u32 V] 195)).cell (a0z 16 R q aD);have es:((wz.alloc (.cells #[.int .u32 V] 195)).drew).cell? ⟨g,q,none⟩=some (.int .u32 (f q)):=(aA.alloc (.cells #[.int .u32 V] 195)).cell (a0z 16 f q aD);have en':w'.cell? ⟨g+1,q,none⟩=some (.int .u32 (R q)):=(hn.below hb' hgB).cell (a0z 16 R q aD);have es':w'.cell? ⟨g,q,none⟩=some (.int .u32 (f q)):=(hs.below hb' (by omega)).cell (a0z 16 f q aD);clear t6 q9 q8 iI dW pG aA HV hi hz0 hz1 hz2;go_wp2_with fail;refine wp_region_noPanic ?_;refine wp_region_held_drew (S:=λz=>z.cell? ⟨g+1,q,none⟩=some (.int .u32 (R q))/\z.cell? ⟨g,q,none⟩=some (.int .u32 (f q))) (by kernel_rfl) ⟨cn,cs⟩ (λp8=>?_);refine tkH 0 ?_;go_simp;refine tkH 1 ?_;go_simp;refine tkH 2 ?_;go_simp;refine tkH 4 ?_;go_simp;refine tkH 5 ?_;go_simp;refine wpAnyH_take (i:=3) (v:=?_) rfl (by kernel_rfl) (by kernel_rfl) (by kernel_rfl) (λ_ _ _ h=>h) (Or.inl ⟨by rfl,?_⟩) (by assumption) ?_;rotate_left
     ·rintro w ⟨s0,s1⟩;go_simp;try with_reducible rfl
     go_simp;refine wpAnyH_take (i:=6) (v:=?_) rfl (by kernel_rfl) (by kernel_rfl) (by kernel_rfl) (λ_ _ _ h=>h) (Or.inl ⟨by rfl,?_⟩) (by assumption) ?_;rotate_left
     ·rintro w ⟨s0,s1⟩;go_simp;try with_reducible rfl
     go_simp;refine tkH 7 ?_;go_simp;refine rdH 8 λK hK=>?_;go_simp;refine hK.out _ _ ⟨en,es⟩ (λp8=>?_);clear hK K;refine rdH 9 λK hK=>?_;refine a4p rfl _ _ 254 254 rfl _ _ rfl rfl _ _ r6 ?_;refine hK.out _ _ ⟨en',es'⟩ (λp8=>?_);clear hK K;go_simp;refine tkH 10 ?_;go_simp;refine wpAnyH_done (by kernel_rfl) ?_ _;refine NoPanic.normal ?_;go_wp2_with fail;go_roundw
     case rel=>exact⟨q+1,by omega,by go_num,aB,hB',hb'⟩
     case measure=>simp[intOf];omega
    ·have hq16:q=16:=(by omega);subst hq16;obtain⟨a,cap,rfl,bM⟩:=c4w q8;have x8:=b4r a cap 16 (out f) wz (by omega) bM (λi _=>e2j f i);rw[show strOfNums (a1x four (out f) 16)=blkB f from rfl]at x8;clear q8 bM hn hs HO;go_wp2_with(go_at_call 188;refine x8.mono ?_;rintro e w7 ⟨rfl,hb7⟩);go_ret2;refine⟨by rw[HF.out];rfl,?_⟩;exact(hl.trans (iI.mono qF)).trans (hb7.mono (by omega))
def stB (f:Nat->Int)(n:Nat):BA:=strOfNums ((List.range n).map f)
theorem a3i (f:Nat->Int)(n:Nat):(stB f n).size=n:=by unfold stB;rw[strOfNums_size];simp
theorem d5u (f:Nat->Int)(hf:∀i,0<=f i/\f i<=255)(n i:Nat)(h:i<n):bt (stB f n) i=f i:=by
 unfold stB;rw[a3q _ (λx hx=>by obtain⟨j,_,rfl⟩:=List.mem_map.1 hx;exact hf j) i (by simpa using h)];simp
theorem d7n (key nonce:BA)(c:Int)(k:Nat):stB (ks key nonce c) (64*k)++blkB (stI key nonce ((c+(k:Int))%4294967296))=stB (ks key nonce c) (64*(k+1)):=by
 apply a2q
 ·rw[ByteArray.size_append,a3i,a3i,a2r];omega
 ·intro i hi;rw[ByteArray.size_append,a3i,a2r]at hi;rw[d5u _ (a7h key nonce c) _ i (by omega)];by_cases h:i<64*k
  ·rw[a1q _ _ _ (by rw[a3i];exact h),d5u _ (a7h key nonce c) _ i h]
  ·rw[a1o _ _ _ (by rw[a3i];omega),a3i];unfold ks;rw[show i/64=k by omega,show i%64=i-64*k by omega]
theorem e3e (f:Nat->Int)(hf:∀i,0<=f i/\f i<=255)(s:BA)(n:Nat)(h:s.size<=n):xorB s (stB f n)=cryB f s:=by
 apply a2q
 ·rw[a4a,a3i,a1u];omega
 ·intro i hi;rw[a4a,a3i]at hi;rw[b7u _ _ i (by rw[a3i];exact hi),d5u f hf n i (by omega),b4j f hf s i (by omega)]
theorem c2s (key nonce s:BA)(c:Int)(hk:key.size=32)(hn:nonce.size=12)(hc:W32 c)(hs:s.size<=3900)(w:World):
 Calls prog 142 #[.string key,.string nonce,.int .u32 c,.string s] w λe w'=>e=.returned (.tuple #[.string (cryB (ks key nonce c) s),.int .i64 0])/\Below w.heap.size w w':=by
 have qK:(((key.size:Nat):Int) !=32)=false:=by simp;omega
 have hnI:(((nonce.size:Nat):Int) !=12)=false:=by simp;omega
 have hsI:¬((65536:Int)<(s.size:Int)):=by omega
 have HB:Hid (∀(x:Int) w,W32 x->Calls prog 189 #[.string key,.string nonce,.int .u32 x] w λe w'=>e=.returned (.tuple #[.string (blkB (stI key nonce x)),.int .i64 0])/\Below w.heap.size w w'):=λx w hx=>b3k key nonce x hk hn hx w;have lQ:key.size<=32:=by omega
 have jL:nonce.size<=12:=by omega
 clear hk hn;obtain⟨M,hM1,hM2⟩:∃M,s.size<=64*M/\64*M<s.size+64:=⟨(s.size+63)/64,by omega,by omega⟩;have hMs:(64*M:Nat)<=3970:=by omega
 go_enter func142,ntmps142;go_wp2_with fail;go_loopw[2,10] (λx v wr=>∃k:Nat,k<=M/\x=.int .u32 ((c+(k:Int))%4294967296)/\v=.string (stB (ks key nonce c) (64*k))/\Below w.heap.size w wr) (λ_ v _=>64*M-e1w v)
 case atStart=>
  refine⟨0,by omega,?_,rfl,qw _ _⟩;rw[show(c+((0:Nat):Int))%4294967296=c by have h1:=hc.1;have h2:=hc.2;omega]
 case round=>
  obtain⟨k,hk,rfl,rfl,hl⟩:=hrel;have qO:=a3i (ks key nonce c) (64*k);by_cases p9:k<M
  ·have bI:=d7n key nonce c k;have hA2:=a3i (ks key nonce c) (64*(k+1));have cC:=a2r (stI key nonce ((c+(k:Int))%4294967296));have x8:=HB.out ((c+(k:Int))%4294967296) wr ⟨by omega,by omega⟩;have dU:((c+(k:Int))%4294967296+1)%4294967296=(c+((k+1:Nat):Int))%4294967296:=(by omega);have hx0:0<=(c+(k:Int))%4294967296:=(by omega);have hx1:(c+(k:Int))%4294967296<4294967296:=(by omega);have HM:Hid (∀A,A=stB (ks key nonce c) (64*(k+1))->A.size=64*(k+1)):=λA hA=>(by rw[hA];exact hA2);generalize(c+(k:Int))%4294967296=x at bI x8 dU cC hx0 hx1⊢;generalize blkB (stI key nonce x)=X at bI x8 cC;obtain⟨A,hA⟩:∃A,stB (ks key nonce c) (64*k)=A:=⟨_,rfl⟩;rw[hA]at bI qO⊢;have rZ:(A.size:Int)<(s.size:Int):=(by omega);have hAle:A.size<=3970:=(by omega);have tR:X.size<=64:=(by omega);obtain⟨y,hy⟩:∃y,(c+((k+1:Nat):Int))%4294967296=y:=⟨_,rfl⟩;rw[hy]at dU;have HY:Hid ((c+((k+1:Nat):Int))%4294967296=y):=hy;have HS:Hid (A++X=stB (ks key nonce c) (64*(k+1))):=bI;have HA:Hid (A.size=64*k):=qO;have HN:Hid ((x+1)%4294967296=y):=dU;clear hA hy bI hA2 cC qO;go_wp2_with(go_at_call 189;refine x8.mono ?_;rintro e w2 ⟨rfl,hb2⟩);refine⟨⟨k+1,by omega,by rw[HY.out,HN.out],by rw[HS.out],hl.trans (hb2.mono hl.size)⟩,?_⟩;have e1:=HM.out _ HS.out;have e2:=HA.out;show 64*M-(A++X).size<64*M-A.size;omega
  ·have pL:k=M:=(by omega);subst pL;have hx:=e3e (ks key nonce c) (a7h key nonce c) s (64*k) hM1;have x8:=b5h s (stB (ks key nonce c) (64*k)) wr (by omega) (by rw[qO];omega);rw[hx]at x8;obtain⟨A,hA⟩:∃A,stB (ks key nonce c) (64*k)=A:=⟨_,rfl⟩;rw[hA]at x8 qO⊢;obtain⟨R,hR⟩:∃R,cryB (ks key nonce c) s=R:=⟨_,rfl⟩;rw[hR]at x8;have HR:Hid (cryB (ks key nonce c) s=R):=hR;have sM:¬((A.size:Int)<(s.size:Int)):=(by omega);clear hA hR hx qO;go_wp2_with(go_at_call 164;refine x8.mono ?_;rintro e w3 ⟨rfl,hb3⟩);go_ret2;refine⟨?_,hl.trans (hb3.mono hl.size)⟩;rw[HR.out];rfl
end Go.Proofs.YtokknmkleceooaaGreatDoor
