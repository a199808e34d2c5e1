import Derived.Test.YtokknmkleceooaaGreatDoorSlBad
import Derived.Shelf.Bits.Mul64
namespace Go.Proofs.YtokknmkleceooaaGreatDoor
set_option linter.unusedVariables false
set_option maxRecDepth 20000
set_option maxHeartbeats 8000000
open Go.Proofs.Tryz
open Go.RowKit Go.PlainAid
def prR (rd:Nat->BA)(E:Int)(d:Nat):Sl->List (Int×BA)->Int×Sl
 |S,[]=>(0,S)
 |S,p::r=>if ovE rd E S d p.1.toNat=0 then prR rd E d (sl1 rd S d p.1.toNat p.2) r else(ovE rd E S d p.1.toNat,S)
theorem d2m {rd:Nat->BA}{E:Int}{d:Nat}{S:Sl}{p:Int×BA}{r:List (Int×BA)}(h:ovE rd E S d p.1.toNat=0):prR rd E d S (p::r)=prR rd E d (sl1 rd S d p.1.toNat p.2) r:=qp h
theorem d2n {rd:Nat->BA}{E:Int}{d:Nat}{S:Sl}{p:Int×BA}{r:List (Int×BA)}(h:ovE rd E S d p.1.toNat≠0):prR rd E d S (p::r)=(ovE rd E S d p.1.toNat,S):=qn h
theorem d1y {n:Int}:∀{l:List (Int×BA)},rfE n l=0->∀p∈l,(0<=p.1/\p.1<n)/\p.2.size<=2032
 |[],_,p,hp=>by cases hp
 |q::r,h,p,hp=>by
  have h':(if slE17 n q.1=0 then(if 2032<q.2.size then 5 else rfE n r)else slE17 n q.1)=0:=h;by_cases e:slE17 n q.1=0
  ·rw[qp e]at h';by_cases e2:2032<q.2.size
   ·rw[qp e2]at h';cases h'
   ·rw[qn e2]at h';rcases List.mem_cons.1 hp with rfl|hp
    ·refine⟨?_,by omega⟩;unfold slE17 at e;by_cases e3:p.1<0\/n<=p.1
     ·rw[qp e3]at e;cases e
     ·omega
    ·exact d1y h' p hp
  ·rw[qn e]at h';exact absurd h' e
def chJ (f:Nat->Option BA)(d s:Nat)(x:Nat->BA):Nat->Nat->Option BA
 |0=>f
 |j+1=>pF (chJ f d s x j) (nd d s j) (x j)
theorem e2v {f:Nat->Option BA}{d s:Nat}{x:Nat->BA}(hs:s<2^d):∀j,j<=d->∀k,k<j->chJ f d s x j (nd d s k)=some (x k)
 |0,_,k,hk=>by omega
 |j+1,hj,k,hk=>by
  show pF (chJ f d s x j) (nd d s j) (x j) (nd d s k)=_;by_cases e:k=j
  ·subst e;exact c3g _ _ _
  ·rw[d2s _ _ (e8c d s k j hs (by omega) (by omega) e)];exact e2v hs j (by omega) k (by omega)
theorem d5n {f:Nat->Option BA}{d s:Nat}{x:Nat->BA}:∀j i,(∀k,k<j->i≠nd d s k)->chJ f d s x j i=f i
 |0,i,_=>rfl
 |j+1,i,h=>by
  show pF (chJ f d s x j) (nd d s j) (x j) i=_;rw[d2s _ _ (h j (by omega))];exact d5n j i (λk hk=>h k (by omega))
theorem e6g {rd:Nat->BA}{S:Sl}{d s:Nat}{c:BA}(hs:s<2^d):chJ S.ch d s (neu d s (slk rd S d s) (lH c)) d=slCh rd S d s c:=by
 funext i;by_cases e:∃k,k<d/\i=nd d s k
 ·obtain⟨k,hk,rfl⟩:=e;rw[e2v hs d (ql _) k hk,c2j rd S d s c k hs hk]
 ·have e':∀k,k<d->i≠nd d s k:=λk hk he=>e ⟨k,hk,he⟩;rw[d5n d i e',b6c rd S d s c i e']
theorem c0h {d s:Nat}{p:Nat->BA}{top t:BA}(h:fol d s p top d=some t):∀k,k<d->(p k).size=64:=λk hk=>by
 cases hf:fol d s p top (k+1)with
 |none=>rw[a9t hf (by omega)]at h;cases h
 |some x=>exact(d4v hf).1
theorem c9z (w:World)(a:Option Addr)(n c:Nat)(h:n<=c):(Builtin.append_ #[85,85] 85 #[.slice a n c,.slice none 0 0]).run prog w=.ok (.slice a n c) w:=by
 have hu:=run_underlying underlying85
 cases a with
 |none=>simp[Builtin.append_,Builtin.lenOf,Builtin.firstCells,hu,Result.andThen,h]
 |some a=>simp[Builtin.append_,Builtin.lenOf,Builtin.firstCells,hu,Result.andThen,h,storeCells]
section
variable {B:Nat}{w0 w w':World}{P Q R T U:Asn}
theorem Hold.tail (h:Hold B w0 w (star P Q)):Hold B w0 w Q:=h.right
theorem Hold.pull3 (h:Hold B w0 w (star P (star Q (star R T)))):Hold B w0 w (star R (star P (star Q T))):=(h.monoR λF h=>a0q h).swap
theorem Hold.pull4 (h:Hold B w0 w (star P (star Q (star R (star T U))))):Hold B w0 w (star T (star P (star Q (star R U)))):=((h.monoR λF h=>a0n h λF h=>a0q h).monoR λF h=>a0q h).swap
theorem Hold.back4 (h:Hold B w0 w (star T (star P (star Q (star R U))))):Hold B w0 w (star P (star Q (star R (star T U)))):=(h.swap.monoR λF h=>a0q h).monoR λF h=>a0n h λF h=>a0q h
theorem Hold.pull5 {V:Asn}(h:Hold B w0 w (star P (star Q (star R (star T (star U V)))))):Hold B w0 w (star U (star P (star Q (star R (star T V))))):=(((h.monoR λF h=>a0n h λF h=>a0n h λF h=>a0q h).monoR λF h=>a0n h λF h=>a0q h).monoR λF h=>a0q h).swap
theorem Hold.back5 {V:Asn}(h:Hold B w0 w (star U (star P (star Q (star R (star T V)))))):Hold B w0 w (star P (star Q (star R (star T (star U V))))):=((h.swap.monoR λF h=>a0q h).monoR λF h=>a0n h λF h=>a0q h).monoR λF h=>a0n h λF h=>a0n h λF h=>a0q h
theorem Hold.back3 (h:Hold B w0 w (star R (star P (star Q T)))):Hold B w0 w (star P (star Q (star R T))):=h.swap.monoR λF h=>a0q h
end
theorem e6k {B:Nat}{w0 w:World}{v1 v2:Value}{q1 q2:List Wr}{b:Nat}(h:Hold B w0 w (star (rowK 144 2 v1 q1.length (a1e q1)) a0i))(h2:w.ownsRow b 144 2 v2 q2.length (a1e q2))(hn:q2=[]->v2=.slice none 0 0)(l1:q1.length<=1000)(l2:q2.length<=1000):
 ∃v' w',(Builtin.append_ #[85,85] 85 #[v1,v2]).run prog w=.ok v' w'/\Hold B w0 w' (star (rowK 144 2 v' (q1++q2).length (a1e (q1++q2))) a0i):=by
 by_cases e:q2=[]
 ·rw[hn e,e,List.append_nil];obtain⟨a,c,rfl⟩:=a2a h.rowK;exact⟨_,w,c9z w a _ c (e4r h.rowK),h⟩
 ·obtain⟨a2,c2,rfl⟩:=a2a h2;obtain⟨p,r,hq⟩:=List.exists_cons_of_ne_nil e;obtain⟨g2,rfl,_⟩:=a2b h2 (i:=0) (u:=.int .i64 (p.1:Int)) (by rw[hq];rfl);obtain⟨v',w',r6,h3⟩:=c5d a0c 85 144 85 _ 2 24 underlying85 infoWr17 rfl (by decide) (by decide) h ⟨g2,0,none⟩ q2.length c2 (a1e q2) (a4e q2) (λj u hu=>by
   rw[Go.WideShapes.add_plain,Nat.zero_add];obtain⟨g',e1,e2⟩:=a2b h2 hu
   cases e1;exact e2) (d2q q2) (by omega)
  refine⟨v',w',r6,?_⟩;rw[List.length_append,a4f];exact h3
def Pp (w z:World)(sb:List Value)(b1 b2 n1 n2:Nat)(f e:Nat->Option BA):Prop:=Hold w.heap.size w z (star (mapW b1 100 n1 f) (star (mapW b2 120 n2 e) (star (blkA w.heap.size 45 sb) a0i)))
def Pq (w z:World)(sb:List Value)(b1 b2 n1 n2:Nat)(f e:Nat->Option BA)(nv cv:Value)(d s:Nat)(x:Nat->BA)(gc:Nat)(ch:List Value):Prop:=
 Hold w.heap.size w z (star (rowK 9 1 cv d (strs d x)) (star (rowK 3 1 nv d (nr .i64 d (nd d s))) (star (blkA gc 92 ch) (star (mapW b1 100 n1 f) (star (mapW b2 120 n2 e) (star (blkA w.heap.size 45 sb) a0i))))))
section
variable {w z z':World}{sb ch:List Value}{b1 b2 n1 n2:Nat}{f e:Nat->Option BA}{nv cv:Value}{d s gc:Nat}{x:Nat->BA}
theorem b3m:Firm (star (mapW b1 100 n1 f) (star (mapW b2 120 n2 e) (star (blkA w.heap.size 45 sb) a0i))):=(a6t _ _ _ _).star ((a6t _ _ _ _).star ((a0e _ _ _).star a0c))
theorem Pp.below (h:Pp w z sb b1 b2 n1 n2 f e)(hb:Below z.heap.size z z'):Pp w z' sb b1 b2 n1 n2 f e:=Hold.below h b3m hb
theorem Pp.low (h:Pp w z sb b1 b2 n1 n2 f e):Below w.heap.size w z:=Hold.low h
theorem Pp.m1 (h:Pp w z sb b1 b2 n1 n2 f e):MapW z b1 100 n1 f:=Hold.mapw h
theorem Pp.m2 (h:Pp w z sb b1 b2 n1 n2 f e):MapW z b2 120 n2 e:=Hold.mapw (Hold.right h)
theorem Pp.box (h:Pp w z sb b1 b2 n1 n2 f e):Blk z w.heap.size 45 sb:=(Hold.right (Hold.right h)).blk
theorem Pq.low (h:Pq w z sb b1 b2 n1 n2 f e nv cv d s x gc ch):Below w.heap.size w z:=Hold.low h
theorem e4m:Firm (star (rowK 9 1 cv d (strs d x)) (star (rowK 3 1 nv d (nr .i64 d (nd d s))) (star (blkA gc 92 ch) (star (mapW b1 100 n1 f) (star (mapW b2 120 n2 e) (star (blkA w.heap.size 45 sb) a0i)))))):=(a0d _ _ _ _ _).star ((a0d _ _ _ _ _).star ((a0e _ _ _).star b3m))
theorem Pq.below (h:Pq w z sb b1 b2 n1 n2 f e nv cv d s x gc ch)(hb:Below z.heap.size z z'):Pq w z' sb b1 b2 n1 n2 f e nv cv d s x gc ch:=Hold.below h e4m hb
theorem Pq.crow (h:Pq w z sb b1 b2 n1 n2 f e nv cv d s x gc ch):z.ownsRow 0 9 1 cv d (strs d x):=Hold.rowK h
theorem Pq.nrow (h:Pq w z sb b1 b2 n1 n2 f e nv cv d s x gc ch):z.ownsRow 0 3 1 nv d (nr .i64 d (nd d s)):=Hold.rowK (Hold.right h)
theorem Pq.chg (h:Pq w z sb b1 b2 n1 n2 f e nv cv d s x gc ch):Blk z gc 92 ch:=(Hold.right (Hold.right h)).blk
theorem Pq.pp (h:Pq w z sb b1 b2 n1 n2 f e nv cv d s x gc ch):Pp w z sb b1 b2 n1 n2 f e:=Hold.right (Hold.right (Hold.right h))
theorem Pq.start {zl:World}(h:Pp w zl sb b1 b2 n1 n2 f e)(c:List Value){zb:World}(hb:Below (zl.alloc (.cells c.toArray 92)).heap.size (zl.alloc (.cells c.toArray 92)) zb)(hn:zb.ownsRow (zl.alloc (.cells c.toArray 92)).heap.size 3 1 nv d (nr .i64 d (nd d s))){zc:World}(hc:Below zb.heap.size zb zc)(hx:zc.ownsRow zb.heap.size 9 1 cv d (strs d x)):Pq w zc sb b1 b2 n1 n2 f e nv cv d s x zl.heap.size c:=by
 have h1:=Hold.newBlk b3m h 92 c.toArray;rw[List.toList_toArray]at h1;have h2:=h1.newRow ((a0e _ _ _).star b3m) hb hn;exact h2.newRow ((a0d _ _ _ _ _).star ((a0e _ _ _).star b3m)) hc hx
theorem Pq.put1 (h:Pq w z sb b1 b2 n1 n2 f e nv cv d s x gc ch)(hn:n1<=1000000){k:Nat}(hk:k<16)(c:BA):
 ∃z',(Instr.mapUpdate 149 (.map (some b1)) (.int .i64 (k:Int)) (wrW ((100+k:Nat):Int) c)).run prog z=.ok () z'/\Pq w z' sb b1 b2 (n1+1) n2 (pF f k c) e nv cv d s x gc ch:=by
 have h1:=Hold.pull4 h;obtain⟨z',hr,h2⟩:=h1.mapwPut ((a0d _ _ _ _ _).star ((a0d _ _ _ _ _).star ((a0e _ _ _).star ((a6t _ _ _ _).star ((a0e _ _ _).star a0c))))) hn hk c;exact⟨z',hr,h2.back4⟩
theorem Pq.put2 (h:Pq w z sb b1 b2 n1 n2 f e nv cv d s x gc ch)(hn:n2<=1000000){k:Nat}(hk:k<16)(c:BA):
 ∃z',(Instr.mapUpdate 149 (.map (some b2)) (.int .i64 (k:Int)) (wrW ((120+k:Nat):Int) c)).run prog z=.ok () z'/\Pq w z' sb b1 b2 n1 (n2+1) f (pF e k c) nv cv d s x gc ch:=by
 have h1:=Hold.pull5 h;obtain⟨z',hr,h2⟩:=h1.mapwPut ((a0d _ _ _ _ _).star ((a0d _ _ _ _ _).star ((a0e _ _ _).star ((a6t _ _ _ _).star ((a0e _ _ _).star a0c))))) hn hk c;exact⟨z',hr,h2.back5⟩
theorem Pp.start (w:World)(sb:List Value){z:World}(h:Hold w.heap.size w z (star (blkA w.heap.size 45 sb) a0i)):Pp w ((z.alloc (.map #[] 0)).alloc (.map #[] 0)) sb z.heap.size (z.heap.size+1) 0 0 (λ_=>none) (λ_=>none):=by
 have h1:=h.mapwNew ((a0e _ _ _).star a0c) 100;have h2:=h1.mapwNew ((a6t _ _ _ _).star ((a0e _ _ _).star a0c)) 120;have e:(z.alloc (.map #[] 0)).heap.size=z.heap.size+1:=by simp
 rw[e]at h2;exact h2.swap
end
theorem d0z {w:World}{g N:Nat}{D:Nat->Dk}{sn:Nat}{p:Option Nat}(hB:Bk w g N D sn p)(ht:Tabs w){i:Nat}(hi:i<N)(fG:140<=(D i).n){d n:Nat}(hn:2^d=n)(hd:1<=d/\d<=4){key:BA}(hg:GoodIs w (slV (.pointer (some ⟨g,0,none⟩)) (i:Int) (n:Int) key) true)(top:BA){a:Option Addr}{c:Nat}{l:List (Int×BA)}(hl:Cg w 92 a l)(hm:l.length<=100)(qG:rfE (n:Int) l=0):
 Calls prog 37 #[slV (.pointer (some ⟨g,0,none⟩)) (i:Int) (n:Int) key,.string top,.slice a l.length c] w λe w'=>((prR (rdS p (D i)) (eR p (D i)) d (sl0 top) l).1≠0->e=.returned (.tuple #[.slice none 0 0,.string noB,.int .i64 (prR (rdS p (D i)) (eR p (D i)) d (sl0 top) l).1]))/\
  ((prR (rdS p (D i)) (eR p (D i)) d (sl0 top) l).1=0->∃v,e=.returned (.tuple #[v,.string (prR (rdS p (D i)) (eR p (D i)) d (sl0 top) l).2.top,.int .i64 0])/\w'.ownsRow w.heap.size 144 2 v (slW (prR (rdS p (D i)) (eR p (D i)) d (sl0 top) l).2).length (a1e (slW (prR (rdS p (D i)) (eR p (D i)) d (sl0 top) l).2)))/\Below w.heap.size w w':=by
 have h16:n<=16:=by rw[<-hn];exact a1f d hd.2
 have hb:Hid (Below w.heap.size w (w.alloc (.cells #[.pointer (some ⟨g,0,none⟩),.int .i64 (i:Int),.int .i64 (n:Int),.string key] 45))):=(qw _ _).alloc (ql _) _;have dX:Hid (Blk _ _ _ _):=Blk.box w 45 [.pointer (some ⟨g,0,none⟩),.int .i64 (i:Int),.int .i64 (n:Int),.string key];have hz:Hid ((prog.info? 45).map (·.size)=some 4):=size45;have hz2:Hid ((prog.info? 92).map (·.size)=some 2):=sizeChg17;have hz3:Hid ((prog.info? 119).map (·.size)=some 3):=sizeWay17;have hzc:=d0h;have hzw:=c1j;have aI:=a8s;have cH:=@run_makeMap prog;have HC:Hid (Cg w 92 a l):=hl;have HIN:Hid (∀(k:Nat) q,l[k]?=some q->∃s:Nat,q.1=(s:Int)/\s<n/\q.2.size<=2032):=λk q hk=>by
  obtain⟨⟨h1,h2⟩,h3⟩:=d1y qG q (List.mem_of_getElem? hk);exact⟨q.1.toNat,by omega,by omega,h3⟩
 have oZ:Hid (Calls _ _ _ _ _):=c2c (hg.below hb.out) (hl.below hb.out) (c:=c) (by omega);rw[qG]at oZ;have HLE:Hid (∀z b1 n1 (S:Sl) s,Below w.heap.size w z->MapW z b1 100 n1 S.ch->s<n->Calls prog 54 #[slV (.pointer (some ⟨g,0,none⟩)) (i:Int) (n:Int) key,.string S.top,.int .i64 (s:Int),.map (some b1)] z λe w'=>(∃a1 n1 c1 a2 n2 c2 lf,e=.returned (.tuple #[.agg #[.slice a1 n1 c1,.slice a2 n2 c2,.string lf],.int .i64 (ovE (rdS p (D i)) (eR p (D i)) S d s)])/\
  (ovE (rdS p (D i)) (eR p (D i)) S d s=0->n1=d/\n2=d/\fol d s (slk (rdS p (D i)) S d s) S.top d=some lf/\Hold z.heap.size z w' (star (rowK 3 1 (.slice a1 n1 c1) d (nr .i64 d (nd d s))) (star (rowK 9 1 (.slice a2 n2 c2) d (strs d (slk (rdS p (D i)) S d s))) a0i))))/\Below z.heap.size z w'):=λz b1 n1 S s hz hmp hs=>b8x (hB.below hz) (ht.below hz ht.lt) hi fG hn hd key S (.inr ⟨b1,n1,rfl,hmp⟩) hs
 have HLF:Hid (∀z t,Below w.heap.size w z->t.size<=2032->Calls prog 57 #[.string t] z λe w'=>e=.returned (.string (lH t))/\Below z.heap.size z w'):=λz t hz hs=>b7i t (by omega) z (ht.below hz ht.lt);have HPU:Hid (∀z s a2 c2 (q:Nat->BA) x,Below w.heap.size w z->s<n->Sa z a2 d q->(∀k,k<d->(q k).size=64)->x.size=32->Calls prog 79 #[.int .i64 (s:Int),.slice a2 d c2,.string x] z λe w'=>∃v,e=.returned (.tuple #[v,.string (cur d s q x d),.int .i64 0])/\w'.ownsRow z.heap.size 9 1 v d (strs d (neu d s q x))/\Below z.heap.size z w'):=λz s a2 c2 q x hz hs hS hq hx=>e7q a2 d c2 s x q ⟨hd.1,hd.2,by omega,by omega⟩ ⟨hx,hq⟩ z hS (ht.below hz ht.lt);have qR:Hid (∀z (k:Nat),k<16->Calls prog 73 #[.int .i64 (k:Int)] z λe w'=>e=.returned (.int .i64 ((100+k:Nat):Int))/\w'=z):=λz k hk=>b0u k (by omega) z;have HCA:Hid (∀z (k:Nat),k<16->Calls prog 56 #[.int .i64 (k:Int)] z λe w'=>e=.returned (.int .i64 ((120+k:Nat):Int))/\w'=z):=λz k hk=>b1c k (by omega) z;have HND:Hid (∀s k,s<n->k<d->nd d s k<16):=λs k hs hk=>by have:=(a2u d s k hk (by omega)).2;omega
 have HSP:Hid (∀s,s<n->s<2^d):=λs hs=>by omega
 generalize lM:rdS p (D i)=rd at*;generalize cI:eR p (D i)=E at*;obtain⟨X,hX⟩:∃X,prR rd E d (sl0 top) l=X:=⟨_,rfl⟩;rw[hX];have fD:Hid (prR rd E d (sl0 top) l=X):=hX;have Hq:Hid (∀(k:Nat) q,l[k]?=some q->l.drop k=q::l.drop (k+1)):=λk q hk=>by
  obtain⟨h1,h2⟩:=List.getElem?_eq_some_iff.1 hk;rw[List.drop_eq_getElem_cons h1,h2]
 have H0:=(a1k w.heap.size w w (ql _) (qw _ _)).newBlk a0c 45 #[.pointer (some ⟨g,0,none⟩),.int .i64 (i:Int),.int .i64 (n:Int),.string key];generalize jE:l.length=m at*;have oJ:Hid (l.length=m):=jE;have hd2:d<=4:=hd.2;generalize jF:Value.pointer (some ⟨g,0,none⟩)=pv at*;clear hX hl hg jE lM cI hB ht hi fG hn hd qG jF;go_enter func37,ntmps37;go_wp2_with(first
  |(refine a0a rfl 45 _ rfl w.heap.size rfl 45 [pv,.int .i64 (i:Int),.int .i64 (n:Int),.string key] _ dX.out underlying45 rfl hz.out ?_)
  |(go_at_call 78;refine oZ.out.mono ?_;rintro e w1 ⟨rfl,hw⟩;have h1:=H0.below ((a0e _ _ _).star a0c) hw;have H1:Hid (Pp w ((w1.alloc (.map #[] 0)).alloc (.map #[] 0)) [pv,.int .i64 (i:Int),.int .i64 (n:Int),.string key] w1.heap.size (w1.heap.size+1) 0 0 (sl0 top).ch (sl0 top).ce):=Pp.start w _ h1;clear hw h1))
 generalize hw2:(w1.alloc (.map #[] 0)).alloc (.map #[] 0)=w2 at*;generalize hb2:w1.heap.size+1=b2 at*;generalize hb1:w1.heap.size=b1 at*;clear hw2 hb2 hb1 oZ H0 cH;go_loopw[12,33] (λtv j wr=>∃(k n1 n2:Nat) (S:Sl),k<=m/\j=.int .i64 (k:Int)/\tv=.string S.top/\Hid (n1<=4*k/\n2<=k)/\Hid (prR rd E d S (l.drop k)=X)/\Hid (Pp w wr [pv,.int .i64 (i:Int),.int .i64 (n:Int),.string key] b1 b2 n1 n2 S.ch S.ce)) (λ_ j _=>m-(intOf j).toNat)
 case atStart=>exact⟨0,0,0,sl0 top,Nat.zero_le _,rfl,rfl,⟨ql _,ql _⟩,fD.out,H1.out⟩
 case round=>
  clear H1 fD;obtain⟨k,n1,n2,S,hk,rfl,rfl,iG,bG,hh⟩:=hrel;by_cases p9:k<m
  ·have hk':(k:Int)<(m:Int):=(by omega);obtain⟨q,hp⟩:∃q,l[k]?=some q:=⟨_,List.getElem?_eq_getElem (by have:=oJ.out;omega)⟩;obtain⟨bq,oq,sL,fE⟩:=HC.out.at hh.out.low hp;subst sL;obtain⟨s,hs1,hs2,hs3⟩:=HIN.out k q hp;have bL:=Hq.out k q hp;have bU:=bG.out;rw[bL]at bU;have hq1:q.1.toNat=s:=(by omega);obtain⟨q1,t⟩:=q;simp only at hs1 hs3 fE hq1;subst hs1;have lD:Hid (wr.rangeAt bq (oq+k*2) [.int .i64 (s:Int),.string t]):=fE;have hh2:Hid (Pp w (wr.alloc (.cells [.int .i64 (s:Int),.string t].toArray 92)) [pv,.int .i64 (i:Int),.int .i64 (n:Int),.string key] b1 b2 n1 n2 S.ch S.ce):=hh.out.below ((qw _ _).alloc (ql _) _);have hN2:Hid (Blk (wr.alloc (.cells [.int .i64 (s:Int),.string t].toArray 92)) wr.heap.size 92 [.int .i64 (s:Int),.string t]):=Blk.box _ _ _;have hB2:Hid (Blk (wr.alloc (.cells [.int .i64 (s:Int),.string t].toArray 92)) w.heap.size 45 [pv,.int .i64 (i:Int),.int .i64 (n:Int),.string key]):=hh2.out.box;have fF:=HLE.out _ b1 n1 S s hh2.out.low hh2.out.m1 hs2;by_cases hE:ovE rd E S d s=0
   ·have pR:Hid (prR rd E d (sl1 rd S d s t) (l.drop (k+1))=X):=by
     show _=_;rw[<-bU,d2m (by rw[Int.toNat_natCast];exact hE),Int.toNat_natCast]
    have fK:Hid (ovE rd E S d s=0):=hE;rw[hE]at fF;clear bG bU bL hE hq1 fE;obtain⟨wz,lI⟩:∃wz,wr.alloc (.cells [.int .i64 (s:Int),.string t].toArray 92)=wz:=⟨_,rfl⟩;have qP:Hid (wr.alloc (.cells [.int .i64 (s:Int),.string t].toArray 92)=wz):=lI;rw[lI]at hh2 hN2 hB2 fF;have d0:=hN2.out.cell (i:=0) rfl;clear lI;go_wp2_with(first
     |(refine wpList_load_mid rfl 92 _ rfl bq (oq+k*2) rfl [.int .i64 (s:Int),.string t] _ lD.out underlying92 rfl hz2.out ?_)
     |(refine a0b rfl 92 _ _ rfl wr.heap.size [.int .i64 0,.string noB] [.int .i64 (s:Int),.string t] rfl rfl 92 (Blk.box _ _ _) hz2.out rfl (a8t _ _) ?_;rw[a2d,qP.out])
     |(refine a0a rfl 45 _ rfl w.heap.size rfl 45 [pv,.int .i64 (i:Int),.int .i64 (n:Int),.string key] _ hB2.out underlying45 rfl hz.out ?_)
     |(go_at_call 54;refine fF.mono ?_;rintro e w4 ⟨⟨a1,n1',c1,a2,n2',c2,lf,rfl,cF⟩,hw4⟩;have oI:Hid (_/\_/\_/\_):=cF trivial;have L4:Hid (Below wz.heap.size wz w4):=hw4;clear cF hw4 fF)
     |(refine a0b rfl 119 _ _ rfl w4.heap.size [.slice none 0 0,.slice none 0 0,.string noB] [.slice a1 n1' c1,.slice a2 n2' c2,.string lf] rfl rfl 119 (Blk.box _ _ _) hz3.out rfl (a7y _ _ _ _ _ _ _) ?_;rw[a2d]))
    obtain⟨e1,e2,nW,oY⟩:=oI.out;have e1':=e1.symm;have e2':=e2.symm;clear e1 e2;subst e1' e2';clear oI;have kO:Hid (fol d s (slk rd S d s) S.top d=some lf):=nW;have HNR:Hid (w4.ownsRow wz.heap.size 3 1 (.slice a1 d c1) d (nr .i64 d (nd d s))):=oY.rowBack;have uG:Hid (w4.ownsRow wz.heap.size 9 1 (.slice a2 d c2) d (strs d (slk rd S d s))):=oY.right.rowBack;clear nW oY d0 hB2;have hgl4:Hid (wz.heap.size<=w4.heap.size):=L4.out.size;have L5:Hid (Below wz.heap.size wz (w4.alloc (.cells [.slice a1 d c1,.slice a2 d c2,.string lf].toArray 119))):=L4.out.alloc L4.out.size _;have fA:Hid (Blk (w4.alloc (.cells [.slice a1 d c1,.slice a2 d c2,.string lf].toArray 119)) w4.heap.size 119 [.slice a1 d c1,.slice a2 d c2,.string lf]):=Blk.box _ _ _;have K45:Hid (Below w4.heap.size w4 (w4.alloc (.cells [.slice a1 d c1,.slice a2 d c2,.string lf].toArray 119))):=(qw _ _).alloc (ql _) _;generalize hw5:w4.alloc (.cells [.slice a1 d c1,.slice a2 d c2,.string lf].toArray 119)=w5 at*;generalize cV:w4.heap.size=gw at*;have hgw5:Hid (gw<=w5.heap.size):=(by show gw<=_;rw[<-cV];exact K45.out.size);have HS:Hid (∀z,Below w5.heap.size w5 z->(z.cell? ⟨wr.heap.size,0,none⟩=some (.int .i64 (s:Int))/\z.cell? ⟨wr.heap.size,1,none⟩=some (.string t)/\z.cell? ⟨gw,1,none⟩=some (.slice a2 d c2))/\z.cell? ⟨gw,0,none⟩=some (.slice a1 d c1)/\Below w.heap.size w z/\Sa z a2 d (slk rd S d s)/\Below wz.heap.size wz z/\z.ownsRow wz.heap.size 3 1 (.slice a1 d c1) d (nr .i64 d (nd d s))):=λz hz=>by
     have hq:Below wz.heap.size wz z:=L5.out.trans (hz.mono L5.out.size);have h4:Below gw w4 z:=K45.out.trans (hz.mono hgw5.out);have h1:=hN2.out.below hq hN2.out.lt;have h2:=fA.out.below hz fA.out.lt;have hK:Kept (λ_=>False) w4 z:=Kept.ofBelow (by rw[cV];exact h4);obtain⟨a',c',e1,e2⟩:=Sa.owns (a2n uG.out hK (λ_ _ h=>h))
     cases e1
     exact⟨⟨h1.cell (i:=0) rfl,h1.cell (i:=1) rfl,h2.cell (i:=1) rfl⟩,h2.cell (i:=0) rfl,hh2.out.low.trans (hq.mono hh2.out.low.size),e2,hq,a2n HNR.out hK (λ_ _ h=>h)⟩
    have M0:Hid (Below w5.heap.size w5 w5.drew):=(qw _ _).drew;have gH:Hid (∀k,k<d->(slk rd S d s k).size=64):=c0h kO.out;clear hw5 cV fA K45 L5 L4 HNR uG;refine wp_region_noPanic ?_;refine wp_region_held_drew (S:=λz:World=>z.cell? ⟨wr.heap.size,0,none⟩=some (.int .i64 (s:Int))/\z.cell? ⟨wr.heap.size,1,none⟩=some (.string t)/\z.cell? ⟨gw,1,none⟩=some (.slice a2 d c2)) (by kernel_rfl) (HS.out _ M0.out).1 (λp8=>?_);refine tkH 0 ?_;go_simp;refine tkH 1 ?_;go_simp;refine tkH 2 ?_;go_simp;refine tkH 3 ?_;go_simp;refine tkH 4 ?_;go_simp;refine tkH 5 ?_;go_simp;refine rdH 6 λK hK=>?_;go_simp;go_at_call 57;refine(HLF.out _ t (HS.out _ M0.out).2.2.1 hs3).mono ?_;rintro x wa ⟨rfl,cE⟩;have M1:Hid (Below w5.heap.size w5 wa):=M0.out.trans (cE.mono M0.out.size);clear cE;refine hK.out _ _ (HS.out _ M1.out).1 (λp8=>?_);clear hK K;refine rdH 7 λK hK=>?_;go_simp;go_at_call 79;refine(HPU.out _ s a2 c2 _ (lH t) (HS.out _ M1.out).2.2.1 hs2 (HS.out _ M1.out).2.2.2.1 gH.out (a8l t)).mono ?_;rintro x wb ⟨cv,rfl,x9,dJ⟩;obtain⟨a3,c3,rfl⟩:=a2a x9;have HQ:Hid (Pq w wb [pv,.int .i64 (i:Int),.int .i64 (n:Int),.string key] b1 b2 n1 n2 S.ch S.ce (.slice a1 d c1) (.slice a3 d c3) d s (neu d s (slk rd S d s) (lH t)) wr.heap.size [.int .i64 (s:Int),.string t]):=Pq.start hh.out [.int .i64 (s:Int),.string t] (zb:=wa) (by rw[qP.out];exact(HS.out _ M1.out).2.2.2.2.1) (by rw[qP.out];exact(HS.out _ M1.out).2.2.2.2.2) dJ x9;have M2:Hid (Below w5.heap.size w5 wb):=M1.out.trans (dJ.mono M1.out.size);clear dJ x9;refine hK.out _ _ (HS.out _ M2.out).1 (λp8=>?_);clear hK K;refine tkH 8 ?_;go_simp;refine tkH 9 ?_;go_simp;refine tkH 10 ?_;go_simp;refine tkH 11 ?_;go_simp;refine tkH 12 ?_;go_simp;refine tkH 13 ?_;go_simp;refine tkH 14 ?_;go_simp;refine wpAnyH_done (by kernel_rfl) ?_ _;refine NoPanic.normal ?_;have f0:=(HS.out _ M2.out).2.1;have HSX:Hid (∀x,x<1->True):=λ_ _=>trivial;obtain⟨x,hx⟩:∃x,neu d s (slk rd S d s) (lH t)=x:=⟨_,rfl⟩;rw[hx]at HQ;have HCJ:Hid (chJ S.ch d s x d=slCh rd S d s t):=(by rw[<-hx];exact e6g (HSP.out s hs2));clear hx HSX;obtain⟨cu,iE⟩:∃cu,cur d s (slk rd S d s) (lH t) d=cu:=⟨_,rfl⟩;have mT:Hid (cur d s (slk rd S d s) (lH t) d=cu):=iE;rw[iE];clear iE;go_wp2;obtain⟨gc,cA⟩:∃gc,wr.heap.size=gc:=⟨_,rfl⟩;rw[cA]at HQ;rw[cA];clear cA M2 M1 M0 HS hh hh2 hN2 qP kO gH fK f0 lD;obtain⟨wo,hwo⟩:∃wo,wr=wo:=⟨_,rfl⟩;subst hwo;go_loopw[64] (λj wy=>∃kk:Nat,kk<=d/\j=.int .i64 (kk:Int)/\Hid (Pq w wy [pv,.int .i64 (i:Int),.int .i64 (n:Int),.string key] b1 b2 (n1+kk) n2 (chJ S.ch d s x kk) S.ce (.slice a1 d c1) (.slice a3 d c3) d s x gc [.int .i64 (s:Int),.string t])) (λj _=>d-(intOf j).toNat)
    case atStart=>exact⟨0,Nat.zero_le _,rfl,HQ.out⟩
    case round=>
     clear HQ;obtain⟨kk,iT,rfl,hq⟩:=hrel;by_cases aD:kk<d
     ·have hkk':(kk:Int)<(d:Int):=(by omega);obtain⟨g1,hg1,mF⟩:=a2b hq.out.nrow (a3c .i64 d (nd d s) kk aD);subst hg1;obtain⟨g3,hg3,jV⟩:=a2b hq.out.crow (a0s d x kk aD);subst hg3;have hn16:=HND.out s kk hs2 aD;have hq1:Hid (Pq w wr.drew [pv,.int .i64 (i:Int),.int .i64 (n:Int),.string key] b1 b2 (n1+kk) n2 (chJ S.ch d s x kk) S.ce (.slice (some ⟨g1,0,none⟩) d c1) (.slice (some ⟨g3,0,none⟩) d c3) d s x gc [.int .i64 (s:Int),.string t]):=hq.out.below (qw _ _).drew;obtain⟨w7,hput,h7⟩:=hq1.out.put1 (by have:=iG.out;omega) hn16 (x kk);have H7:Hid (Pq w w7 [pv,.int .i64 (i:Int),.int .i64 (n:Int),.string key] b1 b2 (n1+(kk+1)) n2 (chJ S.ch d s x (kk+1)) S.ce (.slice (some ⟨g1,0,none⟩) d c1) (.slice (some ⟨g3,0,none⟩) d c3) d s x gc [.int .i64 (s:Int),.string t]):=h7;have hs7:Hid (w7.cell? ⟨g3,kk,none⟩=some (.string (x kk))):=by
       obtain⟨g',e1,e2⟩:=a2b h7.crow (a0s d x kk aD)
       cases e1;exact e2
      have hs0:Hid (wr.drew.cell? ⟨g3,kk,none⟩=some (.string (x kk))):=jV;clear h7 hq;generalize x kk=xk at*;generalize hA:((100+nd d s kk:Nat):Int)=A at*;have HPA2:Hid (∀z,Calls prog 73 #[.int .i64 ((nd d s kk:Nat):Int)] z λe w'=>e=.returned (.int .i64 A)/\w'=z):=λz=>(by rw[<-hA];exact qR.out z _ hn16);clear hA;generalize nd d s kk=nk at*;go_wp2;refine wp_region_noPanic ?_;refine wp_region_held_drew (S:=λz:World=>z.cell? ⟨g3,kk,none⟩=some (.string xk)) (by kernel_rfl) hs0.out (λp8=>?_);refine tkH 0 ?_;go_simp;refine tkH 1 ?_;go_simp;refine tkH 2 ?_;go_simp;refine tkH 4 ?_;go_simp;refine tkH 5 ?_;go_simp;refine tkH 6 ?_;go_simp;refine tkH 7 ?_;go_simp;refine rdH 3 λK hK=>?_;go_simp;go_at_call 73;refine(HPA2.out _).mono ?_;rintro y wa ⟨rfl,hw⟩;rw[hw];clear hw wa;refine hK.out _ _ hs0.out (λp8=>?_);clear hK K;refine tkH 8 ?_;go_simp;refine rdH 9 λK hK=>?_;go_simp;refine hK.out _ _ hs7.out (λp8=>?_);clear hK K;refine wpAnyH_done (by kernel_rfl) ?_ _;refine NoPanic.normal ?_;go_wp2;go_roundw
      case rel=>exact⟨kk+1,by omega,by go_num,H7.out⟩
      case measure=>simp[intOf];omega
     ·obtain rfl:kk=d:=(by omega);have hkk':¬(kk:Int)<(kk:Int):=(by omega);have hs16:s<16:=(by omega);have hq1:Hid (Pq w wr.drew [pv,.int .i64 (i:Int),.int .i64 (n:Int),.string key] b1 b2 (n1+kk) n2 (chJ S.ch kk s x kk) S.ce (.slice a1 kk c1) (.slice a3 kk c3) kk s x gc [.int .i64 (s:Int),.string t]):=hq.out.below (qw _ _).drew;obtain⟨w7,hput,h7⟩:=hq1.out.put2 (by have:=iG.out;omega) hs16 t;have H7:Hid (Pp w w7 [pv,.int .i64 (i:Int),.int .i64 (n:Int),.string key] b1 b2 (n1+kk) (n2+1) (sl1 rd S kk s t).ch (sl1 rd S kk s t).ce):=by
       have h8:=h7.pp;rw[HCJ.out]at h8;exact h8
      have hs7:Hid (w7.cell? ⟨gc,0,none⟩=some (.int .i64 (s:Int))/\w7.cell? ⟨gc,1,none⟩=some (.string t)):=⟨h7.chg.cell (i:=0) rfl,h7.chg.cell (i:=1) rfl⟩;have hs0:Hid (wr.drew.cell? ⟨gc,0,none⟩=some (.int .i64 (s:Int))/\wr.drew.cell? ⟨gc,1,none⟩=some (.string t)):=⟨hq1.out.chg.cell (i:=0) rfl,hq1.out.chg.cell (i:=1) rfl⟩;have HTOP:Hid (cu=(sl1 rd S kk s t).top):=mT.out.symm;clear h7 hq hq1;generalize hA:((120+s:Nat):Int)=A at*;have HCA2:Hid (∀z,Calls prog 56 #[.int .i64 (s:Int)] z λe w'=>e=.returned (.int .i64 A)/\w'=z):=λz=>(by rw[<-hA];exact HCA.out z _ hs16);clear hA;go_wp2;refine wp_region_noPanic ?_;refine wp_region_held_drew (S:=λz:World=>z.cell? ⟨gc,0,none⟩=some (.int .i64 (s:Int))/\z.cell? ⟨gc,1,none⟩=some (.string t)) (by kernel_rfl) hs0.out (λp8=>?_);refine tkH 0 ?_;go_simp;refine tkH 1 ?_;go_simp;refine tkH 2 ?_;go_simp;refine tkH 3 ?_;go_simp;refine tkH 4 ?_;go_simp;refine tkH 6 ?_;go_simp;refine tkH 7 ?_;go_simp;refine rdH 5 λK hK=>?_;go_simp;go_at_call 56;refine(HCA2.out _).mono ?_;rintro y wa ⟨rfl,hw⟩;rw[hw];clear hw wa;refine hK.out _ _ hs0.out (λp8=>?_);clear hK K;refine tkH 8 ?_;go_simp;refine rdH 9 λK hK=>?_;go_simp;refine hK.out _ _ hs7.out (λp8=>?_);clear hK K;refine wpAnyH_done (by kernel_rfl) ?_ _;refine NoPanic.normal ?_;go_wp2;go_roundw
      case rel=>exact⟨k+1,n1+kk,n2+1,sl1 rd S kk s t,by omega,by go_num,by rw[HTOP.out],⟨by have:=iG.out;omega,by have:=iG.out;omega⟩,pR.out,H7.out⟩
      case measure=>simp[intOf];omega
   ·have HX:Hid (X=(ovE rd E S d s,S)):=by
     show _=_;rw[<-bU,d2n (by rw[Int.toNat_natCast];exact hE),Int.toNat_natCast]
    have d0:=hN2.out.cell (i:=0) rfl;have sD:Hid (Below w.heap.size w (wr.alloc (.cells [.int .i64 (s:Int),.string t].toArray 92))):=hh2.out.low;have qT:Hid (ovE rd E S d s≠0):=hE;generalize ovE rd E S d s=OV at*;have hE':(OV !=0)=true:=(by simpa using hE);clear bG bU bL hq1 fE hh2 hN2;go_wp2_with(first
     |(refine wpList_load_mid rfl 92 _ rfl bq (oq+k*2) rfl [.int .i64 (s:Int),.string t] _ lD.out underlying92 rfl hz2.out ?_)
     |(refine a0b rfl 92 _ _ rfl wr.heap.size [.int .i64 0,.string noB] [.int .i64 (s:Int),.string t] rfl rfl 92 (Blk.box _ _ _) hz2.out rfl (a8t _ _) ?_;rw[a2d])
     |(refine a0a rfl 45 _ rfl w.heap.size rfl 45 [pv,.int .i64 (i:Int),.int .i64 (n:Int),.string key] _ hB2.out underlying45 rfl hz.out ?_)
     |(go_at_call 54;refine fF.mono ?_;rintro e w4 ⟨⟨a1,n1',c1,a2,n2',c2,lf,rfl,cF⟩,hw4⟩;have L4:Hid (Below w.heap.size w w4):=sD.out.trans (hw4.mono sD.out.size);clear cF hw4 fF)
     |(refine a0b rfl 119 _ _ rfl w4.heap.size [.slice none 0 0,.slice none 0 0,.string noB] [.slice a1 n1' c1,.slice a2 n2' c2,.string lf] rfl rfl 119 (Blk.box _ _ _) hz3.out rfl (a7y _ _ _ _ _ _ _) ?_;rw[a2d]))
    go_ret3;exact⟨λ_=>by rw[HX.out];rfl,λh0=>absurd (by rw[HX.out]at h0;exact h0) qT.out,L4.out.alloc L4.out.size _⟩
  ·obtain rfl:k=m:=(by omega);have hk':¬(k:Int)<(k:Int):=(by omega);have HX:Hid (X=(0,S)):=by
    show _=_;rw[<-bG.out,List.drop_eq_nil_of_le (by have:=oJ.out;omega)];rfl
   have hm1:=b3x hh.out.m1 (by have:=iG.out;omega);have hm2:Hid (∀z,Below wr.heap.size wr z->Calls prog 80 #[.map (some b2)] z λe w'=>∃v,e=.returned v/\w'.ownsRow z.heap.size 144 2 v (slL 120 S.ce 16).length (a1e (slL 120 S.ce 16))/\((slL 120 S.ce 16).length=0->v=.slice none 0 0)/\Below z.heap.size z w'):=λz hz=>b3x (hh.out.m2.below hz) (by have:=iG.out;omega);have HQW:Hid (slW S=slL 100 S.ch 16++slL 120 S.ce 16):=rfl;have l1:(slL 100 S.ch 16).length<=16:=(by rw[a5i];exact a5n _);have l2:(slL 120 S.ce 16).length<=16:=(by rw[a5i];exact a5n _);have LW:Hid (Below w.heap.size w wr):=hh.out.low;generalize slL 100 S.ch 16=q1 at*;generalize slL 120 S.ce 16=q2 at*;have tok:True:=trivial;go_wp2_with(first
    |(go_at_call 80;have _t:=tok;refine hm1.mono ?_;rintro e w3 ⟨v1,rfl,hr1,hn1,hb3⟩;have H3:Hid (Hold w.heap.size w w3 (star (rowK 144 2 v1 q1.length (a1e q1)) a0i)):=(a1k w.heap.size w wr LW.out.size LW.out).newRow a0c hb3 hr1;have L3:Hid (Below wr.heap.size wr w3):=hb3;clear tok hr1 hn1 hb3)
    |(go_at_call 80;refine(hm2.out _ L3.out).mono ?_;rintro e w4 ⟨v2,rfl,hr2,hn2,hb4⟩;obtain⟨v5,w5,r6,h5⟩:=e6k (H3.out.below ((a0d _ _ _ _ _).star a0c) hb4) hr2 (by first|exact hn2|(intro h0;exact hn2 (by rw[h0];rfl))) (by omega) (by omega);have H5:Hid (Hold w.heap.size w w5 (star (rowK 144 2 v5 (q1++q2).length (a1e (q1++q2))) a0i)):=h5;clear hr2 hn2 hb4 h5)
    |(at_builtin;refine Lib.wpList_append_run _ rfl _ _ 85 85 rfl _ _ rfl rfl _ _ r6 ?_))
   go_ret3;exact⟨λh0=>absurd (by rw[HX.out]) h0,λ_=>⟨v5,by rw[HX.out];rfl,by rw[HX.out];show _;rw[HQW.out];exact H5.out.rowBack⟩,H5.out.low⟩
def flN (x:BA)(j i:Nat):BA:=if i<j then x else noB
theorem a8v (n:Nat)(f:Nat->BA)(i:Nat):(strs n f)[i]?=if i<n then some (.string (f i))else none:=by
 by_cases h:i<n
 ·rw[qp h];exact a0s n f i h
 ·rw[qn h];exact List.getElem?_eq_none (by rw[a0o];omega)
theorem e5w (x:BA)(n j k:Nat)(h:j+k<=n):(strs n (flN x j)).take j++strs k (λ_=>x)++(strs n (flN x j)).drop (j+k)=strs n (flN x (j+k)):=by
 apply List.ext_getElem?;intro i;rw[a8v,List.append_assoc];by_cases h1:i<j
 ·rw[List.getElem?_append_left (by rw[List.length_take,a0o];omega),List.getElem?_take_of_lt h1,a8v,qp (by omega),qp (by omega)];unfold flN;rw[qp h1,qp (by omega)]
 ·rw[List.getElem?_append_right (by rw[List.length_take,a0o];omega),List.length_take,a0o,Nat.min_eq_left (by omega)];by_cases h2:i<j+k
  ·rw[List.getElem?_append_left (by rw[a0o];omega),a8v,qp (by omega),qp (by omega)];unfold flN;rw[qp h2]
  ·rw[List.getElem?_append_right (by rw[a0o];omega),List.getElem?_drop,a0o,a8v,show j+k+(i-j-k)=i by omega];unfold flN;rw[qn h1,qn h2]
theorem d5j (w:World)(g n j k:Nat)(x:BA)(a:Addr)(sc dc:Nat)(hg:Blk w g 9 (strs n (flN x j)))(hk:j+k<=n)(ha:∀i,i<k->w.cell? (a.add i)=some (.string x)):
 (Builtin.copy_ #[23,23] 3 #[.slice (some ⟨g,j,none⟩) (n-j) dc,.slice (some a) k sc]).run prog w=.ok (.int .i64 (k:Int)) (w.setRow g (strs n (flN x (j+k))).toArray):=by
 have hr:=run_copy_row (P:=prog) w 23 23 3 9 g j (n-j) dc a k sc (strs n (flN x j)).toArray 9 (strs k λ_=>x) underlying23 (by kernel_rfl) hg (by rw[a0o];exact(Nat.min_eq_left (by omega)).symm) (λi v hv=>by
  rw[a8v]at hv;by_cases hi:i<k
  ·rw[qp hi]at hv;cases hv;exact ha i hi
  ·rw[qn hi]at hv;cases hv) (by simp[a0o];omega) (a8u k _)
 rw[hr];rw[a0o,List.toList_toArray,e5w x n j k hk];rfl
theorem e5v (x:BA)(n:Nat):strs n (flN x 0)=strs n λ_=>noB:=by
 unfold strs flN;exact List.map_congr_left λi _=>by rw[qn (by omega)]
theorem e8z (x:BA)(n:Nat):strs n (flN x n)=strs n λ_=>x:=by
 unfold strs flN;exact List.map_congr_left λi hi=>by rw[qp (List.mem_range.1 hi)]
theorem c2b {w:World}{gx cx d n:Nat}{x:BA}(hx:w.cell? ⟨gx,0,none⟩=some (.string x))(hn:2^d=n)(hd:1<=d/\d<=4):Calls prog 72 #[.slice (some ⟨gx,0,none⟩) 1 cx,.int .i64 (n:Int)] w λe w'=>∃g,e=.returned (.slice (some ⟨g,0,none⟩) n n)/\Blk w' g 9 (strs n λ_=>x)/\Below w.heap.size w w':=by
 have h16:n<=16:=by rw[<-hn];exact a1f d hd.2
 have h2:2<=n:=by rw[<-hn];exact(a3k hd.1)
 have gX:Hid (∀z,Calls prog 115 #[.int .u64 1,.int .u64 (n:Int)] z λe w'=>e=.returned (.tuple #[.int .u64 0,.int .u64 (n:Int)])/\w'=z):=λz=>by
  have h:=Any.bits_Mul (P:=prog) (ρ:=d1z) {d2a with} 1 n (by decide) (by omega) z;rw[Nat.one_mul,Nat.div_eq_of_lt (by omega),Nat.mod_eq_of_lt (by omega)]at h;exact h
 have cH:=b7b n (by omega) w;rw[<-e5v x n]at cH;have hB0:=Blk.box w 9 (strs n (flN x 0));have hbw:Hid (Below w.heap.size w (w.alloc (.cells (strs n (flN x 0)).toArray 9))):=(qw _ _).alloc (ql _) _;have hxl:=a1v hx;have hc0:=d5j (w.alloc (.cells (strs n (flN x 0)).toArray 9)) w.heap.size n 0 1 x ⟨gx,0,none⟩ cx n hB0 (by omega) (λi hi=>by
  obtain rfl:i=0:=by omega
  rw[Go.WideShapes.add_plain];exact(hbw.out.cell (p:=⟨gx,0,none⟩) hxl).trans hx)
 rw[Nat.sub_zero,Nat.zero_add]at hc0;have HP:Hid (∀e,e<d->2^e+2^e<=n/\2^e<n/\2^(e+1)=2^e+2^e):=λe he=>by
  have h1:2^(e+1)=2^e+2^e:=by rw[Nat.pow_succ];omega
  have h3:2^(e+1)<=2^d:=a3k he;have h4:=a4l e;exact⟨by omega,by omega,h1⟩
 have HD:Hid (2^d=n):=hn;have n0:¬(n:Int)<0:=by omega
 have n1:(n:Int)%18446744073709551616=(n:Int):=by omega
 have n2:¬(9223372036854775807:Int)<(n:Int):=by omega
 have H1:Hid (Below w.heap.size w ((w.alloc (.cells (strs n (flN x 0)).toArray 9)).setRow w.heap.size (strs n (flN x 1)).toArray)/\Blk ((w.alloc (.cells (strs n (flN x 0)).toArray 9)).setRow w.heap.size (strs n (flN x 1)).toArray) w.heap.size 9 (strs n (flN x 1))):=⟨Below.boxed w 9 _ _,hB0.setRow⟩;clear hn hx hB0;generalize hw1:w.alloc (.cells (strs n (flN x 0)).toArray 9)=w1 at*;generalize hw2:w1.setRow w.heap.size (strs n (flN x 1)).toArray=w2 at*;clear hw1 hw2;go_enter func72,ntmps72;go_wp2_with(go_at_call 115;refine(gX.out _).mono ?_;rintro e w3 ⟨rfl,hw⟩;rw[hw];clear hw w3);clear cH hc0;go_loopw[8] (λj wr=>∃(e k:Nat),e<=d/\j=.int .i64 (k:Int)/\Hid (k=2^e)/\Hid (Below w.heap.size w wr/\Blk wr w.heap.size 9 (strs n (flN x k)))) (λj _=>n-(intOf j).toNat)
 case atStart=>exact⟨0,1,Nat.zero_le _,rfl,rfl,H1.out⟩
 case round=>
  clear H1;obtain⟨e,k,he,rfl,hk,hh⟩:=hrel;by_cases p9:e<d
  ·obtain⟨p1,p2,p3⟩:=HP.out e p9;rw[<-hk.out]at p1 p2 p3;have hpos:1<=k:=(by rw[hk.out];exact a4l e);have hk':(k:Int)<(n:Int):=(by omega);have hk2:(k:Int)<=(n:Int):=(by omega);have hk3:(0:Int)<=(k:Int):=(by omega);have kX:=d5j wr.drew w.heap.size n k k x ⟨w.heap.size,0,none⟩ n (n-k) hh.out.2 p1 (λi hi=>by
    rw[Go.WideShapes.add_plain,Nat.zero_add];have hc:=hh.out.2.cell (a0s n (flN x k) i (by omega));unfold flN at hc;rw[qp hi]at hc;exact hc)
   have H2:Hid (Below w.heap.size w (wr.drew.setRow w.heap.size (strs n (flN x (k+k))).toArray)/\Blk (wr.drew.setRow w.heap.size (strs n (flN x (k+k))).toArray) w.heap.size 9 (strs n (flN x (k+k)))):=⟨below_setRow hh.out.1.drew (ql _) _,hh.out.2.drew.setRow⟩;have HK:Hid (k+k=2^(e+1)):=p3.symm;generalize hw5:wr.drew.setRow w.heap.size (strs n (flN x (k+k))).toArray=w5 at*;clear hw5 p1 p3 hh hk;have aM:((k:Int)).toNat=k:=(by omega);have rV:((n:Int)-(k:Int)).toNat=n-k:=(by omega);have nS:¬n=k:=(by omega);have hke2:¬(n:Int)=(k:Int):=(by omega);have hwk:IntKind.i64.wrap ((k:Int)+(k:Int))=(k:Int)+(k:Int):=IntWalk.i64_in _ ⟨by omega,by omega⟩;go_wp2;refine wp_region_noPanic ?_;refine wp_region_held_drew (S:=λ_=>True) (by kernel_rfl) trivial (λp8=>?_);refine tkH 0 ?_;go_simp;refine tkH 1 ?_;go_simp;refine tkH 2 ?_;go_simp;refine tkH 3 ?_;go_simp;refine tkH 4 ?_;go_simp;refine tkH 5 ?_;go_simp;refine tkH 6 ?_;go_simp;refine rdH 7 λK hK=>?_;refine a3h rfl _ _ 23 23 rfl _ _ rfl rfl _ _ kX ?_;refine hK.out _ _ trivial (λp8=>?_);clear hK K;refine tkH 8 ?_;go_simp;refine tkH 9 ?_;go_simp;refine wpAnyH_done (by kernel_rfl) ?_ _;refine NoPanic.normal ?_;go_wp2;go_roundw
   case rel=>exact⟨e+1,k+k,by omega,by go_num,HK.out,H2.out⟩
   case measure=>simp[intOf];omega
  ·obtain rfl:e=d:=(by omega);have aM:k=n:=(by rw[hk.out,HD.out]);subst aM;have hk':¬(k:Int)<(k:Int):=(by omega);have HF:Hid (Blk wr w.heap.size 9 (strs k λ_=>x)):=by
    have:=hh.out.2;rw[e8z]at this;exact this
   go_wp2;go_ret;exact⟨w.heap.size,rfl,HF.out,hh.out.1⟩
def eL (_:Nat):BA:=lH noB
def blP (n:Nat):Nat->List Wr
 |0=>[]
 |k+1=>blP n k++[(100+(k+1),tpr eL n (k+1))]
def blC:Nat->List Wr
 |0=>[]
 |k+1=>blC k++[(120+k,noB)]
def blW (n:Nat):List Wr:=blP n (n-1)++blC n
theorem a7n (n:Nat):∀k,(blP n k).length=k
 |0=>rfl
 |k+1=>by show(blP n k++_).length=_;rw[List.length_append,a7n n k];rfl
theorem b1d:∀k,(blC k).length=k
 |0=>rfl
 |k+1=>by show(blC k++_).length=_;rw[List.length_append,b1d k];rfl
theorem b5w (n:Nat):(blW n).length=n-1+n:=by unfold blW;rw[List.length_append,a7n,b1d]
theorem bT_eL {d n:Nat}(hn:2^d=n)(hd:1<=d/\d<=4)(D:Nat->BA)(hD:∀j,D j=lH noB):bE n D=0/\bN n D=n/\bT n D=tdg eL n 1/\∀j,1<=j->bP n D j=tpr eL n j:=by
 have nY:D=eL:=funext λj=>hD j;subst nY;have h:=d6g (n:=n) (D:=eL) (by rw[<-hn];exact b0t hd.1 hd.2) (λi _=>a8l _);exact⟨h,(d6f h).1,(d6f h).2,λj hj=>qn (by omega)⟩
def Bl17 (w z:World)(sb:List Value)(v pv:Value)(n:Nat)(q:List Wr):Prop:=Hold w.heap.size w z (star (rowK 144 2 v q.length (a1e q)) (star (rowK 9 1 pv n (strs n (bP n eL))) (star (blkA w.heap.size 45 sb) a0i)))
section
variable {w z z':World}{sb:List Value}{v pv:Value}{n:Nat}{q:List Wr}
theorem d5z:Firm (star (rowK 9 1 pv n (strs n (bP n eL))) (star (blkA w.heap.size 45 sb) a0i)):=(a0d _ _ _ _ _).star ((a0e _ _ _).star a0c)
theorem Bl17.below (h:Bl17 w z sb v pv n q)(hb:Below z.heap.size z z'):Bl17 w z' sb v pv n q:=Hold.below h ((a0d _ _ _ _ _).star d5z) hb
theorem Bl17.box (h:Bl17 w z sb v pv n q):Blk z w.heap.size 45 sb:=(Hold.right (Hold.right h)).blk
theorem Bl17.row (h:Bl17 w z sb v pv n q):z.ownsRow 0 9 1 pv n (strs n (bP n eL)):=Hold.rowK (Hold.right h)
theorem Bl17.push (h:Bl17 w z sb v pv n q)(hq:q.length<=1000)(p:Wr):∃a c z',(Builtin.append_ #[85,85] 85 #[v,.slice (some ⟨z.heap.size,0,none⟩) 1 1]).run prog (z.alloc (.cells #[.int .i64 (p.1:Int),.string p.2] 144))=.ok (.slice a (q.length+1) c) z'/\Bl17 w z' sb (.slice a (q.length+1) c) pv n (q++[p]):=by
 obtain⟨a,c,z',h1,h2⟩:=d2h d5z h hq p;refine⟨a,c,z',h1,?_⟩;unfold Bl17;rw[List.length_append];exact h2
end
theorem c7x {w:World}{pv:Value}{i:Int}{d n:Nat}{key:BA}(hg:GoodIs w (slV pv i (n:Int) key) true)(ht:Tabs w)(hn:2^d=n)(hd:1<=d/\d<=4):Calls prog 34 #[slV pv i (n:Int) key] w λe w'=>∃v,e=.returned (.tuple #[v,.string (tdg eL n 1),.int .i64 0])/\w'.ownsRow w.heap.size 144 2 v (blW n).length (a1e (blW n))/\Below w.heap.size w w':=by
 have h16:n<=16:=by rw[<-hn];exact a1f d hd.2
 have h2n:2<=n:=by rw[<-hn];exact(a3k hd.1)
 have hb:Hid (Below w.heap.size w (w.alloc (.cells #[pv,.int .i64 i,.int .i64 (n:Int),.string key] 45))):=(qw _ _).alloc (ql _) _;have hB:Hid (Blk _ _ _ _):=Blk.box w 45 [pv,.int .i64 i,.int .i64 (n:Int),.string key];have hc:Hid (Calls _ _ _ _ _):=hg _ hb.out;have hz:Hid ((prog.info? 45).map (·.size)=some 4):=size45;have aI:=a8s;have H0:=(a1k w.heap.size w w (ql _) (qw _ _)).newBlk a0c 45 #[pv,.int .i64 i,.int .i64 (n:Int),.string key];have HLF:Hid (∀z,Below w.heap.size w z->Calls prog 57 #[.string noB] z λe w'=>e=.returned (.string (lH noB))/\Below z.heap.size z w'):=λz hz=>b7i noB (by decide) z (ht.below hz ht.lt);have HRP:Hid (∀z gx,z.cell? ⟨gx,0,none⟩=some (.string (lH noB))->Calls prog 72 #[.slice (some ⟨gx,0,none⟩) 1 1,.int .i64 (n:Int)] z λe w'=>∃g,e=.returned (.slice (some ⟨g,0,none⟩) n n)/\Blk w' g 9 (strs n λ_=>lH noB)/\Below z.heap.size z w'):=λz gx h=>c2b h hn hd;have HBU:Hid (∀z g,Below w.heap.size w z->Blk z g 9 (strs n λ_=>lH noB)->Calls prog 71 #[.slice (some ⟨g,0,none⟩) n n] z λe w'=>∃v,e=.returned (.tuple #[v,.string (tdg eL n 1),.int .i64 0])/\w'.ownsRow z.heap.size 9 1 v n (strs n (bP n eL))/\Below z.heap.size z w'):=λz g hz hB=>by
  obtain⟨e1,e2,e3,e4⟩:=bT_eL hn hd eL (λ_=>rfl);have pX:Sa z (some ⟨g,0,none⟩) n eL:=by
   obtain⟨a,c,f1,f2⟩:=Sa.owns (b2n (base:=0) hB (a0o _ _) (by omega) (Nat.zero_le _))
   cases f1;exact f2
  have h:=d5r (some ⟨g,0,none⟩) n n (by omega) eL z pX (ht.below hz ht.lt);rw[e1,e2,e3]at h;exact h
 have qR:Hid (∀z (k:Nat),k<17->Calls prog 73 #[.int .i64 (k:Int)] z λe w'=>e=.returned (.int .i64 ((100+k:Nat):Int))/\w'=z):=λz k hk=>b0u k (by omega) z;have HCA:Hid (∀z (k:Nat),k<17->Calls prog 56 #[.int .i64 (k:Int)] z λe w'=>e=.returned (.int .i64 ((120+k:Nat):Int))/\w'=z):=λz k hk=>b1c k (by omega) z;generalize tdg eL n 1=top at*;generalize lH noB=L at*;clear hg ht hn hd;go_enter func34,ntmps34;go_wp2_with(first
  |(refine a0a rfl 45 _ rfl w.heap.size rfl 45 [pv,.int .i64 i,.int .i64 (n:Int),.string key] _ hB.out underlying45 rfl hz.out ?_)
  |(go_at_call 70;refine hc.out.mono ?_;rintro e w1 ⟨rfl,hw⟩;have H1:Hid (Hold w.heap.size w w1 (star (blkA w.heap.size 45 [pv,.int .i64 i,.int .i64 (n:Int),.string key]) a0i)):=H0.below ((a0e _ _ _).star a0c) hw;clear hw))
 have HS:Hid (∀z,Below w1.heap.size w1 z->z.cell? ⟨w.heap.size,2,none⟩=some (.int .i64 (n:Int))/\Hold w.heap.size w z (star (blkA w.heap.size 45 [pv,.int .i64 i,.int .i64 (n:Int),.string key]) a0i)):=λz hz=>by
  have h:=H1.out.below ((a0e _ _ _).star a0c) hz;exact⟨h.blk.cell (i:=2) rfl,h⟩
 have M0:Hid (Below w1.heap.size w1 w1.drew):=(qw _ _).drew;clear H0 hc hB hb;refine wp_region_noPanic ?_;refine wp_region_held_drew (S:=λz:World=>z.cell? ⟨w.heap.size,2,none⟩=some (.int .i64 (n:Int))) (by kernel_rfl) (HS.out _ M0.out).1 (λp8=>?_);refine tkH 2 ?_;go_simp;refine tkH 3 ?_;go_simp;refine rdH 0 λK hK=>?_;go_simp;go_at_call 57;refine(HLF.out _ (HS.out _ M0.out).2.low).mono ?_;rintro x wa ⟨rfl,cE⟩;have M1:Hid (Below w1.heap.size w1 wa):=M0.out.trans (cE.mono M0.out.size);clear cE;refine hK.out _ _ (HS.out _ M1.out).1 (λp8=>?_);clear hK K;have M2:Hid (Below w1.heap.size w1 (wa.alloc (.cells #[.string L] 9))):=M1.out.alloc M1.out.size _;have jV:(wa.alloc (.cells #[.string L] 9)).cell? ⟨wa.heap.size,0,none⟩=some (.string L):=(Blk.new wa 9 #[.string L]).cell rfl;refine rdH 1 λK hK=>?_;go_simp;refine hK.out _ _ (HS.out _ M2.out).1 (λp8=>?_);clear hK K;refine rdH 4 λK hK=>?_;go_simp;go_at_call 72;refine(HRP.out _ _ jV).mono ?_;rintro x wb ⟨gr,rfl,aZ,dJ⟩;have M3:Hid (Below w1.heap.size w1 wb):=M2.out.trans (dJ.mono M2.out.size);have HBR:Hid (Blk wb gr 9 (strs n λ_=>L)):=aZ;clear dJ aZ jV;refine hK.out _ _ (HS.out _ M3.out).1 (λp8=>?_);clear hK K;refine rdH 5 λK hK=>?_;go_simp;go_at_call 71;refine(HBU.out _ _ (HS.out _ M3.out).2.low HBR.out).mono ?_;rintro x wc ⟨pvv,rfl,x9,bW⟩;have M4:Hid (Below w1.heap.size w1 wc):=M3.out.trans (bW.mono M3.out.size);have H4:Hid (Bl17 w wc [pv,.int .i64 i,.int .i64 (n:Int),.string key] (.slice none 0 0) pvv n (blP n 0)):=((HS.out _ M3.out).2.newRow ((a0e _ _ _).star a0c) bW x9).mono λF h=>a2g h;clear bW x9;refine hK.out _ _ (HS.out _ M4.out).1 (λp8=>?_);clear hK K;refine tkH 6 ?_;go_simp;refine tkH 7 ?_;go_simp;refine tkH 8 ?_;go_simp;refine tkH 9 ?_;go_simp;refine tkH 10 ?_;go_simp;refine tkH 11 ?_;go_simp;refine tkH 12 ?_;go_simp;refine wpAnyH_done (by kernel_rfl) ?_ _;refine NoPanic.normal ?_;clear HS M0 M1 M2 M3 M4 HLF HRP HBU HBR;go_wp2;obtain⟨ap,cp,jF⟩:=a2a H4.out.row;subst jF;have SB:Hid (∀z v q,Bl17 w z [pv,.int .i64 i,.int .i64 (n:Int),.string key] v (.slice ap n cp) n q->z.cell? ⟨w.heap.size,2,none⟩=some (.int .i64 (n:Int))):=λz v q h=>h.box.cell (i:=2) rfl;go_loopw[8,9] (λv j wr=>∃(k c:Nat) (a:Option Addr),k+1<=n/\j=.int .i64 ((k:Int)+1)/\v=.slice a k c/\Hid (Bl17 w wr [pv,.int .i64 i,.int .i64 (n:Int),.string key] (.slice a k c) (.slice ap n cp) n (blP n k))) (λ_ j _=>n-(intOf j).toNat)
 case atStart=>exact⟨0,0,none,by omega,rfl,rfl,H4.out⟩
 case round=>
  clear H4;obtain⟨k,c,a,hk,rfl,rfl,hh⟩:=hrel;have c2:=SB.out _ _ _ hh.out;by_cases p9:k+1<n
  ·have hk':(k:Int)+1<(n:Int):=(by omega);have bM:=a0s n (bP n eL) (k+1) p9;rw[show bP n eL (k+1)=tpr eL n (k+1)from qn (by omega)]at bM;obtain⟨gp,hgp,x5⟩:=a2b hh.out.row bM;subst hgp;have hh1:Hid (Bl17 w wr.drew [pv,.int .i64 i,.int .i64 (n:Int),.string key] (.slice a k c) (.slice (some ⟨gp,0,none⟩) n cp) n (blP n k)):=hh.out.below (qw _ _).drew;have hq1:=a7n n k;obtain⟨a',c',w6,r6,h6⟩:=hh1.out.push (by omega) (100+(k+1),tpr eL n (k+1));rw[hq1]at r6 h6;have H6:Hid (Bl17 w w6 [pv,.int .i64 i,.int .i64 (n:Int),.string key] (.slice a' (k+1) c') (.slice (some ⟨gp,0,none⟩) n cp) n (blP n (k+1))):=h6;have hs0:Hid (wr.drew.cell? ⟨gp,k+1,none⟩=some (.string (tpr eL n (k+1)))):=x5;have hs1:Hid ((wr.drew.alloc (.cells #[.int .i64 ((100+(k+1):Nat):Int),.string (tpr eL n (k+1))] 144)).cell? ⟨gp,k+1,none⟩=some (.string (tpr eL n (k+1)))):=by
    obtain⟨g',e1,e2⟩:=a2b (hh1.out.below ((qw wr.drew.heap.size wr.drew).alloc (ql _) (.cells #[.int .i64 ((100+(k+1):Nat):Int),.string (tpr eL n (k+1))] 144))).row bM
    cases e1;exact e2
   have hs2:Hid (w6.cell? ⟨gp,k+1,none⟩=some (.string (tpr eL n (k+1)))):=by
    obtain⟨g',e1,e2⟩:=a2b h6.row bM
    cases e1;exact e2
   have ek:(k:Int)+1=((k+1:Nat):Int):=(by omega);have cM:=qR.out wr.drew (k+1) (by omega);rw[<-ek]at cM;have ekn:((k:Int)+1).toNat=k+1:=(by omega);have hk0:(0:Int)<=(k:Int)+1:=(by omega);generalize tpr eL n (k+1)=T at*;generalize((100+(k+1):Nat):Int)=A at*;clear h6 hh hh1 bM ek hq1;go_wp2;refine wp_region_noPanic ?_;refine wp_region_held_drew (S:=λz:World=>z.cell? ⟨gp,k+1,none⟩=some (.string T)) (by kernel_rfl) hs0.out (λp8=>?_);refine tkH 0 ?_;go_simp;refine tkH 1 ?_;go_simp;refine tkH 3 ?_;go_simp;refine tkH 4 ?_;go_simp;refine tkH 5 ?_;go_simp;refine tkH 6 ?_;go_simp;refine rdH 2 λK hK=>?_;go_simp;go_at_call 73;refine cM.mono ?_;rintro y wa ⟨rfl,hw⟩;rw[hw];clear hw wa;refine hK.out _ _ hs0.out (λp8=>?_);clear hK K;refine tkH 7 ?_;go_simp;refine rdH 8 λK hK=>?_;go_simp;refine hK.out _ _ hs1.out (λp8=>?_);clear hK K;refine rdH 9 λK hK=>?_;refine a0x rfl _ _ 85 85 rfl _ _ rfl rfl _ _ r6 ?_;refine hK.out _ _ hs2.out (λp8=>?_);clear hK K;refine tkH 10 ?_;go_simp;refine wpAnyH_done (by kernel_rfl) ?_ _;refine NoPanic.normal ?_;go_wp2;go_roundw
   case rel=>exact⟨k+1,c',a',by omega,by go_num,rfl,H6.out⟩
   case measure=>simp[intOf];omega
  ·obtain rfl:n=k+1:=(by omega);have hk':¬(k:Int)+1<((k+1:Nat):Int):=(by omega);have H5:Hid (Bl17 w wr [pv,.int .i64 i,.int .i64 ((k+1:Nat):Int),.string key] (.slice a k c) (.slice ap (k+1) cp) (k+1) (blP (k+1) k++blC 0)):=by
    show Bl17 _ _ _ _ _ _ _;rw[show blC 0=[]from rfl,List.append_nil];exact hh.out
   generalize hN:((k+1:Nat):Int)=N at*;have HN:Hid (((k+1:Nat):Int)=N):=hN;have HNk:N=(k:Int)+1:=(by omega);clear hN hh;go_wp2;go_loopw[8,42] (λv j wz=>∃(m c:Nat) (a:Option Addr),m<=k+1/\j=.int .i64 (m:Int)/\v=.slice a (k+m) c/\Hid (Bl17 w wz [pv,.int .i64 i,.int .i64 N,.string key] (.slice a (k+m) c) (.slice ap (k+1) cp) (k+1) (blP (k+1) k++blC m))) (λ_ j _=>k+1-(intOf j).toNat)
   case atStart=>exact⟨0,c,a,by omega,rfl,rfl,H5.out⟩
   case round=>
    clear H5 c2;obtain⟨m,c,a,hm,rfl,rfl,hq⟩:=hrel;by_cases aD:m<k+1
    ·have hm':(m:Int)<N:=(by omega);have jE:(blP (k+1) k++blC m).length=k+m:=(by rw[List.length_append,a7n,b1d]);obtain⟨a',c',w6,r6,h6⟩:=hq.out.push (by omega) (120+m,noB);rw[jE]at r6 h6;have H6:Hid (Bl17 w w6 [pv,.int .i64 i,.int .i64 N,.string key] (.slice a' (k+(m+1)) c') (.slice ap (k+1) cp) (k+1) (blP (k+1) k++blC (m+1))):=by
      show Bl17 _ _ _ _ _ _ _;have e1:blP (k+1) k++blC (m+1)=blP (k+1) k++blC m++[(120+m,noB)]:=(by rw[List.append_assoc];rfl);rw[e1];exact h6
     have mG:=HCA.out wr m (by omega);generalize((120+m:Nat):Int)=A at*;clear h6 hq jE;go_wp2_with(first
      |(go_at_call 56;refine mG.mono ?_;rintro y wa ⟨rfl,hw⟩;rw[hw];clear hw wa)
      |(at_builtin;refine Lib.wpList_append_run _ rfl _ _ 85 85 rfl _ _ rfl rfl _ _ r6 ?_))
     go_roundw
     case rel=>exact⟨m+1,c',a',by omega,by go_num,rfl,H6.out⟩
     case measure=>simp[intOf];omega
    ·obtain rfl:m=k+1:=(by omega);have hm':¬((k+1:Nat):Int)<N:=(by have:=HN.out;omega);have hm2:¬(k:Int)+1<N:=(by omega);go_wp2;go_ret3;exact⟨_,rfl,by
      show _;have h:=Hold.rowBack hq.out;have e1:blW (k+1)=blP (k+1) k++blC (k+1):=rfl;rw[e1];exact h,Hold.low hq.out⟩
end Go.Proofs.YtokknmkleceooaaGreatDoor
