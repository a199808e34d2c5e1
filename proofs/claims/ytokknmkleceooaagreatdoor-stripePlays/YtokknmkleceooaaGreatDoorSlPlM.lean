import Derived.Test.YtokknmkleceooaaGreatDoorTrM
import Derived.Test.YtokknmkleceooaaGreatDoorBkM
import Derived.Test.YtokknmkleceooaaGreatDoorAeM
import Derived.Test.YtokknmkleceooaaGreatDoorCdM
namespace Go.Proofs.YtokknmkleceooaaGreatDoor
set_option linter.unusedVariables false
set_option maxRecDepth 20000
set_option maxHeartbeats 8000000
open Go.Proofs.Tryz
open Go.RowKit Go.PlainAid
def lH (c:BA):BA:=a3p (⟨#[0]⟩++c)
theorem a8l (c:BA):(lH c).size=32:=b4b _
structure Sl where
 top:BA
 ch:Nat->Option BA
 ce:Nat->Option BA
def sl0 (top:BA):Sl:=⟨top,λ_=>none,λ_=>none⟩
def slp (rd:Nat->BA)(S:Sl)(i:Nat):BA:=(S.ch i).getD (rd (100+i))
def slk (rd:Nat->BA)(S:Sl)(d s k:Nat):BA:=slp rd S (nd d s k)
def allC (S:Sl)(d s:Nat):Prop:=∀k,k<d->S.ch (nd d s k)≠none
instance (S:Sl)(d s:Nat):Decidable (allC S d s):=by unfold allC;infer_instance
def ovE (rd:Nat->BA)(E:Int)(S:Sl)(d s:Nat):Int:=if E=0\/allC S d s then oE (fol d s (slk rd S d s) S.top d)else E
def slCh (rd:Nat->BA)(S:Sl)(d s:Nat)(c:BA)(i:Nat):Option BA:=match(List.range d).find? (λk=>nd d s k==i)with
 |some k=>some (neu d s (slk rd S d s) (lH c) k)
 |none=>S.ch i
def sl1 (rd:Nat->BA)(S:Sl)(d s:Nat)(c:BA):Sl:=⟨cur d s (slk rd S d s) (lH c) d,slCh rd S d s c,λj=>if j=s then some c else S.ce j⟩
def slN (rd:Nat->BA)(E:Int)(d:Nat)(A:Nat->Nat)(C:Nat->BA)(S:Sl):Nat->Sl
 |0=>S
 |n+1=>sl1 rd (slN rd E d A C S n) d (A n) (C n)
def slE (rd:Nat->BA)(E:Int)(d:Nat)(A:Nat->Nat)(C:Nat->BA)(S:Sl):Nat->Int
 |0=>0
 |n+1=>if slE rd E d A C S n=0 then ovE rd E (slN rd E d A C S n) d (A n)else slE rd E d A C S n
def slL (o:Nat)(f:Nat->Option BA):Nat->List Wr
 |0=>[]
 |m+1=>slL o f m++(match f m with|some p=>[(o+m,p)]|none=>[])
def slW (S:Sl):List Wr:=slL 100 S.ch 16++slL 120 S.ce 16
theorem c2j (rd:Nat->BA)(S:Sl)(d s:Nat)(c:BA)(k:Nat)(hs:s<2^d)(hk:k<d):slCh rd S d s c (nd d s k)=some (neu d s (slk rd S d s) (lH c) k):=by
 unfold slCh;have h:(List.range d).find? (λj=>nd d s j==nd d s k)=some k:=by
  rw[List.find?_range_eq_some];refine⟨by simp,by simpa using hk,λj hj=>?_⟩;have:=e8c d s j k hs (by omega) (by omega) (by omega);simpa using this
 rw[h]
theorem b6c (rd:Nat->BA)(S:Sl)(d s:Nat)(c:BA)(i:Nat)(h:∀k,k<d->i≠nd d s k):slCh rd S d s c i=S.ch i:=by
 unfold slCh;have h':(List.range d).find? (λj=>nd d s j==i)=none:=by
  rw[List.find?_eq_none];intro j hj;have:=h j (by simpa using hj);simpa using Ne.symm this
 rw[h']
def InT (rd:Nat->BA)(d:Nat)(S:Sl)(C:Nat->BA):Prop:=(∀i,1<=i->i<2^d->slp rd S i=tpr (λj=>lH (C j)) (2^d) i)/\(∀j,j<2^d->(S.ce j).getD (rd (120+j))=C j)/\S.top=tdg (λj=>lH (C j)) (2^d) 1
theorem InT.way {rd:Nat->BA}{d:Nat}{S:Sl}{C:Nat->BA}(h:InT rd d S C){s:Nat}(hs:s<2^d)(k:Nat)(hk:k<d):slk rd S d s k=tpr (λj=>lH (C j)) (2^d) (nd d s k):=
 h.1 _ (a2u d s k hk hs).1 (a2u d s k hk hs).2
theorem InT.leads {rd:Nat->BA}{d:Nat}{S:Sl}{C:Nat->BA}(h:InT rd d S C)(hd:d<=4){s:Nat}(hs:s<2^d):fol d s (slk rd S d s) S.top d=some (lH (C s)):=by
 rw[h.2.2];exact e0b _ d s _ hd hs (λj _=>a8l _) (h.way hs)
theorem InT.ovE {rd:Nat->BA}{d:Nat}{S:Sl}{C:Nat->BA}(h:InT rd d S C)(hd:d<=4){s:Nat}(hs:s<2^d):ovE rd 0 S d s=0:=by
 unfold Go.Proofs.YtokknmkleceooaaGreatDoor.ovE;rw[qp (.inl rfl),h.leads hd hs];rfl
theorem InT.step {rd:Nat->BA}{d:Nat}{S:Sl}{C:Nat->BA}(h:InT rd d S C)(hd:d<=4){s:Nat}(hs:s<2^d)(c:BA):InT rd d (sl1 rd S d s c) (λj=>if j=s then c else C j):=by
 have hD:∀j,j≠s->(λj=>lH (if j=s then c else C j)) j=(λj=>lH (C j)) j:=λj hj=>by
  show lH (if j=s then c else C j)=lH (C j);rw[qn hj]
 have hw:=h.way hs;have hz:∀j,j<2^d->((λj=>lH (C j)) j).size=32:=λj _=>a8l _;obtain⟨hN,hT⟩:=e8b (λj=>lH (C j)) (λj=>lH (if j=s then c else C j)) d s (slk rd S d s) hd hs hD hz hw;simp only[if_true]at hN hT;refine⟨λi i1 i2=>?_,λj hj=>?_,hT⟩
 ·by_cases e:∃k,k<d/\i=nd d s k
  ·obtain⟨k,hk,rfl⟩:=e;show((slCh rd S d s c (nd d s k)).getD _)=_;rw[c2j rd S d s c k hs hk];exact hN k hk
  ·have e':∀k,k<d->i≠nd d s k:=λk hk he=>e ⟨k,hk,he⟩;show((slCh rd S d s c i).getD _)=_;rw[b6c rd S d s c i e',d8f (λj=>lH (C j)) _ d s i hd hs hD i1 i2 e'];exact h.1 i i1 i2
 ·show(if j=s then some c else S.ce j).getD _=(if j=s then c else C j);by_cases e:j=s
  ·rw[qp e,qp e];rfl
  ·rw[qn e,qn e];exact h.2.1 j hj
def upC (C:Nat->BA)(A:Nat->Nat)(D:Nat->BA):Nat->Nat->BA
 |0=>C
 |n+1=>λj=>if j=A n then D n else upC C A D n j
theorem InT.steps {rd:Nat->BA}{d:Nat}{S:Sl}{C:Nat->BA}(h:InT rd d S C)(hd:d<=4){A:Nat->Nat}{D:Nat->BA}(n:Nat)(hA:∀i,i<n->A i<2^d):slE rd 0 d A D S n=0/\InT rd d (slN rd 0 d A D S n) (upC C A D n):=by
 induction n with
 |zero=>exact⟨rfl,h⟩
 |succ n ih=>
  obtain⟨h1,h2⟩:=ih (λi hi=>hA i (by omega));refine⟨?_,h2.step hd (hA n (by omega)) (D n)⟩;show(if slE rd 0 d A D S n=0 then _ else _)=_;rw[qp h1];exact h2.ovE hd (hA n (by omega))
theorem b4l (o:Nat)(g:Nat->Option BA)(f:Nat->BA)(a:Nat):∀m,app f (slL o g m) a=if o<=a/\a<o+m then(g (a-o)).getD (f a)else f a
 |0=>by rw[qn (by omega)];rfl
 |m+1=>by
  show app f (slL o g m++_) a=_;rw[a4n];have ih:=b4l o g f a m
  cases hg:g m with
  |none=>
   show app f (slL o g m) a=_;rw[ih];by_cases h1:o<=a/\a<o+m
   ·rw[qp h1,qp (by omega)]
   ·rw[qn h1];by_cases h2:o<=a/\a<o+(m+1)
    ·rw[qp h2,show a-o=m by omega,hg];rfl
    ·rw[qn h2]
  |some p=>
   show upd (app f (slL o g m)) (o+m,p) a=_;unfold upd;by_cases h1:a=o+m
   ·rw[qp h1,qp (by omega),show a-o=m by omega,hg];rfl
   ·rw[qn h1,ih];by_cases h2:o<=a/\a<o+m
    ·rw[qp h2,qp (by omega)]
    ·rw[qn h2,qn (by omega)]
theorem e6l (S:Sl)(f:Nat->BA):(∀i,i<16->app f (slW S) (100+i)=(S.ch i).getD (f (100+i)))/\∀j,j<16->app f (slW S) (120+j)=(S.ce j).getD (f (120+j)):=by
 refine⟨λi hi=>?_,λj hj=>?_⟩
 ·unfold slW;rw[a4n,b4l,qn (by omega),b4l,qp (by omega),show 100+i-100=i by omega]
 ·unfold slW;rw[a4n,b4l,qp (by omega),b4l,qn (by omega),show 120+j-120=j by omega]
theorem InT.applied {rd:Nat->BA}{d:Nat}{S:Sl}{C:Nat->BA}(h:InT rd d S C)(hd:d<=4):InT (app rd (slW S)) d (sl0 S.top) C:=by
 have hp:=a1f d hd;obtain⟨a1,a2⟩:=e6l S rd;generalize app rd (slW S)=F at*;exact⟨λi i1 i2=>(a1 i (by omega)).trans (h.1 i i1 i2),λj hj=>(a2 j (by omega)).trans (h.2.1 j hj),h.2.2⟩
def slGE (rd:Nat->BA)(E:Int)(d s:Nat)(top:BA)(op:BA->Int):Int:=if E=0 then(if fol d s (λk=>rd (100+nd d s k)) top d=some (lH (rd (120+s)))then op (rd (120+s))else 22)else E
def slGT (rd:Nat->BA)(E:Int)(d s:Nat)(top:BA)(op:BA->BA):BA:=if E=0/\fol d s (λk=>rd (100+nd d s k)) top d=some (lH (rd (120+s)))then op (rd (120+s))else noB
theorem InT.get {rd:Nat->BA}{d:Nat}{top:BA}{C:Nat->BA}(h:InT rd d (sl0 top) C)(hd:d<=4){s:Nat}(hs:s<2^d)(oe:BA->Int)(ot:BA->BA):slGE rd 0 d s top oe=oe (C s)/\slGT rd 0 d s top ot=ot (C s):=by
 have h1:rd (120+s)=C s:=h.2.1 s hs;have h2:fol d s (λk=>rd (100+nd d s k)) top d=some (lH (rd (120+s))):=by
  have h3:=h.leads hd hs;have h4:slk rd (sl0 top) d s=λk=>rd (100+nd d s k):=rfl;have h5:(sl0 top).top=top:=rfl;rw[h4,h5]at h3;rw[h1,h3]
 exact⟨by unfold slGE;rw[qp rfl,qp h2,h1],by unfold slGT;rw[qp ⟨rfl,h2⟩,h1]⟩
theorem InT.tells {rd rd2:Nat->BA}{d:Nat}{top:BA}{C:Nat->BA}(h:InT rd d (sl0 top) C)(hd:d<=4){s:Nat}(hs:s<2^d)
 (hn:∀i,1<=i->i<2^d->nH (rd2 (100+i))=nH (rd (100+i))->rd2 (100+i)=rd (100+i))(hl:lH (rd2 (120+s))=lH (rd (120+s))->rd2 (120+s)=rd (120+s))
 (hf:fol d s (λk=>rd2 (100+nd d s k)) top d=some (lH (rd2 (120+s)))):rd2 (120+s)=C s:=by
 have hz:∀j,j<2^d->((λj=>lH (C j)) j).size=32:=λj _=>a8l _;have hp:=a1f d hd;have key:∀k,k<=d->∀t,fol d s (λk=>rd2 (100+nd d s k)) top k=some t->t=tdg (λj=>lH (C j)) (2^d) (nd d s k):=by
  intro k
  induction k with
  |zero=>intro _ t ht;rw[b7a d s hs,<-h.2.2];exact(Option.some.inj ht).symm
  |succ k ih=>
   intro hk t ht;obtain⟨t1,t2,t3⟩:=d4v ht;obtain⟨i1,i2⟩:=a2u d s k (by omega) hs;have e1:=ih (by omega) _ t2;have e2:rd (100+nd d s k)=tpr (λj=>lH (C j)) (2^d) (nd d s k):=h.1 _ i1 i2;rw[a9y _ _ _ hp i1 i2,<-e2]at e1;have e3:=hn _ i1 i2 e1;rw[t3];show half (sd d s k) (rd2 (100+nd d s k))=_;rw[e3,e2,d4i _ _ _ _ hp i1 i2 (b6e d s k) hz,<-a8i d s k (by omega)]
 have e1:=key d (ql _) _ hf;rw[b3t,b4c _ _ _ (by omega),show 2^d+s-2^d=s by omega]at e1;have e2:rd (120+s)=C s:=h.2.1 s hs;rw[<-e2]at e1⊢;exact hl e1
theorem d4c (rd:Nat->BA)(d:Nat)(top:BA)(h1:∀i,1<=i->i<2^d->rd (100+i)=tpr (λ_=>lH noB) (2^d) i)(h2:∀j,j<2^d->rd (120+j)=noB)(h3:top=tdg (λ_=>lH noB) (2^d) 1):InT rd d (sl0 top) (λ_=>noB):=⟨h1,h2,h3⟩
def Bk (w:World)(g N:Nat)(D:Nat->Dk)(s:Nat)(p:Option Nat):Prop:=∃F,bnk g N D s p w F
def Rk (w:World)(g N:Nat)(D:Nat->Dk)(s:Nat)(p:Option Nat):Prop:=∃F,rbk g N D s p w F
section
variable {w w' w0:World}{g N B:Nat}{D:Nat->Dk}{s:Nat}{p:Option Nat}{R:Asn}
theorem Bk.hold (h:Bk w g N D s p):Hold 0 w w (star (bnk g N D s p) a0i):=by
 obtain⟨F,h⟩:=h;exact⟨Nat.zero_le _,qw _ _,F,⟨F,λ_=>False,h,λ_ h=>h,λ_ _ h=>h,λk=>by simp⟩,λ_ _=>Nat.zero_le _⟩
theorem Rk.hold (h:Rk w g N D s p):Hold 0 w w (star (rbk g N D s p) a0i):=by
 obtain⟨F,h⟩:=h;exact⟨Nat.zero_le _,qw _ _,F,⟨F,λ_=>False,h,λ_ h=>h,λ_ _ h=>h,λk=>by simp⟩,λ_ _=>Nat.zero_le _⟩
theorem Bk.below (h:Bk w g N D s p)(hb:Below w.heap.size w w'):Bk w' g N D s p:=by
 obtain⟨F,h⟩:=h;exact⟨F,(a2f _ _ _ _ _).kept h (Kept.ofBelow (F:=λ_=>False) hb) (λ_ _ h=>h)⟩
theorem Rk.below (h:Rk w g N D s p)(hb:Below w.heap.size w w'):Rk w' g N D s p:=by
 obtain⟨F,h⟩:=h;exact⟨F,(a2z _ _ _ _ _).kept h (Kept.ofBelow (F:=λ_=>False) hb) (λ_ _ h=>h)⟩
theorem Hold.bk (h:Hold B w0 w (star (bnk g N D s p) R)):Bk w g N D s p:=by
 obtain⟨h1,h2,F,⟨G,H,h3,h4⟩,h5⟩:=h;exact⟨G,h3⟩
theorem Hold.rk (h:Hold B w0 w (star (rbk g N D s p) R)):Rk w g N D s p:=by
 obtain⟨h1,h2,F,⟨G,H,h3,h4⟩,h5⟩:=h;exact⟨G,h3⟩
end
def eR (p:Option Nat)(d:Dk):Int:=if p=some 0 then 21 else errD d.dead
def rdS (p:Option Nat)(d:Dk)(a:Nat):BA:=if p=some 0 then noB else b1t d.l d.q d.dead d.n (a:Int)
theorem e9c {p:Option Nat}{d:Dk}(h:eR p d=0):p≠some 0/\d.dead=false:=by
 unfold eR errD at h;by_cases e:p=some 0
 ·rw[qp e]at h;cases h
 ·rw[qn e]at h
  cases hd:d.dead
  ·exact⟨e,rfl⟩
  ·rw[hd]at h;cases h
theorem e7o {p:Option Nat}{d:Dk}(h:eR p d=0){a:Nat}(ha:a<d.n):rdS p d a=app d.l d.q a:=by
 obtain⟨h1,h2⟩:=e9c h;unfold rdS b1t;rw[qn h1,h2,a6a d.n a ha,qp rfl];rfl
theorem e1y {N:Nat}{p:Option Nat}{i:Nat}(hi:i<N)(d:Dk){a:Nat}(ha:a<d.n):stE N p (i:Int) (errA d.dead d.n (a:Int))=eR p d:=by
 unfold stE eR;rw[qn (a2o N i hi)]
 cases hd:d.dead
 ·rw[a6a d.n a ha];rfl
 ·rw[a6v];rfl
theorem e2e {N:Nat}{p:Option Nat}{i:Nat}(hi:i<N)(d:Dk)(a:Nat):rdB N p (i:Int) (b1t d.l d.q d.dead d.n (a:Int))=rdS p d a:=by
 unfold rdB rdS;rw[qn (a2o N i hi)]
section
variable {w:World}{g N:Nat}{D:Nat->Dk}{s:Nat}{p:Option Nat}
theorem c6u (h:Bk w g N D s p){i:Nat}(hi:i<N){a:Nat}(ha:a<(D i).n):Calls prog 55 #[.pointer (some ⟨g,0,none⟩),.int .i64 (i:Int),.int .i64 (a:Int)] w λe w'=>e=.returned (.tuple #[.string (rdS p (D i) a),.int .i64 (eR p (D i))])/\w'=w:=by
 have h1:=d5w h.hold (i:Int) (a:Int);rw[Int.toNat_natCast,e1y hi _ ha,e2e hi]at h1;exact h1
theorem c5c (h:Rk w g N D s p)(hq:∀j,j<N->(D j).q.length<=1000000){i:Nat}(hi:i<N){a:Nat}(ha:a<(D i).n):Calls prog 92 #[.pointer (some ⟨g,0,none⟩),.int .i64 (i:Int),.int .i64 (a:Int)] w λe w'=>e=.returned (.tuple #[.string (rdS p (D i) a),.int .i64 (eR p (D i))])/\w'=w:=by
 have h1:=d1m h.hold hq (i:Int) (a:Int);rw[Int.toNat_natCast,e1y hi _ ha,e2e hi]at h1;exact h1
end
def plc (i s:Nat):BA:=numB (i:Int)++numB (s:Int)
theorem b6u (i s:Nat):(plc i s).size=16:=by unfold plc;rw[ByteArray.size_append,a5l,a5l]
def clB17 (key nonce a plain:BA):BA:=nonce++slB key nonce a plain
theorem a7l (key nonce a plain:BA)(hn:nonce.size=12):(clB17 key nonce a plain).size=plain.size+28:=by
 unfold clB17;rw[ByteArray.size_append,b2a,hn];omega
def opQ (key a c:BA):Prop:=(c.extract 12 c.size).extract (c.size-28) (c.extract 12 c.size).size=atg key (c.extract 0 12) a ((c.extract 12 c.size).extract 0 (c.size-28))
instance (key a c:BA):Decidable (opQ key a c):=by unfold opQ;infer_instance
def opE (key a c:BA):Int:=if c.size=0 then 0 else if c.size<28 then 3 else if opQ key a c then 0 else 23
def opT (key a c:BA):BA:=if c.size=0 then zB 32 else if c.size<28 then noB else if opQ key a c then crB key (c.extract 0 12) ((c.extract 12 c.size).extract 0 (c.size-28))else noB
theorem e9j (c:BA)(h:12<=c.size):(c.extract 12 c.size).size=c.size-12/\(c.extract 0 12).size=12:=by
 rw[ByteArray.size_extract,ByteArray.size_extract];omega
theorem e4u (key nonce a plain:BA)(hn:nonce.size=12):opE key a (clB17 key nonce a plain)=0/\opT key a (clB17 key nonce a plain)=plain:=by
 have hs:=a7l key nonce a plain hn;have h1:(clB17 key nonce a plain).extract 0 12=nonce:=c6k _ _ _ hn;have h2:(clB17 key nonce a plain).extract 12 (clB17 key nonce a plain).size=slB key nonce a plain:=c0s _ _ _ _ hn (by rw[hs,b2a];omega);have h3:(slB key nonce a plain).extract 0 plain.size=crB key nonce plain:=d7q _ _ _ _;have h4:(slB key nonce a plain).extract plain.size (slB key nonce a plain).size=atg key nonce a (crB key nonce plain):=by rw[b2a];exact d7p _ _ _ _
 have h5:(clB17 key nonce a plain).size-28=plain.size:=by omega
 have hq:opQ key a (clB17 key nonce a plain):=by
  unfold opQ;rw[h2,h1,h5,h3,h4]
 refine⟨?_,?_⟩
 ·unfold opE;rw[qn (by omega),qn (by omega),qp hq]
 ·unfold opT;rw[qn (by omega),qn (by omega),qp hq,h2,h1,h5,h3,d5i]
theorem b6y (key a:BA):opE key a noB=0/\opT key a noB=zB 32:=⟨qp rfl,qp rfl⟩
abbrev slV (pv:Value)(i n:Int)(key:BA):Value:=.agg #[pv,.int .i64 i,.int .i64 n,.string key]
def GoodIs (w:World)(sv:Value)(b:Bool):Prop:=∀z,Below w.heap.size w z->Calls prog 70 #[sv] z λe w'=>e=.returned (.bool b)/\Below z.heap.size z w'
theorem GoodIs.below {w w':World}{sv:Value}{b:Bool}(h:GoodIs w sv b)(hb:Below w.heap.size w w'):GoodIs w' sv b:=λz hz=>h z (hb.trans (hz.mono hb.size))
theorem size45:(prog.info? 45).map (·.size)=some 4:=by kernel_rfl
theorem b0u (k:Nat)(hk:k<=1000)(w:World):Calls prog 73 #[.int .i64 (k:Int)] w λe w'=>e=.returned (.int .i64 ((100+k:Nat):Int))/\w'=w:=by
 go_enter func73,ntmps73;go_wp2;go_ret;exact⟨by go_num,rfl⟩
theorem b1c (k:Nat)(hk:k<=1000)(w:World):Calls prog 56 #[.int .i64 (k:Int)] w λe w'=>e=.returned (.int .i64 ((120+k:Nat):Int))/\w'=w:=by
 go_enter func56,ntmps56;go_wp2;go_ret;exact⟨by go_num,rfl⟩
theorem d0p (pv:Value)(i n:Int)(key:BA)(h:hasB n 0=false)(w:World):Calls prog 70 #[slV pv i n key] w λe w'=>e=.returned (.bool false)/\Below w.heap.size w w':=by
 have hp:Hid (∀z,Calls prog 98 #[.int .i64 n,.int .i64 0] z λe w'=>e=.returned (.tuple #[.slice none 0 0,.int .i64 2])/\w'=z):=λz=>d8i n 0 h z;have hb:Hid (Below w.heap.size w (w.alloc (.cells #[pv,.int .i64 i,.int .i64 n,.string key] 45))):=(qw _ _).alloc (ql _) _;go_enter func70,ntmps70;go_wp2_with(go_at_call 98;refine(hp.out _).mono ?_;rintro e w1 ⟨rfl,hw⟩;rw[hw];clear hw);go_ret;exact⟨rfl,hb.out⟩
theorem d0o (pv:Value)(i:Int)(d n:Nat)(key:BA)(hn:2^d=n)(hd:1<=d/\d<=4)(hk:key.size≠32)(w:World):Calls prog 70 #[slV pv i (n:Int) key] w λe w'=>e=.returned (.bool false)/\Below w.heap.size w w':=by
 have hp:Hid (∀z,Calls prog 98 #[.int .i64 (n:Int),.int .i64 0] z λe w'=>∃v,e=.returned (.tuple #[v,.int .i64 0])/\w'.ownsRow z.heap.size 3 1 v d (nr .i64 d (nd d 0))/\Below z.heap.size z w'):=λz=>c3e d n 0 hn ⟨hd.1,hd.2,by decide,by have:=a4l d;omega⟩ z;have hb:Hid (Below w.heap.size w (w.alloc (.cells #[pv,.int .i64 i,.int .i64 n,.string key] 45))):=(qw _ _).alloc (ql _) _;have hB:=Blk.box w 45 [pv,.int .i64 i,.int .i64 n,.string key];have hk1:¬(key.size:Int)=32:=by omega
 have hk2:((key.size:Int)==32)=false:=by simpa using hk1
 go_enter func70,ntmps70;go_wp2_with(go_at_call 98;refine(hp.out _).mono ?_;rintro e w1 ⟨v,rfl,hv,hw⟩;have hB1:=hB.below hw hB.lt;have c3:=hB1.cell (i:=3) rfl;have L1:Hid (Below w.heap.size w w1):=hb.out.trans (hw.mono hb.out.size);clear hw hv hB hB1);go_ret;exact⟨rfl,L1.out⟩
theorem d6y (pv:Value)(i:Int)(d n:Nat)(key:BA)(hn:2^d=n)(hd:1<=d/\d<=4)(hk:key.size=32)(w:World)(q:Option Addr)(hc:∀z,Below w.heap.size w z->Calls prog 24 #[pv,.int .i64 i] z λe w'=>e=.returned (.pointer q)/\w'=z):
 Calls prog 70 #[slV pv i (n:Int) key] w λe w'=>e=.returned (.bool q.isSome)/\Below w.heap.size w w':=by
 have hp:Hid (∀z,Calls prog 98 #[.int .i64 (n:Int),.int .i64 0] z λe w'=>∃v,e=.returned (.tuple #[v,.int .i64 0])/\w'.ownsRow z.heap.size 3 1 v d (nr .i64 d (nd d 0))/\Below z.heap.size z w'):=λz=>c3e d n 0 hn ⟨hd.1,hd.2,by decide,by have:=a4l d;omega⟩ z;have hb:Hid (Below w.heap.size w (w.alloc (.cells #[pv,.int .i64 i,.int .i64 n,.string key] 45))):=(qw _ _).alloc (ql _) _;have hB:=Blk.box w 45 [pv,.int .i64 i,.int .i64 n,.string key];have hk1:(key.size:Int)=32:=by omega
 have HC:Hid (∀z,Below w.heap.size w z->Calls prog 24 #[pv,.int .i64 i] z λe w'=>e=.returned (.pointer q)/\w'=z):=hc;clear hc;go_enter func70,ntmps70
 cases q with
 |none=>
  go_wp2_with(first
   |(go_at_call 98;refine(hp.out _).mono ?_;rintro e w1 ⟨v,rfl,hv,hw⟩;have hB1:=hB.below hw hB.lt;have c3:=hB1.cell (i:=3) rfl;have c0:=hB1.cell (i:=0) rfl;have c1:=hB1.cell (i:=1) rfl;have L1:Hid (Below w.heap.size w w1):=hb.out.trans (hw.mono hb.out.size);clear hw hv hB hB1)
   |(go_at_call 24;refine(HC.out _ L1.out).mono ?_;rintro e w2 ⟨rfl,hw⟩;rw[hw];clear hw))
  go_ret;exact⟨rfl,L1.out⟩
 |some a=>
  go_wp2_with(first
   |(go_at_call 98;refine(hp.out _).mono ?_;rintro e w1 ⟨v,rfl,hv,hw⟩;have hB1:=hB.below hw hB.lt;have c3:=hB1.cell (i:=3) rfl;have c0:=hB1.cell (i:=0) rfl;have c1:=hB1.cell (i:=1) rfl;have L1:Hid (Below w.heap.size w w1):=hb.out.trans (hw.mono hb.out.size);clear hw hv hB hB1)
   |(go_at_call 24;refine(HC.out _ L1.out).mono ?_;rintro e w2 ⟨rfl,hw⟩;rw[hw];clear hw))
  go_ret;exact⟨rfl,L1.out⟩
def shpS (n:Int)(key:BA):Prop:=(n=2\/n=4\/n=8\/n=16)/\key.size=32
instance (n:Int)(key:BA):Decidable (shpS n key):=by unfold shpS;infer_instance
theorem d4g (n:Int):hasB n 0=true↔(n=2\/n=4\/n=8\/n=16):=by
 unfold hasB;rw[decide_eq_true_eq];constructor
 ·exact λh=>h.1
 ·intro h;exact⟨h,by decide,by omega⟩
theorem d4o {w:World}{pv:Value}{i n:Int}{key:BA}{q:Option Addr}(hc:∀z,Below w.heap.size w z->Calls prog 24 #[pv,.int .i64 i] z λe w'=>e=.returned (.pointer q)/\w'=z):GoodIs w (slV pv i n key) (decide (shpS n key/\q.isSome=true)):=by
 intro z hz;by_cases h1:n=2\/n=4\/n=8\/n=16
 ·obtain⟨d,d1,d2,rfl⟩:=c6i n h1;by_cases h2:key.size=32
  ·have h:=d6y pv i d (2^d) key rfl ⟨d1,d2⟩ h2 z q (λy hy=>hc y (hz.trans (hy.mono hz.size)));rw[show decide (shpS ((2^d:Nat):Int) key/\q.isSome=true)=q.isSome by
    cases q with
    |none=>exact decide_eq_false (λh=>by cases h.2)
    |some a=>exact decide_eq_true ⟨⟨h1,h2⟩,rfl⟩]
   exact h
  ·rw[decide_eq_false (λh=>h2 h.1.2)];exact d0o pv i d (2^d) key rfl ⟨d1,d2⟩ h2 z
 ·rw[decide_eq_false (λh=>h1 h.1.1)];refine d0p pv i n key ?_ z
  cases h:hasB n 0
  ·rfl
  ·exact absurd ((d4g n).1 h) h1
section
variable {w:World}{g N:Nat}{D:Nat->Dk}{s:Nat}{p:Option Nat}
theorem d4p (h:Bk w g N D s p)(i n:Int)(key:BA):GoodIs w (slV (.pointer (some ⟨g,0,none⟩)) i n key) (decide (shpS n key/\¬Out N i)):=by
 rcases a6m N i with ho|⟨k,rfl,hk,ho⟩
 ·have:=d4o (w:=w) (n:=n) (key:=key) (q:=none) (λz hz=>d6d (h.below hz).hold i ho);rw[show decide (shpS n key/\¬Out N i)=decide (shpS n key/\(none:Option Addr).isSome=true)from decide_eq_decide.2 ⟨λh=>absurd ho h.2,λh=>by cases h.2⟩];exact this
 ·have:=d4o (w:=w) (n:=n) (key:=key) (q:=some ⟨(D k).g,0,none⟩) (λz hz=>b8b (h.below hz).hold k hk);rw[show decide (shpS n key/\¬Out N (k:Int))=decide (shpS n key/\(some ⟨(D k).g,0,none⟩:Option Addr).isSome=true)from decide_eq_decide.2 ⟨λh=>⟨h.1,rfl⟩,λh=>⟨h.1,ho⟩⟩];exact this
end
def slE17 (n k:Int):Int:=if k<0\/n<=k then 2 else 0
theorem c0l {w:World}{pv:Value}{i n:Int}{key:BA}(hg:GoodIs w (slV pv i n key) true)(k:Int):Calls prog 53 #[slV pv i n key,.int .i64 k] w λe w'=>e=.returned (.int .i64 (slE17 n k))/\Below w.heap.size w w':=by
 have hb:Hid (Below w.heap.size w (w.alloc (.cells #[pv,.int .i64 i,.int .i64 n,.string key] 45))):=(qw _ _).alloc (ql _) _;have hB:Hid (Blk _ _ _ _):=Blk.box w 45 [pv,.int .i64 i,.int .i64 n,.string key];have hc:Hid (Calls _ _ _ _ _):=hg _ hb.out;have hz:Hid ((prog.info? 45).map (·.size)=some 4):=size45;obtain⟨E,hE⟩:∃E,slE17 n k=E:=⟨_,rfl⟩;rw[hE];have HE:Hid (slE17 n k=E):=hE;clear hE;by_cases h0:k<0
 ·go_enter func53,ntmps53;go_wp2_with(first
   |(refine a0a rfl 45 _ rfl w.heap.size rfl 45 [pv,.int .i64 i,.int .i64 n,.string key] _ hB.out underlying45 rfl hz.out ?_)
   |(go_at_call 70;refine hc.out.mono ?_;rintro e w1 ⟨rfl,hw⟩;have L1:Hid (Below w.heap.size w w1):=hb.out.trans (hw.mono hb.out.size);have hB1:=hB.out.below hw hB.out.lt;have c2:=hB1.cell (i:=2) rfl;clear hw hB1))
  go_ret;exact⟨by rw[<-HE.out];unfold slE17;rw[qp (.inl h0)];rfl,L1.out⟩
 ·by_cases h1:n<=k
  ·go_enter func53,ntmps53;go_wp2_with(first
    |(refine a0a rfl 45 _ rfl w.heap.size rfl 45 [pv,.int .i64 i,.int .i64 n,.string key] _ hB.out underlying45 rfl hz.out ?_)
    |(go_at_call 70;refine hc.out.mono ?_;rintro e w1 ⟨rfl,hw⟩;have L1:Hid (Below w.heap.size w w1):=hb.out.trans (hw.mono hb.out.size);have hB1:=hB.out.below hw hB.out.lt;have c2:=hB1.cell (i:=2) rfl;clear hw hB1))
   go_ret;exact⟨by rw[<-HE.out];unfold slE17;rw[qp (.inr h1)];rfl,L1.out⟩
  ·go_enter func53,ntmps53;go_wp2_with(first
    |(refine a0a rfl 45 _ rfl w.heap.size rfl 45 [pv,.int .i64 i,.int .i64 n,.string key] _ hB.out underlying45 rfl hz.out ?_)
    |(go_at_call 70;refine hc.out.mono ?_;rintro e w1 ⟨rfl,hw⟩;have L1:Hid (Below w.heap.size w w1):=hb.out.trans (hw.mono hb.out.size);have hB1:=hB.out.below hw hB.out.lt;have c2:=hB1.cell (i:=2) rfl;clear hw hB1))
   go_ret;exact⟨by rw[<-HE.out];unfold slE17;rw[qn (by omega)];rfl,L1.out⟩
theorem b9l (pv:Value)(i k:Nat)(n:Int)(key:BA)(hi:i<=1000)(hk:k<=1000)(w:World):Calls prog 75 #[slV pv (i:Int) n key,.int .i64 (k:Int)] w λe w'=>e=.returned (.string (plc i k))/\Below w.heap.size w w':=by
 have hb:Hid (Below w.heap.size w (w.alloc (.cells #[pv,.int .i64 i,.int .i64 n,.string key] 45))):=(qw _ _).alloc (ql _) _;have h1:Hid (∀z,Calls prog 120 #[.int .u64 (i:Int)] z λe w'=>e=.returned (.string (numB (i:Int)))/\Below z.heap.size z w'):=λz=>c0v (i:Int) (by omega) (by omega) z;have h2:Hid (∀z,Calls prog 120 #[.int .u64 (k:Int)] z λe w'=>e=.returned (.string (numB (k:Int)))/\Below z.heap.size z w'):=λz=>c0v (k:Int) (by omega) (by omega) z;have ei:(i:Int)%18446744073709551616=(i:Int):=by omega
 have ek:(k:Int)%18446744073709551616=(k:Int):=by omega
 have HP:Hid (plc i k=numB (i:Int)++numB (k:Int)):=rfl;have sA:=a5l (i:Int);have sB:=a5l (k:Int);generalize plc i k=P at*;generalize numB (i:Int)=A at*;generalize numB (k:Int)=Bb at*;have tok:True:=trivial;go_enter func75,ntmps75;go_wp2_with(first
  |(go_at_call 120;have _t:=tok;refine(h1.out _).mono ?_;rintro e w1 ⟨rfl,hw⟩;have L1:Hid (Below w.heap.size w w1):=hb.out.trans (hw.mono hb.out.size);clear hw tok)
  |(go_at_call 120;refine(h2.out _).mono ?_;rintro e w2 ⟨rfl,hw⟩;have L2:Hid (Below w.heap.size w w2):=L1.out.trans (hw.mono L1.out.size);clear hw))
 go_ret;exact⟨by rw[HP.out];rfl,L2.out⟩
end Go.Proofs.YtokknmkleceooaaGreatDoor
