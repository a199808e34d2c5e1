import Derived.Test.YtokknmkleceooaaGreatDoorSlRM
import Derived.Test.YtokknmkleceooaaGreatDoorSlWkM
namespace Go.Proofs.YtokknmkleceooaaGreatDoor
set_option linter.unusedVariables false
set_option maxRecDepth 20000
set_option maxHeartbeats 8000000
open Go.Proofs.Tryz
open Go.RowKit Go.PlainAid
def gtE (b:Bs)(i d:Nat)(key top:BA)(k:Int):Int:=if slE17 ((2^d:Nat):Int) k=0 then slGE (rdS b.p (b.D i)) (eR b.p (b.D i)) d k.toNat top (opE key (plc i k.toNat))else 2
def gtT (b:Bs)(i d:Nat)(key top:BA)(k:Int):BA:=if slE17 ((2^d:Nat):Int) k=0 then slGT (rdS b.p (b.D i)) (eR b.p (b.D i)) d k.toNat top (opT key (plc i k.toNat))else noB
def Okn (N:Nat)(b:Bs):Prop:=∀j,j<N->(b.D j).n=140/\(∀a,((b.D j).l a).size<=2048)/\∀w∈(b.D j).q,w.2.size<=2048
theorem Okn.rd {N:Nat}{b:Bs}(h:Okn N b){i:Nat}(hi:i<N)(a:Nat):(rdS b.p (b.D i) a).size<=2048:=c5g (h i hi).2.1 (h i hi).2.2 a
theorem e2b {n:Nat}{k:Int}(he:slE17 (n:Int) k=0):∃s:Nat,k=(s:Int)/\s<n:=by
 unfold slE17 at he;by_cases e:k<0\/(n:Int)<=k
 ·rw[qp e]at he;cases he
 ·exact⟨k.toNat,by omega,by omega⟩
theorem e4b {n:Nat}{k:Int}(he:slE17 (n:Int) k≠0):slE17 (n:Int) k=2:=by
 unfold slE17 at he⊢;by_cases e:k<0\/(n:Int)<=k
 ·rw[qp e]
 ·rw[qn e]at he;exact absurd rfl he
theorem sgetN {N:Nat}{b:Bs}(hO:Okn N b){i d:Nat}(hi:i<N)(hN:N<=12)(hd:1<=d/\d<=4){key:BA}(hk:key.size=32)(top:BA)(k:Int){z:World}{g:Nat}(hz:Bk z g N b.D b.s b.p)(ht:Tabs z):Calls prog 23 #[slV (.pointer (some ⟨g,0,none⟩)) (i:Int) ((2^d:Nat):Int) key,.string top,.int .i64 k] z λe w'=>e=.returned (.tuple #[.string (gtT b i d key top k),.int .i64 (gtE b i d key top k)])/\Below z.heap.size z w':=by
 unfold gtT gtE;by_cases he:slE17 ((2^d:Nat):Int) k=0
 ·rw[qp he,qp he];obtain⟨s,rfl,hs⟩:=e2b he;rw[Int.toNat_natCast];exact d7s hz ht hi (by omega) (by rw[(hO i hi).1];exact ql _) (hO.rd hi) rfl hd hk top hs (by have:=a8o (b2i hz hi rfl hd hk) (s:Int);rwa[he]at this)
 ·rw[qn he,qn he];have:=a8o (b2i hz hi rfl hd hk) k;rw[e4b he]at this;exact d7r this (by decide) top
theorem rgetN {N:Nat}{b:Bs}(hO:Okn N b)(hq:∀j,j<N->(b.D j).q.length<=1000000){i d:Nat}(hi:i<N)(hN:N<=12)(hd:1<=d/\d<=4){key:BA}(hk:key.size=32)(top:BA)(k:Int){z:World}{g:Nat}(hz:Rk z g N b.D b.s b.p)(ht:RTabs z):Calls prog 47 #[slV (.pointer (some ⟨g,0,none⟩)) (i:Int) ((2^d:Nat):Int) key,.string top,.int .i64 k] z λe w'=>e=.returned (.tuple #[.string (gtT b i d key top k),.int .i64 (gtE b i d key top k)])/\Below z.heap.size z w':=by
 unfold gtT gtE;by_cases he:slE17 ((2^d:Nat):Int) k=0
 ·rw[qp he,qp he];obtain⟨s,rfl,hs⟩:=e2b he;rw[Int.toNat_natCast];exact c8q hz hq ht hi (by omega) (by rw[(hO i hi).1];exact ql _) (hO.rd hi) rfl hd hk top hs (b9d hz hi rfl hd hk)
 ·rw[qn he,qn he];exact c8p (b9d hz hi rfl hd hk) top he
def Smn (N:Nat)(b b':Bs):Prop:=b.p=b'.p/\∀j,j<N->(b.D j).n=(b'.D j).n/\(b.D j).l=(b'.D j).l/\(b.D j).q=(b'.D j).q/\(b.D j).dead=(b'.D j).dead
theorem Smn.rd {N:Nat}{b b':Bs}(h:Smn N b b'){i:Nat}(hi:i<N):rdS b'.p (b'.D i)=rdS b.p (b.D i)/\eR b'.p (b'.D i)=eR b.p (b.D i):=by
 obtain⟨h1,h2⟩:=h;obtain⟨e1,e2,e3,e4⟩:=h2 i hi;refine⟨?_,?_⟩
 ·funext a;unfold rdS;rw[h1,e1,e2,e3,e4]
 ·unfold Go.Proofs.YtokknmkleceooaaGreatDoor.eR;rw[h1,e4]
theorem Smn.get {N:Nat}{b b':Bs}(h:Smn N b b'){i:Nat}(hi:i<N)(d:Nat)(key top:BA)(k:Int):gtT b' i d key top k=gtT b i d key top k/\gtE b' i d key top k=gtE b i d key top k:=by
 obtain⟨h1,h2⟩:=h.rd hi;unfold gtT gtE;rw[h1,h2];exact⟨rfl,rfl⟩
theorem Smn.okn {N:Nat}{b b':Bs}(h:Smn N b b')(ho:Okn N b):Okn N b':=λj hj=>by
 obtain⟨e1,e2,e3,e4⟩:=h.2 j hj;rw[<-e1,<-e2,<-e3];exact ho j hj
theorem b8v {N i:Nat}(hi:i<N)(p:Option Nat)(D:Nat->Dk)(d:Dk){j:Nat}(hj:j≠i):stD N p (i:Int) D d j=D j:=by
 unfold stD;rw[qn (a2o N i hi)];by_cases hp:p=some 0
 ·rw[qp hp]
 ·rw[qn hp,Int.toNat_natCast,a1g _ _ _ _ hj]
theorem b0c {N i:Nat}(hi:i<N){j:Nat}(hj:j≠i):∀(q:List Wr) (b:Bs),(apR N i b q).2.D j=b.D j
 |[],b=>b8v hi _ _ _ hj
 |w::r,b=>by
  have h1:(apW N i b w).D j=b.D j:=b8v hi _ _ _ hj;by_cases e:apE N i b w=0
  ·rw[c1c e,b0c hi hj r,h1]
  ·rw[b8d e];exact h1
theorem Liv.other {N i j:Nat}(hi:i<N)(hj:j≠i){b:Bs}{l:Nat->BA}(h:Liv N j b l)(q:List Wr)(hp:(apR N i b q).2.p=none):Liv N j (apR N i b q).2 l:=by
 have e:=b0c hi hj q b;exact⟨hp,by rw[e];exact h.dead,by rw[e];exact h.n,by rw[e];exact h.q,by rw[e];exact h.ll,h.sz⟩
theorem c0g {N i:Nat}{b:Bs}(hp:b.p=none)(h:b0f (b.D i) 140):Liv N i b (λ_=>noB):=
 ⟨hp,h.2.2.2,by rw[h.1,d3g],h.2.2.1,h.2.1,λ_=>by show noB.size<=_;decide⟩
theorem d2g {N i d slot:Nat}(hi:i<N)(hd:1<=d/\d<=4)(hs:slot<2^d){b:Bs}(hL:Liv N i b (λ_=>noB)){c:BA}(hc:c.size<=2032):
 (apR N i b (blW (2^d))).1=0/\Liv N i (apR N i b (blW (2^d))).2 (app (λ_=>noB) (blW (2^d)))/\InT (app (λ_=>noB) (blW (2^d))) d (sl0 (tdg eL (2^d) 1)) (λ_=>noB)/\
 (apR N i (apR N i b (blW (2^d))).2 (slW (pS (apR N i b (blW (2^d))).2 i d (tdg eL (2^d) 1) [((slot:Int),c)]))).1=0/\
 ∃l',Liv N i (apR N i (apR N i b (blW (2^d))).2 (slW (pS (apR N i b (blW (2^d))).2 i d (tdg eL (2^d) 1) [((slot:Int),c)]))).2 l'/\InT l' d (sl0 (pS (apR N i b (blW (2^d))).2 i d (tdg eL (2^d) 1) [((slot:Int),c)]).top) (λs=>if s=slot then c else noB):=by
 obtain⟨h1,h2⟩:=hL.apply hi (e9q rfl hd.2);have h3:=d4d rfl hd (λ_=>noB);obtain⟨h4,h5,l',h6,h7⟩:=h2.change hi hd.2 h3 (cs:=[((slot:Int),c)]) (λp hp=>by
  rcases List.mem_cons.1 hp with rfl|h
  ·exact⟨⟨by show(0:Int)<=(slot:Int);omega,by show(slot:Int)<((2^d:Nat):Int);omega⟩,hc⟩
  ·cases h)
 refine⟨h1,h2,h3,h5,l',h6,?_⟩;have e:upL (λ_=>noB) [((slot:Int),c)]=λs=>if s=slot then c else noB:=by
  show(λj=>if j=((slot:Int)).toNat then c else noB)=_;rw[Int.toNat_natCast]
 rw[e]at h7;exact h7
structure LyS (N k d slot:Nat)(b b':Bs)(C P:Nat->BA):Prop where
 p:b.p=none
 p':b'.p=none
 done:∀j,j<k->∃l,Liv N j b l/\InT l d (sl0 (P j)) (λs=>if s=slot then C j else noB)
 same:∀j,j<k->(b'.D j).n=140/\(b'.D j).l=(b.D j).l/\(b'.D j).q=[]/\(b'.D j).dead=false
 rest:∀j,k<=j->j<N->b0f (b.D j) 140/\b0f (b'.D j) 140
 few:a8r N b (k*100)
theorem LyS.next {N k d slot:Nat}{b b':Bs}{C P:Nat->BA}(h:LyS N k d slot b b' C P)(hk:k<N)(hd:1<=d/\d<=4)(hs:slot<2^d)(hC:(C k).size<=2032){b2 b2':Bs}{t:BA}
 (e2:(apR N k (apR N k b (blW (2^d))).2 (slW (pS (apR N k b (blW (2^d))).2 k d (tdg eL (2^d) 1) [((slot:Int),C k)]))).2=b2)(et:(pS (apR N k b (blW (2^d))).2 k d (tdg eL (2^d) 1) [((slot:Int),C k)]).top=t)
 (hp':b2'.p=none)(hD:∀j,j≠k->b2'.D j=b'.D j)(hk':(b2'.D k).n=140/\(b2'.D k).l=(b2.D k).l/\(b2'.D k).q=[]/\(b2'.D k).dead=false):LyS N (k+1) d slot b2 b2' C (λj=>if j=k then t else P j):=by
 subst e2 et;obtain⟨h1,h2,h3,h4,l',h5,h6⟩:=d2g hk hd hs (c0g h.p (h.rest k (ql _) hk).1) hC;have o1:∀j,j≠k->(apR N k (apR N k b (blW (2^d))).2 (slW (pS (apR N k b (blW (2^d))).2 k d (tdg eL (2^d) 1) [((slot:Int),C k)]))).2.D j=b.D j:=λj hj=>by rw[b0c hk hj,b0c hk hj]
 have f0:=e0e hk (blW (2^d)) h.few;have f1:=e0e hk (slW (pS (apR N k b (blW (2^d))).2 k d (tdg eL (2^d) 1) [((slot:Int),C k)])) f0;have hw:=d1e (pS (apR N k b (blW (2^d))).2 k d (tdg eL (2^d) 1) [((slot:Int),C k)]);have hb:(blW (2^d)).length<=31:=by rw[b5w];have:=a1f d hd.2;omega
 refine⟨h5.p,hp',λj hj=>?_,λj hj=>?_,λj hj hjN=>?_,⟨Nat.le_trans f1.1 (by omega),λj hj=>Nat.le_trans (f1.2 j hj) (by omega)⟩⟩
 ·by_cases e:j=k
  ·subst e;exact⟨l',h5,by rw[qp rfl];exact h6⟩
  ·obtain⟨l,a1,a2⟩:=h.done j (by omega);refine⟨l,(a1.other hk e _ h2.p).other hk e _ h5.p,by rw[qn e];exact a2⟩
 ·by_cases e:j=k
  ·subst e;exact hk'
  ·rw[hD j e,o1 j e];exact h.same j (by omega)
 ·rw[hD j (by omega),o1 j (by omega)];exact h.rest j (by omega) hjN
structure Sh where
 g:Nat
 i:Int
 n:Int
 key:BA
 top:BA
 u:Bool
def Sh.L (s:Sh):List Value:=[.pointer (some ⟨s.g,0,none⟩),.int .i64 s.i,.int .i64 s.n,.string s.key,.string s.top,.bool s.u]
def Sh.at (s:Sh)(g:Nat):Sh:={s with g:=g}
theorem b2z (g:Nat)(i n:Int)(k p:BA)(u:Bool):∀v∈([.pointer (some ⟨g,0,none⟩),.int .i64 i,.int .i64 n,.string k,.string p,.bool u]:List Value),v.oneCell'=true:=λv hv=>by
 simp only[List.mem_cons,List.not_mem_nil,or_false]at hv;rcases hv with rfl|rfl|rfl|rfl|rfl|rfl<;>rfl
def shL (S:Nat->Sh):Nat->List Value
 |0=>[]
 |k+1=>shL S k++(S k).L
theorem a3s (S:Nat->Sh):∀k,(shL S k).length=k*6
 |0=>rfl
 |k+1=>by
  show(shL S k++(S k).L).length=_;rw[List.length_append,a3s S k,Nat.succ_mul];rfl
theorem a4q {S S':Nat->Sh}:∀{k},(∀i,i<k->S i=S' i)->shL S k=shL S' k
 |0,_=>rfl
 |k+1,h=>by
  show shL S k++(S k).L=shL S' k++(S' k).L;rw[a4q λi hi=>h i (by omega),h k (by omega)]
theorem c5b (S:Nat->Sh):∀(k i j:Nat) (v:Value),i<k->(S i).L[j]?=some v->(shL S k)[i*6+j]?=some v
 |0,i,j,v,hi,_=>by omega
 |k+1,i,j,v,hi,hv=>by
  have hj:j<6:=by
   have:=(List.getElem?_eq_some_iff.1 hv).1;exact this
  show(shL S k++(S k).L)[i*6+j]?=_;by_cases e:i<k
  ·rw[List.getElem?_append_left (by rw[a3s];omega)];exact c5b S k i j v e hv
  ·obtain rfl:i=k:=(by omega);rw[List.getElem?_append_right (by rw[a3s];omega),a3s,Nat.add_sub_cancel_left];exact hv
def ShAt (w:World)(h n:Nat)(S:Nat->Sh):Prop:=∀z,Below w.heap.size w z->∀i,i<n->z.rangeAt h (i*6) (S i).L
theorem ShAt.below {w w':World}{h n:Nat}{S:Nat->Sh}(H:ShAt w h n S)(hb:Below w.heap.size w w'):ShAt w' h n S:=λz hz=>H z (hb.trans (hz.mono hb.size))
theorem a5v {w:World}{T h n c k:Nat}{S:Nat->Sh}(H:w.ownsRow 0 T 6 (.slice (some ⟨h,0,none⟩) k c) k (shL S k))(hn:n<=k):ShAt w h n S:=λz hz i hi j v hv=>by
 have hb:h<w.heap.size:=(H.lt h rfl).2;have h1:=H.cellAt (i*6+j) (by
  have hj:=(List.getElem?_eq_some_iff.1 hv).1;have hj':j<6:=hj;omega)
 rw[c5b S k i j v (by omega) hv]at h1;rw[hz.cell (p:=⟨h,i*6+j,none⟩) hb];exact h1
theorem b9k {B:Nat}{w0 w:World}{R:Asn}(hR:Firm R)(sl T ty:TypeId)(z:Value)(K by_:Nat)(hu:prog.underlying sl=some (.slice T))(hT:(prog.info? T).map (λi=>(i.zero,i.size,i.bytes))=some (some z,K,by_))(hz:z.cells.size=K)(hK:0<K)(gB:by_<=100)
 {v:Value}{m:Nat}{xs:List Value}(h:Hold B w0 w (star (rowK T K v m xs) R))(hm:m<=1000){gn:Nat}{row:List Value}(hb:Blk w gn T row)(hl:row.length=K)(h1:∀u∈row,u.oneCell'=true):
 ∃a c w',(Builtin.append_ #[sl,sl] ty #[v,.slice (some ⟨gn,0,none⟩) 1 1]).run prog w=.ok (.slice a (m+1) c) w'/\Hold B w0 w' (star (rowK T K (.slice a (m+1) c) (m+1) (xs++row)) R):=by
 obtain⟨i0,hi,hz0,hz1,hz2⟩:=info_parts hT;have hbt:(m+1)*by_<=140737488355328:=Nat.le_trans (Nat.mul_le_mul (show m+1<=1001 by omega) gB) (by decide);obtain⟨v',w',r6,q8,q9,_,bM⟩:=run_append_own_at (P:=prog) w 0 sl ty T i0 z K by_ hu hi hz0 hz1 hz2 hz hK v m xs h.rowK ⟨gn,0,none⟩ 1 1 row (by omega) (λj u hj=>by
  rw[Go.WideShapes.add_plain,Nat.zero_add];exact hb.cell hj) h1 (by unfold maxLen;omega) hbt (Nat.zero_le _)
 have h3:Hold B w0 w' (star (rowK T K v' (m+1) (xs++row)) R):=by
  obtain⟨g1,g2,F,⟨G,H,h3,h4,h5,h6⟩,h7⟩:=h;refine Hold.turned hR g1 g2 h4 h5 (λk hk=>h7 k ((h6 k).2 hk)) ⟨λk=>v'.ownBlock=some k,⟨q8,λk=>Iff.rfl⟩,(Kept.refl G w).grown q9 (λk e=>.inl ((h3.2 k).2 e)),λk hk=>?_⟩;rcases bM with e|e
  ·exact .inl ((h3.2 k).2 (by rw[<-e];exact hk))
  ·rw[e]at hk;cases hk;exact .inr (ql _)
 obtain⟨a,c,rfl⟩:=c5i h3.rowK;exact⟨a,c,w',r6,h3⟩
theorem infoShelf:(prog.info? 47).map (λi=>(i.zero,i.size,i.bytes))=some (some (.agg #[.pointer none,.int .i64 0,.int .i64 0,.string noB,.string noB,.bool false]),6,64):=by kernel_rfl
theorem infoRShelf:(prog.info? 54).map (λi=>(i.zero,i.size,i.bytes))=some (some (.agg #[.pointer none,.int .i64 0,.int .i64 0,.string noB,.string noB,.bool false]),6,64):=by kernel_rfl
def lyX (gr N:Nat)(b':Bs)(vl vm vc:Value)(k:Nat)(S:Nat->Sh)(F:Nat->BA):Asn:=star (rkA gr N b') (star (rowK 47 6 vl k (shL S k)) (star (rowK 54 6 vm k (shL (λi=>(S i).at gr) k)) (rowK 9 1 vc N (strs N F))))
def Ly (B:Nat)(w0 z:World)(g gr N:Nat)(b b':Bs)(vl vm vc:Value)(k:Nat)(S:Nat->Sh)(F:Nat->BA)(R:Asn):Prop:=Hold B w0 z (star (bkA g N b) (star R (lyX gr N b' vl vm vc k S F)))
section
variable {B:Nat}{w0 z z':World}{g gr N k:Nat}{b b':Bs}{vl vm vc:Value}{S:Nat->Sh}{F:Nat->BA}{R A:Asn}
theorem c5t:Firm (lyX gr N b' vl vm vc k S F):=(a2z _ _ _ _ _).star ((a0d _ _ _ _ _).star ((a0d _ _ _ _ _).star (a0d _ _ _ _ _)))
theorem b7e (hR:Firm R):Firm (star (bkA g N b) (star R (lyX gr N b' vl vm vc k S F))):=(a2f _ _ _ _ _).star (hR.star c5t)
theorem Ly.below (h:Ly B w0 z g gr N b b' vl vm vc k S F R)(hR:Firm R)(hb:Below z.heap.size z z'):Ly B w0 z' g gr N b b' vl vm vc k S F R:=Hold.below h (b7e hR) hb
theorem Ly.low (h:Ly B w0 z g gr N b b' vl vm vc k S F R):Below B w0 z:=Hold.low h
theorem Ly.size (h:Ly B w0 z g gr N b b' vl vm vc k S F R):B<=z.heap.size:=Hold.size h
theorem Ly.bk (h:Ly B w0 z g gr N b b' vl vm vc k S F R):Bk z g N b.D b.s b.p:=Hold.bk h
theorem Ly.push (h:Hold B w0 z (star A (star (bkA g N b) (star R (lyX gr N b' vl vm vc k S F))))):Ly B w0 z g gr N b b' vl vm vc k S F (star A R):=h.swap.monoR λF h=>a1z h
theorem Ly.pop (h:Ly B w0 z g gr N b b' vl vm vc k S F (star A R)):Hold B w0 z (star A (star (bkA g N b) (star R (lyX gr N b' vl vm vc k S F)))):=Hold.swap (Hold.monoR h λF h=>a7d h)
theorem Ly.drop (h:Ly B w0 z g gr N b b' vl vm vc k S F (star A R)):Ly B w0 z g gr N b b' vl vm vc k S F R:=h.pop.right
theorem Ly.swap {A':Asn}(h:Ly B w0 z g gr N b b' vl vm vc k S F (star A (star A' R))):Ly B w0 z g gr N b b' vl vm vc k S F (star A' (star A R)):=Hold.monoR h λF h=>a2s h λF h=>a0q h
theorem Ly.blk {gb:Nat}{T:TypeId}{L:List Value}(h:Ly B w0 z g gr N b b' vl vm vc k S F (star (blkA gb T L) R)):Blk z gb T L:=Hold.blk h.pop
theorem Ly.blk2 {gb:Nat}{T:TypeId}{L:List Value}(h:Ly B w0 z g gr N b b' vl vm vc k S F (star A (star (blkA gb T L) R))):Blk z gb T L:=h.swap.blk
theorem Ly.newBlk (h:Ly B w0 z g gr N b b' vl vm vc k S F R)(hR:Firm R)(T:TypeId)(L:List Value):Ly B w0 (z.alloc (.cells L.toArray T)) g gr N b b' vl vm vc k S F (star (blkA z.heap.size T L) R):=by
 have:=Hold.newBlk (b7e hR) h T L.toArray;rw[List.toList_toArray]at this;exact Ly.push this
theorem Ly.newRow (h:Ly B w0 z g gr N b b' vl vm vc k S F R)(hR:Firm R){T:TypeId}{K m:Nat}{v:Value}{xs:List Value}(hb:Below z.heap.size z z')(hr:z'.ownsRow z.heap.size T K v m xs):Ly B w0 z' g gr N b b' vl vm vc k S F (star (rowK T K v m xs) R):=Ly.push (Hold.newRow (b7e hR) h hb hr)
theorem Ly.apply (hR:Firm R){i:Nat}{n:Int}{key:BA}(hg:GoodIs z (slV (.pointer (some ⟨g,0,none⟩)) (i:Int) n key) true)(hi:i<N){v:Value}{q:List Wr}(h:Ly B w0 z g gr N b b' vl vm vc k S F (star (rowK 144 2 v q.length (a1e q)) R)){M:Nat}(hf:a8r N b M)(hM:M+q.length<=100000):
 Calls prog 36 #[slV (.pointer (some ⟨g,0,none⟩)) (i:Int) n key,v] z λe w'=>e=.returned (.int .i64 (apR N i b q).1)/\Ly B w0 w' g gr N (apR N i b q).2 b' vl vm vc k S F (star (rowK 144 2 v q.length (a1e q)) R):=by
 refine(c7y (hR.star c5t) hg (Hold.monoR h λF h=>a7d h) hi hf hM).mono ?_;rintro e w' ⟨rfl,h2⟩;exact⟨rfl,h2.monoR λF h=>a1z h⟩
theorem Ly.rk (h:Ly B w0 z g gr N b b' vl vm vc k S F R):Rk z gr N b'.D b'.s b'.p:=Hold.rk (Hold.right (Hold.right h))
theorem Ly.l (h:Ly B w0 z g gr N b b' vl vm vc k S F R):z.ownsRow 0 47 6 vl k (shL S k):=Hold.rowK (Hold.right (Hold.right (Hold.right h)))
theorem Ly.m (h:Ly B w0 z g gr N b b' vl vm vc k S F R):z.ownsRow 0 54 6 vm k (shL (λi=>(S i).at gr) k):=Hold.rowK (Hold.right (Hold.right (Hold.right (Hold.right h))))
theorem Ly.c (h:Ly B w0 z g gr N b b' vl vm vc k S F R):z.ownsRow 0 9 1 vc N (strs N F):=Hold.rowK ((Hold.addNought (Hold.right (Hold.right (Hold.right (Hold.right (Hold.right h)))))).comm)
theorem Ly.pushL (hR:Firm R)(h:Ly B w0 z g gr N b b' vl vm vc k S F R)(hk:k<=1000){gn:Nat}{s:Sh}(hb:Blk z gn 47 s.L)(hs:S k=s):
 ∃a c w',(Builtin.append_ #[36,36] 36 #[vl,.slice (some ⟨gn,0,none⟩) 1 1]).run prog z=.ok (.slice a (k+1) c) w'/\Hold B w0 w' (star (rowK 47 6 (.slice a (k+1) c) (k+1) (shL S (k+1))) (star (bkA g N b) (star R (star (rkA gr N b') (star (rowK 54 6 vm k (shL (λi=>(S i).at gr) k)) (rowK 9 1 vc N (strs N F))))))):=by
 have h1:=Hold.pull4 h;obtain⟨a,c,w',r6,h2⟩:=b9k ((a2f _ _ _ _ _).star (hR.star ((a2z _ _ _ _ _).star ((a0d _ _ _ _ _).star (a0d _ _ _ _ _))))) 36 47 36 _ 6 64 underlying36 infoShelf rfl (by decide) (by decide) h1 hk hb rfl (b2z _ _ _ _ _ _);refine⟨a,c,w',r6,?_⟩;rw[<-hs]at h2;exact h2
theorem Ly.pushM (hR:Firm R){vl':Value}(h:Hold B w0 z (star (rowK 47 6 vl' (k+1) (shL S (k+1))) (star (bkA g N b) (star R (star (rkA gr N b') (star (rowK 54 6 vm k (shL (λi=>(S i).at gr) k)) (rowK 9 1 vc N (strs N F))))))))(hk:k<=1000){gn:Nat}{s:Sh}(hb:Blk z gn 54 (s.at gr).L)(hs:S k=s):
 ∃a c w',(Builtin.append_ #[37,37] 37 #[vm,.slice (some ⟨gn,0,none⟩) 1 1]).run prog z=.ok (.slice a (k+1) c) w'/\Ly B w0 w' g gr N b b' vl' (.slice a (k+1) c) vc (k+1) S F R:=by
 have h1:=Hold.pull5 h;obtain⟨a,c,w',r6,h2⟩:=b9k ((a0d _ _ _ _ _).star ((a2f _ _ _ _ _).star (hR.star ((a2z _ _ _ _ _).star (a0d _ _ _ _ _))))) 37 54 37 _ 6 64 underlying37 infoRShelf rfl (by decide) (by decide) h1 hk hb rfl (b2z _ _ _ _ _ _);refine⟨a,c,w',r6,?_⟩;rw[<-hs]at h2;have h3:=Hold.back5 h2;exact(Hold.back4 h3:Hold B w0 w' _)
end
end Go.Proofs.YtokknmkleceooaaGreatDoor
