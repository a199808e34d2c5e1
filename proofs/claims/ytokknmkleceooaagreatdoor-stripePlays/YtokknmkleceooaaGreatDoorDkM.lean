import Derived.WalkKit
import Derived.Test.YtokknmkleceooaaGreatDoorBaseM
import Derived.Maps.AppendAt
import Derived.Lib.SliceRun
import Derived.Laws.MakeOwn
import Derived.Deep.Matrix
import Derived.Deep.Grids
import Derived.SliceStrings
namespace Go.Proofs.YtokknmkleceooaaGreatDoor
set_option linter.unusedVariables false
set_option maxRecDepth 20000
set_option maxHeartbeats 8000000
open Go.Proofs.Tryz
open Go.RowKit
abbrev Wr:=Nat×BA
def upd (f:Nat->BA)(p:Wr):Nat->BA:=λj=>if j=p.1 then p.2 else f j
def app (f:Nat->BA):List Wr->(Nat->BA)
 |[]=>f
 |p::r=>app (upd f p) r
theorem a4n (a:List Wr):∀(f:Nat->BA) (b:List Wr),app f (a++b)=app (app f a) b:=by
 induction a with
 |nil=>intro f b;rfl
 |cons p r ih=>intro f b;exact ih (upd f p) b
theorem b2p (f:Nat->BA)(q:List Wr)(p:Wr):app f (q++[p])=upd (app f q) p:=a4n q f [p]
theorem b8t (q:List Wr)(i:Nat)(p:Wr)(h:q[i]?=some p):q.take (i+1)=q.take i++[p]:=by
 rw[List.take_add_one,h];rfl
theorem c6y (q:List Wr)(at_:Nat):∀f:Nat->BA,(∀p∈q,p.1≠at_)->app f q at_=f at_:=by
 induction q with
 |nil=>intro f _;rfl
 |cons p r ih=>
  intro f h;show app (upd f p) r at_=_;rw[ih _ (λx hx=>h x (List.mem_cons_of_mem _ hx))];unfold upd;rw[qn (λe=>h p List.mem_cons_self e.symm)]
theorem e1m (q:List Wr)(at_:Nat):∀(f:Nat->BA) (i:Nat) (p:Wr),q[i]?=some p->p.1=at_->(∀j x,i<j->q[j]?=some x->x.1≠at_)->app f q at_=p.2:=by
 induction q with
 |nil=>intro f i p h;simp at h
 |cons a r ih=>
  intro f i p h he hl;show app (upd f a) r at_=_
  cases i with
  |zero=>
   simp at h;subst h;rw[c6y r at_ _ (λx hx=>by
    obtain⟨j,hj⟩:=List.getElem?_of_mem hx;exact hl (j+1) x (by omega) (by simpa using hj))]
   unfold upd;rw[qp he.symm]
  |succ i=>exact ih _ i p (by simpa using h) he (λj x hj hx=>hl (j+1) x (by omega) (by simpa using hx))
theorem e2y (q:List Wr)(at_:Nat):∀f:Nat->BA,app f q at_=f at_\/∃p∈q,p.1=at_/\app f q at_=p.2:=by
 induction q with
 |nil=>intro f;exact .inl rfl
 |cons a r ih=>
  intro f;rcases ih (upd f a)with h|⟨p,hp,h1,h2⟩
  ·have e:app f (a::r) at_=upd f a at_:=h;by_cases ha:at_=a.1
   ·exact .inr ⟨a,List.mem_cons_self,ha.symm,by rw[e];unfold upd;rw[qp ha]⟩
   ·exact .inl (by rw[e];unfold upd;rw[qn ha])
  ·exact .inr ⟨p,List.mem_cons_of_mem _ hp,h1,h2⟩
def others (a:Nat)(q:List Wr):List Wr:=q.filter λp=>!(p.1==a)
theorem c9y (a:Nat)(s:BA)(q:List Wr):∀f:Nat->BA,app (upd f (a,s)) (others a q)=upd (app f q) (a,s):=by
 induction q with
 |nil=>intro f;rfl
 |cons p r ih=>
  intro f;have h:=ih (upd f p);by_cases e:p.1=a
  ·have h1:others a (p::r)=others a r:=(by simp[others,e]);have h2:upd (upd f p) (a,s)=upd f (a,s):=by
    funext j;unfold upd;simp only;by_cases ej:j=a
    ·rw[qp ej,qp ej]
    ·rw[qn ej,qn ej,qn (by rw[e];exact ej)]
   rw[h1,<-h2];exact h
  ·have h1:others a (p::r)=p::others a r:=(by simp[others,e]);have h2:upd (upd f p) (a,s)=upd (upd f (a,s)) p:=by
    funext j;unfold upd;simp only;by_cases ej:j=a
    ·rw[qp ej,qp ej,qn (λh=>e (h.symm.trans ej))]
    ·rw[qn ej,qn ej]
   rw[h1];show app (upd (upd f (a,s)) p) (others a r)=_;rw[<-h2];exact h
theorem b5k {a:Nat}{q:List Wr}{p:Wr}(h:p∈others a q):p∈q:=(List.mem_filter.1 h).1
theorem b6x (a:Nat)(q:List Wr):(others a q).length<=q.length:=List.length_filter_le _ _
theorem b3p (a:Nat)(q:List Wr)(p:Wr):others a (q++[p])=others a q++(if p.1=a then []else [p]):=by
 unfold others;rw[List.filter_append];by_cases e:p.1=a<;>simp[e]
theorem c1a (q:List Wr)(n:Nat):∀f f':Nat->BA,(∀i,i<n->f i=f' i)->∀i,i<n->app f q i=app f' q i:=by
 induction q with
 |nil=>intro f f' h;exact h
 |cons p r ih=>
  intro f f' h;refine ih (upd f p) (upd f' p) (λi hi=>?_);unfold upd;rw[h i hi]
open Go.RowKit Go.PlainAid
def strs (n:Nat)(f:Nat->BA):List Value:=(List.range n).map λi=>.string (f i)
theorem a0o (n:Nat)(f:Nat->BA):(strs n f).length=n:=by simp[strs]
theorem a0s (n:Nat)(f:Nat->BA)(i:Nat)(h:i<n):(strs n f)[i]?=some (.string (f i)):=by simp[strs,h]
theorem a1d (n:Nat)(f f':Nat->BA)(h:∀i,i<n->f i=f' i):strs n f=strs n f':=by
 unfold strs;exact List.map_congr_left λi hi=>by rw[h i (List.mem_range.1 hi)]
theorem a2y (n:Nat)(f:Nat->BA)(k:Nat)(s:BA):(strs n f).set k (.string s)=strs n (upd f (k,s)):=by
 apply List.ext_getElem
 ·simp[strs]
 ·intro j h1 h2;rw[List.getElem_set];simp only[strs,List.getElem_map,List.getElem_range,upd];by_cases e:k=j
  ·rw[qp e,qp e.symm]
  ·rw[qn e,qn (λh=>e h.symm)]
theorem a8u (n:Nat)(f:Nat->BA):∀v∈strs n f,v.oneCell'=true:=by
 intro v hv;obtain⟨i,_,rfl⟩:=List.mem_map.1 hv;rfl
theorem b8u (n:Nat)(f:Nat->BA):strs (n+1) f=strs n f++[.string (f n)]:=by
 unfold strs;rw[List.range_succ,List.map_append];rfl
def a1e (q:List Wr):List Value:=q.flatMap λp=>[.int .i64 (p.1:Int),.string p.2]
theorem a4e (q:List Wr):(a1e q).length=q.length*2:=by
 induction q with
 |nil=>rfl
 |cons p r ih=>simp only[a1e,List.flatMap_cons,List.length_append,List.length_cons,List.length_nil]at ih⊢;omega
theorem a4f (a b:List Wr):a1e (a++b)=a1e a++a1e b:=by simp[a1e]
theorem b6v (q:List Wr):∀i p,q[i]?=some p->(a1e q)[i*2]?=some (.int .i64 (p.1:Int))/\(a1e q)[i*2+1]?=some (.string p.2):=by
 induction q with
 |nil=>intro i p h;simp at h
 |cons a r ih=>
  intro i p h
  cases i with
  |zero=>simp at h;subst h;exact⟨rfl,rfl⟩
  |succ i=>
   have:=ih i p (by simpa using h);rw[show(i+1)*2=i*2+1+1 by omega];exact this
theorem d2q (q:List Wr):∀v∈a1e q,v.oneCell'=true:=by
 intro v hv;obtain⟨p,_,hp⟩:=List.mem_flatMap.1 hv;simp at hp;rcases hp with rfl|rfl<;>rfl
def Waits (w:World)(T:TypeId)(v:Value)(q:List Wr):Prop:=w.ownsRow 0 T 2 v q.length (a1e q)
theorem Waits.nil (w:World)(T:TypeId):Waits w T (.slice none 0 0) []:=World.ownsRow_nil _ _ _ _
theorem Waits.kept {F:Nat->Prop}{w w':World}{T:TypeId}{v:Value}{q:List Wr}(h:Waits w T v q)(ho:Kept F w w')(hk:∀k,v.ownBlock=some k->¬F k):Waits w' T v q:=a2n h ho hk
theorem Waits.form {w:World}{T:TypeId}{v:Value}{q:List Wr}(h:Waits w T v q):∃a cap,v=.slice a q.length cap:=by
 rcases h.2 with⟨rfl,hn⟩|⟨g,cap,cur,rfl,_⟩
 ·exact⟨none,0,by rw[hn]⟩
 ·exact⟨_,_,rfl⟩
theorem Waits.lt {w:World}{T:TypeId}{v:Value}{q:List Wr}(h:Waits w T v q)(k:Nat)(hk:v.ownBlock=some k):k<w.heap.size:=(World.ownsRow.lt h k hk).2
theorem Waits.at {w:World}{T:TypeId}{v:Value}{q:List Wr}(h:Waits w T v q){i:Nat}{p:Wr}(hi:q[i]?=some p):
 ∃g cap,v=.slice (some ⟨g,0,none⟩) q.length cap/\w.cell? ⟨g,i*2,none⟩=some (.int .i64 (p.1:Int))/\w.cell? ⟨g,i*2+1,none⟩=some (.string p.2):=by
 obtain⟨p9,_⟩:=List.getElem?_eq_some_iff.1 hi;rcases h.2 with⟨rfl,hn⟩|⟨g,cap,cur,rfl,_⟩
 ·omega
 ·have h0:=World.ownsRow.cellAt h (i*2) (by omega);have h1:=World.ownsRow.cellAt h (i*2+1) (by omega);have hp:=b6v q i p hi;exact⟨g,cap,rfl,h0.trans hp.1,h1.trans hp.2⟩
structure DiskIn (w:World)(F:Nat->Prop)(g n:Nat)(l:Nat->BA)(q:List Wr)(dead:Bool)(gc gl:Nat)(v:Value):Prop where
 inn:F g/\F gc/\F gl/\∀k,v.ownBlock=some k->F k
 ne:gc≠gl
 low:1<=n
 high:n<=512
 ats:∀p∈q,p.1<n
 top:Blk w g 130 [.slice (some ⟨gc,0,none⟩) n n,.slice (some ⟨gl,0,none⟩) n n,v,.bool dead]
 cells:Blk w gc 9 (strs n (app l q))
 lasts:Blk w gl 9 (strs n l)
 row:Waits w 158 v q
 bound:∀k,F k->k<w.heap.size
def DiskAt (w:World)(F:Nat->Prop)(g n:Nat)(l:Nat->BA)(q:List Wr)(dead:Bool):Prop:=∃gc gl v,DiskIn w F g n l q dead gc gl v
theorem DiskAt.kept {w w':World}{F G:Nat->Prop}{g n:Nat}{l:Nat->BA}{q:List Wr}{dead:Bool}(h:DiskAt w F g n l q dead)(ho:Kept G w w')(hd:∀k,F k->¬G k):DiskAt w' F g n l q dead:=by
 obtain⟨gc,gl,v,h⟩:=h;exact⟨gc,gl,v,h.inn,h.ne,h.low,h.high,h.ats,h.top.kept ho (hd _ h.inn.1),h.cells.kept ho (hd _ h.inn.2.1),h.lasts.kept ho (hd _ h.inn.2.2.1),h.row.kept ho (λk hk=>hd _ (h.inn.2.2.2 k hk)),λk hk=>Nat.lt_of_lt_of_le (h.bound k hk) ho.size⟩
theorem DiskAt.bound {w:World}{F:Nat->Prop}{g n:Nat}{l:Nat->BA}{q:List Wr}{dead:Bool}(h:DiskAt w F g n l q dead):∀k,F k->k<w.heap.size:=by
 obtain⟨gc,gl,v,h⟩:=h;exact h.bound
theorem DiskAt.size {w:World}{F:Nat->Prop}{g n:Nat}{l:Nat->BA}{q:List Wr}{dead:Bool}(h:DiskAt w F g n l q dead):1<=n/\n<=512:=by
 obtain⟨gc,gl,v,h⟩:=h;exact⟨h.low,h.high⟩
theorem DiskAt.ats {w:World}{F:Nat->Prop}{g n:Nat}{l:Nat->BA}{q:List Wr}{dead:Bool}(h:DiskAt w F g n l q dead):∀p∈q,p.1<n:=by
 obtain⟨gc,gl,v,h⟩:=h;exact h.ats
theorem DiskAt.congr {w:World}{F:Nat->Prop}{g n:Nat}{l l':Nat->BA}{q:List Wr}{dead:Bool}(h:DiskAt w F g n l q dead)(e:∀i,i<n->l i=l' i):DiskAt w F g n l' q dead:=by
 obtain⟨gc,gl,v,h⟩:=h;refine⟨gc,gl,v,h.inn,h.ne,h.low,h.high,h.ats,h.top,?_,?_,h.row,h.bound⟩
 ·rw[a1d n _ _ λi hi=>(c1a q n l l' e i hi).symm];exact h.cells
 ·rw[a1d n _ _ λi hi=>(e i hi).symm];exact h.lasts
theorem DiskAt.drew {w:World}{F:Nat->Prop}{g n:Nat}{l:Nat->BA}{q:List Wr}{dead:Bool}(h:DiskAt w F g n l q dead):DiskAt w.drew F g n l q dead:=h.kept (G:=λ_=>False) (Kept.refl _ _).drew (λ_ _ h=>h)
structure RefIn (w:World)(F:Nat->Prop)(g n:Nat)(l:Nat->BA)(q:List Wr)(dead:Bool)(gc:Nat)(v:Value):Prop where
 inn:F g/\F gc/\∀k,v.ownBlock=some k->F k
 low:1<=n
 high:n<=512
 ats:∀p∈q,p.1<n
 top:Blk w g 154 [.slice (some ⟨gc,0,none⟩) n n,v,.bool dead]
 cells:Blk w gc 9 (strs n l)
 row:Waits w 161 v q
 bound:∀k,F k->k<w.heap.size
def RefAt (w:World)(F:Nat->Prop)(g n:Nat)(l:Nat->BA)(q:List Wr)(dead:Bool):Prop:=∃gc v,RefIn w F g n l q dead gc v
theorem RefAt.kept {w w':World}{F G:Nat->Prop}{g n:Nat}{l:Nat->BA}{q:List Wr}{dead:Bool}(h:RefAt w F g n l q dead)(ho:Kept G w w')(hd:∀k,F k->¬G k):RefAt w' F g n l q dead:=by
 obtain⟨gc,v,h⟩:=h;exact⟨gc,v,h.inn,h.low,h.high,h.ats,h.top.kept ho (hd _ h.inn.1),h.cells.kept ho (hd _ h.inn.2.1),h.row.kept ho (λk hk=>hd _ (h.inn.2.2 k hk)),λk hk=>Nat.lt_of_lt_of_le (h.bound k hk) ho.size⟩
theorem RefAt.bound {w:World}{F:Nat->Prop}{g n:Nat}{l:Nat->BA}{q:List Wr}{dead:Bool}(h:RefAt w F g n l q dead):∀k,F k->k<w.heap.size:=by
 obtain⟨gc,v,h⟩:=h;exact h.bound
theorem RefAt.congr {w:World}{F:Nat->Prop}{g n:Nat}{l l':Nat->BA}{q:List Wr}{dead:Bool}(h:RefAt w F g n l q dead)(e:∀i,i<n->l i=l' i):RefAt w F g n l' q dead:=by
 obtain⟨gc,v,h⟩:=h;exact⟨gc,v,h.inn,h.low,h.high,h.ats,h.top,by rw[a1d n _ _ λi hi=>(e i hi).symm];exact h.cells,h.row,h.bound⟩
def errD (dead:Bool):Int:=if dead=true then 20 else 0
def errA (dead:Bool)(n:Nat)(at_:Int):Int:=if dead=true then 20 else if at_<0\/(n:Int)<=at_ then 2 else 0
theorem a6v (n:Nat)(at_:Int):errA true n at_=20:=rfl
theorem a9x (n:Nat)(at_:Int)(h:at_<0\/(n:Int)<=at_):errA false n at_=2:=by unfold errA;rw[qn (by decide),qp h]
theorem a6a (n k:Nat)(h:k<n):errA false n (k:Int)=0:=by unfold errA;rw[qn (by decide),qn (by omega)]
theorem a5p (dead:Bool)(n:Nat)(at_:Int):dead=true\/(dead=false/\(at_<0\/(n:Int)<=at_))\/(dead=false/\∃k:Nat,at_=(k:Int)/\k<n):=by
 cases dead
 ·by_cases h:at_<0\/(n:Int)<=at_
  ·exact .inr (.inl ⟨rfl,h⟩)
  ·exact .inr (.inr ⟨rfl,at_.toNat,by omega,by omega⟩)
 ·exact .inl rfl
theorem b0m {F:Nat->Prop}{g n:Nat}{l:Nat->BA}{q:List Wr}{dead:Bool}{w:World}(h:DiskAt w F g n l q dead):
 Calls prog 81 #[.pointer (some ⟨g,0,none⟩)] w λe w'=>e=.returned (.int .i64 (errD dead))/\w'=w:=by
 obtain⟨gc,gl,v,h⟩:=h;have c3:=h.top.cell (i:=3) rfl;clear h
 cases dead
 ·go_enter func81,ntmps81;go_wp2;go_ret;exact⟨rfl,rfl⟩
 ·go_enter func81,ntmps81;go_wp2;go_ret;exact⟨rfl,rfl⟩
theorem b3l {F:Nat->Prop}{g n:Nat}{l:Nat->BA}{q:List Wr}{dead:Bool}{w:World}(h:DiskAt w F g n l q dead)(at_:Int):
 Calls prog 82 #[.pointer (some ⟨g,0,none⟩),.int .i64 at_] w λe w'=>e=.returned (.int .i64 (errA dead n at_))/\w'=w:=by
 have hu:=b0m h;have aA:=h.size;obtain⟨gc,gl,v,h⟩:=h;have c0:=h.top.cell (i:=0) rfl;clear h;rcases a5p dead n at_ with rfl|⟨rfl,ha⟩|⟨rfl,k,rfl,hk⟩
 ·rw[a6v];go_enter func82,ntmps82;go_wp2_with(go_at_call 81;refine hu.mono ?_;rintro e w' ⟨rfl,rfl⟩;rw[show errD true=20 from rfl]);go_ret;exact⟨rfl,rfl⟩
 ·rw[a9x n at_ ha];have HA:Hid (at_<0\/(n:Int)<=at_):=ha;clear ha;by_cases h0:at_<0
  ·go_enter func82,ntmps82;go_wp2_with(go_at_call 81;refine hu.mono ?_;rintro e w' ⟨rfl,rfl⟩;rw[show errD false=0 from rfl]);go_ret;exact⟨rfl,rfl⟩
  ·have h1:(n:Int)<=at_:=HA.out.resolve_left h0;go_enter func82,ntmps82;go_wp2_with(go_at_call 81;refine hu.mono ?_;rintro e w' ⟨rfl,rfl⟩;rw[show errD false=0 from rfl]);go_ret;exact⟨rfl,rfl⟩
 ·rw[a6a n k hk];have hk':¬(n:Int)<=(k:Int):=by omega
  have hk0:¬(k:Int)<0:=by omega
  go_enter func82,ntmps82;go_wp2_with(go_at_call 81;refine hu.mono ?_;rintro e w' ⟨rfl,rfl⟩;rw[show errD false=0 from rfl]);go_ret;exact⟨rfl,rfl⟩
def b1t (l:Nat->BA)(q:List Wr)(dead:Bool)(n:Nat)(at_:Int):BA:=if errA dead n at_=0 then app l q at_.toNat else noB
theorem d8a {F:Nat->Prop}{g n:Nat}{l:Nat->BA}{q:List Wr}{dead:Bool}{w:World}(h:DiskAt w F g n l q dead)(at_:Int):
 Calls prog 102 #[.pointer (some ⟨g,0,none⟩),.int .i64 at_] w λe w'=>e=.returned (.tuple #[.string (b1t l q dead n at_),.int .i64 (errA dead n at_)])/\w'=w:=by
 have hu:=b3l h at_;have aA:=h.size;obtain⟨gc,gl,v,h⟩:=h;have c0:=h.top.cell (i:=0) rfl;obtain⟨E,hE⟩:∃E,errA dead n at_=E:=⟨_,rfl⟩;unfold b1t;by_cases h0:E=0
 ·subst h0;rcases a5p dead n at_ with rfl|⟨rfl,ha⟩|⟨rfl,k,rfl,hk⟩
  ·rw[a6v]at hE;exact absurd hE (by decide)
  ·rw[a9x n at_ ha]at hE;exact absurd hE (by decide)
  ·have ck:=h.cells.cell (a0s n (app l q) k hk);rw[hE]at hu;rw[hE,qp rfl,Int.toNat_natCast];clear h hE;obtain⟨s,hs⟩:∃s,app l q k=s:=⟨_,rfl⟩;rw[hs]at ck⊢;clear hs;go_enter func102,ntmps102;go_wp2_with(go_at_call 82;refine hu.mono ?_;rintro e w' ⟨rfl,rfl⟩);go_ret2;exact⟨rfl,rfl⟩
 ·rw[hE]at hu;rw[hE,qn h0];have hb:(E==0)=false:=by simpa using h0
  clear h hE;go_enter func102,ntmps102;go_wp2_with(go_at_call 82;refine hu.mono ?_;rintro e w' ⟨rfl,rfl⟩);go_ret2;exact⟨rfl,rfl⟩
theorem info9:(prog.info? 9).map (λi=>(i.zero,i.size,i.bytes))=some (some (.string noB),1,16):=by kernel_rfl
theorem d3o (n:Nat):madeCells (Value.string noB).cells (n*1)=(strs n λ_=>noB).toArray:=by
 apply Array.ext
 ·simp[madeCells,strs]
 ·intro i h1 h2;simp[madeCells,strs,Value.cells,Nat.mod_one]
theorem a9q (n:Nat)(h:n<=512)(w:World):(Instr.makeSlice 23 (.int .i64 (n:Int)) (.int .i64 (n:Int))).run prog w=.ok (.slice (some ⟨w.heap.size,0,none⟩) n n) (w.alloc (.cells (strs n λ_=>noB).toArray 9)):=by
 obtain⟨i0,hi,hz0,hz1,hz2⟩:=info_parts info9;have hr:=run_make (P:=prog) w 23 9 i0 (.string noB) underlying23 hi hz0 .i64 .i64 n n (by omega) (by omega) (by rw[hz2];omega) (by omega);rw[hz1,Int.toNat_natCast,d3o]at hr;exact hr
def newN (c:Int):Nat:=if c<1 then 1 else if 512<c then 512 else c.toNat
theorem c5n (c:Int):1<=newN c/\newN c<=512:=by
 unfold newN
 split
 ·omega
 ·split<;>omega
theorem e8a (c:Int)(w:World):Calls prog 68 #[.int .i64 c] w λe w'=>∃g,e=.returned (.pointer (some ⟨g,0,none⟩))/\∃F,DiskAt w' F g (newN c) (λ_=>noB) [] false/\Below w.heap.size w w'/\∀k,F k->w.heap.size<=k:=by
 obtain⟨n,hn⟩:∃n,newN c=n:=⟨_,rfl⟩;have hl:=c5n c;rw[hn]at hl⊢;have cH:=a9q n hl.2;obtain⟨Z,hZ⟩:∃Z,(strs n λ_=>noB)=Z:=⟨_,rfl⟩;rw[hZ]at cH;have y8:∀a b:Nat,a≠b->(a=w.heap.size\/b=w.heap.size)->(a=w.heap.size+1\/b=w.heap.size+1)->∀wn,wn=((w.alloc (.cells Z.toArray 9)).alloc (.cells Z.toArray 9)).alloc (.cells #[.slice (some ⟨a,0,none⟩) n n,.slice (some ⟨b,0,none⟩) n n,.slice none 0 0,.bool false] 130)->
  ∃F,DiskAt wn.drew F (w.heap.size+1+1) n (λ_=>noB) [] false/\Below w.heap.size w wn.drew/\∀k,F k->w.heap.size<=k:=by
  intro a b y6 h0 h1 wn rfl;have hB:Below w.heap.size w (((w.alloc (.cells Z.toArray 9)).alloc (.cells Z.toArray 9)).alloc (.cells #[.slice (some ⟨a,0,none⟩) n n,.slice (some ⟨b,0,none⟩) n n,.slice none 0 0,.bool false] 130)):=
   (((qw _ _).alloc (ql _) _).alloc (by simp) _).alloc (by simp;omega) _
  have b1:=((Blk.new w 9 Z.toArray).alloc (.cells Z.toArray 9)).alloc (.cells #[.slice (some ⟨a,0,none⟩) n n,.slice (some ⟨b,0,none⟩) n n,.slice none 0 0,.bool false] 130);have b2:=(Blk.new (w.alloc (.cells Z.toArray 9)) 9 Z.toArray).alloc (.cells #[.slice (some ⟨a,0,none⟩) n n,.slice (some ⟨b,0,none⟩) n n,.slice none 0 0,.bool false] 130);have b3:=Blk.new ((w.alloc (.cells Z.toArray 9)).alloc (.cells Z.toArray 9)) 130 #[.slice (some ⟨a,0,none⟩) n n,.slice (some ⟨b,0,none⟩) n n,.slice none 0 0,.bool false];have e1:(w.alloc (.cells Z.toArray 9)).heap.size=w.heap.size+1:=by simp
  have e2:((w.alloc (.cells Z.toArray 9)).alloc (.cells Z.toArray 9)).heap.size=w.heap.size+2:=by simp
  rw[e1]at b2;rw[e2]at b3;rw[List.toList_toArray]at b1 b2;refine⟨λk=>w.heap.size<=k/\k<w.heap.size+3,DiskAt.drew ⟨a,b,.slice none 0 0,⟨⟨by omega,by omega⟩,⟨by omega,by omega⟩,⟨by omega,by omega⟩,λk h=>(by cases h)⟩,y6,hl.1,hl.2,λp hp=>(by cases hp),b3,?_,?_,Waits.nil _ _,λk hk=>(by rw[World.size_alloc,e2];exact hk.2)⟩,hB.drew,λk hk=>hk.1⟩
  ·show Blk _ a 9 (strs n λ_=>noB);rw[hZ];rcases h0 with rfl|rfl
   ·exact b1
   ·obtain rfl:a=w.heap.size+1:=(by omega);exact b2
  ·rw[hZ];rcases h0 with rfl|rfl
   ·obtain rfl:b=w.heap.size+1:=(by omega);exact b2
   ·exact b1
 have HF:Hid _:=y8;clear y8 hZ;unfold newN at hn;by_cases h1:c<1
 ·rw[qp h1]at hn;subst hn;replace cH:∀w:World,(Instr.makeSlice 23 (.int .i64 1) (.int .i64 1)).run prog w=.ok (.slice (some ⟨w.heap.size,0,none⟩) 1 1) (w.alloc (.cells Z.toArray 9)):=cH;go_enter func68,ntmps68;go_wp2_with fail;go_region
  all_goals
   go_wp2_with fail;go_ret
   first
   |exact⟨_,rfl,HF.out w.heap.size (w.heap.size+1) (by omega) (by omega) (by omega) _ rfl⟩
   |exact⟨_,rfl,HF.out (w.heap.size+1) w.heap.size (by omega) (by omega) (by omega) _ rfl⟩
 ·rw[qn h1]at hn;by_cases h2:512<c
  ·rw[qp h2]at hn;subst hn;replace cH:∀w:World,(Instr.makeSlice 23 (.int .i64 512) (.int .i64 512)).run prog w=.ok (.slice (some ⟨w.heap.size,0,none⟩) 512 512) (w.alloc (.cells Z.toArray 9)):=cH;go_enter func68,ntmps68;go_wp2_with fail;go_region
   all_goals
    go_wp2_with fail;go_ret
    first
    |exact⟨_,rfl,HF.out w.heap.size (w.heap.size+1) (by omega) (by omega) (by omega) _ rfl⟩
    |exact⟨_,rfl,HF.out (w.heap.size+1) w.heap.size (by omega) (by omega) (by omega) _ rfl⟩
  ·rw[qn h2]at hn;obtain rfl:c=(n:Int):=(by omega);clear hn;go_enter func68,ntmps68;go_wp2_with fail;go_region
   all_goals
    go_wp2_with fail;go_ret
    first
    |exact⟨_,rfl,HF.out w.heap.size (w.heap.size+1) (by omega) (by omega) (by omega) _ rfl⟩
    |exact⟨_,rfl,HF.out (w.heap.size+1) w.heap.size (by omega) (by omega) (by omega) _ rfl⟩
theorem d2c (c:Int)(w:World):Calls prog 69 #[.int .i64 c] w λe w'=>∃g,e=.returned (.pointer (some ⟨g,0,none⟩))/\∃F,RefAt w' F g (newN c) (λ_=>noB) [] false/\Below w.heap.size w w'/\∀k,F k->w.heap.size<=k:=by
 obtain⟨n,hn⟩:∃n,newN c=n:=⟨_,rfl⟩;have hl:=c5n c;rw[hn]at hl⊢;have cH:=a9q n hl.2;obtain⟨Z,hZ⟩:∃Z,(strs n λ_=>noB)=Z:=⟨_,rfl⟩;rw[hZ]at cH;have HF:Hid (∃F,RefAt ((w.alloc (.cells Z.toArray 9)).alloc (.cells #[.slice (some ⟨w.heap.size,0,none⟩) n n,.slice none 0 0,.bool false] 154)) F (w.heap.size+1) n (λ_=>noB) [] false/\Below w.heap.size w ((w.alloc (.cells Z.toArray 9)).alloc (.cells #[.slice (some ⟨w.heap.size,0,none⟩) n n,.slice none 0 0,.bool false] 154))/\∀k,F k->w.heap.size<=k):=by
  have hB:Below w.heap.size w ((w.alloc (.cells Z.toArray 9)).alloc (.cells #[.slice (some ⟨w.heap.size,0,none⟩) n n,.slice none 0 0,.bool false] 154)):=
   ((qw _ _).alloc (ql _) _).alloc (by simp) _
  have b1:=(Blk.new w 9 Z.toArray).alloc (.cells #[.slice (some ⟨w.heap.size,0,none⟩) n n,.slice none 0 0,.bool false] 154);have b3:=Blk.new (w.alloc (.cells Z.toArray 9)) 154 #[.slice (some ⟨w.heap.size,0,none⟩) n n,.slice none 0 0,.bool false];have e1:(w.alloc (.cells Z.toArray 9)).heap.size=w.heap.size+1:=by simp
  rw[e1]at b3;rw[List.toList_toArray]at b1;exact⟨λk=>w.heap.size<=k/\k<w.heap.size+2,⟨w.heap.size,.slice none 0 0,⟨⟨by omega,by omega⟩,⟨by omega,by omega⟩,λk h=>(by cases h)⟩,hl.1,hl.2,λp hp=>(by cases hp),b3,by rw[hZ];exact b1,Waits.nil _ _,λk hk=>(by rw[World.size_alloc,e1];exact hk.2)⟩,hB,λk hk=>hk.1⟩
 clear hZ;unfold newN at hn;by_cases h1:c<1
 ·rw[qp h1]at hn;subst hn;replace cH:∀w:World,(Instr.makeSlice 23 (.int .i64 1) (.int .i64 1)).run prog w=.ok (.slice (some ⟨w.heap.size,0,none⟩) 1 1) (w.alloc (.cells Z.toArray 9)):=cH;go_enter func69,ntmps69;go_wp2_with fail;go_ret;obtain⟨F,k1,k2,k3⟩:=HF.out;exact⟨_,rfl,F,k1,k2,k3⟩
 ·rw[qn h1]at hn;by_cases h2:512<c
  ·rw[qp h2]at hn;subst hn;replace cH:∀w:World,(Instr.makeSlice 23 (.int .i64 512) (.int .i64 512)).run prog w=.ok (.slice (some ⟨w.heap.size,0,none⟩) 512 512) (w.alloc (.cells Z.toArray 9)):=cH;go_enter func69,ntmps69;go_wp2_with fail;go_ret;obtain⟨F,k1,k2,k3⟩:=HF.out;exact⟨_,rfl,F,k1,k2,k3⟩
  ·rw[qn h2]at hn;obtain rfl:c=(n:Int):=(by omega);clear hn;go_enter func69,ntmps69;go_wp2_with fail;go_ret;obtain⟨F,k1,k2,k3⟩:=HF.out;exact⟨_,rfl,F,k1,k2,k3⟩
theorem info158:(prog.info? 158).map (λi=>(i.zero,i.size,i.bytes))=some (some (.agg #[.int .i64 0,.string noB]),2,24):=by kernel_rfl
theorem info161:(prog.info? 161).map (λi=>(i.zero,i.size,i.bytes))=some (some (.agg #[.int .i64 0,.string noB]),2,24):=by kernel_rfl
theorem wpList_append_run {P:Program}{ops:Array Oper}{rest:List Oper}{o:Oper}{a:Act}{w:World}{Q:Exit->Act->World->Prop}(y5:o.guard=none)(s x:Operand)(t tn:TypeId)
 (ho:o.op=.call {callee:=.builtin .append,args:=#[s,x],argTypes:=#[t,tn]})(vs vx:Value)(hs:a.eval s=vs)(hx:a.eval x=vx)
 (v':Value)(w':World)(hr:(Builtin.append_ #[t,tn] o.type #[vs,vx]).run P w=.ok v' w')(h:wpList P ops Q rest (a.put o.dst v') w'):wpList P ops Q (o::rest) a w:=
 wpList_plain y5 λK hK=>by
  unfold Oper.wp;simp[execOp,ho,resolve,invoke,builtin,hs,hx,hr,Result.andThen];exact hK _ _ h
theorem b4x (sl T ty:TypeId)(hu:prog.underlying sl=some (.slice T))(hT:(prog.info? T).map (λi=>(i.zero,i.size,i.bytes))=some (some (.agg #[.int .i64 0,.string noB]),2,24))
 (w:World)(v:Value)(q:List Wr)(h:Waits w T v q)(p:Wr)(hq:q.length<=1000000):
 ∃g' cap' w',(Builtin.append_ #[sl,sl] ty #[v,.slice (some ⟨w.heap.size,0,none⟩) 1 1]).run prog (w.alloc (.cells #[.int .i64 (p.1:Int),.string p.2] T))=.ok (.slice (some ⟨g',0,none⟩) (q.length+1) cap') w'/\
  Waits w' T (.slice (some ⟨g',0,none⟩) (q.length+1) cap') (q++[p])/\(w.alloc (.cells #[.int .i64 (p.1:Int),.string p.2] T)).grownBy w' v.ownBlock/\(some g'=v.ownBlock\/w.heap.size<=g'):=by
 obtain⟨i0,hi,hz0,hz1,hz2⟩:=info_parts hT;have bY:∀(j:Nat) u,[Value.int .i64 (p.1:Int),Value.string p.2][j]?=some u->(w.alloc (.cells #[.int .i64 (p.1:Int),.string p.2] T)).cell? ((⟨w.heap.size,0,none⟩:Addr).add j)=some u:=λj u hj=>by
  match j,hj with
  |0,hj=>simp at hj;subst hj;simp only[Addr.add];exact(Blk.new w T #[.int .i64 (p.1:Int),.string p.2]).cell rfl
  |1,hj=>simp at hj;subst hj;simp only[Addr.add];exact(Blk.new w T #[.int .i64 (p.1:Int),.string p.2]).cell rfl
 obtain⟨v',w',r6,q8,q9,_,bM⟩:=run_append_own_at (P:=prog) (w.alloc (.cells #[.int .i64 (p.1:Int),.string p.2] T)) 0 sl ty T i0 (.agg #[.int .i64 0,.string noB]) 2 24 hu hi hz0 hz1 hz2 rfl (by decide) v q.length (a1e q) (World.ownsRow.alloc h _)
  ⟨w.heap.size,0,none⟩ 1 1 [.int .i64 (p.1:Int),.string p.2] rfl bY (λu hu=>by simp at hu;rcases hu with rfl|rfl<;>rfl) (by unfold maxLen;omega) (by omega) (Nat.zero_le _)
 have hw:Waits w' T v' (q++[p]):=by
  unfold Waits;rw[List.length_append,a4f];exact q8
 rcases q8.2 with⟨_,h0⟩|⟨g',cap',cur,rfl,_⟩
 ·omega
 ·refine⟨g',cap',w',r6,hw,q9,?_⟩;rcases bM with h|h
  ·exact .inl h
  ·have h2:g'=(w.alloc (.cells #[.int .i64 (p.1:Int),.string p.2] T)).heap.size:=Option.some.inj h;rw[World.size_alloc]at h2;exact .inr (by omega)
def errW (dead:Bool)(n:Nat)(at_:Int)(s:BA):Int:=if errA dead n at_=0 then(if 2048<s.size then 5 else 0)else errA dead n at_
def putQ (q:List Wr)(dead:Bool)(n:Nat)(at_:Int)(s:BA):List Wr:=if errW dead n at_ s=0 then q++[(at_.toNat,s)]else q
theorem b5t (dead:Bool)(n:Nat)(at_:Int)(s:BA):(∃E,errA dead n at_=E/\E≠0/\errW dead n at_ s=E)\/(errA dead n at_=0/\errW dead n at_ s=5/\2048<s.size)\/(dead=false/\errW dead n at_ s=0/\s.size<=2048/\∃k:Nat,at_=(k:Int)/\k<n):=by
 unfold errW;by_cases h:errA dead n at_=0
 ·rw[qp h];by_cases hs:2048<s.size
  ·exact .inr (.inl ⟨h,by rw[qp hs],hs⟩)
  ·refine .inr (.inr ?_);rcases a5p dead n at_ with rfl|⟨rfl,ha⟩|⟨rfl,hk⟩
   ·rw[a6v]at h;exact absurd h (by decide)
   ·rw[a9x n at_ ha]at h;exact absurd h (by decide)
   ·exact⟨rfl,by rw[qn hs],by omega,hk⟩
 ·exact .inl ⟨_,rfl,h,by rw[qn h]⟩
theorem DiskIn.turn {w w':World}{F:Nat->Prop}{g n:Nat}{l:Nat->BA}{q:List Wr}{dead:Bool}(h:DiskAt w F g n l q dead):Turned F w w (λF'=>DiskAt w F' g n l q dead):=⟨F,h,Kept.refl _ _,λk hk=>.inl hk⟩
theorem c4j {F:Nat->Prop}{g n:Nat}{l:Nat->BA}{q:List Wr}{dead:Bool}{w:World}(h:DiskAt w F g n l q dead)(at_:Int)(s:BA)(hq:q.length<=1000000):
 Calls prog 122 #[.pointer (some ⟨g,0,none⟩),.int .i64 at_,.string s] w λe w'=>e=.returned (.int .i64 (errW dead n at_ s))/\Turned F w w' (λF'=>DiskAt w' F' g n l (putQ q dead n at_ s) dead):=by
 have hu:=b3l h at_;have h':=h;obtain⟨gc,gl,v,h⟩:=h;unfold putQ;rcases b5t dead n at_ s with⟨E,hE,h0,hW⟩|⟨hE,hW,hs⟩|⟨rfl,hW,hs,k,rfl,hk⟩
 ·rw[hW,qn h0];rw[hE]at hu;have hb:(E==0)=false:=by simpa using h0
  have HT:Hid _:=DiskIn.turn (w':=w) h';clear h hE hW h0 h';go_enter func122,ntmps122;go_wp2_with(go_at_call 82;refine hu.mono ?_;rintro e w' ⟨rfl,rfl⟩);go_ret;exact⟨rfl,HT.out⟩
 ·rw[hW,qn (by decide)];rw[hE]at hu;have HT:Hid _:=DiskIn.turn (w':=w) h';clear h hE hW h';go_enter func122,ntmps122;go_wp2_with(go_at_call 82;refine hu.mono ?_;rintro e w' ⟨rfl,rfl⟩);go_ret;exact⟨rfl,HT.out⟩
 ·rw[hW,qp rfl,Int.toNat_natCast];rw[a6a n k hk]at hu;have hs':¬2048<s.size:=by omega
  have c0:=h.top.cell (i:=0) rfl;have c2:=h.top.cell (i:=2) rfl;have ck:=h.cells.cell (a0s n (app l q) k hk);have fk:=h.cells.frozen k;have cA:=h.top.ne h.cells (by decide);have aY:=h.top.ne h.lasts (by decide);have oO:=h.cells.owns_ne h.row (by decide);have qZ:=h.lasts.owns_ne h.row (by decide);have hvg:=h.top.owns_ne h.row (by decide);have K1:Kept F w (w.setCell ⟨gc,k,none⟩ (.string s)):=(Kept.refl F w).setCell (.inl h.inn.2.1) _ _;have K1':Kept (λi=>i=gc) w (w.setCell ⟨gc,k,none⟩ (.string s)):=Kept.one _ _ _ _;have T1:=h.top.kept K1' cA;have C1:=h.cells.setCell k (.string s);rw[a2y]at C1;have L1:=h.lasts.kept K1' (λe=>h.ne e.symm);have W1:=h.row.kept K1' (λi hi e=>oO (by rw[hi,e]));obtain⟨g',cap',w2,r6,W2,q9,bM⟩:=b4x 128 158 128 underlying128 info158 _ v q W1 (k,s) hq;have K2':Kept (λi=>v.ownBlock=some i) (w.setCell ⟨gc,k,none⟩ (.string s)) w2:=((Kept.refl _ _).alloc _).grown q9 (λi hi=>.inl hi);have T2:=T1.kept K2' hvg;have C2:=C1.kept K2' oO;have L2:=L1.kept K2' qZ;have K2:Kept F w w2:=K1.trans K2' (λi hi=>.inl (h.inn.2.2.2 i hi));have d2:=T2.cell (i:=2) rfl;have f2:=T2.frozen 2;have T3:=T2.setCell 2 (.slice (some ⟨g',0,none⟩) (q.length+1) cap');have K3':Kept (λi=>i=g) w2 (w2.setCell ⟨g,2,none⟩ (.slice (some ⟨g',0,none⟩) (q.length+1) cap')):=Kept.one _ _ _ _;have K3:=K2.setCell (.inl h.inn.1) 2 (.slice (some ⟨g',0,none⟩) (q.length+1) cap');have C3:=C2.kept K3' (λe=>cA e.symm);have L3:=L2.kept K3' (λe=>aY e.symm);have W3:=W2.kept K3' (λi hi e=>by
   have:=T2.owns_ne W2 (by decide);rw[hi,e]at this;exact this rfl)
  have p9:=W3.lt g' rfl;have HT:Hid (Turned F w (w2.setCell ⟨g,2,none⟩ (.slice (some ⟨g',0,none⟩) (q.length+1) cap')) (λF'=>DiskAt (w2.setCell ⟨g,2,none⟩ (.slice (some ⟨g',0,none⟩) (q.length+1) cap')) F' g n l (q++[(k,s)]) false)):=by
   refine⟨λi=>F i\/i=g',⟨gc,gl,.slice (some ⟨g',0,none⟩) (q.length+1) cap',⟨.inl h.inn.1,.inl h.inn.2.1,.inl h.inn.2.2.1,λi hi=>.inr (by cases hi;rfl)⟩,h.ne,h.low,h.high,?_,T3,?_,L3,W3,?_⟩,K3,?_⟩
   ·intro p hp;rcases List.mem_append.1 hp with hp|hp
    ·exact h.ats p hp
    ·rw[List.mem_singleton.1 hp];exact hk
   ·rw[b2p];exact C3
   ·rintro i (hi|rfl)
    ·exact Nat.lt_of_lt_of_le (h.bound i hi) K3.size
    ·exact p9
   ·rintro i (hi|rfl)
    ·exact .inl hi
    ·rcases bM with e|e
     ·exact .inl (h.inn.2.2.2 _ e.symm)
     ·exact .inr (by simpa using e)
  have h2c:=T1.cell (i:=2) rfl;rw[World.size_setCell]at r6;clear h' h hW K1 K1' T1 C1 L1 W1 W2 q9 K2' T2 C2 L2 K2 T3 K3' K3 C3 L3 W3 p9 oO qZ hvg cA aY bM;go_enter func122,ntmps122;go_wp2_with(first|(go_at_call 82;refine hu.mono ?_;rintro e w' ⟨rfl,rfl⟩)|(at_builtin;refine wpList_append_run rfl _ _ 128 128 rfl _ _ rfl rfl _ _ r6 ?_));go_ret;exact⟨rfl,HT.out⟩
theorem RefIn.turn {w:World}{F:Nat->Prop}{g n:Nat}{l:Nat->BA}{q:List Wr}{dead:Bool}(h:RefAt w F g n l q dead):Turned F w w (λF'=>RefAt w F' g n l q dead):=⟨F,h,Kept.refl _ _,λk hk=>.inl hk⟩
theorem c2o {F:Nat->Prop}{g n:Nat}{l:Nat->BA}{q:List Wr}{dead:Bool}{w:World}(h:RefAt w F g n l q dead)(at_:Int)(hq:q.length<=1000000):
 Calls prog 138 #[.pointer (some ⟨g,0,none⟩),.int .i64 at_] w λe w'=>e=.returned (.tuple #[.string (b1t l q dead n at_),.int .i64 (errA dead n at_)])/\w'=w:=by
 obtain⟨gc,v,h⟩:=h;have c0:=h.top.cell (i:=0) rfl;have c1:=h.top.cell (i:=1) rfl;have c2:=h.top.cell (i:=2) rfl;have hn2:=h.high;unfold b1t;rcases a5p dead n at_ with rfl|⟨rfl,ha⟩|⟨rfl,k,rfl,hk⟩
 ·rw[a6v,qn (by decide)];clear h;go_enter func138,ntmps138;go_wp2_with fail;go_ret2;exact⟨rfl,rfl⟩
 ·rw[a9x n at_ ha,qn (by decide)];have HA:Hid (at_<0\/(n:Int)<=at_):=ha;clear h ha;by_cases h0:at_<0
  ·go_enter func138,ntmps138;go_wp2_with fail;go_ret2;exact⟨rfl,rfl⟩
  ·have h1:(n:Int)<=at_:=HA.out.resolve_left h0;go_enter func138,ntmps138;go_wp2_with fail;go_ret2;exact⟨rfl,rfl⟩
 ·have hk':¬(n:Int)<=(k:Int):=by omega
  have hk0:¬(k:Int)<0:=by omega
  rw[a6a n k hk,qp rfl,Int.toNat_natCast];obtain⟨a,cap,hv⟩:=h.row.form;have x9:Hid (Waits w 161 v q):=h.row;have ck:=h.cells.cell (a0s n l k hk);obtain⟨s0,hs0⟩:∃s0,l k=s0:=⟨_,rfl⟩;obtain⟨A,hA⟩:∃A,app l q k=A:=⟨_,rfl⟩;rw[hs0]at ck;rw[hA];have HL:Hid (l k=s0):=hs0;have HA:Hid (app l q k=A):=hA;subst hv;clear h hs0 hA;go_enter func138,ntmps138;go_wp2_with fail;go_loopw[6] (λi wr=>∃j:Nat,j<=q.length/\i=.int .i64 ((j:Int)-1)/\wr=w/\Hid (∀m x,j<=m->q[m]?=some x->x.1≠k)) (λi _=>(intOf i+1).toNat)
  case atStart=>exact⟨q.length,ql _,by go_num,rfl,λm x hm hx=>by rw[List.getElem?_eq_none hm]at hx;cases hx⟩
  case round=>
   obtain⟨j,hj,rfl,rfl,aW⟩:=hrel;by_cases h0:1<=j
   ·obtain⟨p,hp⟩:∃p,q[j-1]?=some p:=⟨_,List.getElem?_eq_getElem (show j-1<q.length by omega)⟩;obtain⟨gw,cap2,hv,ca,cb⟩:=x9.out.at hp
    cases hv
    obtain⟨i,rfl⟩:∃i,j=i+1:=⟨j-1,by omega⟩;rw[Nat.add_sub_cancel]at hp ca cb;have e1:(((i+1:Nat):Int)-1)=(i:Int):=(by omega);rw[e1];have hiq:(i:Int)<(q.length:Int):=(by omega);by_cases bH:p.1=k
    ·have hb:(((p.1:Nat):Int)==(k:Int))=true:=(by rw[bH];simp);have y8:A=p.2:=(by rw[<-HA.out];exact e1m q k l i p hp bH (λm x hm hx=>aW.out m x (by omega) hx));clear HL HA hp aW bH e1;go_wp2_with fail;go_ret2;exact⟨by rw[y8];rfl,rfl⟩
    ·have hb:(((p.1:Nat):Int)==(k:Int))=false:=by
      rw[beq_eq_false_iff_ne];intro e;exact bH (by omega)
     have hno2:Hid (∀m x,i<=m->q[m]?=some x->x.1≠k):=λm x hm hx=>by
      by_cases e:m=i
      ·subst e;rw[hp]at hx;cases hx;exact bH
      ·exact aW.out m x (by omega) hx
     clear HL HA hp aW bH e1;go_wp2_with fail;go_roundw
     case rel=>exact⟨i,by omega,by go_num,trivial,hno2⟩
     case measure=>simp[intOf]<;>omega
   ·obtain rfl:j=0:=(by omega);have y8:A=s0:=by
     rw[<-HA.out,<-HL.out];exact c6y q k l (λx hx=>by
      obtain⟨m,hm⟩:=List.getElem?_of_mem hx;exact aW.out m x (by omega) hm)
    clear aW HL HA;go_wp2_with fail;go_ret2;exact⟨by rw[y8];rfl,rfl⟩
theorem b4e (w:World)(ga gb n:Nat)(f f':Nat->BA)(ha:Blk w ga 9 (strs n f))(hb:Blk w gb 9 (strs n f'))(hn:1<=n):
 (Builtin.copy_ #[23,23] 3 #[.slice (some ⟨ga,0,none⟩) n n,.slice (some ⟨gb,0,none⟩) n n]).run prog w=.ok (.int .i64 (n:Int)) (w.setRow ga (strs n f').toArray):=by
 have hr:=run_copy_row (P:=prog) w 23 23 3 9 ga 0 n n ⟨gb,0,none⟩ n n (strs n f).toArray 9 (strs n f') underlying23 (by kernel_rfl) ha (by rw[a0o];exact(Nat.min_self n).symm) (λj v hv=>by
  rw[Addr.add_mid,Nat.zero_add];exact hb.cell hv) (by simp[a0o]) (a8u n f')
 rw[hr];simp[a0o,goInt];rw[List.drop_eq_nil_of_le (by rw[a0o];exact ql _),List.append_nil]
theorem c0q {F:Nat->Prop}{g n gc gl:Nat}{f l:Nat->BA}{dead:Bool}{v:Value}{w:World}(hF:F g/\F gc/\F gl)(y6:gc≠gl)(h1:1<=n)(h2:n<=512)
 (ht:Blk w g 130 [.slice (some ⟨gc,0,none⟩) n n,.slice (some ⟨gl,0,none⟩) n n,v,.bool dead])(hc:Blk w gc 9 (strs n f))(hl:Blk w gl 9 (strs n l))(hb:∀k,F k->k<w.heap.size):
 Calls prog 60 #[.pointer (some ⟨g,0,none⟩)] w λe w'=>e=.returned (.tuple #[])/\Turned F w w' (λF'=>DiskAt w' F' g n l [] dead):=by
 have c0:=ht.cell (i:=0) rfl;have c1:=ht.cell (i:=1) rfl;have cA:=ht.ne hc (by decide);have aY:=ht.ne hl (by decide);have r6:=b4e w.drew gc gl n f l hc hl h1;have K1:Kept (λk=>k=gc) w (w.drew.setRow gc (strs n l).toArray):=(Kept.oneRow _ _ _).ofDrew;have T1:=ht.kept K1 cA;have C1:Blk (w.drew.setRow gc (strs n l).toArray) gc 9 (strs n l):=hc.drew.setRow;have L1:=hl.kept K1 (λe=>y6 e.symm);obtain⟨Z,hZ⟩:∃Z,(strs n l).toArray=Z:=⟨_,rfl⟩;rw[hZ]at r6 K1 T1 C1 L1;have d2:=T1.cell (i:=2) rfl;have f2:=T1.frozen 2;have d0:=T1.cell (i:=0) rfl;have d1:=T1.cell (i:=1) rfl;have T2:=T1.setCell 2 (.slice none 0 0);have K2:Kept (λk=>k=g) (w.drew.setRow gc Z) ((w.drew.setRow gc Z).setCell ⟨g,2,none⟩ (.slice none 0 0)):=Kept.one _ _ _ _;have C2:=C1.kept K2 (λe=>cA e.symm);have L2:=L1.kept K2 (λe=>aY e.symm);have K3:Kept F w ((w.drew.setRow gc Z).setCell ⟨g,2,none⟩ (.slice none 0 0)):=(K1.mono (λi _ e=>by rw[e];exact hF.2.1)).setCell (.inl hF.1) _ _;have HT:Hid (Turned F w ((w.drew.setRow gc Z).setCell ⟨g,2,none⟩ (.slice none 0 0)) (λF'=>DiskAt ((w.drew.setRow gc Z).setCell ⟨g,2,none⟩ (.slice none 0 0)) F' g n l [] dead)):=
  ⟨F,⟨gc,gl,.slice none 0 0,⟨hF.1,hF.2.1,hF.2.2,λk hk=>(by cases hk)⟩,y6,h1,h2,λp hp=>(by cases hp),T2,C2,L2,Waits.nil _ _,λk hk=>Nat.lt_of_lt_of_le (hb k hk) K3.size⟩,K3,λk hk=>.inl hk⟩
 clear ht hc hl hb K1 T1 C1 L1 T2 K2 C2 L2 K3 cA aY hZ hF y6;go_enter func60,ntmps60;go_wp2_with fail;refine wp_region_noPanic ?_;refine wp_region_held_drew (S:=λz=>z.cell? ⟨g,0,none⟩=some (.slice (some ⟨gc,0,none⟩) n n)/\z.cell? ⟨g,1,none⟩=some (.slice (some ⟨gl,0,none⟩) n n)) (by kernel_rfl) ⟨c0,c1⟩ (λp8=>?_);refine tkH 0 ?_;go_simp;refine tkH 1 ?_;go_simp;refine tkH 2 ?_;go_simp;refine tkH 3 ?_;go_simp;refine tkH 4 ?_;go_simp;refine tkH 5 ?_;go_simp;refine tkH 6 ?_;go_simp;refine tkH 7 ?_;go_simp;refine rdH 8 λK hK=>?_;refine a3h rfl _ _ 23 23 rfl _ _ rfl rfl _ _ r6 ?_;refine hK.out _ _ ⟨d0,d1⟩ (λp8=>?_);clear hK K;refine wpAnyH_done (by kernel_rfl) ?_ _;refine NoPanic.normal ?_;go_wp2_with fail;go_end0;exact⟨rfl,HT.out⟩
theorem a9c (w:World)(t e ty:TypeId)(z:Value)(ht:prog.underlying t=some (.slice e))(hv:∀w,(zeroValue e).run prog w=.ok z w)(g off n c:Nat)(hn:0<n)(cur:Array Value)(T:TypeId)
 (hg:w.heap[g]?=some (.cells cur T (0,0)))(hfit:off+n*z.cells.size<=cur.size)(h1:∀v∈(Builtin.zeroCells z.cells n).toList,v.oneCell'=true):
 (Builtin.clear_ #[t] ty #[.slice (some ⟨g,off,none⟩) n c]).run prog w=.ok (.tuple #[]) (w.setRow g (cur.toList.take off++(Builtin.zeroCells z.cells n).toList++cur.toList.drop (off+n*z.cells.size)).toArray):=by
 have hst:=run_storeCells_at prog g off T (Builtin.zeroCells z.cells n).toList 0 cur w hg (by rw[Array.length_toList,size_zeroCells];omega) h1;simp only[Nat.add_zero,Array.length_toList,size_zeroCells]at hst;obtain⟨m,rfl⟩:∃m,n=m+1:=⟨n-1,by omega⟩;simp[Builtin.clear_,run_underlying ht,hv,hst]
theorem c1i:∀w:World,(zeroValue 9).run prog w=.ok (.string noB) w:=by
 obtain⟨i0,hi,hz0,hz1,hz2⟩:=info_parts info9;intro w;simp[zeroValue,typeInfo,hi,hz0]
theorem c9r (w:World)(gl n:Nat)(f:Nat->BA)(h:Blk w gl 9 (strs n f))(hn:1<=n):
 ∀ty,(Builtin.clear_ #[23] ty #[.slice (some ⟨gl,0,none⟩) n n]).run prog w=.ok (.tuple #[]) (w.setRow gl (strs n λ_=>noB).toArray):=by
 intro ty;have hz:(Builtin.zeroCells (Value.string noB).cells n).toList=strs n λ_=>noB:=by
  apply List.ext_getElem
  ·simp[Builtin.zeroCells,strs,Value.cells]
  ·intro i h1 h2;simp[Builtin.zeroCells,strs,Value.cells,Nat.mod_one]
 have hr:=a9c w 23 9 ty (.string noB) underlying23 c1i gl 0 n n (by omega) (strs n f).toArray 9 h (by simp[a0o,Value.cells]) (by rw[hz];exact a8u n _);rw[hz]at hr;rw[hr];simp[Value.cells];rw[List.drop_eq_nil_of_le (by rw[a0o];exact ql _),List.append_nil]
def a9u (l:Nat->BA)(q:List Wr)(dead:Bool):Nat->BA:=if dead=true then l else app l q
def a5c (q:List Wr)(dead:Bool):List Wr:=if dead=true then q else []
theorem d4x {F:Nat->Prop}{g n:Nat}{l:Nat->BA}{q:List Wr}{dead:Bool}{w:World}(h:DiskAt w F g n l q dead):
 Calls prog 123 #[.pointer (some ⟨g,0,none⟩)] w λe w'=>e=.returned (.int .i64 (errD dead))/\Turned F w w' (λF'=>DiskAt w' F' g n (a9u l q dead) (a5c q dead) dead):=by
 have hu:=b0m h;have h':=h;obtain⟨gc,gl,v,h⟩:=h
 cases dead
 ·rw[show a9u l q false=app l q from rfl,show a5c q false=[]from rfl,show errD false=0 from rfl];rw[show errD false=0 from rfl]at hu;have c0:=h.top.cell (i:=0) rfl;have c1:=h.top.cell (i:=1) rfl;have cA:=h.top.ne h.cells (by decide);have aY:=h.top.ne h.lasts (by decide);have r6:=b4e w.drew gl gc n l (app l q) h.lasts h.cells h.low;have K1:Kept (λk=>k=gl) w (w.drew.setRow gl (strs n (app l q)).toArray):=(Kept.oneRow _ _ _).ofDrew;have T1:=h.top.kept K1 aY;have L1:Blk (w.drew.setRow gl (strs n (app l q)).toArray) gl 9 (strs n (app l q)):=h.lasts.drew.setRow;have C1:=h.cells.kept K1 h.ne;obtain⟨Z,hZ⟩:∃Z,(strs n (app l q)).toArray=Z:=⟨_,rfl⟩;rw[hZ]at r6 K1 T1 C1 L1;have d2:=T1.cell (i:=2) rfl;have f2:=T1.frozen 2;have d0:=T1.cell (i:=0) rfl;have d1:=T1.cell (i:=1) rfl;have T2:=T1.setCell 2 (.slice none 0 0);have K2:Kept (λk=>k=g) (w.drew.setRow gl Z) ((w.drew.setRow gl Z).setCell ⟨g,2,none⟩ (.slice none 0 0)):=Kept.one _ _ _ _;have C2:=C1.kept K2 (λe=>cA e.symm);have L2:=L1.kept K2 (λe=>aY e.symm);have K3:Kept F w ((w.drew.setRow gl Z).setCell ⟨g,2,none⟩ (.slice none 0 0)):=(K1.mono (λi _ e=>by rw[e];exact h.inn.2.2.1)).setCell (.inl h.inn.1) _ _;have HT:Hid (Turned F w ((w.drew.setRow gl Z).setCell ⟨g,2,none⟩ (.slice none 0 0)) (λF'=>DiskAt ((w.drew.setRow gl Z).setCell ⟨g,2,none⟩ (.slice none 0 0)) F' g n (app l q) [] false)):=
   ⟨F,⟨gc,gl,.slice none 0 0,⟨h.inn.1,h.inn.2.1,h.inn.2.2.1,λk hk=>(by cases hk)⟩,h.ne,h.low,h.high,λp hp=>(by cases hp),T2,C2,L2,Waits.nil _ _,λk hk=>Nat.lt_of_lt_of_le (h.bound k hk) K3.size⟩,K3,λk hk=>.inl hk⟩
  clear h h' K1 T1 C1 L1 T2 K2 C2 L2 K3 cA aY hZ;go_enter func123,ntmps123;go_wp2_with(go_at_call 81;refine hu.mono ?_;rintro e w' ⟨rfl,rfl⟩);refine wp_region_noPanic ?_;refine wp_region_held_drew (S:=λz=>z.cell? ⟨g,0,none⟩=some (.slice (some ⟨gc,0,none⟩) n n)/\z.cell? ⟨g,1,none⟩=some (.slice (some ⟨gl,0,none⟩) n n)) (by kernel_rfl) ⟨c0,c1⟩ (λp8=>?_);refine tkH 0 ?_;go_simp;refine tkH 1 ?_;go_simp;refine tkH 2 ?_;go_simp;refine tkH 3 ?_;go_simp;refine tkH 4 ?_;go_simp;refine tkH 5 ?_;go_simp;refine tkH 6 ?_;go_simp;refine tkH 7 ?_;go_simp;refine rdH 8 λK hK=>?_;refine a3h rfl _ _ 23 23 rfl _ _ rfl rfl _ _ r6 ?_;refine hK.out _ _ ⟨d0,d1⟩ (λp8=>?_);clear hK K;refine wpAnyH_done (by kernel_rfl) ?_ _;refine NoPanic.normal ?_;go_wp2_with fail;go_ret;exact⟨rfl,HT.out⟩
 ·rw[show a9u l q true=l from rfl,show a5c q true=q from rfl,show errD true=20 from rfl];rw[show errD true=20 from rfl]at hu;have HT:Hid _:=DiskIn.turn (w':=w) h';clear h h';go_enter func123,ntmps123;go_wp2_with(go_at_call 81;refine hu.mono ?_;rintro e w' ⟨rfl,rfl⟩);go_ret;exact⟨rfl,HT.out⟩
theorem Turned.trans {F:Nat->Prop}{a b c:World}{A:(Nat->Prop)->Prop}(h:Kept F a b)(k:Turned F b c A):Turned F a c A:=by
 obtain⟨F',h1,h2,h3⟩:=k;exact⟨F',h1,h.trans h2 (λi hi=>.inl hi),λk hk=>(h3 k hk).imp id (λh'=>Nat.le_trans h.size h')⟩
theorem e0h {F:Nat->Prop}{g n:Nat}{l:Nat->BA}{q:List Wr}{dead:Bool}{w:World}(h:DiskAt w F g n l q dead):
 Calls prog 25 #[.pointer (some ⟨g,0,none⟩)] w λe w'=>e=.returned (.tuple #[])/\Turned F w w' (λF'=>DiskAt w' F' g n (λ_=>noB) [] true):=by
 obtain⟨gc,gl,v,h⟩:=h;have c1:=h.top.cell (i:=1) rfl;have c3:=h.top.cell (i:=3) rfl;have f3:=h.top.frozen 3;have cA:=h.top.ne h.cells (by decide);have aY:=h.top.ne h.lasts (by decide);have T1:=h.top.setCell 3 (.bool true);have K1:Kept (λk=>k=g) w (w.setCell ⟨g,3,none⟩ (.bool true)):=Kept.one _ _ _ _;have C1:=h.cells.kept K1 (λe=>cA e.symm);have L1:=h.lasts.kept K1 (λe=>aY e.symm);have d1:=T1.cell (i:=1) rfl;have r6:=c9r _ gl n l L1 h.low;have K2:Kept (λk=>k=gl) (w.setCell ⟨g,3,none⟩ (.bool true)) ((w.setCell ⟨g,3,none⟩ (.bool true)).setRow gl (strs n λ_=>noB).toArray):=Kept.oneRow _ _ _;have T2:=T1.kept K2 aY;have C2:=C1.kept K2 h.ne;have L2:Blk ((w.setCell ⟨g,3,none⟩ (.bool true)).setRow gl (strs n λ_=>noB).toArray) gl 9 (strs n λ_=>noB):=L1.setRow;have K3:Kept F w ((w.setCell ⟨g,3,none⟩ (.bool true)).setRow gl (strs n λ_=>noB).toArray):=(K1.mono (λi _ e=>by rw[e];exact h.inn.1)).setRow (.inl h.inn.2.2.1) _;have dK:=c0q (F:=F) ⟨h.inn.1,h.inn.2.1,h.inn.2.2.1⟩ h.ne h.low h.high T2 C2 L2 (λk hk=>Nat.lt_of_lt_of_le (h.bound k hk) K3.size);obtain⟨Z,hZ⟩:∃Z,(strs n λ_=>noB).toArray=Z:=⟨_,rfl⟩;rw[hZ]at r6 K3 dK;have HK:Hid _:=K3;have rF:=dK;clear h T1 K1 C1 L1 K2 T2 C2 L2 K3 cA aY hZ dK;go_enter func25,ntmps25;go_wp2_with(go_at_call 60;refine rF.mono ?_;rintro e w' ⟨rfl,hT⟩);go_end0;exact⟨rfl,Turned.trans HK.out hT⟩
def TextsAt (w:World)(v:Value)(m:Nat)(f:Nat->BA):Prop:=∃a cap,v=.slice a m cap/\m<=cap/\(m=0\/∃b o,a=some ⟨b,o,none⟩/\b<w.heap.size/\∀i,i<m->w.cell? ⟨b,o+i,none⟩=some (.string (f i)))
theorem d4e {F:Nat->Prop}{g n:Nat}{l:Nat->BA}{q:List Wr}{w:World}(h:DiskAt w F g n l q false):
 Calls prog 39 #[.pointer (some ⟨g,0,none⟩)] w λe w'=>e=.returned (.slice (some ⟨w.heap.size,0,none⟩) n n)/\Blk w' w.heap.size 9 (strs n (app l q))/\Below w.heap.size w w':=by
 have hu:=b0m h;rw[show errD false=0 from rfl]at hu;obtain⟨gc,gl,v,h⟩:=h;have c0:=h.top.cell (i:=0) rfl;have cH:=a9q n h.high;have b1:=Blk.new w 9 (strs n λ_=>noB).toArray;have C1:=h.cells.alloc (.cells (strs n λ_=>noB).toArray 9);have d0:=(h.top.alloc (.cells (strs n λ_=>noB).toArray 9)).cell (i:=0) rfl;rw[List.toList_toArray]at b1;have r6:=b4e _ w.heap.size gc n _ _ b1 C1 h.low;have b2:Blk ((w.alloc (.cells (strs n λ_=>noB).toArray 9)).setRow w.heap.size (strs n (app l q)).toArray) w.heap.size 9 (strs n (app l q)):=b1.setRow;have hB:Below w.heap.size w ((w.alloc (.cells (strs n λ_=>noB).toArray 9)).setRow w.heap.size (strs n (app l q)).toArray):=below_setRow ((qw _ _).alloc (ql _) _) (ql _) _;obtain⟨Z,hZ⟩:∃Z,(strs n λ_=>noB).toArray=Z:=⟨_,rfl⟩;obtain⟨Y,hY⟩:∃Y,(strs n (app l q)).toArray=Y:=⟨_,rfl⟩;rw[hZ]at cH d0 r6 b2 hB;rw[hY]at r6 b2 hB;have HB:Hid _:=And.intro b2 hB;clear h b1 C1 b2 hB hZ hY;go_enter func39,ntmps39;go_wp2_with(go_at_call 81;refine hu.mono ?_;rintro e w' ⟨rfl,rfl⟩);go_ret;exact⟨rfl,HB.out⟩
def BoolsAt (w:World)(v:Value)(m:Nat)(k:Nat->Bool):Prop:=(∃a cap,v=.slice a m cap/\(m=0\/∃b o,a=some ⟨b,o,none⟩/\b<w.heap.size/\∀i,i<m->w.cell? ⟨b,o+i,none⟩=some (.bool (k i))))/\∀i,m<=i->k i=false
def Away (F:Nat->Prop)(v:Value):Prop:=∀a n c,v=.slice (some a) n c->n≠0->¬F a.block
theorem BoolsAt.kept {F:Nat->Prop}{w w':World}{v:Value}{m:Nat}{k:Nat->Bool}(h:BoolsAt w v m k)(ho:Kept F w w')(ha:Away F v):BoolsAt w' v m k:=by
 obtain⟨⟨a,cap,rfl,h1⟩,h2⟩:=h;refine⟨⟨a,cap,rfl,?_⟩,h2⟩;rcases h1 with h1|⟨b,o,rfl,hb,hc⟩
 ·exact .inl h1
 ·exact .inr ⟨b,o,rfl,Nat.lt_of_lt_of_le hb ho.size,λi hi=>(ho.cell (p:=⟨b,o+i,none⟩) hb (show ¬F b from ha ⟨b,o,none⟩ m cap rfl (by omega))).trans (hc i hi)⟩
theorem BoolsAt.below {w w':World}{v:Value}{m:Nat}{k:Nat->Bool}(h:BoolsAt w v m k)(hb:Below w.heap.size w w'):BoolsAt w' v m k:=h.kept (F:=λ_=>False) (Kept.ofBelow hb) (λ_ _ _ _ _ h=>h)
theorem TextsAt.kept {F:Nat->Prop}{w w':World}{v:Value}{m:Nat}{f:Nat->BA}(h:TextsAt w v m f)(ho:Kept F w w')(ha:Away F v):TextsAt w' v m f:=by
 obtain⟨a,cap,rfl,hc0,h1⟩:=h;refine⟨a,cap,rfl,hc0,?_⟩;rcases h1 with h1|⟨b,o,rfl,hb,hc⟩
 ·exact .inl h1
 ·exact .inr ⟨b,o,rfl,Nat.lt_of_lt_of_le hb ho.size,λi hi=>(ho.cell (p:=⟨b,o+i,none⟩) hb (show ¬F b from ha ⟨b,o,none⟩ m cap rfl (by omega))).trans (hc i hi)⟩
theorem TextsAt.below {w w':World}{v:Value}{m:Nat}{f:Nat->BA}(h:TextsAt w v m f)(hb:Below w.heap.size w w'):TextsAt w' v m f:=h.kept (F:=λ_=>False) (Kept.ofBelow hb) (λ_ _ _ _ _ h=>h)
def b0q (m:Nat)(f:Nat->BA)(i:Nat):BA:=if i<m/\(f i).size<=2048 then f i else noB
def b6m (l:Nat->BA)(dead:Bool)(m:Nat)(f:Nat->BA):Nat->BA:=if dead=true then l else b0q m f
theorem b4h (a:Nat)(p:Wr)(ga:Nat)(w:World)(h:Blk w ga 3 [.int .i64 (a:Int)]):
 Calls prog 84 #[.agg #[.int .i64 (p.1:Int),.string p.2],.pointer (some ⟨ga,0,none⟩)] w λe w'=>e=.returned (.bool (decide (p.1=a)))/\w'=w.alloc (.cells #[.int .i64 (p.1:Int),.string p.2] 158):=by
 have c0:=(h.alloc (.cells #[.int .i64 (p.1:Int),.string p.2] 158)).cell (i:=0) rfl;have hb:(((p.1:Nat):Int)==(a:Int))=decide (p.1=a):=by
  by_cases e:p.1=a
  ·rw[e];simp
  ·rw[decide_eq_false e,beq_eq_false_iff_ne];omega
 obtain⟨B,hB⟩:∃B,decide (p.1=a)=B:=⟨_,rfl⟩;rw[hB]at hb⊢;obtain⟨pa,ps⟩:=p;clear h hB;go_enter func84,ntmps84;go_wp2_with fail;go_ret;exact⟨rfl,rfl⟩
def e6o (q:List Wr)(a:Nat)(r:Int):Prop:=(r=-1/\∀p∈q,p.1≠a)\/∃j:Nat,r=(j:Int)/\j<q.length/\(∃p,q[j]?=some p/\p.1=a)/\∀i p,i<j->q[i]?=some p->p.1≠a
theorem c4k (a:Nat)(ga:Nat)(q:List Wr)(v:Value)(w:World)(h:Blk w ga 3 [.int .i64 (a:Int)])(hw:Waits w 158 v q)(hq:q.length<=1000000):
 Calls prog 131 #[v,.func (.func 84) #[] #[.pointer (some ⟨ga,0,none⟩)]] w λe w'=>∃r:Int,e=.returned (.int .i64 r)/\Below w.heap.size w w'/\e6o q a r:=by
 have HW:Hid (Waits w 158 v q):=hw;have HG:Hid (Blk w ga 3 [.int .i64 (a:Int)]):=h;obtain⟨av,cap,hv⟩:=hw.form;subst hv;clear hw h;go_enter func131,ntmps131;go_wp2_with fail;go_loopw[8] (λi wr=>∃j:Nat,j<=q.length/\i=.int .i64 (j:Int)/\Hid (Below w.heap.size w wr/\∀i p,i<j->q[i]?=some p->p.1≠a)) (λi _=>q.length-(intOf i).toNat)
 case atStart=>exact⟨0,Nat.zero_le _,rfl,qw _ _,λi p hi=>by omega⟩
 case round=>
  obtain⟨j,hj,rfl,aE⟩:=hrel;by_cases p9:j<q.length
  ·obtain⟨p,hp⟩:∃p,q[j]?=some p:=⟨_,List.getElem?_eq_getElem p9⟩;have W1:=Waits.kept (w:=w) HW.out (Kept.ofBelow (F:=λ_=>False) aE.out.1) (λ_ _ h=>h);obtain⟨gw,cap2,qY,ca,cb⟩:=W1.at hp
   cases qY
   have aL:=b4h a p ga wr (HG.out.below aE.out.1 HG.out.lt);have jQ:j*2+1<q.length*2:=(by omega);have hj':(j:Int)<(q.length:Int):=(by omega);have hb2:=aE.out.1.alloc aE.out.1.size (.cells #[.int .i64 (p.1:Int),.string p.2] 158);by_cases cM:p.1=a
   ·rw[decide_eq_true cM]at aL;have HF:Hid (Below w.heap.size w (wr.alloc (.cells #[.int .i64 (p.1:Int),.string p.2] 158))/\e6o q a (j:Int)):=
     ⟨hb2,.inr ⟨j,rfl,p9,⟨p,hp,cM⟩,aE.out.2⟩⟩
    obtain⟨pa,ps⟩:=p;clear aE hp W1 hb2 cM;go_wp2_with(go_at_call 84;refine aL.mono ?_;rintro e w' ⟨rfl,hw'⟩;rw[hw'];clear hw' w');go_ret;exact⟨_,rfl,HF.out⟩
   ·rw[decide_eq_false cM]at aL;have HF:Hid (Below w.heap.size w (wr.alloc (.cells #[.int .i64 (p.1:Int),.string p.2] 158))/\∀i p,i<j+1->q[i]?=some p->p.1≠a):=
     ⟨hb2,λi x hi hx=>by
      by_cases e:i=j
      ·subst e;rw[hp]at hx;cases hx;exact cM
      ·exact aE.out.2 i x (by omega) hx⟩
    obtain⟨pa,ps⟩:=p;clear aE hp W1 hb2 cM;go_wp2_with(go_at_call 84;refine aL.mono ?_;rintro e w' ⟨rfl,hw'⟩;rw[hw'];clear hw' w');go_roundw
    case rel=>exact⟨j+1,by omega,by go_num,HF⟩
    case measure=>simp[intOf];omega
  ·obtain rfl:j=q.length:=(by omega);have HF:Hid (Below w.heap.size w wr/\e6o q a (-1)):=
    ⟨aE.out.1,.inl ⟨rfl,λx hx=>by
     obtain⟨i,hi⟩:=List.getElem?_of_mem hx;exact aE.out.2 i x (List.getElem?_eq_some_iff.1 hi).1 hi⟩⟩
   clear aE;go_wp2_with fail;go_ret;exact⟨_,rfl,HF.out⟩
def MidRow (w:World)(gw cap:Nat)(q:List Wr)(a j:Nat):Prop:=∃L:List Value,Blk w gw 158 L/\L.length=cap*2/\L.take ((others a (q.take j)).length*2)=a1e (others a (q.take j))/\
 ∀m p,j<=m->q[m]?=some p->L[m*2]?=some (.int .i64 (p.1:Int))/\L[m*2+1]?=some (.string p.2)
theorem b3q (a j:Nat)(q:List Wr):(others a (q.take j)).length<=j:=Nat.le_trans (b6x a _) (by rw[List.length_take];omega)
theorem a5y (a j:Nat)(q:List Wr)(p:Wr)(h:q[j]?=some p)(hp:p.1=a):others a (q.take (j+1))=others a (q.take j):=by
 rw[b8t q j p h,b3p,qp hp,List.append_nil]
theorem b0v (a j:Nat)(q:List Wr)(p:Wr)(h:q[j]?=some p)(hp:p.1≠a):others a (q.take (j+1))=others a (q.take j)++[p]:=by
 rw[b8t q j p h,b3p,qn hp]
theorem b0w (a:Nat):∀q:List Wr,(∀p∈q,p.1≠a)->others a q=q:=by
 intro q h;unfold others;rw[List.filter_eq_self];intro p hp;simpa using h p hp
theorem MidRow.start {w:World}{gw cap:Nat}{q:List Wr}{a j:Nat}(h:Waits w 158 (.slice (some ⟨gw,0,none⟩) q.length cap) q)(hp:∃p,q[j]?=some p/\p.1=a)(hn:∀i p,i<j->q[i]?=some p->p.1≠a):
 others a (q.take (j+1))=q.take j/\MidRow w gw cap q a (j+1):=by
 obtain⟨p,hp,cM⟩:=hp;have e:others a (q.take (j+1))=q.take j:=by
  rw[a5y a j q p hp cM];exact b0w a _ λx hx=>by
   obtain⟨i,hi⟩:=List.getElem?_of_mem hx;obtain⟨p9,_⟩:=List.getElem?_eq_some_iff.1 hi;rw[List.length_take]at p9;rw[List.getElem?_take_of_lt (by omega)]at hi;exact hn i x (by omega) hi
 refine⟨e,?_⟩;have p9:=(List.getElem?_eq_some_iff.1 hp).1;rcases h.2 with⟨h0,_⟩|⟨g',cap',cur,hv,_,hg,qI,dF,cR,nC⟩
 ·cases h0
 ·cases hv
  refine⟨cur.toList,by unfold Blk;rw[Array.toArray_toList];exact hg,by rw[Array.length_toList];exact cR,?_,λm x hm hx=>?_⟩
  ·rw[e,List.length_take,Nat.min_eq_left (by omega)];have h1:a1e (q.take j)=(a1e q).take (j*2):=by
    have h2:a1e q=a1e (q.take j)++a1e (q.drop j):=(by rw[<-a4f,List.take_append_drop]);rw[h2,List.take_append_of_le_length (by rw[a4e,List.length_take];omega)];exact(List.take_of_length_le (by rw[a4e,List.length_take];omega)).symm
   rw[h1,<-nC,List.take_take,Nat.min_eq_left (by omega)]
  ·have h1:=b6v q m x hx;have lN:=(List.getElem?_eq_some_iff.1 hx).1;rw[<-nC,List.getElem?_take_of_lt (by omega),List.getElem?_take_of_lt (by omega)]at h1;exact h1
theorem MidRow.alloc {w:World}{gw cap:Nat}{q:List Wr}{a j:Nat}(h:MidRow w gw cap q a j)(o:Obj):MidRow (w.alloc o) gw cap q a j:=by
 obtain⟨L,h1,h2⟩:=h;exact⟨L,h1.alloc o,h2⟩
theorem MidRow.skip {w:World}{gw cap:Nat}{q:List Wr}{a j:Nat}(h:MidRow w gw cap q a j){p:Wr}(hp:q[j]?=some p)(cM:p.1=a):MidRow w gw cap q a (j+1):=by
 obtain⟨L,h1,h2,h3,h4⟩:=h;exact⟨L,h1,h2,by rw[a5y a j q p hp cM];exact h3,λm x hm hx=>h4 m x (by omega) hx⟩
theorem MidRow.put {w:World}{gw cap:Nat}{q:List Wr}{a j:Nat}(h:MidRow w gw cap q a j){p:Wr}(hp:q[j]?=some p)(cM:p.1≠a)(hc:q.length<=cap):
 MidRow ((w.setCell ⟨gw,(others a (q.take j)).length*2,none⟩ (.int .i64 (p.1:Int))).setCell ⟨gw,(others a (q.take j)).length*2+1,none⟩ (.string p.2)) gw cap q a (j+1):=by
 obtain⟨L,h1,h2,h3,h4⟩:=h;have fF:=b3q a j q;have p9:=(List.getElem?_eq_some_iff.1 hp).1;obtain⟨c,eH⟩:∃c,(others a (q.take j)).length=c:=⟨_,rfl⟩;rw[eH]at h3 fF⊢;refine⟨_,(h1.setCell _ _).setCell _ _,by simp[h2],?_,λm x hm hx=>?_⟩
 ·rw[b0v a j q p hp cM,a4f,<-h3,List.length_append,eH];apply List.ext_getElem?;intro i;rcases Nat.lt_or_ge i (c*2)with h|h
  ·rw[List.getElem?_take_of_lt (by simp;omega),List.getElem?_set_ne (by omega),List.getElem?_set_ne (by omega),List.getElem?_append_left (by rw[List.length_take,h2];omega),List.getElem?_take_of_lt h]
  ·rw[List.getElem?_append_right (by rw[List.length_take,h2];omega)];have e:(L.take (c*2)).length=c*2:=(by rw[List.length_take,h2];omega);rw[e];by_cases e0:i=c*2
   ·subst e0;rw[List.getElem?_take_of_lt (by simp<;>omega),List.getElem?_set_ne (by omega),List.getElem?_set_self (by rw[h2];omega),Nat.sub_self];rfl
   ·by_cases e1:i=c*2+1
    ·subst e1;rw[List.getElem?_take_of_lt (by simp;omega),List.getElem?_set_self (by simp[h2];omega),show c*2+1-c*2=1 by omega];rfl
    ·rw[List.getElem?_eq_none (by simp[h2];omega),List.getElem?_eq_none (by rw[a4e];simp;omega)]
 ·have:=h4 m x (by omega) hx;rw[List.getElem?_set_ne (by omega),List.getElem?_set_ne (by omega),List.getElem?_set_ne (by omega),List.getElem?_set_ne (by omega)];exact this
theorem MidRow.cells {w:World}{gw cap:Nat}{q:List Wr}{a j:Nat}(h:MidRow w gw cap q a j)(i:Nat)(hi:i<cap*2):(∃u,w.cell? ⟨gw,i,none⟩=some u)/\w.frozen? ⟨gw,i,none⟩=false:=by
 obtain⟨L,h1,h2,_⟩:=h;exact⟨h1.hasCell i (by omega),h1.frozen i⟩
theorem MidRow.at {w:World}{gw cap:Nat}{q:List Wr}{a j:Nat}(h:MidRow w gw cap q a j){p:Wr}(hp:q[j]?=some p):w.cell? ⟨gw,j*2,none⟩=some (.int .i64 (p.1:Int))/\w.cell? ⟨gw,j*2+1,none⟩=some (.string p.2):=by
 obtain⟨L,h1,h2,_,h4⟩:=h;have:=h4 j p (ql _) hp;exact⟨h1.cell this.1,h1.cell this.2⟩
theorem c7c:∀w:World,(zeroValue 158).run prog w=.ok (.agg #[.int .i64 0,.string noB]) w:=by
 obtain⟨i0,hi,hz0,hz1,hz2⟩:=info_parts info158;intro w;simp[zeroValue,typeInfo,hi,hz0]
theorem MidRow.clear {w:World}{gw cap:Nat}{q:List Wr}{a:Nat}(h:MidRow w gw cap q a q.length)(hc:q.length<=cap)(hm:cap<=maxLen)(p9:(others a q).length<q.length):
 ∃Z,(∀ty,(Builtin.clear_ #[128] ty #[.slice (some ⟨gw,(others a q).length*2,none⟩) (q.length-(others a q).length) (cap-(others a q).length)]).run prog w=.ok (.tuple #[]) (w.setRow gw Z))/\Waits (w.setRow gw Z) 158 (.slice (some ⟨gw,0,none⟩) (others a q).length cap) (others a q):=by
 obtain⟨L,h1,h2,h3,_⟩:=h;rw[List.take_length]at h3;obtain⟨c,eH⟩:∃c,(others a q).length=c:=⟨_,rfl⟩;have hr:=λty=>a9c w 128 158 ty (.agg #[.int .i64 0,.string noB]) underlying128 c7c gw (c*2) (q.length-c) (cap-c) (by omega) L.toArray 158 h1 (by simp[Value.cells,h2];omega) (by
  intro v hv;simp only[Builtin.zeroCells,Value.cells]at hv;rw[Array.mem_toList_iff,Array.mem_map]at hv;obtain⟨i,_,rfl⟩:=hv;have:i%2=0\/i%2=1:=by omega
  simp only[List.size_toArray,List.length_cons,List.length_nil];rcases this with h|h<;>rw[show(0+1+1:Nat)=2 from rfl,h]<;>rfl)
 rw[eH]at h3 p9⊢;refine⟨_,hr,?_⟩;have sG:(Builtin.zeroCells (Value.agg #[.int .i64 0,.string noB]).cells (q.length-c)).toList.length=(q.length-c)*2:=by rw[Array.length_toList,size_zeroCells];rfl
 refine⟨by rw[a4e],.inr ⟨gw,cap,_,by rw[eH],Nat.zero_le _,setRow_heap w gw _ _ 158 _ h1,by omega,hm,?_,?_⟩⟩
 ·have e2:(Value.agg #[.int .i64 0,.string noB]).cells.size=2:=rfl;rw[List.size_toArray,List.length_append,List.length_append,List.length_take,List.length_drop,sG,e2,List.toList_toArray,h2];omega
 ·rw[eH,List.toList_toArray,List.toList_toArray,List.append_assoc,List.take_append_of_le_length (by rw[List.length_take,h2];omega),List.take_of_length_le (by rw[List.length_take];omega),h3]
theorem d2x (a:Nat)(q:List Wr)(p:Wr)(h:p∈q)(hp:p.1=a):(others a q).length<q.length:=by
 unfold others;rw[List.length_filter_lt_length_iff_exists];exact⟨p,h,by simp[hp]⟩
theorem b4v (a:Nat)(ga:Nat)(q:List Wr)(v:Value)(w:World)(h:Blk w ga 3 [.int .i64 (a:Int)])(hw:Waits w 158 v q)(hq:q.length<=1000000):
 Calls prog 83 #[v,.func (.func 84) #[] #[.pointer (some ⟨ga,0,none⟩)]] w λe w'=>∃b c,e=.returned (.slice b (others a q).length c)/\Waits w' 158 (.slice b (others a q).length c) (others a q)/\Kept (λk=>v.ownBlock=some k) w w'/\(Value.slice b (others a q).length c).ownBlock=v.ownBlock:=by
 have fU:=c4k a ga q v w h hw hq;have HW:Hid (Waits w 158 v q):=hw;have HG:Hid (Blk w ga 3 [.int .i64 (a:Int)]):=h;obtain⟨av,cap,hv⟩:=hw.form;subst hv;clear hw h;go_enter func83,ntmps83;go_wp2_with(go_at_call 131;refine fU.mono ?_;rintro e w1 ⟨r,rfl,hb1,hr⟩;clear fU;rcases hr with⟨rfl,aR⟩|⟨j0,rfl,hj0,hp0,aW⟩)
 ·go_wp2_with fail;go_ret;refine⟨av,cap,?_,?_,Kept.ofBelow hb1,by cases av<;>rfl⟩
  ·rw[b0w a q aR];rfl
  ·rw[b0w a q aR];exact HW.out.kept (Kept.ofBelow (F:=λ_=>False) hb1) (λ_ _ h=>h)
 ·have gY:(others a q).length<q.length:=by
   obtain⟨p,hp,cM⟩:=hp0;exact d2x a q p (List.mem_of_getElem? hp) cM
  obtain⟨gw,cap2,qY,-,-⟩:=(HW.out.at (List.getElem?_eq_getElem hj0))
  cases qY
  have W1:Waits w1 158 (.slice (some ⟨gw,0,none⟩) q.length cap) q:=HW.out.kept (Kept.ofBelow (F:=λ_=>False) hb1) (λ_ _ h=>h);have G1:=HG.out.below hb1 HG.out.lt;have hst:=MidRow.start W1 hp0 aW;have fZ:q.length<=cap/\cap<=maxLen:=by
   rcases HW.out.2 with⟨h0,_⟩|⟨g',cap',cur,hv,_,hg,qI,dF,_⟩
   ·cases h0
   ·cases hv;exact⟨qI,dF⟩
  have y6:ga≠gw:=λe=>HG.out.owns_ne HW.out (by decide) (by rw[e];rfl);have hj0':(j0:Int)≠-1:=by omega
  have hj0b:(((j0:Int))==-1)=false:=by rw[beq_eq_false_iff_ne];omega
  have nR:(others a (q.take (j0+1))).length=j0:=by rw[hst.1,List.length_take];omega
  have HS:Hid (Kept (λk=>k=gw) w1 w1/\MidRow w1 gw cap q a (j0+1)):=⟨Kept.refl _ _,hst.2⟩;have HK1:Hid (Kept (λk=>(Value.slice (some ⟨gw,0,none⟩) q.length cap).ownBlock=some k) w w1):=Kept.ofBelow hb1;have HG1:Hid (Blk w1 ga 3 [.int .i64 (a:Int)]):=G1;have HL0:Hid ((others a q).length<q.length):=gY;have HC:Hid (q.length<=cap/\cap<=maxLen):=fZ;have HL:Hid ((others a (q.take (j0+1))).length=j0):=nR;clear gY fZ nR W1 G1 hst hp0 aW hb1;go_wp2_with fail;go_loopw[5,6] (λci jv wr=>∃j:Nat,j0+1<=j/\j<=q.length/\ci=.int .i64 ((others a (q.take j)).length:Int)/\jv=.int .i64 (j:Int)/\Hid (Kept (λk=>k=gw) w1 wr/\MidRow wr gw cap q a j)) (λ_ i _=>q.length-(intOf i).toNat)
  case atStart=>exact⟨j0+1,ql _,by omega,by rw[HL.out],by go_num,HS⟩
  case round=>
   obtain⟨j,hj1,hj,rfl,rfl,aE⟩:=hrel;obtain⟨c,hc⟩:∃c,(others a (q.take j)).length=c:=⟨_,rfl⟩;have hcj:c<=j:=(by rw[<-hc];exact b3q a j q);by_cases p9:j<q.length
   ·obtain⟨p,hp⟩:∃p,q[j]?=some p:=⟨_,List.getElem?_eq_getElem p9⟩;obtain⟨ca,cb⟩:=aE.out.2.at hp;have aL:=b4h a p ga (wr.alloc (.cells #[.int .i64 (p.1:Int),.string p.2] 158)) ((HG1.out.kept aE.out.1 y6).alloc _);have jQ:j*2+1<q.length*2:=(by omega);have hj':(j:Int)<(q.length:Int):=(by omega);have M2:=(aE.out.2.alloc (.cells #[.int .i64 (p.1:Int),.string p.2] 158)).alloc (.cells #[.int .i64 (p.1:Int),.string p.2] 158);have K2:=(aE.out.1.alloc (.cells #[.int .i64 (p.1:Int),.string p.2] 158)).alloc (.cells #[.int .i64 (p.1:Int),.string p.2] 158);have fZ:=HC.out;by_cases cM:p.1=a
    ·rw[decide_eq_true cM]at aL;have HF:Hid (Kept (λk=>k=gw) w1 ((wr.alloc (.cells #[.int .i64 (p.1:Int),.string p.2] 158)).alloc (.cells #[.int .i64 (p.1:Int),.string p.2] 158))/\MidRow ((wr.alloc (.cells #[.int .i64 (p.1:Int),.string p.2] 158)).alloc (.cells #[.int .i64 (p.1:Int),.string p.2] 158)) gw cap q a (j+1)):=⟨K2,M2.skip hp cM⟩;have HE:Hid ((others a (q.take (j+1))).length=c):=(by rw[a5y a j q p hp cM];exact hc);rw[hc];obtain⟨pa,ps⟩:=p;clear aE hp M2 K2 cM hc fZ;go_wp2_with(go_at_call 84;refine aL.mono ?_;rintro e w' ⟨rfl,hw'⟩;rw[hw'];clear hw' w');refine⟨?_,?measure⟩
     ·(repeat apply Exists.intro)
      refine⟨?rel,rfl⟩
      case rel=>exact⟨j+1,by omega,by omega,by rw[HE.out],by go_num,HF⟩
     case measure=>simp[intOf];omega
    ·rw[decide_eq_false cM]at aL;have M3:=M2.put hp cM fZ.1;have HE:Hid ((others a (q.take (j+1))).length=c+1):=by
      have e:(others a (q.take (j+1))).length=c+1:=(by rw[b0v a j q p hp cM,List.length_append,hc];rfl);exact e
     rw[hc]at M3⊢;obtain⟨⟨ua,e0⟩,f0⟩:=M2.cells (c*2) (by omega);obtain⟨⟨ub,e1⟩,f1⟩:=M2.cells (c*2+1) (by omega);have HF:Hid (Kept (λk=>k=gw) w1 ((((wr.alloc (.cells #[.int .i64 (p.1:Int),.string p.2] 158)).alloc (.cells #[.int .i64 (p.1:Int),.string p.2] 158)).setCell ⟨gw,c*2,none⟩ (.int .i64 (p.1:Int))).setCell ⟨gw,c*2+1,none⟩ (.string p.2))/\MidRow ((((wr.alloc (.cells #[.int .i64 (p.1:Int),.string p.2] 158)).alloc (.cells #[.int .i64 (p.1:Int),.string p.2] 158)).setCell ⟨gw,c*2,none⟩ (.int .i64 (p.1:Int))).setCell ⟨gw,c*2+1,none⟩ (.string p.2)) gw cap q a (j+1)):=
      ⟨(K2.setCell (.inl rfl) _ _).setCell (.inl rfl) _ _,M3⟩
     have mE:(c:Int)<(q.length:Int):=(by omega);obtain⟨pa,ps⟩:=p;clear aE hp M2 K2 M3 cM hc fZ;go_wp2_with(go_at_call 84;refine aL.mono ?_;rintro e w' ⟨rfl,hw'⟩;rw[hw'];clear hw' w');refine⟨?_,?measure⟩
     ·(repeat apply Exists.intro)
      refine⟨?rel,rfl⟩
      case rel=>exact⟨j+1,by omega,by omega,by rw[HE.out];go_num,by go_num,HF⟩
     case measure=>simp[intOf];omega
   ·obtain rfl:j=q.length:=(by omega);rw[List.take_length]at hc⊢;obtain⟨Z,r6,hW⟩:=aE.out.2.clear HC.out.1 HC.out.2 HL0.out;have hltc:c<q.length:=(by rw[<-hc];exact HL0.out);have fZ:=HC.out;rw[hc]at r6 hW⊢;have HF:Hid (Waits (wr.setRow gw Z) 158 (.slice (some ⟨gw,0,none⟩) c cap) (others a q)/\Kept (λk=>(Value.slice (some ⟨gw,0,none⟩) q.length cap).ownBlock=some k) w (wr.setRow gw Z)):=
     ⟨hW,HK1.out.trans (aE.out.1.setRow (.inl rfl) Z) (λi e=>.inl (by rw[e];rfl))⟩
    have HCC:Hid ((others a q).length=c):=hc;have hcc1:(cap=c)=False:=eq_false (by omega);have hcc2:(c:Int)<=(q.length:Int):=(by omega);have hcc3:(c:Int)<=(cap:Int):=(by omega);clear hc aE hW;go_wp2_with fail;go_ret;rw[HCC.out];exact⟨some ⟨gw,0,none⟩,cap,rfl,HF.out.1,HF.out.2,rfl⟩
def b4p (dead:Bool)(n:Nat)(at_:Int)(s:BA):Bool:=decide (errW dead n at_ s=0)
def a8c (l:Nat->BA)(dead:Bool)(n:Nat)(at_:Int)(s:BA):Nat->BA:=if errW dead n at_ s=0 then upd l (at_.toNat,s)else l
def b2v (q:List Wr)(dead:Bool)(n:Nat)(at_:Int)(s:BA):List Wr:=if errW dead n at_ s=0 then others at_.toNat q else q
theorem c7q {F:Nat->Prop}{g n:Nat}{l:Nat->BA}{q:List Wr}{dead:Bool}{w:World}(h:DiskAt w F g n l q dead)(at_:Int)(s:BA)(hq:q.length<=1000000):
 Calls prog 40 #[.pointer (some ⟨g,0,none⟩),.int .i64 at_,.string s] w λe w'=>e=.returned (.bool (b4p dead n at_ s))/\Turned F w w' (λF'=>DiskAt w' F' g n (a8c l dead n at_ s) (b2v q dead n at_ s) dead):=by
 have K0:Kept (λ_=>False) w (w.alloc (.cells #[.int .i64 at_] 3)):=(Kept.refl _ _).alloc _;have h':=h.kept K0 (λ_ _ h=>h);have hu:=b3l h' at_;have HT0:Hid (Turned F w (w.alloc (.cells #[.int .i64 at_] 3)) (λF'=>DiskAt (w.alloc (.cells #[.int .i64 at_] 3)) F' g n l q dead)):=⟨F,h',K0.mono (λi _ h=>h.elim),λk hk=>.inl hk⟩;unfold b4p a8c b2v;rcases b5t dead n at_ s with⟨E,hE,h0,hW⟩|⟨hE,hW,hs⟩|⟨rfl,hW,hs,k,rfl,hk⟩
 ·rw[hW,qn h0,qn h0,decide_eq_false h0];rw[hE]at hu;have hb:(E==0)=false:=by simpa using h0
  have hb':(E=0)=False:=eq_false h0;clear h h' K0 hE hW h0;go_enter func40,ntmps40;go_wp2_with(go_at_call 82;refine hu.mono ?_;rintro e w' ⟨rfl,rfl⟩);go_ret;exact⟨rfl,HT0.out⟩
 ·rw[hW,qn (by decide),qn (by decide),decide_eq_false (by decide)];rw[hE]at hu;clear h h' K0 hE hW;go_enter func40,ntmps40;go_wp2_with(go_at_call 82;refine hu.mono ?_;rintro e w' ⟨rfl,rfl⟩);go_ret;exact⟨rfl,HT0.out⟩
 ·rw[hW,qp rfl,qp rfl,decide_eq_true rfl,Int.toNat_natCast];rw[a6a n k hk]at hu;have hs':¬2048<s.size:=by omega
  have hB:=h.bound;clear h HT0;obtain⟨gc,gl,v,h⟩:=h';have G0:Blk (w.alloc (.cells #[.int .i64 (k:Int)] 3)) w.heap.size 3 [.int .i64 (k:Int)]:=Blk.new w 3 #[.int .i64 (k:Int)];have cA:=h.top.ne h.cells (by decide);have aY:=h.top.ne h.lasts (by decide);have oO:=h.cells.owns_ne h.row (by decide);have qZ:=h.lasts.owns_ne h.row (by decide);have hac:=G0.ne h.cells (by decide);have gP:=G0.ne h.lasts (by decide);have HK0:Hid (Kept F w (w.alloc (.cells #[.int .i64 (k:Int)] 3))):=K0.mono (λi _ h=>h.elim);have HB:Hid _:=hB;have c0:=h.top.cell (i:=0) rfl;have c1:=h.top.cell (i:=1) rfl;have ca1:=G0.cell (i:=0) rfl;have ec:=h.cells.cell (a0s n _ k hk);have fc:=h.cells.frozen k;have el:=h.lasts.cell (a0s n _ k hk);have fl:=h.lasts.frozen k;have hk':(k:Int)<(n:Int):=by omega
  clear K0 hB hW
  --behind the two stores,in whichever order
  have fact:∀w3,(w3=(((w.alloc (.cells #[.int .i64 (k:Int)] 3)).setCell ⟨gc,k,none⟩ (.string s)).setCell ⟨gl,k,none⟩ (.string s)).drew\/w3=(((w.alloc (.cells #[.int .i64 (k:Int)] 3)).setCell ⟨gl,k,none⟩ (.string s)).setCell ⟨gc,k,none⟩ (.string s)).drew)->
   Hid (Blk w3 g 130 [.slice (some ⟨gc,0,none⟩) n n,.slice (some ⟨gl,0,none⟩) n n,v,.bool false]/\Blk w3 gc 9 (strs n (upd (app l q) (k,s)))/\Blk w3 gl 9 (strs n (upd l (k,s)))/\Waits w3 158 v q/\Blk w3 w.heap.size 3 [.int .i64 (k:Int)]/\Kept F w w3):=by
   intro w3 hw3;have C1:=h.cells.setCell k (.string s);have L1:=h.lasts.setCell k (.string s);rw[a2y]at C1 L1;have kc:=Kept.one (w.alloc (.cells #[.int .i64 (k:Int)] 3)) gc k (.string s);have kl:=Kept.one (w.alloc (.cells #[.int .i64 (k:Int)] 3)) gl k (.string s);rcases hw3 with rfl|rfl
   ·have kl':=Kept.one ((w.alloc (.cells #[.int .i64 (k:Int)] 3)).setCell ⟨gc,k,none⟩ (.string s)) gl k (.string s);have L2:=(h.lasts.kept kc (λe=>h.ne e.symm)).setCell k (.string s);rw[a2y]at L2;exact⟨((h.top.kept kc cA).kept kl' aY).drew,(C1.kept kl' h.ne).drew,L2.drew,((h.row.kept kc (λi hi e=>oO (by rw[hi,e]))).kept kl' (λi hi e=>qZ (by rw[hi,e]))).kept (Kept.refl (λ_=>False) _).drew (λ_ _ h=>h),
     ((G0.kept kc hac).kept kl' gP).drew,((HK0.out.setCell (.inl h.inn.2.1) _ _).setCell (.inl h.inn.2.2.1) _ _).drew⟩
   ·have kc':=Kept.one ((w.alloc (.cells #[.int .i64 (k:Int)] 3)).setCell ⟨gl,k,none⟩ (.string s)) gc k (.string s);have C2:=(h.cells.kept kl h.ne).setCell k (.string s);rw[a2y]at C2;exact⟨((h.top.kept kl aY).kept kc' cA).drew,C2.drew,(L1.kept kc' (λe=>h.ne e.symm)).drew,((h.row.kept kl (λi hi e=>qZ (by rw[hi,e]))).kept kc' (λi hi e=>oO (by rw[hi,e]))).kept (Kept.refl (λ_=>False) _).drew (λ_ _ h=>h),
     ((G0.kept kl gP).kept kc' hac).drew,((HK0.out.setCell (.inl h.inn.2.2.1) _ _).setCell (.inl h.inn.2.1) _ _).drew⟩
  have lF:Hid _:=fact;have HH:Hid _:=h;clear fact G0 h;have hcne:(gc=gl)=False:=eq_false HH.out.ne;have hcne':(gl=gc)=False:=eq_false (λe=>HH.out.ne e.symm);go_enter func40,ntmps40;go_wp2_with(go_at_call 82;refine hu.mono ?_;rintro e w' ⟨rfl,hw'⟩;rw[hw'];clear hw' w');go_region;have hf:=lF.out _ (.inl rfl);clear lF hu c0 c1 ca1 ec fc el fl;generalize(((w.alloc (.cells #[.int .i64 (k:Int)] 3)).setCell ⟨gc,k,none⟩ (.string s)).setCell ⟨gl,k,none⟩ (.string s)).drew=w3 at hf⊢;have tA:=b4v k w.heap.size q v w3 hf.out.2.2.2.2.1 hf.out.2.2.2.1 hq;have c2:=hf.out.1.cell (i:=2) rfl;go_wp2_with(go_at_call 83;refine tA.mono ?_;rintro e w4 ⟨b,c,rfl,hW,hK,hob⟩;clear tA;have T4:=hf.out.1.kept hK (hf.out.1.owns_ne hf.out.2.2.2.1 (by decide));have d2:=T4.cell (i:=2) rfl;have f2:=T4.frozen 2);go_ret;refine⟨rfl,?_⟩;obtain⟨-,C3,L3,W3,-,K3⟩:=hf.out;have hg4:=T4.setCell 2 (.slice b (others k q).length c);have K5:=Kept.one w4 g 2 (.slice b (others k q).length c);have C4:=(C3.kept hK (C3.owns_ne W3 (by decide))).kept K5 (λe=>cA e.symm);have L4:=(L3.kept hK (L3.owns_ne W3 (by decide))).kept K5 (λe=>aY e.symm);have W5:=hW.kept K5 (λi hi e=>T4.owns_ne hW (by decide) (by rw[hi,e]));have K6:Kept F w (w4.setCell ⟨g,2,none⟩ (.slice b (others k q).length c)):=(K3.trans hK (λi hi=>.inl (HH.out.inn.2.2.2 i hi))).setCell (.inl HH.out.inn.1) _ _;refine⟨F,⟨gc,gl,.slice b (others k q).length c,⟨HH.out.inn.1,HH.out.inn.2.1,HH.out.inn.2.2.1,λi hi=>HH.out.inn.2.2.2 i (by rw[<-hob];exact hi)⟩,HH.out.ne,HH.out.low,HH.out.high,λp hp=>HH.out.ats p (b5k hp),hg4,?_,L4,W5,λi hi=>Nat.lt_of_lt_of_le (HB.out i hi) K6.size⟩,K6,λi hi=>.inl hi⟩;rw[c9y];exact C4
theorem RefIn.done {w w':World}{F:Nat->Prop}{g n:Nat}{l l':Nat->BA}{q:List Wr}{dead:Bool}{gc:Nat}{v:Value}(h:RefIn w F g n l q dead gc v)(K:Kept (λi=>i=gc) w w')(C:Blk w' gc 9 (strs n l')):
 Turned F w (w'.setCell ⟨g,1,none⟩ (.slice none 0 0)) (λF'=>RefAt (w'.setCell ⟨g,1,none⟩ (.slice none 0 0)) F' g n l' [] dead):=by
 have cA:=h.top.ne h.cells (by decide);have T:=(h.top.kept K cA).setCell 1 (.slice none 0 0);have C2:=C.kept (Kept.one w' g 1 (.slice none 0 0)) (λe=>cA e.symm);have K2:Kept F w (w'.setCell ⟨g,1,none⟩ (.slice none 0 0)):=(K.mono (λi _ e=>by rw[e];exact h.inn.2.1)).setCell (.inl h.inn.1) _ _;exact⟨F,⟨gc,.slice none 0 0,⟨h.inn.1,h.inn.2.1,λk hk=>(by cases hk)⟩,h.low,h.high,λp hp=>(by cases hp),T,C2,Waits.nil _ _,λk hk=>Nat.lt_of_lt_of_le (h.bound k hk) K2.size⟩,K2,λk hk=>.inl hk⟩
theorem c2r {F:Nat->Prop}{g n:Nat}{l:Nat->BA}{q:List Wr}{dead:Bool}{w:World}(h:RefAt w F g n l q dead):
 Calls prog 42 #[.pointer (some ⟨g,0,none⟩)] w λe w'=>e=.returned (.tuple #[])/\Turned F w w' (λF'=>RefAt w' F' g n l [] true):=by
 obtain⟨gc,v,h⟩:=h;have c2:=h.top.cell (i:=2) rfl;have f2:=h.top.frozen 2;have T1:=h.top.setCell 2 (.bool true);have c1:=T1.cell (i:=1) rfl;have f1:=T1.frozen 1;have cA:=h.top.ne h.cells (by decide);have C1:=h.cells.kept (Kept.one w g 2 (.bool true)) (λe=>cA e.symm);have T2:=T1.setCell 1 (.slice none 0 0);have C2:=C1.kept (Kept.one (w.setCell ⟨g,2,none⟩ (.bool true)) g 1 (.slice none 0 0)) (λe=>cA e.symm);have K2:Kept F w ((w.setCell ⟨g,2,none⟩ (.bool true)).setCell ⟨g,1,none⟩ (.slice none 0 0)):=((Kept.refl F w).setCell (.inl h.inn.1) _ _).setCell (.inl h.inn.1) _ _;have HT:Hid (Turned F w ((w.setCell ⟨g,2,none⟩ (.bool true)).setCell ⟨g,1,none⟩ (.slice none 0 0)) (λF'=>RefAt ((w.setCell ⟨g,2,none⟩ (.bool true)).setCell ⟨g,1,none⟩ (.slice none 0 0)) F' g n l [] true)):=
  ⟨F,⟨gc,.slice none 0 0,⟨h.inn.1,h.inn.2.1,λk hk=>(by cases hk)⟩,h.low,h.high,λp hp=>(by cases hp),T2,C2,Waits.nil _ _,λk hk=>Nat.lt_of_lt_of_le (h.bound k hk) K2.size⟩,K2,λk hk=>.inl hk⟩
 clear h T1 C1 T2 C2 K2 cA;go_enter func42,ntmps42;go_wp2_with fail;go_end0;exact⟨rfl,HT.out⟩
def parL (l:Nat->BA)(m:Nat)(f:Nat->BA)(j i:Nat):BA:=if i<j then b0q m f i else l i
theorem d2p (l:Nat->BA)(m:Nat)(f:Nat->BA):parL l m f 0=l:=by funext i;unfold parL;rw[qn (by omega)]
theorem d8j (l:Nat->BA)(m:Nat)(f:Nat->BA)(n:Nat):∀i,i<n->parL l m f n i=b0q m f i:=by intro i hi;unfold parL;rw[qp hi]
theorem b3n (l:Nat->BA)(m:Nat)(f:Nat->BA)(j:Nat):upd (parL l m f j) (j,b0q m f j)=parL l m f (j+1):=by
 funext i;unfold upd parL;simp only;by_cases e:i=j
 ·subst e;rw[qp rfl,qp (by omega)]
 ·rw[qn e];by_cases h1:i<j
  ·rw[qp h1,qp (by omega)]
  ·rw[qn h1,qn (by omega)]
theorem e3m (f:Nat->BA)(k:Nat)(s t:BA):upd (upd f (k,s)) (k,t)=upd f (k,t):=by
 funext i;unfold upd;simp only;by_cases e:i=k
 ·rw[qp e,qp e]
 ·rw[qn e,qn e,qn e]
theorem b4s {F:Nat->Prop}{g n:Nat}{l:Nat->BA}{q:List Wr}{dead:Bool}{w:World}(h:RefAt w F g n l q dead)(v:Value)(m:Nat)(f:Nat->BA)(hv:TextsAt w v m f)(hm:m<=1000000000)(ha:Away F v):
 Calls prog 38 #[.pointer (some ⟨g,0,none⟩),v] w λe w'=>e=.returned (.tuple #[])/\Turned F w w' (λF'=>RefAt w' F' g n (b6m l dead m f) (a5c q dead) dead):=by
 have HT0:Hid _:=RefIn.turn h;obtain⟨gc,vw,h⟩:=h;have c2:=h.top.cell (i:=2) rfl
 cases dead
 ·rw[show b6m l false m f=b0q m f from rfl,show a5c q false=[]from rfl];have hv':=hv;obtain⟨av,capv,rfl,dF,hv0⟩:=hv';have HV0:Hid _:=hv0;have HV:Hid (TextsAt w (.slice av m capv) m f):=hv;have HH:Hid _:=h;have HA:Hid _:=ha;have cA:=h.top.ne h.cells (by decide);have hn5:=h.high;clear hv hv0 ha h HT0;go_enter func38,ntmps38;go_wp2_with fail;go_loopw[4] (λi wr=>∃j:Nat,j<=n/\i=.int .i64 (j:Int)/\Hid (Kept (λi=>i=gc) w wr/\Blk wr gc 9 (strs n (parL l m f j)))) (λi _=>n-(intOf i).toNat)
  case atStart=>exact⟨0,Nat.zero_le _,rfl,Kept.refl _ _,by rw[d2p];exact HH.out.cells⟩
  case round=>
   obtain⟨j,hj,rfl,aE⟩:=hrel;have T1:=HH.out.top.kept aE.out.1 cA;have c0:=T1.cell (i:=0) rfl;have c1:=T1.cell (i:=1) rfl;have f1:=T1.frozen 1;by_cases p9:j<n
   ·have hj':(j:Int)<(n:Int):=(by omega);have ec:=aE.out.2.cell (a0s n _ j p9);have fc:=aE.out.2.frozen j;have C2:=aE.out.2.setCell j (.string noB);rw[a2y]at C2;have T2:=T1.kept (Kept.one wr gc j (.string noB)) cA;have d0:=T2.cell (i:=0) rfl;by_cases lS:j<m
    ·obtain⟨b,o,hav,hb,hc⟩:=HV0.out.resolve_left (λh=>by omega);subst hav;have bW:b≠gc:=λe=>HA.out ⟨b,o,none⟩ m capv rfl (by omega) (by rw[show(⟨b,o,none⟩:Addr).block=b from rfl,e];exact HH.out.inn.2.1);have hcj:(wr.setCell ⟨gc,j,none⟩ (.string noB)).cell? ⟨b,o+j,none⟩=some (.string (f j)):=by
      rw[(Kept.one wr gc j (.string noB)).cell (p:=⟨b,o+j,none⟩) (Nat.lt_of_lt_of_le hb aE.out.1.size) bW,aE.out.1.cell (p:=⟨b,o+j,none⟩) hb bW];exact hc j lS
     have pN:(j:Int)<(m:Int):=(by omega);by_cases hs:(f j).size<=2048
     ·have hR:b0q m f j=f j:=(by unfold b0q;rw[qp ⟨lS,hs⟩]);obtain⟨s,kR⟩:∃s,f j=s:=⟨_,rfl⟩;have HR:Hid (Kept (λi=>i=gc) w ((wr.setCell ⟨gc,j,none⟩ (.string noB)).setCell ⟨gc,j,none⟩ (.string s)).drew/\Blk ((wr.setCell ⟨gc,j,none⟩ (.string noB)).setCell ⟨gc,j,none⟩ (.string s)).drew gc 9 (strs n (parL l m f (j+1)))):=by
       refine⟨((aE.out.1.setCell (.inl rfl) _ _).setCell (.inl rfl) _ _).drew,?_⟩;rw[<-b3n,hR,kR,<-e3m _ j noB s,<-a2y];exact(C2.setCell _ _).drew
      have ec2:=C2.cell (a0s n _ j p9);have fc2:=C2.frozen j;rw[kR]at hcj hs;clear aE T1 T2 C2 c2 f1 HV0 HV HA hc kR hR c1;go_wp2_with fail;go_region;go_wp2_with fail;go_roundw
      case rel=>exact⟨j+1,by omega,by go_num,HR⟩
      case measure=>simp[intOf];omega
     ·have hR:b0q m f j=noB:=(by unfold b0q;rw[qn (λh=>hs h.2)]);obtain⟨s,kR⟩:∃s,f j=s:=⟨_,rfl⟩;have HR:Hid (Kept (λi=>i=gc) w (wr.setCell ⟨gc,j,none⟩ (.string noB))/\Blk (wr.setCell ⟨gc,j,none⟩ (.string noB)) gc 9 (strs n (parL l m f (j+1)))):=by
       refine⟨aE.out.1.setCell (.inl rfl) _ _,?_⟩;rw[<-b3n,hR];exact C2
      rw[kR]at hcj hs;clear aE T1 T2 C2 c2 f1 HV0 HV HA hc kR hR c1;go_wp2_with fail;go_roundw
      case rel=>exact⟨j+1,by omega,by go_num,HR⟩
      case measure=>simp[intOf];omega
    ·have pN:¬(j:Int)<(m:Int):=(by omega);have hR:b0q m f j=noB:=(by unfold b0q;rw[qn (λh=>lS h.1)]);have HR:Hid (Kept (λi=>i=gc) w (wr.setCell ⟨gc,j,none⟩ (.string noB))/\Blk (wr.setCell ⟨gc,j,none⟩ (.string noB)) gc 9 (strs n (parL l m f (j+1)))):=by
      refine⟨aE.out.1.setCell (.inl rfl) _ _,?_⟩;rw[<-b3n,hR];exact C2
     clear aE T1 T2 C2 c2 f1 HV0 HV HA hR c1;go_wp2_with fail;go_roundw
     case rel=>exact⟨j+1,by omega,by go_num,HR⟩
     case measure=>simp[intOf];omega
   ·obtain rfl:j=n:=(by omega);have hL:=aE.out.2;rw[a1d j _ _ (d8j l m f j)]at hL;have HT:Hid _:=RefIn.done HH.out aE.out.1 hL;clear hL aE T1 HV0 HV HA;go_wp2_with fail;go_end0;exact⟨rfl,HT.out⟩
 ·rw[show b6m l true m f=l from rfl,show a5c q true=q from rfl];clear h hv ha;go_enter func38,ntmps38;go_wp2_with fail;refine bodyPost_ret (results_none rfl _ _ _) rfl ⟨rfl,HT0.out⟩
theorem b6n {F:Nat->Prop}{g n:Nat}{l:Nat->BA}{q:List Wr}{dead:Bool}{w:World}(h:RefAt w F g n l q dead)(at_:Int)(s:BA)(hq:q.length<=1000000):
 Calls prog 41 #[.pointer (some ⟨g,0,none⟩),.int .i64 at_,.string s] w λe w'=>e=.returned (.bool (b4p dead n at_ s))/\Turned F w w' (λF'=>RefAt w' F' g n (a8c l dead n at_ s) (b2v q dead n at_ s) dead):=by
 have HT0:Hid _:=RefIn.turn h;obtain⟨gc,v,h⟩:=h;have c2:=h.top.cell (i:=2) rfl;have c0:=h.top.cell (i:=0) rfl;have hn2:=h.high;unfold b4p a8c b2v;rcases a5p dead n at_ with rfl|⟨rfl,ha⟩|⟨rfl,k,rfl,hk⟩
 ·have hW:errW true n at_ s=20:=rfl;rw[hW,qn (by decide),qn (by decide),decide_eq_false (by decide)];clear h hW;go_enter func41,ntmps41;go_wp2_with fail;go_ret;exact⟨rfl,HT0.out⟩
 ·have hW:errW false n at_ s=2:=by unfold errW;rw[a9x n at_ ha,qn (by decide)]
  rw[hW,qn (by decide),qn (by decide),decide_eq_false (by decide)];have HA:Hid (at_<0\/(n:Int)<=at_):=ha;clear h hW ha;by_cases h0:at_<0
  ·go_enter func41,ntmps41;go_wp2_with fail;go_ret;exact⟨rfl,HT0.out⟩
  ·have h1:(n:Int)<=at_:=HA.out.resolve_left h0;go_enter func41,ntmps41;go_wp2_with fail;go_ret;exact⟨rfl,HT0.out⟩
 ·have hk':¬(n:Int)<=(k:Int):=by omega
  have hk0:¬(k:Int)<0:=by omega
  by_cases hs:2048<s.size
  ·have hW:errW false n (k:Int) s=5:=(by unfold errW;rw[a6a n k hk,qp rfl,qp hs]);rw[hW,qn (by decide),qn (by decide),decide_eq_false (by decide)];clear h hW;go_enter func41,ntmps41;go_wp2_with fail;go_ret;exact⟨rfl,HT0.out⟩
  ·have hW:errW false n (k:Int) s=0:=(by unfold errW;rw[a6a n k hk,qp rfl,qn hs]);rw[hW,qp rfl,qp rfl,decide_eq_true rfl,Int.toNat_natCast];have cA:=h.top.ne h.cells (by decide);have oO:=h.cells.owns_ne h.row (by decide);have hvg:=h.top.owns_ne h.row (by decide);have c1:=h.top.cell (i:=1) rfl;obtain⟨av,cap,hv⟩:=h.row.form;subst hv;have HH:Hid _:=h;clear h HT0 hW c1;go_enter func41,ntmps41;go_wp2_with fail;go_loopw[7,8] (λvo i wr=>∃j:Nat,j<=q.length/\i=.int .i64 (j:Int)/\∃b c,vo=.slice b (others k (q.take j)).length c/\Hid (Below w.heap.size w wr/\Waits wr 161 (.slice b (others k (q.take j)).length c) (others k (q.take j))/\∀i,(Value.slice b (others k (q.take j)).length c).ownBlock=some i->w.heap.size<=i)) (λ_ i _=>q.length-(intOf i).toNat)
   case atStart=>exact⟨0,Nat.zero_le _,rfl,none,0,by rw[List.take_zero];rfl,qw _ _,by rw[List.take_zero];exact Waits.nil _ _,λi hi=>by cases hi⟩
   case round=>
    obtain⟨j,hj,rfl,b,c,rfl,aE⟩:=hrel;have T1:=HH.out.top.below aE.out.1 HH.out.top.lt;have c0:=T1.cell (i:=0) rfl;have c1:=T1.cell (i:=1) rfl;have f1:=T1.frozen 1;by_cases p9:j<q.length
    ·obtain⟨p,hp⟩:∃p,q[j]?=some p:=⟨_,List.getElem?_eq_getElem p9⟩;have W1:=HH.out.row.kept (Kept.ofBelow (F:=λ_=>False) aE.out.1) (λ_ _ h=>h);obtain⟨gw,cap2,qY,ca,cb⟩:=W1.at hp
     cases qY
     have jQ:j*2+1<q.length*2:=(by omega);have hj':(j:Int)<(q.length:Int):=(by omega);obtain⟨cc,eH⟩:∃cc,(others k (q.take j)).length=cc:=⟨_,rfl⟩;have hccj:cc<=j:=(by rw[<-eH];exact b3q k j q);by_cases bH:p.1=k
     ·have hb:(((p.1:Nat):Int)==(k:Int))=true:=(by rw[bH];simp);have he:=a5y k j q p hp bH;rw[<-he]at aE⊢;clear W1 T1 hp c2 f1 bH eH he;obtain⟨pa,ps⟩:=p;go_wp2_with fail;go_roundw
      case rel=>exact⟨j+1,by omega,by go_num,b,c,rfl,aE⟩
      case measure=>simp[intOf];omega
     ·have hb:(((p.1:Nat):Int)==(k:Int))=false:=(by rw[beq_eq_false_iff_ne];omega);have he:=b0v k j q p hp bH;obtain⟨g',cap',w2,r6,W2,q9,bM⟩:=b4x 152 161 152 underlying152 info161 wr _ _ aE.out.2.1 p (by rw[eH];omega);have HE:Hid ((others k (q.take (j+1))).length=cc+1):=by
       have e:(others k (q.take (j+1))).length=cc+1:=(by rw[he,List.length_append,eH];rfl);exact e
      rw[<-he]at W2;have HR:Hid (Below w.heap.size w w2/\Waits w2 161 (.slice (some ⟨g',0,none⟩) (cc+1) cap') (others k (q.take (j+1)))/\∀i,(Value.slice (some ⟨g',0,none⟩) (cc+1) cap').ownBlock=some i->w.heap.size<=i):=by
       refine⟨(aE.out.1.alloc aE.out.1.size _).grown q9 (by rw[World.size_alloc];have:=aE.out.1.size;omega) (λi hi=>aE.out.2.2 i hi),by rw[<-eH];exact W2,λi hi=>?_⟩
       cases hi
       rcases bM with e|e
       ·exact aE.out.2.2 g' e.symm
       ·have:=aE.out.1.size;exact Nat.le_trans this e
      rw[eH]at r6⊢;obtain⟨pa,ps⟩:=p;clear W1 T1 hp c2 f1 bH eH he W2 q9 bM aE;go_wp2_with(at_builtin;refine wpList_append_run rfl _ _ 152 152 rfl _ _ rfl rfl _ _ r6 ?_);go_roundw
      case rel=>exact⟨j+1,by omega,by go_num,some ⟨g',0,none⟩,cap',by rw[HE.out],by rw[HE.out];exact HR⟩
      case measure=>simp[intOf];omega
    ·obtain rfl:j=q.length:=(by omega);rw[List.take_length]at aE⊢;have C1:=HH.out.cells.below aE.out.1 HH.out.cells.lt;have hog:=T1.owns_ne aE.out.2.1 (by decide);have hoc:=C1.owns_ne aE.out.2.1 (by decide);have T2:=T1.setCell 1 (.slice b (others k q).length c);have K1:=Kept.one wr g 1 (.slice b (others k q).length c);have C2:=C1.kept K1 (λe=>cA e.symm);have W2:=aE.out.2.1.kept K1 (λi hi e=>hog (by rw[hi,e]));have d0:=T2.cell (i:=0) rfl;have ec:=C2.cell (a0s n _ k hk);have fc:=C2.frozen k;have C3:=C2.setCell k (.string s);rw[a2y]at C3;have K2:=Kept.one (wr.setCell ⟨g,1,none⟩ (.slice b (others k q).length c)) gc k (.string s);have T3:=T2.kept K2 cA;have W3:=W2.kept K2 (λi hi e=>hoc (by rw[hi,e]));have KK:Kept F w ((wr.setCell ⟨g,1,none⟩ (.slice b (others k q).length c)).setCell ⟨gc,k,none⟩ (.string s)):=((Kept.ofBelow aE.out.1).setCell (.inl HH.out.inn.1) _ _).setCell (.inl HH.out.inn.2.1) _ _;have HT:Hid (Turned F w ((wr.setCell ⟨g,1,none⟩ (.slice b (others k q).length c)).setCell ⟨gc,k,none⟩ (.string s)) (λF'=>RefAt ((wr.setCell ⟨g,1,none⟩ (.slice b (others k q).length c)).setCell ⟨gc,k,none⟩ (.string s)) F' g n (upd l (k,s)) (others k q) false)):=by
      refine⟨λi=>F i\/(Value.slice b (others k q).length c).ownBlock=some i,⟨gc,.slice b (others k q).length c,⟨.inl HH.out.inn.1,.inl HH.out.inn.2.1,λi hi=>.inr hi⟩,HH.out.low,HH.out.high,λp hp=>HH.out.ats p (b5k hp),T3,C3,W3,?_⟩,KK,?_⟩
      ·rintro i (hi|hi)
       ·exact Nat.lt_of_lt_of_le (HH.out.bound i hi) KK.size
       ·exact W3.lt i hi
      ·rintro i (hi|hi)
       ·exact .inl hi
       ·exact .inr (aE.out.2.2 i hi)
     have aM:(k:Int)<(n:Int):=(by omega);clear T1 T2 T3 C1 C2 C3 W2 W3 K1 K2 KK aE c2;go_wp2_with fail;go_ret;exact⟨rfl,HT.out⟩
def more (n:Int):Nat:=(max 0 n%30).toNat
def Own (B:Nat)(w0 w:World)(g n:Nat)(l:Nat->BA)(q:List Wr)(dead:Bool):Prop:=B<=w.heap.size/\Below B w0 w/\∃F,DiskAt w F g n l q dead/\∀k,F k->B<=k
theorem Own.turn {B:Nat}{w0 w w':World}{F:Nat->Prop}{g n:Nat}{l:Nat->BA}{q:List Wr}{dead:Bool}(hB:B<=w.heap.size)(hb:Below B w0 w)(hF:∀k,F k->B<=k)(hT:Turned F w w' (λF'=>DiskAt w' F' g n l q dead)):Own B w0 w' g n l q dead:=by
 obtain⟨F',h1,h2,h3⟩:=hT;exact⟨Nat.le_trans hB h2.size,h2.below hb hB hF,F',h1,λk hk=>(h3 k hk).elim (hF k) (λh=>Nat.le_trans hB h)⟩
theorem Own.below {B:Nat}{w0 w w':World}{g n:Nat}{l:Nat->BA}{q:List Wr}{dead:Bool}(h:Own B w0 w g n l q dead)(hb:Below w.heap.size w w'):Own B w0 w' g n l q dead:=by
 obtain⟨h1,h2,F,h3,h4⟩:=h;exact⟨Nat.le_trans h1 hb.size,h2.trans (hb.mono h1),F,h3.kept (Kept.ofBelow (F:=λ_=>False) hb) (λ_ _ h=>h),h4⟩
theorem Own.size {B:Nat}{w0 w:World}{g n:Nat}{l:Nat->BA}{q:List Wr}{dead:Bool}(h:Own B w0 w g n l q dead):B<=w.heap.size:=h.1
open Go.ChangeShapes Go.WideShapes Go.ChangeAt Go.RowKit Go.PlainAid
structure ActD where
 d:Int
 a:Int
 s:BA
 n:Int
 x:Bool
 kb:Option Addr
 km:Nat
 kc:Nat
 kk:Nat->Bool
abbrev ActD.row (A:ActD):Value:=.slice A.kb A.km A.kc
def BoolsOk (W:World)(a:Option Addr)(m c:Nat)(k:Nat->Bool):Prop:=BoolsAt W (.slice a m c) m k/\m<=c/\c<=maxLen
theorem BoolsOk.below {w w':World}{a:Option Addr}{m c:Nat}{k:Nat->Bool}(h:BoolsOk w a m c k)(hb:Below w.heap.size w w'):BoolsOk w' a m c k:=⟨h.1.below hb,h.2⟩
def dsk (g n:Nat)(l:Nat->BA)(q:List Wr)(dead:Bool):Asn:=λw F=>DiskAt w F g n l q dead
theorem c6g (g n:Nat)(l:Nat->BA)(q:List Wr)(dead:Bool):Firm (dsk g n l q dead):=⟨λh hk hd=>DiskAt.kept h hk hd,λh=>DiskAt.bound h⟩
def rf (g n:Nat)(l:Nat->BA)(q:List Wr)(dead:Bool):Asn:=λw F=>RefAt w F g n l q dead
theorem c4h (g n:Nat)(l:Nat->BA)(q:List Wr)(dead:Bool):Firm (rf g n l q dead):=⟨λh hk hd=>RefAt.kept h hk hd,λh=>RefAt.bound h⟩
def txt (v:Value)(m:Nat)(f:Nat->BA):Asn:=λw F=>TextsAt w v m f/\(∀a n c,v=.slice (some a) n c->n≠0->F a.block)/\∀k,F k->k<w.heap.size
theorem e0d (v:Value)(m:Nat)(f:Nat->BA):Firm (txt v m f):=⟨λh hk hd=>⟨h.1.kept hk (λa n c e e0=>hd _ (h.2.1 a n c e e0)),h.2.1,λk hf=>Nat.lt_of_lt_of_le (h.2.2 k hf) hk.size⟩,λh=>h.2.2⟩
section
variable {B:Nat}{w0 w:World}{g n:Nat}{l:Nat->BA}{q:List Wr}{dead:Bool}{R:Asn}
theorem Hold.dsk (h:Hold B w0 w (star (dsk g n l q dead) R)):∃F,DiskAt w F g n l q dead:=by
 obtain⟨h1,h2,F,⟨G,H,h3,h4⟩,h7⟩:=h;exact⟨G,h3⟩
theorem Hold.rf (h:Hold B w0 w (star (rf g n l q dead) R)):∃F,RefAt w F g n l q dead:=by
 obtain⟨h1,h2,F,⟨G,H,h3,h4⟩,h7⟩:=h;exact⟨G,h3⟩
theorem e5o (hR:Firm R)(h:Hold B w0 w (star (Go.Proofs.YtokknmkleceooaaGreatDoor.dsk g n l q dead) R))(at_:Int)(s:BA)(hq:q.length<=1000000):Calls prog 122 #[.pointer (some ⟨g,0,none⟩),.int .i64 at_,.string s] w λe w'=>e=.returned (.int .i64 (errW dead n at_ s))/\Hold B w0 w' (star (Go.Proofs.YtokknmkleceooaaGreatDoor.dsk g n l (putQ q dead n at_ s) dead) R):=
 h.call hR (P':=Go.Proofs.YtokknmkleceooaaGreatDoor.dsk g n l (putQ q dead n at_ s) dead) (E:=λe=>e=.returned (.int .i64 (errW dead n at_ s))) λG hG _=>c4j hG at_ s hq
theorem e5q (hR:Firm R)(h:Hold B w0 w (star (Go.Proofs.YtokknmkleceooaaGreatDoor.dsk g n l q dead) R)):Calls prog 123 #[.pointer (some ⟨g,0,none⟩)] w λe w'=>e=.returned (.int .i64 (errD dead))/\Hold B w0 w' (star (Go.Proofs.YtokknmkleceooaaGreatDoor.dsk g n (a9u l q dead) (a5c q dead) dead) R):=
 h.call hR (P':=Go.Proofs.YtokknmkleceooaaGreatDoor.dsk g n (a9u l q dead) (a5c q dead) dead) (E:=λe=>e=.returned (.int .i64 (errD dead))) λG hG _=>d4x hG
theorem e8q (hR:Firm R)(h:Hold B w0 w (star (Go.Proofs.YtokknmkleceooaaGreatDoor.dsk g n l q dead) R)):Calls prog 25 #[.pointer (some ⟨g,0,none⟩)] w λe w'=>e=.returned (.tuple #[])/\Hold B w0 w' (star (Go.Proofs.YtokknmkleceooaaGreatDoor.dsk g n (λ_=>noB) [] true) R):=
 h.call hR (P':=Go.Proofs.YtokknmkleceooaaGreatDoor.dsk g n (λ_=>noB) [] true) (E:=λe=>e=.returned (.tuple #[])) λG hG _=>e0h hG
theorem e5p (hR:Firm R)(h:Hold B w0 w (star (Go.Proofs.YtokknmkleceooaaGreatDoor.rf g n l q dead) R)):Calls prog 42 #[.pointer (some ⟨g,0,none⟩)] w λe w'=>e=.returned (.tuple #[])/\Hold B w0 w' (star (Go.Proofs.YtokknmkleceooaaGreatDoor.rf g n l [] true) R):=
 h.call hR (P':=Go.Proofs.YtokknmkleceooaaGreatDoor.rf g n l [] true) (E:=λe=>e=.returned (.tuple #[])) λG hG _=>c2r hG
theorem d9n (hR:Firm R)(h:Hold B w0 w (star (Go.Proofs.YtokknmkleceooaaGreatDoor.dsk g n l q dead) R))(at_:Int)(s:BA)(hq:q.length<=1000000):Calls prog 40 #[.pointer (some ⟨g,0,none⟩),.int .i64 at_,.string s] w λe w'=>e=.returned (.bool (b4p dead n at_ s))/\Hold B w0 w' (star (Go.Proofs.YtokknmkleceooaaGreatDoor.dsk g n (a8c l dead n at_ s) (b2v q dead n at_ s) dead) R):=
 h.call hR (P':=Go.Proofs.YtokknmkleceooaaGreatDoor.dsk g n (a8c l dead n at_ s) (b2v q dead n at_ s) dead) (E:=λe=>e=.returned (.bool (b4p dead n at_ s))) λG hG _=>c7q hG at_ s hq
theorem d4k (hR:Firm R)(h:Hold B w0 w (star (Go.Proofs.YtokknmkleceooaaGreatDoor.rf g n l q dead) R))(at_:Int)(s:BA)(hq:q.length<=1000000):Calls prog 41 #[.pointer (some ⟨g,0,none⟩),.int .i64 at_,.string s] w λe w'=>e=.returned (.bool (b4p dead n at_ s))/\Hold B w0 w' (star (Go.Proofs.YtokknmkleceooaaGreatDoor.rf g n (a8c l dead n at_ s) (b2v q dead n at_ s) dead) R):=
 h.call hR (P':=Go.Proofs.YtokknmkleceooaaGreatDoor.rf g n (a8c l dead n at_ s) (b2v q dead n at_ s) dead) (E:=λe=>e=.returned (.bool (b4p dead n at_ s))) λG hG _=>b6n hG at_ s hq
end
theorem BoolsAt.cut {w:World}{a:Option Addr}{m c:Nat}{k:Nat->Bool}(h:BoolsAt w (.slice a m c) m k)(j:Nat)(hj:j<=m):BoolsAt w (.slice a j c) j (λi=>if i<j then k i else false):=by
 obtain⟨⟨a',cap,e,h1⟩,h2⟩:=h
 cases e
 refine⟨⟨a,c,rfl,?_⟩,λi hi=>qn (by omega)⟩;rcases h1 with h1|⟨b,o,rfl,hl,hc⟩
 ·exact .inl (by omega)
 ·exact .inr ⟨b,o,rfl,hl,λi hi=>by simp only[qp hi];exact hc i (by omega)⟩
theorem TextsAt.congr {w:World}{v:Value}{m:Nat}{f f':Nat->BA}(h:TextsAt w v m f)(e:∀i,i<m->f i=f' i):TextsAt w v m f':=by
 obtain⟨a,cap,rfl,h0,h1⟩:=h;refine⟨a,cap,rfl,h0,?_⟩;rcases h1 with h1|⟨b,o,rfl,hb,hc⟩
 ·exact .inl h1
 ·exact .inr ⟨b,o,rfl,hb,λi hi=>by rw[<-e i hi];exact hc i hi⟩
theorem c2z (q:List Wr)(dead:Bool)(n:Nat)(a:Int)(s:BA):(putQ q dead n a s).length<=q.length+1:=by
 unfold putQ
 split
 ·simp
 ·omega
theorem b7p (q:List Wr)(dead:Bool):(a5c q dead).length<=q.length+1:=by
 unfold a5c
 split
 ·omega
 ·simp
theorem h_new {B:Nat}{w0 w:World}{R:Asn}(hR:Firm R)(h:Hold B w0 w R)(c:Int):Calls prog 68 #[.int .i64 c] w λe w'=>∃g,e=.returned (.pointer (some ⟨g,0,none⟩))/\Hold B w0 w' (star (dsk g (newN c) (λ_=>noB) [] false) R):=by
 refine(e8a c w).mono ?_;rintro e w' ⟨g,rfl,F,h1,h2,h3⟩;exact⟨g,rfl,Hold.new hR h h2 (G:=F) h1 h3⟩
theorem d4l {B:Nat}{w0 w:World}{R:Asn}(hR:Firm R)(h:Hold B w0 w R)(c:Int):Calls prog 69 #[.int .i64 c] w λe w'=>∃g,e=.returned (.pointer (some ⟨g,0,none⟩))/\Hold B w0 w' (star (rf g (newN c) (λ_=>noB) [] false) R):=by
 refine(d2c c w).mono ?_;rintro e w' ⟨g,rfl,F,h1,h2,h3⟩;exact⟨g,rfl,Hold.new hR h h2 (G:=F) h1 h3⟩
theorem TextsAt.cut {w:World}{a:Option Addr}{m c:Nat}{f:Nat->BA}(h:TextsAt w (.slice a m c) m f)(j:Nat)(hj:j<=m):TextsAt w (.slice a j c) j f:=by
 obtain⟨a',cap,e,h0,h1⟩:=h
 cases e
 refine⟨a,c,rfl,by omega,?_⟩;rcases h1 with h1|⟨b,o,rfl,hl,hc⟩
 ·exact .inl (by omega)
 ·exact .inr ⟨b,o,rfl,hl,λi hi=>hc i (by omega)⟩
end Go.Proofs.YtokknmkleceooaaGreatDoor
