import Derived.Test.YtokknmkleceooaaGreatDoorBaseM
import Derived.RangeFuncNested
import Derived.RangeFuncBound
import Derived.RangeFuncCalls
import Derived.RangeFuncLeaves
import Derived.Shelf.Abstract
import Derived.Shelf.RegionOpen
import Derived.WalkKit
import Derived.OwnWalkIn
import Derived.TacticsInMore
import Derived.LoopNIn
import Derived.LoopIn
import Derived.Test.YtokknmkleceooaaGreatDoorShaM
import Derived.Test.YtokknmkleceooaaGreatDoorDkM
namespace Go.Proofs.YtokknmkleceooaaGreatDoor
set_option linter.unusedVariables false
set_option maxRecDepth 20000
set_option maxHeartbeats 8000000
open Go.Proofs.Tryz
open Go.RowKit Go.PlainAid Go.Shelf
theorem Kept.put (W:World)(l:Nat)(o:Obj):Kept (λk=>k=l) W (W.putObj l o):=
 (Kept.refl _ W).grown (grownBy_putObj' W l o) (λk e=>.inl (by cases e;rfl))
theorem Kept.block' {F:Nat->Prop}{A B:World}(h:Kept F A B){k:Nat}{o:Obj}(hk:A.heap[k]?=some o)(hn:¬F k):B.heap[k]?=some o:=
 (h.block k (Array.getElem?_eq_some_iff.1 hk).1 hn).trans hk
def e4h (MM:Nat->Prop)(I:Nat->World->Prop)(Ix:Code->Nat->World->Prop)(k:Nat)(W:World):Exit->Act->World->Prop
 |.normal,_,W'=>Kept MM W W'/\I k W'
 |.ret,_,W'=>Kept MM W W'/\Ix .ret k W'
 |.exit d,_,W'=>Kept MM W W'/\Ix (.exit d) k W'
 |.goto t,_,W'=>Kept MM W W'/\Ix (.goto t) k W'
 |_,_,_=>False
def Iter (P:Program)(n:Nat)(g:Nat)(lb:Array Value)(enc:Nat->Array Value)(N:Nat)(w:World)(c:Nat)(MM:Nat->Prop):Prop:=
 ∀(J Jx:Nat->World->Prop) (W:World),Below w.heap.size w W->W.heap.size=w.heap.size+2->
  (∀s A B,J s A->Kept (λk=>w.heap.size+2<=k/\k<w.heap.size+2+c) A B->J s B)->
  (∀s A B,Jx s A->Kept (λk=>w.heap.size+2<=k/\k<w.heap.size+2+c) A B->Jx s B)->
  (∀k W1,k<N->J k W1->w.heap.size+2+c<=W1.heap.size->YieldAt Fence.wide (n-1) P (w.heap.size+1) (enc k) W1 λe W'=>
   Kept (λk=>k=w.heap.size+1\/MM k) W1 W'/\((e=.returned (.bool true)/\J (k+1) W')\/(e=.returned (.bool false)/\Jx (k+1) W')))->
  J 0 W->
  CallsIn Fence.wide n P g (#[.func (.yield (w.heap.size+1)) #[] #[]]++lb) W λe W'=>(∃v,e=.returned v)/\(J N W'\/∃k,k<=N/\Jx k W')
theorem a9f {P:Program}{n:Nat}{g:Operand}{ps:Array Tmp}{assign body:Code}{Q:Exit->Act->World->Prop}{a:Act}{w:World}{gf:Nat}{lb:Array Value}
 (hg:a.eval g=.func (.func gf) #[] lb)(eg:Enters P gf)
 {enc:Nat->Array Value}{c:Nat}{MM:Nat->Prop}{N:Nat}(hit:Iter P (n-1) gf lb enc N w c MM)
 (hMM:∀k,MM k->k<w.heap.size\/w.heap.size+2+c<=k)(kT:∀k,(enc k).size=ps.size)
 (I:Nat->World->Prop)(Ix:Code->Nat->World->Prop)
 (hI:∀s A B,I s A->Kept (λk=>w.heap.size<=k/\k<w.heap.size+2+c) A B->I s B)
 (hIx:∀d s A B,Ix d s A->Kept (λk=>w.heap.size<=k/\k<w.heap.size+2+c) A B->Ix d s B)
 (h0:I 0 w)(Ax:Nat->Act->World->Prop)(qN:∀x a' A B,Ax x a' A->Kept (λk=>k=w.heap.size+1) A B->Ax x a' B)
 (gO:∀(k:Nat) (W:World) (K:Act->World->Prop),k<N->I k W->w.heap.size+2+c<=W.heap.size->(∀a' W',Kept (λ_=>False) W W'->Ax k a' W'->K a' W')->
  assign.wpIn (Fence.wide.inRound (w.heap.size+1)) (n-1-1) P (Exit.then K (λ_ _ _=>False)) {tmps:=(ps.zip (enc k)).foldl (λt (p,v)=>t.setIfInBounds p v) a.tmps,defers:=[]} W)
 (oD:∀(k:Nat) (a':Act) (W:World),k<N->I k W->Ax k a' W->w.heap.size+2+c<=W.heap.size->
  body.wpIn (Fence.wide.inRound (w.heap.size+1)) (n-1-1) P (e4h MM I Ix (k+1) W) a' W)
 (nX:∀W,I N W->W.heap[w.heap.size]?=some (.deferred (some []))->Q .normal {a with defers:={target:=.collected w.heap.size,args:=#[]}::a.defers} W)
 (nD:∀d k W,k<=N->Ix d k W->W.heap[w.heap.size]?=some (.deferred (some []))->d.wpIn Fence.wide n P Q {a with defers:={target:=.collected w.heap.size,args:=#[]}::a.defers} W):
 (Code.rangeFunc g ps assign body).wpIn Fence.wide n P Q a w:=by
 refine wpIn_rangeFunc λfn sR=>?_;generalize hB:w.heap.size=B at hit hMM hI hIx qN gO oD nX nD
 let rec':LoopState->Option Code->Loop:=λst pe=>{state:=st,pending:=pe,fn:=fn,tmps:=a.tmps,params:=ps,assign:=assign,body:=body,defers:=B}
 let W1:=(w.alloc (.deferred (some []))).alloc (.loop (rec' .ready none))
 have hz1:W1.heap.size=B+2:=by show((w.alloc _).alloc _).heap.size=_;rw[World.size_alloc,World.size_alloc,hB]
 have hk1:Kept (λ_=>False) w W1:=((Kept.refl _ w).alloc _).alloc _;have hr1:W1.heap[B+1]?=some (.loop (rec' .ready none)):=by
  have h:=World.alloc_heap_new (w.alloc (.deferred (some []))) (.loop (rec' .ready none));rw[World.size_alloc,hB]at h;exact h
 have hd1:W1.heap[B]?=some (.deferred (some [])):=by
  have h:=World.alloc_heap_new w (.deferred (some []));rw[hB]at h;exact(Below.heap_alloc _ _ _ (by rw[World.size_alloc,hB];omega)).trans h
 have hb1:Below w.heap.size w W1:=((qw _ w).alloc (ql _) _).alloc (by rw[World.size_alloc];omega) _;refine⟨B+1,[{target:=.collected B,args:=#[]}],W1,{target:=.fn (.func gf) lb,args:=#[.func (.yield (B+1)) #[] #[]]},W1,gf,#[.func (.yield (B+1)) #[] #[]]++lb,W1,?_,?_,?_,?_,?_,?_⟩
 ·have h:=run_enterLoop_outer (P:=P) (w:=w) fn a.tmps ps assign body;rw[hB]at h;exact h
 ·simp only[resolve,hg];simp[go_sem]
 ·intro f _;exact trivial
 ·simp[invoke,go_sem];exact eg _ _
 ·intro h;cases h
 unfold Iter at hit;rw[hB]at hit hb1;refine(hit (λpre W=>I pre W/\W.heap[B+1]?=some (.loop (rec' .ready none))/\W.heap[B]?=some (.deferred (some [])))
  (λpre W=>∃d,Ix d pre W/\W.heap[B+1]?=some (.loop (rec' .done (some d)))/\W.heap[B]?=some (.deferred (some [])))
  W1 hb1 hz1 ?_ ?_ ?_ ⟨hI _ _ _ h0 (hk1.mono λ_ _ h=>h.elim),hr1,hd1⟩).mono ?_
 ·rintro s A C ⟨h1,h2,h3⟩ hk;exact⟨hI _ _ _ h1 (hk.mono λk _ h=>⟨by omega,h.2⟩),hk.block' h2 (by omega),hk.block' h3 (by omega)⟩
 ·rintro s A C ⟨d,h1,h2,h3⟩ hk;exact⟨d,hIx _ _ _ _ h1 (hk.mono λk _ h=>⟨by omega,h.2⟩),hk.block' h2 (by omega),hk.block' h3 (by omega)⟩
 ·rintro k W hl ⟨h1,h2,h3⟩ hs;refine⟨fn,_,assign,body,run_yield h2 (kT k),roundIn_of_wpIn sR (gO k W _ hl h1 hs λa' Wa cP hax=>?_)⟩;have h2a:=cP.block' h2 (λh=>h);have h3a:=cP.block' h3 (λh=>h);refine⟨_,run_beginRound h2a rfl,?_⟩
  let Wb:=Wa.putObj (B+1) (.loop {rec' .ready none with state:=.busy})
  have qJ:Kept (λk=>k=B+1) Wa Wb:=Kept.put _ _ _;have h2b:Wb.heap[B+1]?=some (.loop {rec' .ready none with state:=.busy}):=World.putObj_heap_same (Array.getElem?_eq_some_iff.1 h2a).1;have h3b:Wb.heap[B]?=some (.deferred (some [])):=qJ.block' h3a (by omega);have h1b:I k Wb:=hI _ _ _ (hI _ _ _ h1 (cP.mono λ_ _ h=>h.elim)) (qJ.mono λk _ h=>⟨by omega,by omega⟩);have hk0:Kept (λk=>k=B+1\/MM k) W Wb:=(cP.mono λ_ _ h=>h.elim).trans qJ (λi h=>.inl (.inl h));have y8:∀(j:Option Code) (W3:World),Kept MM Wb W3->∃W4,(Instr.endRound (B+1) j).run P W3=.ok (.bool j.isNone) W4/\Kept (λk=>k=B+1) W3 W4/\Kept (λk=>k=B+1\/MM k) W W4/\
   W4.heap[B+1]?=some (.loop (rec' (if j.isNone then .ready else .done) j))/\W4.heap[B]?=some (.deferred (some [])):=by
   intro j W3 hk3;have hn:∀k,B<=k->k<B+2->¬MM k:=λk h1 h2 hm=>(by rcases hMM k hm with h|h<;>omega);have h2c:=hk3.block' h2b (hn _ (by omega) (by omega));have h3c:=hk3.block' h3b (hn _ (by omega) (by omega));refine⟨_,run_endRound j h2c,Kept.put _ _ _,?_,World.putObj_heap_same (Array.getElem?_eq_some_iff.1 h2c).1,(Kept.put W3 (B+1) _).block' h3c (by omega)⟩;exact(hk0.trans hk3 (λi h=>.inl (.inr h))).trans (Kept.put W3 (B+1) _) (λi h=>.inl (.inl h))
  refine wpIn_mono (oD k a' Wb hl h1b (qN _ _ _ _ hax qJ) (Nat.le_trans hs hk0.size)) ?_;intro e a3 W3 hp
  match e,hp with
  |.normal,hp=>
   obtain⟨W4,q1,q2,q3,q4,q5⟩:=y8 none W3 hp.1;exact⟨_,W4,q1,q3,.inl ⟨rfl,hI _ _ _ hp.2 (q2.mono λk _ h=>⟨by omega,by omega⟩),q4,q5⟩⟩
  |.ret,hp=>
   obtain⟨W4,q1,q2,q3,q4,q5⟩:=y8 (some .ret) W3 hp.1;exact⟨_,W4,q1,q3,.inr ⟨rfl,.ret,hIx _ _ _ _ hp.2 (q2.mono λk _ h=>⟨by omega,by omega⟩),q4,q5⟩⟩
  |.exit d,hp=>
   obtain⟨W4,q1,q2,q3,q4,q5⟩:=y8 (some (.exit d)) W3 hp.1;exact⟨_,W4,q1,q3,.inr ⟨rfl,.exit d,hIx _ _ _ _ hp.2 (q2.mono λk _ h=>⟨by omega,by omega⟩),q4,q5⟩⟩
  |.goto t,hp=>
   obtain⟨W4,q1,q2,q3,q4,q5⟩:=y8 (some (.goto t)) W3 hp.1;exact⟨_,W4,q1,q3,.inr ⟨rfl,.goto t,hIx _ _ _ _ hp.2 (q2.mono λk _ h=>⟨by omega,by omega⟩),q4,q5⟩⟩
  |.panic _,hp=>exact hp.elim
  |.outgrown,hp=>exact hp.elim
 ·rintro e W2 ⟨⟨v,rfl⟩,(⟨h1,h2,h3⟩|⟨k,hS,d,h1,h2,h3⟩)⟩
  ·exact⟨none,_,run_endLoop h2 (by intro h;cases h),nX _ (hI _ _ _ h1 ((Kept.put _ _ _).mono λk _ h=>⟨by omega,by omega⟩)) ((Kept.put W2 (B+1) _).block' h3 (by omega))⟩
  ·exact⟨some d,_,run_endLoop h2 (by intro h;cases h),nD d k _ hS (hIx _ _ _ _ h1 ((Kept.put _ _ _).mono λk _ h=>⟨by omega,by omega⟩)) ((Kept.put W2 (B+1) _).block' h3 (by omega))⟩
def Onward (K:Act->World->Prop):Exit->Act->World->Prop
 |.normal,a,w=>K a w
 |_,_,_=>False
theorem Onward.mk {K:Act->World->Prop}{a:Act}{w:World}(h:K a w):Onward K .normal a w:=h
theorem Onward.shut {K:Act->World->Prop}:¬LetsOut (Onward K):=λ⟨_,_,h⟩=>h
section
variable {P:Program}{ops:Array Oper}{l n:Nat}{T:Act->World->Prop}
def c3m (ops:Array Oper):Bool:=ops.all λo=>match o.op with|.defer _=>false|_=>true
theorem c8z (h:c3m ops=true){i:Nat}{o:Oper}(ho:ops[i]?=some o):∀c,o.op≠.defer c:=by
 intro c e;have:=Array.all_eq_true'.1 h o (Array.mem_of_getElem? ho);rw[e]at this
 cases this
theorem b9p {o:Oper}{a:Act}{w:World}{K:Act->World->Prop}(hd:∀c,o.op≠.defer c)(h:o.wp P a w K (Onward T)):o.wpIn (Fence.wide.inRound l) n P a w K (Onward T):=by
 unfold Oper.wp at h;unfold Oper.wpIn;refine⟨λ_ _=>trivial,?_⟩;rw[Fence.inRound_round,Oper.semAt_some _ _ _ hd];generalize(execOp a.eval o).run P w=r at h⊢
 cases r with
 |ok x w'=>
  cases x with
  |value v=>exact h
  |skip=>exact h
  |defer d=>exact h
  |enter f args=>
   refine⟨λe=>(by cases e),CallsIn.inRound l (callsIn_wide.2 (Calls.mono h ?_))⟩;intro e w'' he
   cases e<;>exact he
  |row r args=>
   refine⟨λe=>(by cases e),λc cs _=>?_⟩;obtain⟨v,w'',hr,hs⟩:=h c cs;exact⟨v,w'',hr,stepsIn_wide.2 hs⟩
  |_=>exact h.elim
 |halt x w'=>
  cases x with
  |panic v=>exact h
  |_=>exact h.elim
theorem c4t (hd:c3m ops=true)(fuel:Nat):∀(L:Array Bool) (a:Act) (w:World),wpAny P .any ops (Onward T) fuel L a w->wpAnyIn (Fence.wide.inRound l) n P .any ops (Onward T) fuel L a w:=by
 induction fuel with
 |zero=>exact λ_ _ _ h=>h
 |succ fuel ih=>
  intro L a w h;refine⟨h.1,λi hi=>?_⟩;have h2:=h.2 i hi;unfold wpOp at h2;unfold wpOpIn
  cases ho:ops[i]? with
  |none=>rw[ho]at h2;exact ih _ _ _ h2
  |some o=>
   rw[ho]at h2;dsimp only at h2⊢;by_cases hw:Region.wanted o (yielded ops a.tmps)=true
   ·rw[qp hw]at h2⊢;rcases h2 with h2|h2
    ·exact Oper.wpIn_mono (λa w=>ih _ a w) (b9p (c8z hd ho) h2)
    ·exact absurd h2.2 Onward.shut
   ·rw[qn hw]at h2⊢;exact⟨λ_ _=>trivial,ih _ _ _ h2⟩
theorem a5g {id:Nat}{Q:Exit->Act->World->Prop}{a:Act}{w:World}(hm:P.follows .mixedOrders=true)(hd:c3m ops=true){S:World->Prop}(hS:S w.drew)
 (h:S w.drew->wpAnyH P .any ops (Onward (Q .normal)) S ops.size (Array.replicate ops.size false) a w.drew):(Code.region id ops true).wpIn (Fence.wide.inRound l) n P Q a w:=
 wpIn_mono (wpIn_region_any hm (c4t hd _ _ _ _ (wpAny_of_held _ _ _ _ (h hS)))) (λe a w he=>by cases e<;>first|exact he|exact he.elim)
end
open Go.RowKit Go.PlainAid
def nd (d s k:Nat):Nat:=(2^d+s)/2^(d-k)
def sd (d s k:Nat):Nat:=s/(2^(d-k)/2)%2
theorem b6e (d s k:Nat):sd d s k<2:=Nat.mod_lt _ (by decide)
theorem b8r (d k:Nat)(hk:k<d):2^(d-k)=2*2^(d-(k+1)):=by
 rw[show d-k=(d-(k+1))+1 by omega,Nat.pow_succ,Nat.mul_comm]
theorem b2h (d k:Nat)(hk:k<d):2^(d-k)/2=2^(d-(k+1)):=by rw[b8r d k hk];omega
theorem a4l (n:Nat):1<=2^n:=Nat.one_le_two_pow
theorem b7a (d s:Nat)(hs:s<2^d):nd d s 0=1:=by
 unfold nd;rw[Nat.sub_zero];exact Nat.div_eq_of_lt_le (by omega) (by omega)
theorem b3t (d s:Nat):nd d s d=2^d+s:=by unfold nd;rw[Nat.sub_self,Nat.pow_zero,Nat.div_one]
theorem a8i (d s k:Nat)(hk:k<d):nd d s (k+1)=2*nd d s k+sd d s k:=by
 unfold nd sd;rw[b2h d k hk,b8r d k hk];have hm:=a4l (d-(k+1));have he:2^d=2^(d-(k+1))*(2*2^k):=by
  rw[show 2*2^k=2^(k+1) by rw[Nat.pow_succ,Nat.mul_comm],<-Nat.pow_add];congr 1;omega
 generalize 2^(d-(k+1))=m at hm he⊢;rw[he,Nat.mul_comm 2 m,<-Nat.div_div_eq_div_mul,Nat.add_comm (m*_) s,Nat.add_mul_div_left _ _ (by omega)];generalize 2^k=q;omega
theorem e5c (d s k:Nat)(hk:k<d):nd d s (k+1)/2=nd d s k:=by
 rw[a8i d s k hk];have:=b6e d s k;omega
theorem b5m (d s k:Nat)(hk:k<=d):2^k<=nd d s k:=by
 unfold nd;have hm:=a4l (d-k);rw[Nat.le_div_iff_mul_le (by omega),<-Nat.pow_add,show k+(d-k)=d by omega];omega
theorem c3n (d s k:Nat)(hk:k<=d)(hs:s<2^d):nd d s k<2*2^k:=by
 unfold nd;have hm:=a4l (d-k);rw[Nat.div_lt_iff_lt_mul (by omega)];rw[Nat.mul_assoc,<-Nat.pow_add,show k+(d-k)=d by omega];omega
theorem a1f (d:Nat)(hd:d<=4):2^d<=16:=Nat.pow_le_pow_right (by decide:0<2) hd
theorem a3k {a b:Nat}(h:a<=b):2^a<=2^b:=Nat.pow_le_pow_right (by decide:0<2) h
theorem a2u (d s k:Nat)(hk:k<d)(hs:s<2^d):1<=nd d s k/\nd d s k<2^d:=by
 have h1:=b5m d s k (by omega);have h2:=c3n d s k (by omega) hs;have h3:=a4l k;have h4:2^(k+1)<=2^d:=a3k hk;rw[Nat.pow_succ]at h4;omega
def nH (p:BA):BA:=a3p (⟨#[1]⟩++p)
theorem d3i (p:BA):(nH p).size=32:=b4b _
def half (b:Nat)(q:BA):BA:=if b=0 then q.extract 0 32 else q.extract 32 64
def b1p (q:BA)(b:Nat)(x:BA):BA:=if b=0 then x++q.extract 32 q.size else q.extract 0 32++x
theorem c7g (q:BA)(b:Nat)(x:BA)(h:q.size=64)(hx:x.size=32):(b1p q b x).size=64:=by
 unfold b1p;split<;>rw[ByteArray.size_append,ByteArray.size_extract]<;>omega
def fol (d s:Nat)(p:Nat->BA)(top:BA):Nat->Option BA
 |0=>some top
 |k+1=>match fol d s p top k with
  |none=>none
  |some t=>if(p k).size=64/\nH (p k)=t then some (half (sd d s k) (p k))else none
theorem c6e {d s:Nat}{p:Nat->BA}{top:BA}{k:Nat}(h:fol d s p top k=none)(m:Nat):fol d s p top (k+m)=none:=by
 induction m with
 |zero=>exact h
 |succ m ih=>rw[<-Nat.add_assoc];simp only[fol,ih]
theorem a9t {d s:Nat}{p:Nat->BA}{top:BA}{k n:Nat}(h:fol d s p top k=none)(hk:k<=n):fol d s p top n=none:=by
 have:=c6e h (n-k);rwa[show k+(n-k)=n by omega]at this
theorem b7o {d s:Nat}{p:Nat->BA}{top t:BA}{k:Nat}(h:fol d s p top k=some t)(h1:(p k).size=64)(h2:nH (p k)=t):fol d s p top (k+1)=some (half (sd d s k) (p k)):=by
 simp only[fol,h];rw[qp ⟨h1,h2⟩]
theorem c0i {d s:Nat}{p:Nat->BA}{top t:BA}{k:Nat}(h:fol d s p top k=some t)(h1:¬((p k).size=64/\nH (p k)=t)):fol d s p top (k+1)=none:=by
 simp only[fol,h];rw[qn h1]
theorem d4v {d s:Nat}{p:Nat->BA}{top t:BA}{k:Nat}(h:fol d s p top (k+1)=some t):(p k).size=64/\fol d s p top k=some (nH (p k))/\t=half (sd d s k) (p k):=by
 cases e:fol d s p top k with
 |none=>rw[show fol d s p top (k+1)=none from c6e e 1]at h;cases h
 |some u=>
  by_cases hc:(p k).size=64/\nH (p k)=u
  ·rw[b7o e hc.1 hc.2]at h;exact⟨hc.1,by rw[hc.2],(Option.some.inj h).symm⟩
  ·rw[c0i e hc]at h;cases h
def okS (n:Nat)(s:Int):Prop:=1<=n/\n<=4/\0<=s/\s<((2^n:Nat):Int)
instance (n:Nat)(s:Int):Decidable (okS n s):=by unfold okS;infer_instance
def folS (n:Nat)(s:Int)(p:Nat->BA)(top:BA):BA:=if okS n s then(fol n s.toNat p top n).getD noB else noB
def oE:Option BA->Int
 |some _=>0
 |none=>22
def folE (n:Nat)(s:Int)(p:Nat->BA)(top:BA):Int:=if okS n s then oE (fol n s.toNat p top n)else 2
def cur (d s:Nat)(p:Nat->BA)(x:BA):Nat->BA
 |0=>x
 |j+1=>nH (b1p (p (d-1-j)) (sd d s (d-1-j)) (cur d s p x j))
def neu (d s:Nat)(p:Nat->BA)(x:BA)(k:Nat):BA:=b1p (p k) (sd d s k) (cur d s p x (d-1-k))
theorem c6l (d s:Nat)(p:Nat->BA)(x:BA)(j:Nat)(hj:j<d):cur d s p x (j+1)=nH (neu d s p x (d-1-j)):=by
 unfold neu;rw[show d-1-(d-1-j)=j by omega];rfl
theorem c6m (d s:Nat)(p:Nat->BA)(x:BA)(hx:x.size=32)(j:Nat):(cur d s p x j).size=32:=by
 cases j with
 |zero=>exact hx
 |succ j=>exact d3i _
theorem c5p (d s:Nat)(p:Nat->BA)(x:BA)(hx:x.size=32)(k:Nat)(hp:(p k).size=64):(neu d s p x k).size=64:=c7g _ _ _ hp (c6m _ _ _ _ hx _)
def tnt (D:Nat->BA)(n:Nat):Nat->Nat->BA
 |0,i=>D (i-n)
 |f+1,i=>if n<=i then D (i-n)else nH (tnt D n f (2*i)++tnt D n f (2*i+1))
theorem d3c (D:Nat->BA)(n f i:Nat)(h:n<=i*2^f):tnt D n (f+1) i=tnt D n f i:=by
 induction f generalizing i with
 |zero=>rw[Nat.pow_zero,Nat.mul_one]at h;simp only[tnt];rw[qp h]
 |succ f ih=>
  have h1:n<=2*i*2^f:=by rw[Nat.pow_succ]at h;rw[Nat.mul_comm 2 i,Nat.mul_assoc,Nat.mul_comm 2];exact h
  have h2:n<=(2*i+1)*2^f:=Nat.le_trans h1 (Nat.mul_le_mul_right _ (by omega));have e:tnt D n (f+1+1) i=if n<=i then D (i-n)else nH (tnt D n (f+1) (2*i)++tnt D n (f+1) (2*i+1)):=rfl;rw[e,ih _ h1,ih _ h2];rfl
def tdg (D:Nat->BA)(n i:Nat):BA:=tnt D n 5 i
def tpr (D:Nat->BA)(n i:Nat):BA:=tdg D n (2*i)++tdg D n (2*i+1)
theorem b4c (D:Nat->BA)(n i:Nat)(h:n<=i):tdg D n i=D (i-n):=by unfold tdg;simp only[tnt];rw[qp h]
theorem a9y (D:Nat->BA)(n i:Nat)(hn:n<=16)(h1:1<=i)(h:i<n):tdg D n i=nH (tpr D n i):=by
 have e:tdg D n i=nH (tnt D n 4 (2*i)++tnt D n 4 (2*i+1)):=by
  unfold tdg;show(if n<=i then D (i-n)else nH (tnt D n 4 (2*i)++tnt D n 4 (2*i+1)))=_;rw[qn (by omega)]
 rw[e];unfold tpr tdg;rw[d3c D n 4 (2*i) (by omega),d3c D n 4 (2*i+1) (by omega)]
theorem a6x (D:Nat->BA)(n i:Nat)(hn:n<=16)(h1:1<=i)(hi:i<2*n)(hD:∀j,j<n->(D j).size=32):(tdg D n i).size=32:=by
 rcases Nat.lt_or_ge i n with h|h
 ·rw[a9y D n i hn h1 h];exact d3i _
 ·rw[b4c D n i h];exact hD _ (by omega)
theorem d2l (D:Nat->BA)(n i:Nat)(hn:n<=16)(h1:1<=i)(hi:i<n)(hD:∀j,j<n->(D j).size=32):(tpr D n i).size=64:=by
 unfold tpr;rw[ByteArray.size_append,a6x D n _ hn (by omega) (by omega) hD,a6x D n _ hn (by omega) (by omega) hD]
theorem b8s (a b:BA)(n:Nat)(h:a.size=n):(a++b).extract 0 n=a:=by
 apply a2q
 ·rw[ByteArray.size_extract,ByteArray.size_append];omega
 ·intro i hi;rw[ByteArray.size_extract,ByteArray.size_append]at hi;rw[b7v _ _ _ (by omega) (by rw[ByteArray.size_append];omega),a1q _ _ _ (by omega)]
theorem b5c (a b:BA)(n m:Nat)(h:a.size=n)(hm:m=n+b.size):(a++b).extract n m=b:=by
 apply a2q
 ·rw[ByteArray.size_extract,ByteArray.size_append];omega
 ·intro i hi;rw[ByteArray.size_extract,ByteArray.size_append]at hi;rw[a2w _ n m i (by rw[ByteArray.size_append];omega) (by omega),a1o _ _ _ (by omega)];congr 1;omega
theorem d4i (D:Nat->BA)(n i b:Nat)(hn:n<=16)(h1:1<=i)(hi:i<n)(hb:b<2)(hD:∀j,j<n->(D j).size=32):half b (tpr D n i)=tdg D n (2*i+b):=by
 have s1:=a6x D n (2*i) hn (by omega) (by omega) hD;have s2:=a6x D n (2*i+1) hn (by omega) (by omega) hD;unfold half tpr;have hb':b=0\/b=1:=by omega
 rcases hb' with rfl|rfl
 ·rw[qp rfl,Nat.add_zero];exact b8s _ _ _ s1
 ·rw[qn (by decide)];exact b5c _ _ _ _ s1 (by rw[s2])
theorem d8r (D D':Nat->BA)(n s f i:Nat)(hD:∀j,j≠s->D' j=D j)(hf:n<=i*2^f)(hi:∀j,(n+s)/2^j≠i):tnt D' n f i=tnt D n f i:=by
 have leaf:n<=i->D' (i-n)=D (i-n):=λh=>hD _ (λe=>hi 0 (by rw[Nat.pow_zero,Nat.div_one];omega))
 induction f generalizing i with
 |zero=>rw[Nat.pow_zero,Nat.mul_one]at hf;exact leaf hf
 |succ f ih=>
  have up:∀c,c/2=i->∀j,(n+s)/2^j≠c:=λc hc j e=>hi (j+1) (by rw[Nat.pow_succ,<-Nat.div_div_eq_div_mul,e,hc]);have h1:n<=2*i*2^f:=by rw[Nat.pow_succ]at hf;rw[Nat.mul_comm 2 i,Nat.mul_assoc,Nat.mul_comm 2];exact hf
  have h2:n<=(2*i+1)*2^f:=Nat.le_trans h1 (Nat.mul_le_mul_right _ (by omega));simp only[tnt]
  split
  ·rename_i h;exact leaf h
  ·have lf:∀c,c/2=i->n<=c->D' (c-n)=D (c-n):=λc hc h=>hD _ (λe=>up c hc 0 (by rw[Nat.pow_zero,Nat.div_one];omega));rw[ih (2*i) h1 (up _ (by omega)) (lf _ (by omega)),ih (2*i+1) h2 (up _ (by omega)) (lf _ (by omega))]
theorem b2k (D D':Nat->BA)(n s i:Nat)(hn:n<=16)(h1:1<=i)(hD:∀j,j≠s->D' j=D j)(hi:∀j,(n+s)/2^j≠i):tdg D' n i=tdg D n i:=d8r D D' n s 5 i hD (by omega) hi
theorem d2u (d s i:Nat)(hs:s<2^d)(h1:1<=i)(j:Nat)(h:(2^d+s)/2^j=i):∃k,k<=d/\i=nd d s k/\k+j=d:=by
 rcases Nat.lt_or_ge d j with hj|hj
 ·have h2:2^(d+1)<=2^j:=a3k hj;rw[Nat.pow_succ]at h2;rw[Nat.div_eq_of_lt (by omega)]at h;omega
 ·exact⟨d-j,by omega,by unfold nd;rw[show d-(d-j)=j by omega];exact h.symm,by omega⟩
theorem e8c (d s k m:Nat)(hs:s<2^d)(hk:k<=d)(hm:m<=d)(h:k≠m):nd d s k≠nd d s m:=by
 have a1:=b5m d s k hk;have a2:=c3n d s k hk hs;have b1:=b5m d s m hm;have b2:=c3n d s m hm hs;rcases Nat.lt_or_gt_of_ne h with h|h
 ·have:2^(k+1)<=2^m:=a3k h;rw[Nat.pow_succ]at this;omega
 ·have:2^(m+1)<=2^k:=a3k h;rw[Nat.pow_succ]at this;omega
theorem d1i (d s k:Nat)(hs:s<2^d)(hk:k<d)(j:Nat):(2^d+s)/2^j≠2*nd d s k+(1-sd d s k):=by
 intro h;have h1:=(a2u d s k hk hs).1;obtain⟨m,hm,he,_⟩:=d2u d s _ hs (by omega) j h;have hb:=b6e d s k;have hn:=a8i d s k hk;by_cases e:m=k+1
 ·rw[e,hn]at he;omega
 ·have a1:=b5m d s m hm;have a2:=c3n d s m hm hs;have b1:=b5m d s (k+1) hk;have b2:=c3n d s (k+1) hk hs;have c1:=b5m d s k (by omega);have c2:=c3n d s k (by omega) hs;rw[Nat.pow_succ]at b1 b2;rcases Nat.lt_or_gt_of_ne e with h|h
  ·have:2^m<=2^k:=a3k (by omega);omega
  ·have:2^(k+1+1)<=2^m:=a3k h;rw[Nat.pow_succ,Nat.pow_succ]at this;omega
theorem e9k (D D':Nat->BA)(d s:Nat)(p:Nat->BA)(hd:d<=4)(hs:s<2^d)(hD:∀j,j≠s->D' j=D j)(hz:∀j,j<2^d->(D j).size=32)(hp:∀k,k<d->p k=tpr D (2^d) (nd d s k))(j:Nat)(hj:j<=d):
 cur d s p (D' s) j=tdg D' (2^d) (nd d s (d-j))/\∀k,d-j<=k->k<d->neu d s p (D' s) k=tpr D' (2^d) (nd d s k):=by
 have h16:=a1f d hd
 induction j with
 |zero=>
  refine⟨?_,λk h1 h2=>by omega⟩;rw[Nat.sub_zero,b3t,b4c _ _ _ (by omega),show 2^d+s-2^d=s by omega];rfl
 |succ j ih=>
  obtain⟨h1,h2⟩:=ih (by omega);have hk:d-(j+1)<d:=by omega
  have aX:=a2u d s (d-(j+1)) hk hs;have key:neu d s p (D' s) (d-(j+1))=tpr D' (2^d) (nd d s (d-(j+1))):=by
   unfold neu;rw[show d-1-(d-(j+1))=j by omega,h1,hp _ hk,show d-j=d-(j+1)+1 by omega,a8i d s _ hk];have lK:=d1i d s (d-(j+1)) hs hk;have hb:=b6e d s (d-(j+1));generalize sd d s (d-(j+1))=b at lK hb⊢;generalize nd d s (d-(j+1))=i at aX lK⊢;have s1:=a6x D (2^d) (2*i) h16 (by omega) (by omega) hz;have s2:=a6x D (2^d) (2*i+1) h16 (by omega) (by omega) hz;have hb':b=0\/b=1:=(by omega);rcases hb' with rfl|rfl
   ·unfold b1p tpr;rw[qp rfl,Nat.add_zero,b5c _ _ _ _ s1 (by rw[ByteArray.size_append,s1]),b2k D D' _ s (2*i+1) h16 (by omega) hD lK]
   ·unfold b1p tpr;rw[qn (by decide),b8s _ _ _ s1,<-b2k D D' _ s (2*i) h16 (by omega) hD lK]
  refine⟨?_,λk k1 k2=>?_⟩
  ·rw[c6l d s p (D' s) j (by omega),show d-1-j=d-(j+1) by omega,key,a9y D' _ _ h16 aX.1 aX.2]
  ·by_cases e:k=d-(j+1)
   ·rw[e];exact key
   ·exact h2 k (by omega) k2
theorem e8b (D D':Nat->BA)(d s:Nat)(p:Nat->BA)(hd:d<=4)(hs:s<2^d)(hD:∀j,j≠s->D' j=D j)(hz:∀j,j<2^d->(D j).size=32)(hp:∀k,k<d->p k=tpr D (2^d) (nd d s k)):
 (∀k,k<d->neu d s p (D' s) k=tpr D' (2^d) (nd d s k))/\cur d s p (D' s) d=tdg D' (2^d) 1:=by
 obtain⟨h1,h2⟩:=e9k D D' d s p hd hs hD hz hp d (ql _);rw[Nat.sub_self,b7a d s hs]at h1;exact⟨λk hk=>h2 k (by omega) hk,h1⟩
theorem d8f (D D':Nat->BA)(d s i:Nat)(hd:d<=4)(hs:s<2^d)(hD:∀j,j≠s->D' j=D j)(h1:1<=i)(hi:i<2^d)(y6:∀k,k<d->i≠nd d s k):tpr D' (2^d) i=tpr D (2^d) i:=by
 have h16:=a1f d hd;have up:∀c,c/2=i->∀j,(2^d+s)/2^j≠c:=λc hc j e=>by
  have e2:(2^d+s)/2^(j+1)=i:=by rw[Nat.pow_succ,<-Nat.div_div_eq_div_mul,e,hc]
  obtain⟨k,hk,he,hj⟩:=d2u d s i hs h1 _ e2;exact y6 k (by omega) he
 unfold tpr;rw[b2k D D' _ s (2*i) h16 (by omega) hD (up _ (by omega)),b2k D D' _ s (2*i+1) h16 (by omega) hD (up _ (by omega))]
theorem d4w (D:Nat->BA)(d s:Nat)(p:Nat->BA)(hd:d<=4)(hs:s<2^d)(hz:∀j,j<2^d->(D j).size=32)(hp:∀k,k<d->p k=tpr D (2^d) (nd d s k))(k:Nat)(hk:k<=d):
 fol d s p (tdg D (2^d) 1) k=some (tdg D (2^d) (nd d s k)):=by
 have h16:=a1f d hd
 induction k with
 |zero=>rw[b7a d s hs];rfl
 |succ k ih=>
  have aX:=a2u d s k hk hs;rw[b7o (ih (by omega)) (by rw[hp k hk];exact d2l D _ _ h16 aX.1 aX.2 hz) (by rw[hp k hk,a9y D _ _ h16 aX.1 aX.2]),hp k hk,d4i D _ _ _ h16 aX.1 aX.2 (b6e _ _ _) hz,a8i d s k hk]
theorem e0b (D:Nat->BA)(d s:Nat)(p:Nat->BA)(hd:d<=4)(hs:s<2^d)(hz:∀j,j<2^d->(D j).size=32)(hp:∀k,k<d->p k=tpr D (2^d) (nd d s k)):fol d s p (tdg D (2^d) 1) d=some (D s):=by
 rw[d4w D d s p hd hs hz hp d (ql _),b3t,b4c _ _ _ (by omega),show 2^d+s-2^d=s by omega]
attribute [local go_sem] Oper.semAt_some
def hasB (n s:Int):Bool:=decide ((n=2\/n=4\/n=8\/n=16)/\0<=s/\s<n)
theorem d6k (n:Int)(h1:2<=n)(h2:n<=16):bits .and .i64 n (wrap64 (n-1))=0↔(n=2\/n=4\/n=8\/n=16):=by
 have:n=2\/n=3\/n=4\/n=5\/n=6\/n=7\/n=8\/n=9\/n=10\/n=11\/n=12\/n=13\/n=14\/n=15\/n=16:=by omega
 rcases this with rfl|rfl|rfl|rfl|rfl|rfl|rfl|rfl|rfl|rfl|rfl|rfl|rfl|rfl|rfl<;>decide+kernel
theorem b2g (n s:Int)(h:¬((n=2\/n=4\/n=8\/n=16)/\0<=s/\s<n)):false=hasB n s:=(decide_eq_false h).symm
theorem b0y (n s:Int)(w:World):Calls prog 113 #[.int .i64 n,.int .i64 s] w λe w'=>e=.returned (.bool (hasB n s))/\w'=w:=by
 go_enter func113,ntmps113;go_wp2
 ·rename_i h1 h2 h3 h4
  have h:=(d6k n h2 h3).1 h1;have e:decide (s<n)=hasB n s:=decide_eq_decide.2 ⟨λh'=>⟨h,h4,h'⟩,λh'=>h'.2.2⟩;go_ret;exact⟨congrArg (λb=>Ending.returned (.bool b)) e,rfl⟩
 ·rename_i h1 h2 h3 h4
  have e:=b2g n s (by omega);go_ret;exact⟨congrArg (λb=>Ending.returned (.bool b)) e,rfl⟩
 ·rename_i h1 h2 h3
  have e:=b2g n s (by omega);go_ret;exact⟨congrArg (λb=>Ending.returned (.bool b)) e,rfl⟩
 ·rename_i h1 h2
  have e:=b2g n s (by omega);go_ret;exact⟨congrArg (λb=>Ending.returned (.bool b)) e,rfl⟩
 ·rename_i h1
  have e:=b2g n s (λh=>h1 ((d6k n (by omega) (by omega)).2 h.1));go_ret;exact⟨congrArg (λb=>Ending.returned (.bool b)) e,rfl⟩
theorem b7m (d:Nat)(s:Int)(h:okS d s):hasB ((2^d:Nat):Int) s=true:=by
 obtain⟨h1,h2,h3,h4⟩:=h;unfold hasB;have:d=1\/d=2\/d=3\/d=4:=by omega
 rcases this with rfl|rfl|rfl|rfl<;>exact decide_eq_true ⟨by decide,h3,h4⟩
theorem e5n (d:Nat)(s:Int)(h:¬okS d s):hasB ((2^d:Nat):Int) s=false:=by
 unfold hasB;refine decide_eq_false (λh'=>h ?_);obtain⟨h1,h2,h3⟩:=h';refine⟨?_,?_,h2,h3⟩
 ·rcases Nat.eq_zero_or_pos d with rfl|h
  ·rw[Nat.pow_zero]at h1;omega
  ·exact h
 ·rcases Nat.lt_or_ge 4 d with h|h
  ·have:2^5<=2^d:=a3k h;omega
  ·exact h
theorem b2t (a:Option Addr)(n cap:Nat)(hn:n<=62)(w:World):Calls prog 124 #[.slice a n cap] w λe w'=>e=.returned (.int .i64 ((2^n:Nat):Int))/\w'=w:=by
 have h63:(2:Nat)^n<2^63:=Nat.pow_lt_pow_right (by decide) (by omega);have e:wrap64 ((2:Int)^n)=((2^n:Nat):Int):=by
  rw[show((2:Int)^n)=((2^n:Nat):Int) by simp];generalize 2^n=q at h63⊢;unfold wrap64;omega
 go_enter func124,ntmps124;go_wp2;go_ret;exact⟨congrArg (λb=>Ending.returned (.int .i64 b)) e,rfl⟩
theorem b8l {x:Int}(h0:0<=x)(h1:x<9223372036854775808):wrap64 x=x:=by unfold wrap64;omega
theorem c7v (s H U S:Nat)(hs:s<16)(hU:s/H=U)(hS:U%2=S):wrap64 ((s:Int)/(H:Int))=(U:Int)/\(U:Int)%2=(S:Int)/\(U:Int).tmod 2=(S:Int):=by
 have h:U<=s:=by rw[<-hU];exact Nat.div_le_self s H
 have h2:(U:Int)%2=(S:Int):=by omega
 refine⟨?_,h2,?_⟩
 ·rw[<-Int.natCast_ediv,hU];exact b8l (by omega) (by omega)
 ·rw[Int.tmod_eq_emod_of_nonneg (by omega)];exact h2
theorem e7a (a b:Nat)(ha:a<9223372036854775808):wrap64 ((a:Int).tdiv (b:Int))=((a/b:Nat):Int):=by
 rw[<-Int.ofNat_tdiv];have:=Nat.div_le_self a b;generalize a/b=q at*;unfold wrap64;omega
def stepV (d s k:Nat):Array Value:=#[.int .i64 (k:Int),.int .i64 (nd d s k:Int),.int .i64 (sd d s k:Int)]
theorem b6w (n s:Int)(w:World):Calls prog 128 #[.int .i64 n,.int .i64 s] w λe w'=>
 e=.returned (.func (.func 177) #[] #[.pointer (some ⟨w.heap.size,0,none⟩),.pointer (some ⟨w.heap.size+1,0,none⟩)])/\w'=(w.alloc (.cells #[.int .i64 n] 3)).alloc (.cells #[.int .i64 s] 3):=by
 go_enter func128,ntmps128;go_wp2;go_ret;exact⟨rfl,rfl⟩
theorem b3o (n:Nat)(d s:Nat)(hd:d<=4)(hs:s<2^d)(w:World)(MM:Nat->Prop)(gl gs:Nat)(aY:gl<w.heap.size)(nV:gs<w.heap.size)
 (aL:w.cell? ⟨gl,0,none⟩=some (.int .i64 ((2^d:Nat):Int)))(cR:w.cell? ⟨gs,0,none⟩=some (.int .i64 (s:Int)))
 (hM:∀k,MM k->k≠gl/\k≠gs/\k≠w.heap.size+2):
 Iter prog n 177 #[.pointer (some ⟨gl,0,none⟩),.pointer (some ⟨gs,0,none⟩)] (λk=>#[.agg (stepV d s k)]) d w 1 MM:=by
 intro J Jx W hW hWs hJ hJx hY h0;have hl:W.cell? ⟨gl,0,none⟩=some (.int .i64 ((2^d:Nat):Int)):=(hW.cell (p:=⟨gl,0,none⟩) aY).trans aL;have gK:W.cell? ⟨gs,0,none⟩=some (.int .i64 (s:Int)):=(hW.cell (p:=⟨gs,0,none⟩) nV).trans cR;refine callsIn_of_wp func177 rfl trivial ?_ rfl;simp only[ntmps177,List.size_toArray,List.length_cons,List.length_nil,Nat.reduceAdd,Nat.reduceSub,Array.replicate_succ,Array.replicate_zero,List.push_toArray,List.append_toArray,List.nil_append,List.cons_append];have hl0:(W.alloc (.cells #[.int .i64 0,.int .i64 1,.int .i64 0] 205)).cell? ⟨gl,0,none⟩=some (.int .i64 ((2^d:Nat):Int)):=by rw[World.cell?_alloc_some _ _ _ (by rw[hl];rfl)];exact hl
 have hs0:(W.alloc (.cells #[.int .i64 0,.int .i64 1,.int .i64 0] 205)).cell? ⟨gs,0,none⟩=some (.int .i64 (s:Int)):=by rw[World.cell?_alloc_some _ _ _ (by rw[gK];rfl)];exact gK
 have hb0:Blk (W.alloc (.cells #[.int .i64 0,.int .i64 1,.int .i64 0] 205)) (w.heap.size+2) 205 [.int .i64 0,.int .i64 1,.int .i64 0]:=by
  have:=Blk.new W 205 #[.int .i64 0,.int .i64 1,.int .i64 0]
  rwa[hWs]at this
 have hJ0:J 0 (W.alloc (.cells #[.int .i64 0,.int .i64 1,.int .i64 0] 205)):=hJ _ _ _ h0 ((Kept.refl _ _).alloc _);have hz0:w.heap.size+2+1<=(W.alloc (.cells #[.int .i64 0,.int .i64 1,.int .i64 0] 205)).heap.size:=by rw[World.size_alloc];omega
 have h16:=a1f d hd;have hq:=e7a (2^d) 2 (by omega);generalize hP:((2^d:Nat):Int)=P2 at hl0 hq hl;generalize hQ:((2^d/2:Nat):Int)=Q2 at hq;have HQ:Hid (((2^d/2:Nat):Int)=Q2):=hQ;have HP:Hid (((2^d:Nat):Int)=P2):=hP;clear hP hQ hl gK h0 aL cR
 gi_wp2
 rw[show wrap64 (P2.tdiv 2)=Q2 from hq];have hgl2:gl≠w.heap.size+2:=by omega
 have hgs2:gs≠w.heap.size+2:=by omega
 generalize W.alloc (.cells #[.int .i64 0,.int .i64 1,.int .i64 0] 205)=W0 at hl0 hs0 hb0 hJ0 hz0⊢;clear hq hWs hW W
 gi_loopw [5] (λp wr=>∃k:Nat,k<=d/\p=.int .i64 ((2^(d-k)/2:Nat):Int)/\Blk wr (w.heap.size+2) 205 [.int .i64 (k:Int),.int .i64 (nd d s k:Int),.int .i64 0]/\wr.cell? ⟨gl,0,none⟩=some (.int .i64 P2)/\wr.cell? ⟨gs,0,none⟩=some (.int .i64 (s:Int))/\J k wr/\w.heap.size+2+1<=wr.heap.size) (λp _=>(intOf p).toNat)
 case atStart=>exact⟨0,Nat.zero_le _,by rw[Nat.sub_zero,HQ.out],by rw[b7a d s hs];exact hb0,hl0,hs0,hJ0,hz0⟩
 case round=>
  obtain⟨k,hk,rfl,hb,aL,cR,tX,aA⟩:=hrel;have c0:=hb.cell (i:=0) rfl;have c1:=hb.cell (i:=1) rfl;have c2:=hb.cell (i:=2) rfl;have f2:=hb.frozen 2;rcases Nat.lt_or_ge k d with p9|mC
  ·have aX:=a2u d s k p9 hs;have hm:1<=2^(d-k)/2:=(by rw[b2h d k p9];exact a4l _);have hm2:2^(d-k)/2<=16:=(by rw[b2h d k p9];exact a1f _ (by omega));have eI:s/(2^(d-k)/2)%2=sd d s k:=rfl;have nQ:2^(d-k)/2/2=2^(d-(k+1))/2:=(by rw[b2h d k p9]);have pJ:=a8i d s k p9;have oX:=b6e d s k;obtain⟨S,hS⟩:∃S,sd d s k=S:=⟨_,rfl⟩;obtain⟨M,hM'⟩:∃M,nd d s k=M:=⟨_,rfl⟩;obtain⟨H,hH⟩:∃H,2^(d-k)/2=H:=⟨_,rfl⟩;have hy:=hY k (wr.setCell ⟨w.heap.size+2,2,none⟩ (.int .i64 (S:Int))) p9 (hJ _ _ _ tX ((Kept.refl _ wr).setCell (.inl ⟨by omega,by omega⟩) 2 _)) (by simpa using aA);unfold stepV at hy;rw[hS,hM']at hy;rw[hS]at eI pJ oX;rw[hM']at pJ aX hb c1;rw[hH]at hm hm2 eI nQ⊢;have hs16:s<16:=Nat.lt_of_lt_of_le hs h16;have hU16:s/H<=s:=Nat.div_le_self s H;obtain⟨U,hU⟩:∃U,s/H=U:=⟨_,rfl⟩;rw[hU]at eI hU16;obtain⟨e1,e2,e3⟩:=c7v s H U S hs16 hU eI;clear eI hU16 hU hS hM';obtain⟨fn,tmps,assign,body,hy,hR⟩:=hy
   gi_wp2
   refine⟨λh=>(by cases h),hR.mono ?_⟩;rintro e W3 ⟨hk3,h3⟩;have hb3:Blk W3 (w.heap.size+2) 205 [.int .i64 (k:Int),.int .i64 (M:Int),.int .i64 (S:Int)]:=(hb.setCell 2 (.int .i64 (S:Int))).kept hk3 (λh=>by
    rcases h with h|h
    ·omega
    ·exact(hM _ h).2.2 rfl)
   have hz3:w.heap.size+2+1<=W3.heap.size:=Nat.le_trans aA (by have:=hk3.size;simpa using this);have jY:W3.cell? ⟨gl,0,none⟩=some (.int .i64 P2):=by
    rw[hk3.cell (p:=⟨gl,0,none⟩) (by simp;omega) (λh=>by rcases h with h|h;exact absurd h (by show gl≠_;omega);exact(hM _ h).1 rfl)];rw[World.cell?_setCell_far _ _ _ _ (by show w.heap.size+2≠gl;omega)];exact aL
   have hcs3:W3.cell? ⟨gs,0,none⟩=some (.int .i64 (s:Int)):=by
    rw[hk3.cell (p:=⟨gs,0,none⟩) (by simp;omega) (λh=>by rcases h with h|h;exact absurd h (by show gs≠_;omega);exact(hM _ h).2.1 rfl)];rw[World.cell?_setCell_far _ _ _ _ (by show w.heap.size+2≠gs;omega)];exact cR
   rcases h3 with⟨rfl,hJ3⟩|⟨rfl,qA⟩
   ·have d0:=hb3.cell (i:=0) rfl;have d1:=hb3.cell (i:=1) rfl;have d2:=hb3.cell (i:=2) rfl;have g0:=hb3.frozen 0;have g1:=hb3.frozen 1;have g2:=hb3.frozen 2;have hb4:=((hb3.setCell 0 (.int .i64 ((k:Int)+1))).setCell 1 (.int .i64 (2*(M:Int)+(S:Int)))).setCell 2 (.int .i64 0);have hk4:Kept (λk=>w.heap.size+2<=k/\k<w.heap.size+2+1) W3 (((W3.setCell ⟨w.heap.size+2,0,none⟩ (.int .i64 ((k:Int)+1))).setCell ⟨w.heap.size+2,1,none⟩ (.int .i64 (2*(M:Int)+(S:Int)))).setCell ⟨w.heap.size+2,2,none⟩ (.int .i64 0)):=
     (((Kept.refl _ W3).setCell (.inl ⟨by omega,by omega⟩) _ _).setCell (.inl ⟨by omega,by omega⟩) _ _).setCell (.inl ⟨by omega,by omega⟩) _ _
    gi_wp2
    generalize((W3.setCell ⟨w.heap.size+2,0,none⟩ (.int .i64 ((k:Int)+1))).setCell ⟨w.heap.size+2,1,none⟩ (.int .i64 (2*(M:Int)+(S:Int)))).setCell ⟨w.heap.size+2,2,none⟩ (.int .i64 0)=W4 at hb4 hk4⊢;refine⟨⟨k+1,p9,?_,?_,?_,?_,hJ _ _ _ hJ3 hk4,Nat.le_trans hz3 hk4.size⟩,?_⟩
    ·rw[<-nQ];rfl
    ·rw[pJ];exact hb4
    ·rw[hk4.cell (p:=⟨gl,0,none⟩) (show gl<_ by omega) (show ¬(w.heap.size+2<=gl/\_) by omega)];exact jY
    ·rw[hk4.cell (p:=⟨gs,0,none⟩) (show gs<_ by omega) (show ¬(w.heap.size+2<=gs/\_) by omega)];exact hcs3
    ·simp only[intOf];omega
   ·gi_wp2
    refine bodyPost_ret (results_none rfl _ _ _) rfl ?_;exact⟨⟨_,rfl⟩,.inr ⟨k+1,p9,qA⟩⟩
  ·have nT:k=d:=(by omega);subst nT;rw[Nat.sub_self,show(2^0/2:Nat)=0 from rfl]
   gi_wp2
   go_end0;exact⟨⟨_,rfl⟩,.inl tX⟩
attribute [local go_sem] Oper.semAt_some
theorem e4x (κ:IntKind)(n:Nat)(S:Nat->Nat):nr κ (n+1) S=nr κ n S++[.int κ ((S n:Nat):Int)]:=by unfold nr;rw[List.range_succ,List.map_append];rfl
theorem b9o {w:World}{b b':Nat}{e:TypeId}{size:Nat}{v:Value}{n:Nat}{xs:List Value}(h:w.ownsRow b e size v n xs)(hb:b'<=b):w.ownsRow b' e size v n xs:=by
 refine⟨h.1,?_⟩;rcases h.2 with hn|⟨g,cap,cur,rfl,hg,rest⟩
 ·exact .inl hn
 ·exact .inr ⟨g,cap,cur,rfl,Nat.le_trans hb hg,rest⟩
theorem info3p:(prog.info? 3).map (λi=>(i.zero,i.size,i.bytes))=some (some (.int .i64 0),1,8):=by kernel_rfl
theorem d8i (n s:Int)(h:hasB n s=false)(w:World):Calls prog 98 #[.int .i64 n,.int .i64 s] w λe w'=>e=.returned (.tuple #[.slice none 0 0,.int .i64 2])/\w'=w:=by
 have hc:=b0y n s w;rw[h]at hc;go_enter func98,ntmps98;go_wp2_with fail;refine hc.mono ?_;rintro e w' ⟨rfl,rfl⟩;go_wp2_with fail;go_ret2;exact⟨rfl,rfl⟩
theorem c3e (d n s:Nat)(hn:2^d=n)(h:okS d (s:Int))(w:World):Calls prog 98 #[.int .i64 (n:Int),.int .i64 (s:Int)] w λe w'=>∃v,e=.returned (.tuple #[v,.int .i64 0])/\w'.ownsRow w.heap.size 3 1 v d (nr .i64 d (nd d s))/\Below w.heap.size w w':=by
 have hc:=b0y ((2^d:Nat):Int) s w;rw[b7m d s h,hn]at hc;obtain⟨h1,h2,h3,h4⟩:=h;have h4':s<2^d:=by omega
 have HN:Hid (2^d=n):=hn;clear hn h3 h4;refine(callsIn_wide (n:=9)).1 ?_;refine callsIn_of_wp_marks func98 rfl trivial ?_ rfl;simp only[ntmps98,List.size_toArray,List.length_cons,List.length_nil,Nat.reduceAdd,Nat.reduceSub,Array.replicate_succ,Array.replicate_zero,List.push_toArray,List.append_toArray,List.nil_append,List.cons_append]
 gi_wp2_with fail
 refine⟨trivial,(callsIn_wide.2 hc).mono ?_⟩;rintro e w' ⟨rfl,hw'⟩;rw[hw'];clear hc hw' w'
 gi_wp2_with fail
 refine⟨trivial,(callsIn_wide.2 (b6w _ _ _)).mono ?_⟩;rintro e w' ⟨rfl,hw'⟩;rw[hw'];clear hw' w'
 gi_wp2_with fail
 have b0:=((Blk.new w 55 #[.slice none 0 0]).alloc (.cells #[.int .i64 (n:Int)] 3)).alloc (.cells #[.int .i64 (s:Int)] 3);have b1:=(Blk.new (w.alloc (.cells #[.slice none 0 0] 55)) 3 #[.int .i64 (n:Int)]).alloc (.cells #[.int .i64 (s:Int)] 3);have b2:=Blk.new ((w.alloc (.cells #[.slice none 0 0] 55)).alloc (.cells #[.int .i64 (n:Int)] 3)) 3 #[.int .i64 (s:Int)];simp only[World.size_alloc]at b1 b2;have hB0:Below w.heap.size w (((w.alloc (.cells #[.slice none 0 0] 55)).alloc (.cells #[.int .i64 (n:Int)] 3)).alloc (.cells #[.int .i64 (s:Int)] 3)):=(((qw _ w).alloc (ql _) _).alloc (by simp) _).alloc (by simp;omega) _;have aA:(((w.alloc (.cells #[.slice none 0 0] 55)).alloc (.cells #[.int .i64 (n:Int)] 3)).alloc (.cells #[.int .i64 (s:Int)] 3)).heap.size=w.heap.size+3:=by simp
 generalize((w.alloc (.cells #[.slice none 0 0] 55)).alloc (.cells #[.int .i64 (n:Int)] 3)).alloc (.cells #[.int .i64 (s:Int)] 3)=W0 at b0 b1 b2 hB0 aA⊢;obtain⟨i0,hi,hz0,hz1,hz2⟩:=info_parts info3p;refine a9f (enc:=λk=>#[.agg (stepV d s k)]) (c:=1) (N:=d) (MM:=λk=>k=w.heap.size\/w.heap.size+6<=k) rfl (enters_of func177 (by kernel_rfl) rfl)
  (b3o 8 d s h2 h4' W0 _ (w.heap.size+1) (w.heap.size+1+1) (by omega) (by omega) (by rw[HN.out];exact b1.cell rfl) (b2.cell rfl) (λk hk=>by omega)) (λk hk=>by omega) (λ_=>rfl)
  (λk W=>∃v,Blk W w.heap.size 55 [v]/\W.ownsRow (w.heap.size+6) 3 1 v k (nr .i64 k (nd d s))/\Below w.heap.size w W) (λ_ _ _=>False)
  ?hI (λ_ _ _ _ h _=>h) ⟨_,b0,World.ownsRow_nil _ _ _ _,hB0⟩
  (λk a' W=>∃Bx,Blk W Bx 205 (stepV d s k).toList/\w.heap.size+6<=Bx/\a'={tmps:=#[.int .i64 (n:Int),.int .i64 (s:Int),undef,undef,.slice none 0 0,.int .i64 0,.pointer (some ⟨w.heap.size,0,none⟩),.pointer (some ⟨Bx,0,none⟩),.int .i64 (n:Int),.int .i64 (s:Int),.bool true,.bool false,.int .i64 (n:Int),.int .i64 (s:Int),.func (.func 177) #[] #[.pointer (some ⟨w.heap.size+1,0,none⟩),.pointer (some ⟨w.heap.size+1+1,0,none⟩)],.agg (stepV d s k),undef,undef,undef,undef,undef,undef],defers:=[]}) ?hA ?assign ?body ?done ?stop
 case hI=>
  rintro k A B ⟨v,hv,hr,hb⟩ hk;refine⟨v,hv.kept hk (by omega),a2n hr hk (λj hj=>?_),hk.below hb hb.size (λj hj=>by omega)⟩;have:=(World.ownsRow.lt hr j hj).1;omega
 case hA=>
  rintro k a' A B ⟨Bx,hb,hx,rfl⟩ hk;exact⟨Bx,hb.kept hk (by omega),hx,rfl⟩
 case assign=>
  rintro k W K hk ⟨v,hv,hr,hb⟩ hs hK;unfold stepV;have hb:=Blk.new W 205 (stepV d s k);unfold stepV at hb
  gi_wp2
  exact hK _ _ ((Kept.refl _ W).alloc _) ⟨W.heap.size,hb,by omega,rfl⟩
 case body=>
  rintro k a' W hk ⟨v,hv,hr,hb⟩ ⟨Bx,hx,dX,rfl⟩ hs;have c6:=hv.cell (i:=0) rfl;have cx:W.cell? ⟨Bx,1,none⟩=some (.int .i64 (nd d s k:Int)):=hx.cell (i:=1) rfl;obtain⟨M,hM⟩:∃M,nd d s k=M:=⟨_,rfl⟩;rw[hM]at cx;have HM:Hid (nd d s k=M):=hM;generalize stepV d s k=sv at hx⊢;clear hM
  gi_wp2_with (gi_at_builtin;refine wpListIn_append_own _ rfl _ _ 55 rfl (w.heap.size+6) 3 i0 (.int .i64 0) 1 8 underlying55 hi hz0 hz1 hz2 rfl (by decide) _ _ _ rfl (hr.alloc _) ⟨W.heap.size,0,none⟩ 1 1 [.int .i64 (M:Int)] rfl rfl (cell_one_new _ _ _) (by simp[Value.oneCell']) (by unfold maxLen;omega) (by omega) (by simp;omega) ?_;intro v' w1 t6 q9 _;obtain⟨g',cap',rfl⟩:=ownsRow_succ t6;have hk1:=((Kept.refl (λj=>v.ownBlock=some j) W).alloc (.cells #[.int .i64 (M:Int)] 3)).grown q9 (λj e=>.inl e);have hv1:=hv.kept hk1 (λe=>by have:=(World.ownsRow.lt hr _ e).1;omega);have hc1:=hv1.cell (i:=0) rfl;have hf1:=hv1.frozen 0)
  have hk2:Kept (λj=>j=w.heap.size\/w.heap.size+6<=j) W (w1.setCell ⟨w.heap.size,0,none⟩ (.slice (some ⟨g',0,none⟩) (k+1) cap')):=(hk1.mono (λj _ e=>.inr (World.ownsRow.lt hr j e).1)).setCell (.inl (.inl rfl)) 0 _;refine⟨hk2,_,hv1.setCell 0 _,?_,hk2.below hb hb.size (λj hj=>by omega)⟩;rw[e4x,HM.out];refine a2n t6 (Kept.one w1 w.heap.size 0 _) (λj hj=>?_);have:=(World.ownsRow.lt t6 j hj).1;omega
 case done=>
  rintro W ⟨v,hv,hr,hb⟩ hD;have c6:=hv.cell (i:=0) rfl;rw[aA]at hD
  gi_wp2
  refine⟨by simp,.inl ⟨_,_,rfl,run_takeDeferred hD,?_⟩⟩;have hk:=Kept.put W (w.heap.size+3) (.deferred none);refine⟨_,results_tmp2 rfl _ _ _,v,rfl,b9o (a2n hr hk (λj hj=>?_)) (by omega),hk.below hb hb.size (λj hj=>by omega)⟩;have:=(World.ownsRow.lt hr j hj).1;omega
 case stop=>
  rintro c k W _ h _;exact h.elim
def Sa (w:World)(a:Option Addr)(n:Nat)(p:Nat->BA):Prop:=
 n=0\/∃b o,a=some ⟨b,o,none⟩/\∀i,i<n->w.cell? ⟨b,o+i,none⟩=some (.string (p i))
theorem Sa.below {w w':World}{a:Option Addr}{n B:Nat}{p:Nat->BA}(h:Sa w a n p)(hb:Below B w w')(hB:w.heap.size<=B):Sa w' a n p:=by
 rcases h with h|⟨b,o,rfl,h⟩
 ·exact .inl h
 ·exact .inr ⟨b,o,rfl,λi hi=>(hb.cell (p:=⟨b,o+i,none⟩) (Nat.lt_of_lt_of_le (a1v (h i hi)) hB)).trans (h i hi)⟩
theorem Sa.later {w w':World}{a:Option Addr}{n:Nat}{p:Nat->BA}(h:Sa w a n p)(hb:Below w.heap.size w w'):Sa w' a n p:=h.below hb (ql _)
theorem Sa.congr {w:World}{a:Option Addr}{n:Nat}{p q:Nat->BA}(h:Sa w a n p)(e:∀i,i<n->p i=q i):Sa w a n q:=by
 rcases h with h|⟨b,o,rfl,h⟩
 ·exact .inl h
 ·exact .inr ⟨b,o,rfl,λi hi=>by rw[<-e i hi];exact h i hi⟩
theorem Sa.cells {w:World}{a:Option Addr}{n:Nat}{p:Nat->BA}(h:Sa w a n p)(hn:1<=n):∃b o,a=some ⟨b,o,none⟩/\∀i,i<n->w.cell? ⟨b,o+i,none⟩=some (.string (p i)):=by
 rcases h with h|h
 ·omega
 ·exact h
theorem Sa.owns {w:World}{base n:Nat}{v:Value}{p:Nat->BA}(h:w.ownsRow base 9 1 v n (strs n p)):∃a cap,v=.slice a n cap/\Sa w a n p:=by
 have hc:=h;rcases h.2 with⟨rfl,h0⟩|⟨g,cap,cur,rfl,hb,hg,_⟩
 ·subst h0;exact⟨none,0,rfl,.inl rfl⟩
 ·refine⟨_,cap,rfl,.inr ⟨g,0,rfl,λi hi=>?_⟩⟩;rw[Nat.zero_add,hc.cellAt i (by omega)];exact a0s n p i hi
theorem a5f {P:Program}{fn:Func}{tmps:Array Value}{w:World}{v u:Value}(s1 s2:Nat)(t1 t2:TypeId)(a b:Addr)(h:fn.results=#[.cell s1 t1,.cell s2 t2])(h1:tmps.getD s1 undef=.pointer (some a))(h2:tmps.getD s2 undef=.pointer (some b))
 (l1:(loadVar t1 a).run P w=.ok v w)(l2:(loadVar t2 b).run P w=.ok u w):(results fn tmps).run P w=.ok (.tuple #[v,u]) w:=by
 have e1:(asAddr (tmps.getD s1 undef)).run P w=.ok a w:=by rw[h1];rfl
 have e2:(asAddr (tmps.getD s2 undef)).run P w=.ok b w:=by rw[h2];rfl
 unfold results;rw[h];simp[e1,e2,l1,l2,-Array.getD_eq_getD_getElem?]
theorem teq (a b:BA):(a.toList==b.toList)=decide (a=b):=by
 by_cases h:a=b
 ·subst h;simp
 ·rw[decide_eq_false h];apply beq_eq_false_iff_ne.2;intro e;apply h;rw[ByteArray.toList_eq,ByteArray.toList_eq]at e;exact ByteArray.ext (Array.toList_inj.1 e)
theorem ne64 (n:Nat):((n:Int) !=64)=decide (n≠64):=by
 by_cases h:n=64
 ·subst h;rfl
 ·rw[decide_eq_true h];exact bne_iff_ne.2 (by omega)
theorem a8h (s:BA)(w:World):Calls prog 125 #[.string s] w λe w'=>e=.returned (.bool (decide (s.size≠64)))/\w'=w:=by
 go_enter func125,ntmps125;go_wp2;go_ret;exact⟨congrArg (λb=>Ending.returned (.bool b)) (ne64 s.size),rfl⟩
theorem b3u (w:World)(g:Nat)(t:BA)(h:Blk w g 9 [.string t]):(loadVar 9 ⟨g,0,none⟩).run prog w=.ok (.string t) w:=by
 have c:=h.cell (i:=0) rfl;simp[loadVar,go_sem,c]
theorem b7f (w:World)(g:Nat)(t:Int)(h:Blk w g 26 [.int .i64 t]):(loadVar 26 ⟨g,0,none⟩).run prog w=.ok (.int .i64 t) w:=by
 have c:=h.cell (i:=0) rfl;simp[loadVar,go_sem,c]
attribute [local go_sem] Oper.semAt_some
theorem d5g (s:BA)(n q:Nat)(h:s.size=n)(hq:q<=n):(s.extract 0 n).extract 0 q=s.extract 0 q:=by rw[b6a s n (by omega)]
abbrev a5m:Value:=.func (.func 114) #[] #[]
theorem c9h (top:BA)(s:Int)(a:Option Addr)(n cap:Nat)(hn:n<=62)(h:¬okS n s)(w:World):Calls prog 145 #[a5m,.string top,.int .i64 s,.slice a n cap] w λe w'=>e=.returned (.tuple #[.string noB,.int .i64 2])/\Below w.heap.size w w':=by
 have hu:=λz=>b2t a n cap hn z;have hc:=λz=>b0y ((2^n:Nat):Int) s z;rw[e5n n s h]at hc;generalize((2^n:Nat):Int)=N at hu hc;have HU:Hid _:=hu;have HC:Hid _:=hc;clear hu hc;have b0:=(((Blk.new w 124 #[a5m]).alloc (.cells #[.slice a n cap] 23)).alloc (.cells #[.string noB] 9)).alloc (.cells #[.int .i64 0] 26);have b1:=((Blk.new (w.alloc (.cells #[a5m] 124)) 23 #[.slice a n cap]).alloc (.cells #[.string noB] 9)).alloc (.cells #[.int .i64 0] 26);have b2:=(Blk.new ((w.alloc (.cells #[a5m] 124)).alloc (.cells #[.slice a n cap] 23)) 9 #[.string noB]).alloc (.cells #[.int .i64 0] 26);have b3:=Blk.new (((w.alloc (.cells #[a5m] 124)).alloc (.cells #[.slice a n cap] 23)).alloc (.cells #[.string noB] 9)) 26 #[.int .i64 0];simp only[World.size_alloc]at b1 b2 b3;have hB0:Below w.heap.size w ((((w.alloc (.cells #[a5m] 124)).alloc (.cells #[.slice a n cap] 23)).alloc (.cells #[.string noB] 9)).alloc (.cells #[.int .i64 0] 26)):=((((qw _ w).alloc (ql _) _).alloc (by simp) _).alloc (by simp;omega) _).alloc (by simp;omega) _;have aA:((((w.alloc (.cells #[a5m] 124)).alloc (.cells #[.slice a n cap] 23)).alloc (.cells #[.string noB] 9)).alloc (.cells #[.int .i64 0] 26)).heap.size=w.heap.size+4:=by simp
 have c1:=b1.cell (i:=0) rfl;go_enter func145,ntmps145;go_wp2_with fail;refine(HU.out _).mono ?_;rintro e w' ⟨rfl,hw'⟩;rw[hw'];clear hw' w' c1;generalize(((w.alloc (.cells #[a5m] 124)).alloc (.cells #[.slice a n cap] 23)).alloc (.cells #[.string noB] 9)).alloc (.cells #[.int .i64 0] 26)=W0 at b0 b1 b2 b3 hB0 aA⊢;go_wp2_with fail;refine(HC.out _).mono ?_;rintro e w' ⟨rfl,hw'⟩;rw[hw'];clear hw' w';have c2:=b2.cell (i:=0) rfl;have c3:=b3.cell (i:=0) rfl;have f2:=b2.frozen 0;have f3:=b3.frozen 0;have y6:w.heap.size+1+1≠w.heap.size+1+1+1:=by omega
 go_wp2_with fail;refine bodyPost_ret (a5f 8 9 9 26 ⟨w.heap.size+1+1,0,none⟩ ⟨w.heap.size+1+1+1,0,none⟩ rfl rfl rfl (b3u _ _ _ ((b2.setCell 0 _).setOther (by omega) _ _)) (b7f _ _ _ ((b3.setOther (by omega) _ _).setCell 0 _))) rfl ⟨rfl,?_⟩;exact(hB0.setCell (p:=⟨w.heap.size+1+1,0,none⟩) (by show w.heap.size<=w.heap.size+1+1;omega) _).setCell (p:=⟨w.heap.size+1+1+1,0,none⟩) (by show w.heap.size<=w.heap.size+1+1+1;omega) _
theorem d4u (top:BA)(s:Nat)(a:Option Addr)(n cap:Nat)(p:Nat->BA)(h:okS n (s:Int))(w:World)(hp:Sa w a n p)(ht:Tabs w):Calls prog 145 #[a5m,.string top,.int .i64 (s:Int),.slice a n cap] w λe w'=>
 e=.returned (.tuple #[.string (folS n (s:Int) p top),.int .i64 (folE n (s:Int) p top)])/\Below w.heap.size w w':=by
 have hu:=λz=>b2t a n cap (by have:=h.2.1;omega) z;have hc:=λz=>b0y ((2^n:Nat):Int) s z;rw[b7m n s h]at hc;have sN:folS n (s:Int) p top=(fol n s p top n).getD noB:=by unfold folS;rw[qp h,Int.toNat_natCast]
 have sU:folE n (s:Int) p top=oE (fol n s p top n):=by unfold folE;rw[qp h,Int.toNat_natCast]
 rw[sN,sU];obtain⟨h1,h2,_,h4⟩:=h;have h4':s<2^n:=by omega
 obtain⟨pb,po,rfl,x5⟩:=hp.cells h1;have pC:=a1v (x5 0 h1);obtain⟨N,hN⟩:∃N,2^n=N:=⟨_,rfl⟩;rw[hN]at hu hc;have HU:Hid _:=hu;have HC:Hid _:=hc;have HN:Hid (2^n=N):=hN;clear hu hc sN sU hN h4 hp;have b0:=(((Blk.new w 124 #[a5m]).alloc (.cells #[.slice (some ⟨pb,po,none⟩) n cap] 23)).alloc (.cells #[.string noB] 9)).alloc (.cells #[.int .i64 0] 26);have b1:=((Blk.new (w.alloc (.cells #[a5m] 124)) 23 #[.slice (some ⟨pb,po,none⟩) n cap]).alloc (.cells #[.string noB] 9)).alloc (.cells #[.int .i64 0] 26);have b2:=(Blk.new ((w.alloc (.cells #[a5m] 124)).alloc (.cells #[.slice (some ⟨pb,po,none⟩) n cap] 23)) 9 #[.string noB]).alloc (.cells #[.int .i64 0] 26);have b3:=Blk.new (((w.alloc (.cells #[a5m] 124)).alloc (.cells #[.slice (some ⟨pb,po,none⟩) n cap] 23)).alloc (.cells #[.string noB] 9)) 26 #[.int .i64 0];simp only[World.size_alloc]at b1 b2 b3;have hB0:Below w.heap.size w ((((w.alloc (.cells #[a5m] 124)).alloc (.cells #[.slice (some ⟨pb,po,none⟩) n cap] 23)).alloc (.cells #[.string noB] 9)).alloc (.cells #[.int .i64 0] 26)):=((((qw _ w).alloc (ql _) _).alloc (by simp) _).alloc (by simp;omega) _).alloc (by simp;omega) _;have aA:((((w.alloc (.cells #[a5m] 124)).alloc (.cells #[.slice (some ⟨pb,po,none⟩) n cap] 23)).alloc (.cells #[.string noB] 9)).alloc (.cells #[.int .i64 0] 26)).heap.size=w.heap.size+4:=by simp
 have c1:=b1.cell (i:=0) rfl;refine(callsIn_wide (n:=9)).1 ?_;refine callsIn_of_wp_marks func145 rfl trivial ?_ rfl;simp only[ntmps145,List.size_toArray,List.length_cons,List.length_nil,Nat.reduceAdd,Nat.reduceSub,Array.replicate_succ,Array.replicate_zero,List.push_toArray,List.append_toArray,List.nil_append,List.cons_append]
 gi_wp2_with fail
 refine⟨trivial,(callsIn_wide.2 (HU.out _)).mono ?_⟩;rintro e w' ⟨rfl,hw'⟩;rw[hw'];clear hw' w' c1;generalize(((w.alloc (.cells #[a5m] 124)).alloc (.cells #[.slice (some ⟨pb,po,none⟩) n cap] 23)).alloc (.cells #[.string noB] 9)).alloc (.cells #[.int .i64 0] 26)=W0 at b0 b1 b2 b3 hB0 aA⊢
 gi_wp2_with fail
 refine⟨trivial,(callsIn_wide.2 (HC.out _)).mono ?_⟩;rintro e w' ⟨rfl,hw'⟩;rw[hw'];clear hw' w'
 gi_wp2_with fail
 refine⟨trivial,(callsIn_wide.2 (b6w _ _ _)).mono ?_⟩;rintro e w' ⟨rfl,hw'⟩;rw[hw'];clear hw' w'
 gi_wp2_with fail
 have hb0:=((b0.alloc (.cells #[.string top] 9)).alloc (.cells #[.int .i64 (N:Int)] 3)).alloc (.cells #[.int .i64 (s:Int)] 3);have hb1:=((b1.alloc (.cells #[.string top] 9)).alloc (.cells #[.int .i64 (N:Int)] 3)).alloc (.cells #[.int .i64 (s:Int)] 3);have hb2:=((b2.alloc (.cells #[.string top] 9)).alloc (.cells #[.int .i64 (N:Int)] 3)).alloc (.cells #[.int .i64 (s:Int)] 3);have hb3:=((b3.alloc (.cells #[.string top] 9)).alloc (.cells #[.int .i64 (N:Int)] 3)).alloc (.cells #[.int .i64 (s:Int)] 3);have hb4:=((Blk.new W0 9 #[.string top]).alloc (.cells #[.int .i64 (N:Int)] 3)).alloc (.cells #[.int .i64 (s:Int)] 3);have hb5:=(Blk.new (W0.alloc (.cells #[.string top] 9)) 3 #[.int .i64 (N:Int)]).alloc (.cells #[.int .i64 (s:Int)] 3);have hb6:=Blk.new ((W0.alloc (.cells #[.string top] 9)).alloc (.cells #[.int .i64 (N:Int)] 3)) 3 #[.int .i64 (s:Int)];simp only[World.size_alloc,aA]at hb4 hb5 hb6;have hB1:Below w.heap.size w (((W0.alloc (.cells #[.string top] 9)).alloc (.cells #[.int .i64 (N:Int)] 3)).alloc (.cells #[.int .i64 (s:Int)] 3)):=((hB0.alloc (by omega) _).alloc (by simp;omega) _).alloc (by simp;omega) _;have jA:(((W0.alloc (.cells #[.string top] 9)).alloc (.cells #[.int .i64 (N:Int)] 3)).alloc (.cells #[.int .i64 (s:Int)] 3)).heap.size=w.heap.size+7:=by simp;omega
 generalize((W0.alloc (.cells #[.string top] 9)).alloc (.cells #[.int .i64 (N:Int)] 3)).alloc (.cells #[.int .i64 (s:Int)] 3)=W1 at hb0 hb1 hb2 hb3 hb4 hb5 hb6 hB1 jA⊢;clear b0 b1 b2 b3 hB0 aA HU HC;refine a9f (enc:=λk=>#[.agg (stepV n s k)]) (c:=1) (N:=n) (MM:=λk=>k=w.heap.size+1+1\/k=w.heap.size+1+1+1\/k=w.heap.size+4\/w.heap.size+10<=k) rfl (enters_of func177 (by kernel_rfl) rfl)
  (b3o 8 n s h2 h4' W1 _ (w.heap.size+4+1) (w.heap.size+4+1+1) (by omega) (by omega) (by rw[HN.out];exact hb5.cell rfl) (hb6.cell rfl) (λk hk=>by omega)) (λk hk=>by omega) (λ_=>rfl)
  (λk W=>∃t,fol n s p top k=some t/\Blk W w.heap.size 124 [a5m]/\Blk W (w.heap.size+1) 23 [.slice (some ⟨pb,po,none⟩) n cap]/\Blk W (w.heap.size+1+1) 9 [.string noB]/\Blk W (w.heap.size+1+1+1) 26 [.int .i64 0]/\Blk W (w.heap.size+4) 9 [.string t]/\Below w.heap.size w W)
  (λc k W=>c=.ret/\fol n s p top k=none/\Blk W (w.heap.size+1+1) 9 [.string noB]/\Blk W (w.heap.size+1+1+1) 26 [.int .i64 22]/\Below w.heap.size w W)
  ?hI ?hIx ⟨top,rfl,hb0,hb1,hb2,hb3,hb4,hB1⟩
  (λk a' W=>∃Bx,Blk W Bx 205 (stepV n s k).toList/\w.heap.size+10<=Bx/\a'={tmps:=#[a5m,.string top,.int .i64 (s:Int),.slice (some ⟨pb,po,none⟩) n cap,.pointer (some ⟨w.heap.size,0,none⟩),undef,undef,.pointer (some ⟨w.heap.size+1,0,none⟩),.pointer (some ⟨w.heap.size+1+1,0,none⟩),.pointer (some ⟨w.heap.size+1+1+1,0,none⟩),.int .i64 (N:Int),.pointer (some ⟨w.heap.size+4,0,none⟩),.pointer (some ⟨Bx,0,none⟩),undef,.slice (some ⟨pb,po,none⟩) n cap,.int .i64 (N:Int),.int .i64 (N:Int),.int .i64 (s:Int),.bool true,.bool false,.string top,.int .i64 (N:Int),.int .i64 (s:Int),.func (.func 177) #[] #[.pointer (some ⟨w.heap.size+4+1,0,none⟩),.pointer (some ⟨w.heap.size+4+1+1,0,none⟩)],.agg (stepV n s k),undef,undef,undef,undef,undef,undef,undef,undef,undef,undef,undef,undef,undef,undef,undef,undef,undef,undef,undef,undef,undef],defers:=[]}) ?hA ?assign ?body ?done ?stop
 case hI=>
  rintro k A B ⟨t,q0,q1,q2,q3,q4,q5,q6⟩ hk;exact⟨t,q0,q1.kept hk (by omega),q2.kept hk (by omega),q3.kept hk (by omega),q4.kept hk (by omega),q5.kept hk (by omega),hk.below q6 q6.size (λj hj=>by omega)⟩
 case hIx=>
  rintro c k A B ⟨q0,q1,q3,q4,q6⟩ hk;exact⟨q0,q1,q3.kept hk (by omega),q4.kept hk (by omega),hk.below q6 q6.size (λj hj=>by omega)⟩
 case hA=>
  rintro k a' A B ⟨Bx,hb,hx,rfl⟩ hk;exact⟨Bx,hb.kept hk (by omega),hx,rfl⟩
 case assign=>
  rintro k W K hk _ hs hK;unfold stepV;have hb:=Blk.new W 205 (stepV n s k);unfold stepV at hb
  gi_wp2
  exact hK _ _ ((Kept.refl _ W).alloc _) ⟨W.heap.size,hb,by omega,rfl⟩
 case body=>
  rintro k a' W hk ⟨t,q0,q1,q2,q3,q4,q5,q6⟩ ⟨Bx,hx,dX,rfl⟩ hs;have x0:W.cell? ⟨Bx,0,none⟩=some (.int .i64 (k:Int)):=hx.cell (i:=0) rfl;have x2:W.cell? ⟨Bx,2,none⟩=some (.int .i64 (sd n s k:Int)):=hx.cell (i:=2) rfl;have c0:=q1.cell (i:=0) rfl;have c1:=q2.cell (i:=0) rfl;have c4:=q5.cell (i:=0) rfl;have cp:W.cell? ⟨pb,po+k,none⟩=some (.string (p k)):=(q6.cell (p:=⟨pb,po+k,none⟩) pC).trans (x5 k hk);have hki:(k:Int)<(n:Int):=by omega
  generalize stepV n s k=sv at hx⊢
  gi_wp2_with fail
  have htW:Tabs W:=ht.below q6 ht.lt;have hp8:(p k).size=64->(p k).size<=148000000000000:=λh=>by omega
  by_cases h64:(p k).size=64
  ·have iS:=a8h (p k) W.drew;rw[decide_eq_false (λh=>h h64)]at iS;have bX:=b6z (p k) (hp8 h64) W.drew htW;rw[show a3p (⟨#[1]⟩++p k)=nH (p k)from rfl]at bX;have HNode:Hid _:=bX;have H64:Hid ((p k).size=64):=h64;clear bX h64 hp8;by_cases hq:nH (p k)=t
   all_goals
    have hqb:=teq (nH (p k)) t;simp only[hq,decide_true,decide_false]at hqb;generalize hY:nH (p k)=Y at HNode hq hqb;refine a5g (S:=λz:World=>z.cell? ⟨w.heap.size,0,none⟩=some a5m/\z.cell? ⟨w.heap.size+4,0,none⟩=some (.string t)) (by kernel_rfl) (by kernel_rfl) ⟨c0,c4⟩ (λp8=>?_);refine tkH 0 ?_;go_simp;refine rdH 1 λK hK=>?_;go_simp;go_at_call 125;refine iS.mono ?_;rintro e wa ⟨rfl,aP⟩;rw[aP];clear aP wa iS;refine hK.out _ _ ⟨c0,c4⟩ (λp8=>?_);clear hK K;refine tkH 2 ?_;go_simp;refine tkH 3 ?_;go_simp;refine tkH 4 ?_;go_simp;refine tkH 6 ?_;go_simp;refine rdH 5 λK hK=>?_;go_simp;go_at_call 114;refine Calls.mono HNode.out ?_;rintro e wa ⟨rfl,cE⟩;have cP:Kept (λ_=>False) W wa:=(Kept.refl _ W).drew.thenBelow cE;clear cE HNode;refine hK.out _ _ ⟨(cP.cell (p:=⟨w.heap.size,0,none⟩) q1.lt (λh=>h)).trans c0,(cP.cell (p:=⟨w.heap.size+4,0,none⟩) q5.lt (λh=>h)).trans c4⟩ (λp8=>?_);clear hK K;refine tkH 7 ?_;go_simp;refine tkH 8 ?_;go_simp;refine wpAnyH_done (by kernel_rfl) ?_ _;refine Onward.mk ?_;clear p8;have h64:=H64.out;rw[<-hY]at hq;clear hY;have r1:=q1.kept cP (λh=>h);have r2:=q2.kept cP (λh=>h);have r3:=q3.kept cP (λh=>h);have r4:=q4.kept cP (λh=>h);have r5:=q5.kept cP (λh=>h);have rx:=hx.kept cP (λh=>h)
   ·have hq':=hq;have oX:=b6e n s k;have hS:sd n s k=0\/sd n s k=1:=(by omega);have d4:=r5.cell (i:=0) rfl;have f4:=r5.frozen 0;have hy:=b7o q0 h64 hq;have y2:wa.cell? ⟨Bx,2,none⟩=some (.int .i64 (sd n s k:Int)):=(cP.cell (p:=⟨Bx,2,none⟩) (a1v x2) (λh=>h)).trans x2;clear x0 x2 c0 c1 c4 cp;generalize hX:p k=X at h64 hq hy⊢;rcases hS with hS|hS
    ·rw[hS]at hy;have y3:wa.cell? ⟨Bx,2,none⟩=some (.int .i64 0):=(by rw[hS]at y2;exact y2);clear y2;unfold half at hy;rw[qp rfl]at hy
     gi_wp2_with fail
     have iT:Kept (λj=>j=w.heap.size+1+1\/j=w.heap.size+1+1+1\/j=w.heap.size+4\/w.heap.size+10<=j) W (wa.setCell ⟨w.heap.size+4,0,none⟩ (.string (X.extract 0 32))):=(cP.mono (λ_ _ h=>h.elim)).setCell (.inl (.inr (.inr (.inl rfl)))) _ _;rw[d5g X 64 32 h64 (by decide)];exact⟨iT,_,hy,r1.setOther (by omega) _ _,r2.setOther (by omega) _ _,r3.setOther (by omega) _ _,r4.setOther (by omega) _ _,r5.setCell 0 _,iT.below q6 q6.size (λj hj=>by omega)⟩
    ·rw[hS]at hy;have y3:wa.cell? ⟨Bx,2,none⟩=some (.int .i64 1):=(by rw[hS]at y2;exact y2);clear y2;unfold half at hy;rw[qn (by decide)]at hy
     gi_wp2_with fail
     have iT:Kept (λj=>j=w.heap.size+1+1\/j=w.heap.size+1+1+1\/j=w.heap.size+4\/w.heap.size+10<=j) W (wa.setCell ⟨w.heap.size+4,0,none⟩ (.string (X.extract 32 64))):=(cP.mono (λ_ _ h=>h.elim)).setCell (.inl (.inr (.inr (.inl rfl)))) _ _;rw[b6a (X.extract 32 64) 32 (by rw[ByteArray.size_extract];omega)];exact⟨iT,_,hy,r1.setOther (by omega) _ _,r2.setOther (by omega) _ _,r3.setOther (by omega) _ _,r4.setOther (by omega) _ _,r5.setCell 0 _,iT.below q6 q6.size (λj hj=>by omega)⟩
   ·have aW:¬((p k).size=64/\nH (p k)=t):=λh=>hq h.2;have g2:=r3.cell (i:=0) rfl;have g3:=r4.cell (i:=0) rfl;have f2:=r3.frozen 0;have f3:=r4.frozen 0;have y6:w.heap.size+1+1≠w.heap.size+1+1+1:=by omega
    gi_wp2_with fail
    have iT:Kept (λj=>j=w.heap.size+1+1\/j=w.heap.size+1+1+1\/j=w.heap.size+4\/w.heap.size+10<=j) W ((wa.setCell ⟨w.heap.size+1+1,0,none⟩ (.string noB)).setCell ⟨w.heap.size+1+1+1,0,none⟩ (.int .i64 22)):=((cP.mono (λ_ _ h=>h.elim)).setCell (.inl (.inl rfl)) _ _).setCell (.inl (.inr (.inl rfl))) _ _;exact⟨iT,rfl,c0i q0 aW,(r3.setCell 0 _).setOther (by omega) _ _,(r4.setOther (by omega) _ _).setCell 0 _,iT.below q6 q6.size (λj hj=>by omega)⟩
  ·have iS:=a8h (p k) W.drew;rw[decide_eq_true h64]at iS;refine a5g (S:=λ_=>True) (by kernel_rfl) (by kernel_rfl) trivial (λp8=>?_);refine tkH 0 ?_;go_simp;refine rdH 1 λK hK=>?_;go_simp;go_at_call 125;refine iS.mono ?_;rintro e wa ⟨rfl,aP⟩;rw[aP];clear aP wa iS;refine hK.out _ _ trivial (λp8=>?_);clear hK K;refine tkH 2 ?_;go_simp;refine wpAnyH_take (i:=3) (v:=undef) rfl (by kernel_rfl) (by kernel_rfl) (by kernel_rfl) (λ_ _ _ h=>h) (Or.inr ⟨by rfl,rfl⟩) (by assumption) ?_;go_simp;refine wpAnyH_take (i:=4) (v:=undef) rfl (by kernel_rfl) (by kernel_rfl) (by kernel_rfl) (λ_ _ _ h=>h) (Or.inr ⟨by rfl,rfl⟩) (by assumption) ?_;go_simp;refine wpAnyH_take (i:=6) (v:=undef) rfl (by kernel_rfl) (by kernel_rfl) (by kernel_rfl) (λ_ _ _ h=>h) (Or.inr ⟨by rfl,rfl⟩) (by assumption) ?_;go_simp;refine wpAnyH_take (i:=5) (v:=undef) rfl (by kernel_rfl) (by kernel_rfl) (by kernel_rfl) (λ_ _ _ h=>h) (Or.inr ⟨by rfl,rfl⟩) (by assumption) ?_;go_simp;refine wpAnyH_take (i:=7) (v:=undef) rfl (by kernel_rfl) (by kernel_rfl) (by kernel_rfl) (λ_ _ _ h=>h) (Or.inr ⟨by rfl,rfl⟩) (by assumption) ?_;go_simp;refine tkH 8 ?_;go_simp;refine wpAnyH_done (by kernel_rfl) ?_ _;refine Onward.mk ?_;clear p8;have cP:Kept (λ_=>False) W W.drew:=(Kept.refl _ W).drew;have aW:¬((p k).size=64/\nH (p k)=t):=λh=>h64 h.1;generalize W.drew=wa at cP⊢;have r1:=q1.kept cP (λh=>h);have r2:=q2.kept cP (λh=>h);have r3:=q3.kept cP (λh=>h);have r4:=q4.kept cP (λh=>h);have r5:=q5.kept cP (λh=>h);have rx:=hx.kept cP (λh=>h);have g2:=r3.cell (i:=0) rfl;have g3:=r4.cell (i:=0) rfl;have f2:=r3.frozen 0;have f3:=r4.frozen 0;have y6:w.heap.size+1+1≠w.heap.size+1+1+1:=by omega
   gi_wp2_with fail
   have iT:Kept (λj=>j=w.heap.size+1+1\/j=w.heap.size+1+1+1\/j=w.heap.size+4\/w.heap.size+10<=j) W ((wa.setCell ⟨w.heap.size+1+1,0,none⟩ (.string noB)).setCell ⟨w.heap.size+1+1+1,0,none⟩ (.int .i64 22)):=((cP.mono (λ_ _ h=>h.elim)).setCell (.inl (.inl rfl)) _ _).setCell (.inl (.inr (.inl rfl))) _ _;exact⟨iT,rfl,c0i q0 aW,(r3.setCell 0 _).setOther (by omega) _ _,(r4.setOther (by omega) _ _).setCell 0 _,iT.below q6 q6.size (λj hj=>by omega)⟩
 case done=>
  rintro W ⟨t,q0,q1,q2,q3,q4,q5,q6⟩ hD;have c4:=q5.cell (i:=0) rfl;have c2:=q3.cell (i:=0) rfl;have c3:=q4.cell (i:=0) rfl;have f2:=q3.frozen 0;have f3:=q4.frozen 0;have y6:w.heap.size+1+1≠w.heap.size+1+1+1:=by omega
  have hk0:Kept (λk=>k=w.heap.size+1+1\/k=w.heap.size+1+1+1) W ((W.setCell ⟨w.heap.size+1+1,0,none⟩ (.string t)).setCell ⟨w.heap.size+1+1+1,0,none⟩ (.int .i64 0)):=((Kept.refl _ W).setCell (.inl (.inl rfl)) _ _).setCell (.inl (.inr rfl)) _ _;have hD':=hk0.block' hD (by omega);have hp:=Kept.put ((W.setCell ⟨w.heap.size+1+1,0,none⟩ (.string t)).setCell ⟨w.heap.size+1+1+1,0,none⟩ (.int .i64 0)) W1.heap.size (.deferred none)
  gi_wp2_with fail
  refine⟨by simp,.inl ⟨_,_,rfl,run_takeDeferred hD',?_⟩⟩;refine⟨_,a5f 8 9 9 26 ⟨w.heap.size+1+1,0,none⟩ ⟨w.heap.size+1+1+1,0,none⟩ rfl rfl rfl (b3u _ _ _ (((q3.setCell 0 _).setOther (by omega) _ _).kept hp (by omega))) (b7f _ _ _ (((q4.setOther (by omega) _ _).setCell 0 _).kept hp (by omega))),by rw[q0];rfl,?_⟩;exact hp.below (hk0.below q6 q6.size (λj hj=>by omega)) (by have:=hk0.size;have:=q6.size;omega) (λj hj=>by omega)
 case stop=>
  rintro c k W hk ⟨rfl,q1,q3,q4,q6⟩ hD;have hp:=Kept.put W W1.heap.size (.deferred none)
  gi_wp2_with fail
  refine⟨by simp,.inl ⟨_,_,rfl,run_takeDeferred hD,?_⟩⟩;refine⟨_,a5f 8 9 9 26 ⟨w.heap.size+1+1,0,none⟩ ⟨w.heap.size+1+1+1,0,none⟩ rfl rfl rfl (b3u _ _ _ (q3.kept hp (by omega))) (b7f _ _ _ (q4.kept hp (by omega))),by rw[a9t q1 hk];rfl,hp.below q6 q6.size (λj hj=>by omega)⟩
theorem c1w (top:BA)(s:Int)(a:Option Addr)(n cap:Nat)(hn:n<=62)(p:Nat->BA)(w:World)(hp:Sa w a n p)(ht:Tabs w):Calls prog 145 #[a5m,.string top,.int .i64 s,.slice a n cap] w λe w'=>
 e=.returned (.tuple #[.string (folS n s p top),.int .i64 (folE n s p top)])/\Below w.heap.size w w':=by
 by_cases h:okS n s
 ·obtain⟨k,rfl⟩:=Int.eq_ofNat_of_zero_le h.2.2.1;exact d4u top k a n cap p h w hp ht
 ·have:=c9h top s a n cap hn h w;unfold folS folE;rw[qn h,qn h];exact this
theorem c9i (top:BA)(s:Int)(a:Option Addr)(n cap:Nat)(hn:n<=62)(p:Nat->BA)(w:World)(hp:Sa w a n p)(ht:Tabs w):Calls prog 100 #[.string top,.int .i64 s,.slice a n cap] w λe w'=>
 e=.returned (.tuple #[.string (folS n s p top),.int .i64 (folE n s p top)])/\Below w.heap.size w w':=by
 have h:=c1w top s a n cap hn p w hp ht;generalize folS n s p top=S at h⊢;generalize folE n s p top=E at h⊢;go_enter func100,ntmps100;go_wp2_with fail;refine h.mono ?_;rintro e w' ⟨rfl,hb⟩;go_wp2_with fail;go_ret2;exact⟨rfl,hb⟩
theorem info9t:(prog.info? 9).map (λi=>(i.zero,i.size,i.bytes))=some (some (.string noB),1,16):=by kernel_rfl
theorem d8u (n:Nat):madeCells (Value.string noB).cells (n*1)=(strs n λ_=>noB).toArray:=by
 apply Array.ext
 ·simp[madeCells,strs]
 ·intro i h1 h2;simp[madeCells,strs,Value.cells,Nat.mod_one]
theorem b7b (n:Nat)(h:n<=512)(w:World):(Instr.makeSlice 23 (.int .i64 (n:Int)) (.int .i64 (n:Int))).run prog w=.ok (.slice (some ⟨w.heap.size,0,none⟩) n n) (w.alloc (.cells (strs n λ_=>noB).toArray 9)):=by
 obtain⟨i0,hi,hz0,hz1,hz2⟩:=info_parts info9t;have hr:=run_make (P:=prog) w 23 9 i0 (.string noB) underlying23 hi hz0 .i64 .i64 n n (by omega) (by omega) (by rw[hz2];omega) (by omega);rw[hz1,Int.toNat_natCast,d8u]at hr;exact hr
theorem b2n {w:World}{g n base:Nat}{e:TypeId}{L:List Value}(h:Blk w g e L)(hl:L.length=n)(hn:n<=1000000)(hb:base<=g):w.ownsRow base e 1 (.slice (some ⟨g,0,none⟩) n n) n L:=
 ⟨by rw[hl,Nat.mul_one],.inr ⟨g,n,L.toArray,rfl,hb,h,ql _,by unfold maxLen;omega,by simpa using hl,by rw[Nat.mul_one];simp[<-hl]⟩⟩
def a4u (n:Nat):Prop:=n=2\/n=4\/n=8\/n=16
instance (n:Nat):Decidable (a4u n):=by unfold a4u;infer_instance
def bE (n:Nat)(D:Nat->BA):Int:=if a4u n then(if∀i,i<n->(D i).size=32 then 0 else 7)else 2
def bN (n:Nat)(D:Nat->BA):Nat:=if bE n D=0 then n else 0
def bP (n:Nat)(D:Nat->BA)(i:Nat):BA:=if i=0 then noB else tpr D n i
def bT (n:Nat)(D:Nat->BA):BA:=if bE n D=0 then tdg D n 1 else noB
theorem e9u {n:Nat}{D:Nat->BA}(h:¬a4u n):bE n D=2:=by unfold bE;rw[qn h]
theorem e1i {n:Nat}{D:Nat->BA}(h:a4u n){k:Nat}(hk:k<n)(hs:(D k).size≠32):bE n D=7:=by unfold bE;rw[qp h,qn (λh'=>hs (h' k hk))]
theorem d6g {n:Nat}{D:Nat->BA}(h:a4u n)(hs:∀i,i<n->(D i).size=32):bE n D=0:=by unfold bE;rw[qp h,qp hs]
theorem e2x {n:Nat}{D:Nat->BA}{x:Int}(h:bE n D=x)(hx:x≠0):bN n D=0/\bT n D=noB:=by unfold bN bT;rw[h,qn hx,qn hx];exact⟨rfl,rfl⟩
theorem d6f {n:Nat}{D:Nat->BA}(h:bE n D=0):bN n D=n/\bT n D=tdg D n 1:=by unfold bN bT;rw[qp h,qp h];exact⟨rfl,rfl⟩
theorem d4h (n:Nat):hasB (n:Int) 0=decide (a4u n):=by
 unfold hasB a4u;exact decide_eq_decide.2 ⟨λh=>by omega,λh=>by omega⟩
def dL (n:Nat)(D:Nat->BA)(k i:Nat):BA:=if n<=i/\i<n+k then D (i-n)else noB
def dM (n:Nat)(D:Nat->BA)(j i:Nat):BA:=if j<i/\i<2*n then tdg D n i else noB
def pM (n:Nat)(D:Nat->BA)(j i:Nat):BA:=if j<i then tpr D n i else noB
theorem e6a (n:Nat)(D:Nat->BA)(i:Nat):dL n D 0 i=noB:=by unfold dL;rw[qn (by omega)]
theorem e6b (n:Nat)(D:Nat->BA)(k i:Nat):upd (dL n D k) (n+k,D k) i=dL n D (k+1) i:=by
 unfold upd dL;dsimp only;by_cases h:i=n+k
 ·rw[qp h,qp (by omega),show i-n=k by omega]
 ·rw[qn h];by_cases h2:n<=i/\i<n+k
  ·rw[qp h2,qp (by omega)]
  ·rw[qn h2,qn (by omega)]
theorem dL_dM (n:Nat)(D:Nat->BA)(hn:1<=n)(i:Nat):dL n D n i=dM n D (n-1) i:=by
 unfold dL dM;by_cases h:n<=i/\i<n+n
 ·rw[qp h,qp (by omega),b4c D n i h.1]
 ·rw[qn h,qn (by omega)]
theorem e7w (n:Nat)(D:Nat->BA)(i:Nat)(h:i<n):pM n D (n-1) i=noB:=by unfold pM;rw[qn (by omega)]
theorem e5z (n:Nat)(D:Nat->BA)(j i:Nat)(hn:n<=16)(h1:1<=j)(hj:j<n):upd (dM n D j) (j,nH (tpr D n j)) i=dM n D (j-1) i:=by
 unfold upd dM;dsimp only;by_cases h:i=j
 ·rw[qp h,qp (by omega),h,a9y D n j hn h1 hj]
 ·rw[qn h];by_cases h2:j<i/\i<2*n
  ·rw[qp h2,qp (by omega)]
  ·rw[qn h2,qn (by omega)]
theorem e4p (n:Nat)(D:Nat->BA)(j i:Nat)(h1:1<=j):upd (pM n D j) (j,tpr D n j) i=pM n D (j-1) i:=by
 unfold upd pM;dsimp only;by_cases h:i=j
 ·rw[qp h,qp (by omega),h]
 ·rw[qn h];by_cases h2:j<i
  ·rw[qp h2,qp (by omega)]
  ·rw[qn h2,qn (by omega)]
theorem e7x (n:Nat)(D:Nat->BA)(i:Nat):pM n D 0 i=bP n D i:=by
 unfold pM bP;by_cases h:i=0
 ·rw[qp h,qn (by omega)]
 ·rw[qn h,qp (by omega)]
theorem d5r (a:Option Addr)(n cap:Nat)(hn:n<=1000000)(D:Nat->BA)(w:World)(hD:Sa w a n D)(ht:Tabs w):Calls prog 71 #[.slice a n cap] w λe w'=>
 ∃v,e=.returned (.tuple #[v,.string (bT n D),.int .i64 (bE n D)])/\w'.ownsRow w.heap.size 9 1 v (bN n D) (strs (bN n D) (bP n D))/\Below w.heap.size w w':=by
 have hc:=b0y (n:Int) 0 w;rw[d4h]at hc;by_cases hT:a4u n
 ·rw[decide_eq_true hT]at hc;have hn2:2<=n:=by unfold a4u at hT;omega
  have hn16:n<=16:=by unfold a4u at hT;omega
  obtain⟨ab,ao,rfl,x5⟩:=hD.cells (by omega);have iU:=a1v (x5 0 (by omega));have hm1:=b7b (2*n) (by omega);rw[show((2*n:Nat):Int)=2*(n:Int) by omega]at hm1;have hm2:=b7b n (by omega);have HC:Hid _:=x5;clear hD x5;go_enter func71,ntmps71;go_wp2_with fail;refine hc.mono ?_;rintro e w' ⟨rfl,hw'⟩;rw[hw'];clear hw' w' hc;go_wp2_with fail;have b0:Blk (w.alloc (.cells (strs (2*n) λ_=>noB).toArray 9)) w.heap.size 9 (strs (2*n) (dL n D 0)):=by
   have:=Blk.new w 9 (strs (2*n) λ_=>noB).toArray;rw[List.toList_toArray]at this;rw[a1d (2*n) (dL n D 0) (λ_=>noB) (λi _=>e6a n D i)];exact this
  have hB0:Below w.heap.size w (w.alloc (.cells (strs (2*n) λ_=>noB).toArray 9)):=(qw _ w).alloc (ql _) _;generalize w.alloc (.cells (strs (2*n) λ_=>noB).toArray 9)=W0 at b0 hB0⊢;clear hm1;go_loopw[19] (λi wr=>∃k:Nat,k<=n/\i=.int .i64 (k:Int)/\Blk wr w.heap.size 9 (strs (2*n) (dL n D k))/\Below w.heap.size w wr/\Hid (∀j,j<k->(D j).size=32)) (λi _=>n-(intOf i).toNat)
  case atStart=>exact⟨0,Nat.zero_le _,rfl,b0,hB0,λj hj=>by omega⟩
  case round=>
   clear b0 hB0;obtain⟨k,hk,rfl,hb,hB,aR⟩:=hrel;by_cases p9:k<n
   ·have ca:wr.cell? ⟨ab,ao+k,none⟩=some (.string (D k)):=(hB.cell (p:=⟨ab,ao+k,none⟩) iU).trans (HC.out k p9);have cg:=hb.cell (a0s (2*n) (dL n D k) (n+k) (by omega));have fg:=hb.frozen (n+k);have hki:(k:Int)<(n:Int):=(by omega);have hki2:(n:Int)+(k:Int)<2*(n:Int):=(by omega);have rV:n+k<2*n:=(by omega);have e9:((n:Int)+(k:Int)).toNat=n+k:=(by omega);by_cases h32:(D k).size=32
    ·have hb1:Blk (wr.setCell ⟨w.heap.size,n+k,none⟩ (.string (D k))) w.heap.size 9 (strs (2*n) (dL n D (k+1))):=by
      have:=hb.setCell (n+k) (.string (D k));rw[a2y]at this;rw[a1d (2*n) (dL n D (k+1)) _ (λi _=>(e6b n D k i).symm)];exact this
     have hB1:Below w.heap.size w (wr.setCell ⟨w.heap.size,n+k,none⟩ (.string (D k))):=hB.setCell (p:=⟨w.heap.size,n+k,none⟩) (ql _) _;have h32':=h32;generalize hX:D k=X at ca h32 hb1 hB1;go_wp2_with fail;go_roundw
     case rel=>exact⟨k+1,p9,by go_num,hb1,hB1,λj hj=>by
      by_cases e:j=k
      ·rw[e];exact h32'
      ·exact aR.out j (by omega)⟩
     case measure=>simp[intOf];omega
    ·have h7:=e1i (D:=D) hT p9 h32;obtain⟨h3,h4⟩:=e2x h7 (by decide);have y6:((D k).size:Int)≠32:=(by omega);generalize D k=X at ca h32 y6;go_wp2_with fail;go_ret3;rw[h7,h3,h4];exact⟨_,rfl,World.ownsRow_nil _ _ _ _,hB⟩
   ·have aM:k=n:=(by omega);subst aM;have kE:∀j,j<k->(D j).size=32:=aR.out;have h0:=d6g hT kE;obtain⟨h3,h4⟩:=d6f h0;have aY:=hb.lt;have HA:Hid (∀j,j<k->(D j).size=32):=kE;have HE:Hid (bE k D=0):=h0;have H3:Hid (bN k D=k):=h3;have H4:Hid (bT k D=tdg D k 1):=h4;have kC:Blk (wr.alloc (.cells (strs k λ_=>noB).toArray 9)) w.heap.size 9 (strs (2*k) (dM k D (k-1))):=by
     rw[a1d (2*k) (dM k D (k-1)) (dL k D k) (λi _=>(dL_dM k D (by omega) i).symm)];exact hb.alloc _
    have gN:Blk (wr.alloc (.cells (strs k λ_=>noB).toArray 9)) wr.heap.size 9 (strs k (pM k D (k-1))):=by
     have:=Blk.new wr 9 (strs k λ_=>noB).toArray;rw[List.toList_toArray]at this;rw[a1d k (pM k D (k-1)) (λ_=>noB) (λi hi=>e7w k D i hi)];exact this
    have hB2:Below w.heap.size w (wr.alloc (.cells (strs k λ_=>noB).toArray 9)):=hB.alloc hB.size _;have ek:(k:Int)-1=((k-1:Nat):Int):=(by omega);clear aR kE h0 h3 h4 hb hB;go_wp2_with fail;generalize wr.alloc (.cells (strs k λ_=>noB).toArray 9)=W2 at kC gN hB2⊢;generalize wr.heap.size=G at aY gN⊢;clear hm2 wr;go_loopw[9] (λi w2=>∃j:Nat,j<k/\i=.int .i64 (j:Int)/\Blk w2 w.heap.size 9 (strs (2*k) (dM k D j))/\Blk w2 G 9 (strs k (pM k D j))/\Below w.heap.size w w2) (λi _=>(intOf i).toNat)
    case atStart=>exact⟨k-1,by omega,rfl,kC,gN,hB2⟩
    case round=>
     clear kC gN hB2 ek;obtain⟨j,hj,rfl,kC,gN,hB⟩:=hrel;by_cases hj1:1<=j
     ·have x1:=kC.cell (a0s (2*k) (dM k D j) (2*j) (by omega));have x2:=kC.cell (a0s (2*k) (dM k D j) (2*j+1) (by omega));have x3:=gN.cell (a0s k (pM k D j) j hj);have f3:=gN.frozen j;have x4:=kC.cell (a0s (2*k) (dM k D j) j (by omega));have f4:=kC.frozen j;rw[show dM k D j (2*j)=tdg D k (2*j) by unfold dM;rw[qp (by omega)]]at x1;rw[show dM k D j (2*j+1)=tdg D k (2*j+1) by unfold dM;rw[qp (by omega)]]at x2;have s1:=a6x D k (2*j) hn16 (by omega) (by omega) HA.out;have s2:=a6x D k (2*j+1) hn16 (by omega) (by omega) HA.out;have dZ:Hid (tdg D k (2*j)++tdg D k (2*j+1)=tpr D k j):=rfl;generalize tdg D k (2*j)=X at x1 s1 dZ;generalize tdg D k (2*j+1)=Y at x2 s2 dZ;have i1:(2*(j:Int)).toNat=2*j:=(by omega);have i2:(2*(j:Int)+1).toNat=2*j+1:=(by omega);have i3:2*(j:Int)<2*(k:Int):=(by omega);have i4:2*(j:Int)+1<2*(k:Int):=(by omega);have i5:(j:Int)<(k:Int):=(by omega);have i6:(j:Int)<2*(k:Int):=(by omega);have kA:Blk (wr.setCell ⟨G,j,none⟩ (.string (X++Y))).drew G 9 (strs k (pM k D (j-1))):=by
       have:=gN.setCell j (.string (X++Y));rw[a2y,dZ.out]at this;rw[a1d k (pM k D (j-1)) _ (λi _=>(e4p k D j i hj1).symm),dZ.out];exact this
      have mL:Blk (wr.setCell ⟨G,j,none⟩ (.string (X++Y))).drew w.heap.size 9 (strs (2*k) (dM k D j)):=kC.setOther (by omega) _ _;have hB1:Below w.heap.size w (wr.setCell ⟨G,j,none⟩ (.string (X++Y))).drew:=(hB.setCell (p:=⟨G,j,none⟩) (by show w.heap.size<=G;omega) _).drew;go_wp2_with fail;go_region;generalize(wr.setCell ⟨G,j,none⟩ (.string (X++Y))).drew=w3 at kA mL hB1⊢;clear x1 x2 x3 x4 f3 f4 kC gN hB;have y1:=kA.cell (a0s k (pM k D (j-1)) j hj);rw[show pM k D (j-1) j=tpr D k j by unfold pM;rw[qp (by omega)],<-dZ.out]at y1;have aA:(X++Y).size<=148000000000000:=(by rw[ByteArray.size_append];omega);have bX:=b6z (X++Y) aA w3 (ht.below hB1 ht.lt);rw[show a3p (⟨#[1]⟩++(X++Y))=nH (X++Y)from rfl,dZ.out]at bX;rw[dZ.out]at y1;have HNode:Hid _:=bX;clear bX;go_wp2_with fail;refine Calls.mono HNode.out ?_;rintro e w4 ⟨rfl,hb4⟩;have tK:=kA.below hb4 kA.lt;have mK:=mL.below hb4 mL.lt;have hB2:=hB1.trans (hb4.mono hB1.size);have z1:=mK.cell (a0s (2*k) (dM k D j) j (by omega));have g1:=mK.frozen j;have tP:Blk (w4.setCell ⟨w.heap.size,j,none⟩ (.string (nH (tpr D k j)))) w.heap.size 9 (strs (2*k) (dM k D (j-1))):=by
       have:=mK.setCell j (.string (nH (tpr D k j)));rw[a2y]at this;rw[a1d (2*k) (dM k D (j-1)) _ (λi _=>(e5z k D j i hn16 hj1 hj).symm)];exact this
      have tJ:Blk (w4.setCell ⟨w.heap.size,j,none⟩ (.string (nH (tpr D k j)))) G 9 (strs k (pM k D (j-1))):=tK.setOther (by omega) _ _;have hB3:Below w.heap.size w (w4.setCell ⟨w.heap.size,j,none⟩ (.string (nH (tpr D k j)))):=hB2.setCell (p:=⟨w.heap.size,j,none⟩) (ql _) _;clear HNode kA mL hB1 hb4 tK mK hB2 y1;generalize nH (tpr D k j)=Z at tP tJ hB3⊢;go_wp2_with fail;go_roundw
      case rel=>exact⟨j-1,by omega,by go_num,tP,tJ,hB3⟩
      case measure=>simp[intOf];omega
     ·have hj0:j=0:=(by omega);subst hj0;have x1:=kC.cell (a0s (2*k) (dM k D 0) 1 (by omega));rw[show dM k D 0 1=tdg D k 1 by unfold dM;rw[qp (by omega)]]at x1;go_wp2_with fail;go_region;go_wp2_with fail;go_ret3;rw[H3.out,H4.out,HE.out];refine⟨_,rfl,b2n (L:=strs k (bP k D)) ?_ (a0o _ _) (by omega) (Nat.le_of_lt aY),hB.drew⟩;rw[a1d k (bP k D) (pM k D 0) (λi _=>(e7x k D i).symm)];exact gN
 ·rw[decide_eq_false hT]at hc;have h2:=e9u (D:=D) hT;obtain⟨h3,h4⟩:=e2x h2 (by decide);rw[h2,h3,h4];go_enter func71,ntmps71;go_wp2_with fail;refine hc.mono ?_;rintro e w' ⟨rfl,hw'⟩;rw[hw'];clear hw' w';go_wp2_with fail;go_ret3;exact⟨_,rfl,World.ownsRow_nil _ _ _ _,qw _ _⟩
attribute [local go_sem] Oper.semAt_some
theorem b8n (q x:BA)(b:Nat)(hb:b<2)(hq:q.size=64)(hx:x.size=32)(w:World):Calls prog 129 #[.string q,.int .i64 (b:Int),.string x] w λe w'=>e=.returned (.string (b1p q b x))/\w'=w:=by
 have hb':b=0\/b=1:=by omega
 rcases hb' with rfl|rfl
 ·have h:b1p q 0 x=x++q.extract 32 64:=by unfold b1p;rw[qp rfl,hq]
  rw[h];rw[show(((0:Nat):Int))=0 from rfl];go_enter func129,ntmps129;go_wp2_with fail;go_ret;exact⟨rfl,rfl⟩
 ·have h:b1p q 1 x=q.extract 0 32++x:=by unfold b1p;rw[qn (by decide)]
  rw[h];rw[show(((1:Nat):Int))=1 from rfl];go_enter func129,ntmps129;go_wp2_with fail;go_ret;exact⟨rfl,rfl⟩
abbrev c5m:Value:=.func (.func 125) #[] #[]
theorem c7z (a:Option Addr)(n ca:Nat)(p:Nat->BA)(w:World)(hn:n<=1000000)(ha:Sa w a n p):
 Calls prog 61 #[.slice a n ca,c5m] w λe w'=>(∃z:Int,e=.returned (.int .i64 z)/\(0<=z↔∃i,i<n/\(p i).size≠64))/\w'=w:=by
 go_enter func61,ntmps61;go_wp2_with fail;go_loop [8] (λi=>∃k:Nat,k<=n/\i=.int .i64 k/\Hid (∀j,j<k->(p j).size=64)) (λi=>(n:Nat)-(intOf i).toNat)
 case atStart=>exact⟨0,Nat.zero_le _,rfl,λj hj=>by omega⟩
 case round=>
  obtain⟨k,hk,rfl,y7⟩:=hrel;by_cases p9:k<n
  ·rcases ha with h0|⟨b,o,rfl,ha⟩
   ·omega
   have x5:=ha k p9;have iS:=a8h (p k) w;have HA:Hid _:=ha;clear ha;by_cases h64:(p k).size=64
   ·rw[decide_eq_false (λh=>h h64)]at iS;go_wp2_with fail;refine iS.mono ?_;rintro e w' ⟨rfl,rfl⟩;go_wp2_with fail;go_round
    case rel=>exact⟨k+1,by omega,by go_num,λj hj=>by
     by_cases e:j=k
     ·rw[e];exact h64
     ·exact y7.out j (by omega)⟩
    case measure=>simp[intOf];omega
   ·rw[decide_eq_true h64]at iS;go_wp2_with fail;refine iS.mono ?_;rintro e w' ⟨rfl,rfl⟩;go_wp2_with fail;go_ret;exact⟨⟨(k:Int),rfl,⟨λ_=>⟨k,p9,h64⟩,λ_=>by omega⟩⟩,rfl⟩
  ·have aM:k=n:=(by omega);subst aM;clear ha;go_wp2_with fail;go_ret;exact⟨⟨-1,rfl,⟨λh=>by omega,λ⟨i,hi,h⟩=>absurd (y7.out i hi) h⟩⟩,rfl⟩
theorem b6f (a:Option Addr)(n ca:Nat)(p:Nat->BA)(w:World)(hn:n<=1000000)(ha:Sa w a n p):
 Calls prog 27 #[.slice a n ca,c5m] w λe w'=>e=.returned (.bool (decide (∃i,i<n/\(p i).size≠64)))/\w'=w:=by
 go_enter func27,ntmps27;go_wp2_with fail;refine(c7z a n ca p w hn ha).mono ?_;rintro e w' ⟨⟨z,rfl,hz⟩,rfl⟩;have HZ:Hid (0<=z↔∃i,i<n/\(p i).size≠64):=hz;clear hz;go_wp2_with fail;go_ret;refine⟨congrArg (λb=>Ending.returned (.bool b)) ?_,rfl⟩;exact decide_eq_decide.2 HZ.out
def a6h (d s k:Nat):List Value:=(List.range k).flatMap λi=>(stepV d s i).toList
theorem a8d (d s k:Nat):a6h d s (k+1)=a6h d s k++(stepV d s k).toList:=by unfold a6h;rw[List.range_succ,List.flatMap_append];simp
theorem a5t (d s k:Nat):(a6h d s k).length=k*3:=by
 induction k with
 |zero=>rfl
 |succ k ih=>rw[a8d,List.length_append,ih];simp[stepV];omega
theorem d0y (d s k i j:Nat)(hi:i<k)(v:Value)(hj:j<3)(hv:(stepV d s i).toList[j]?=some v):(a6h d s k)[i*3+j]?=some v:=by
 induction k with
 |zero=>omega
 |succ k ih=>
  rw[a8d];by_cases h:i<k
  ·rw[List.getElem?_append_left (by rw[a5t];omega)];exact ih h
  ·have:i=k:=(by omega);subst this;rw[List.getElem?_append_right (by rw[a5t];omega),a5t,show i*3+j-i*3=j by omega];exact hv
theorem infoStep:(prog.info? 205).map (λi=>(i.zero,i.size,i.bytes))=some (some (.agg #[.int .i64 0,.int .i64 0,.int .i64 0]),3,24):=by kernel_rfl
theorem d5o (w:World)(T:TypeId)(L:List Value):∀i u,L[i]?=some u->(w.alloc (.cells L.toArray T)).cell? ((⟨w.heap.size,0,none⟩:Addr).add i)=some u:=by
 intro i u h;have hb:=Blk.new w T L.toArray;rw[List.toList_toArray]at hb;rw[Go.WideShapes.add_plain,Nat.zero_add];exact hb.cell h
theorem b8c (d n s:Nat)(hn:2^d=n)(hd:d<=4)(hs:s<2^d)(gl gs:Nat)(w:World)(hl:w.cell? ⟨gl,0,none⟩=some (.int .i64 (n:Int)))(gK:w.cell? ⟨gs,0,none⟩=some (.int .i64 (s:Int))):
 Calls prog 176 #[.slice none 0 0,.func (.func 177) #[] #[.pointer (some ⟨gl,0,none⟩),.pointer (some ⟨gs,0,none⟩)]] w λe w'=>∃v,e=.returned v/\w'.ownsRow w.heap.size 205 3 v d (a6h d s d)/\Below w.heap.size w w':=by
 have aY:=a1v hl;have nV:=a1v gK;have HN:Hid (2^d=n):=hn;have b0:=Blk.new w 203 #[.slice none 0 0];have hB0:Below w.heap.size w (w.alloc (.cells #[.slice none 0 0] 203)):=(qw _ w).alloc (ql _) _;have aA:(w.alloc (.cells #[.slice none 0 0] 203)).heap.size=w.heap.size+1:=by simp
 refine(callsIn_wide (n:=9)).1 ?_;refine callsIn_of_wp_marks func176 rfl trivial ?_ rfl;simp only[ntmps176,List.size_toArray,List.length_cons,List.length_nil,Nat.reduceAdd,Nat.reduceSub,Array.replicate_succ,Array.replicate_zero,List.push_toArray,List.append_toArray,List.nil_append,List.cons_append]
 gi_wp2_with fail
 generalize w.alloc (.cells #[.slice none 0 0] 203)=W0 at b0 hB0 aA⊢;obtain⟨i0,hi,hz0,hz1,hz2⟩:=info_parts infoStep;refine a9f (enc:=λk=>#[.agg (stepV d s k)]) (c:=1) (N:=d) (MM:=λk=>k=w.heap.size\/w.heap.size+4<=k) rfl (enters_of func177 (by kernel_rfl) rfl)
  (b3o 8 d s hd hs W0 _ gl gs (by omega) (by omega) (by rw[HN.out];exact(hB0.cell (p:=⟨gl,0,none⟩) aY).trans hl) ((hB0.cell (p:=⟨gs,0,none⟩) nV).trans gK) (λk hk=>by omega)) (λk hk=>by omega) (λ_=>rfl)
  (λk W=>∃v,Blk W w.heap.size 203 [v]/\W.ownsRow (w.heap.size+4) 205 3 v k (a6h d s k)/\Below w.heap.size w W) (λ_ _ _=>False)
  ?hI (λ_ _ _ _ h _=>h) ⟨_,b0,World.ownsRow_nil _ _ _ _,hB0⟩
  (λk a' W=>∃Bx,Blk W Bx 205 (stepV d s k).toList/\w.heap.size+4<=Bx/\a'={tmps:=#[.slice none 0 0,.func (.func 177) #[] #[.pointer (some ⟨gl,0,none⟩),.pointer (some ⟨gs,0,none⟩)],.pointer (some ⟨w.heap.size,0,none⟩),undef,.slice none 0 0,.pointer (some ⟨Bx,0,none⟩),.func (.func 177) #[] #[.pointer (some ⟨gl,0,none⟩),.pointer (some ⟨gs,0,none⟩)],.agg (stepV d s k),undef,undef,undef,undef,undef],defers:=[]}) ?hA ?assign ?body ?done ?stop
 case hI=>
  rintro k A B ⟨v,hv,hr,hb⟩ hk;refine⟨v,hv.kept hk (by omega),a2n hr hk (λj hj=>?_),hk.below hb hb.size (λj hj=>by omega)⟩;have:=(World.ownsRow.lt hr j hj).1;omega
 case hA=>
  rintro k a' A B ⟨Bx,hb,hx,rfl⟩ hk;exact⟨Bx,hb.kept hk (by omega),hx,rfl⟩
 case assign=>
  rintro k W K hk ⟨v,hv,hr,hb⟩ hs hK;unfold stepV;have hb:=Blk.new W 205 (stepV d s k);unfold stepV at hb
  gi_wp2
  exact hK _ _ ((Kept.refl _ W).alloc _) ⟨W.heap.size,hb,by omega,rfl⟩
 case body=>
  rintro k a' W hk ⟨v,hv,hr,hb⟩ ⟨Bx,hx,dX,rfl⟩ hs;have c6:=hv.cell (i:=0) rfl;have x0:W.cell? ⟨Bx,0,none⟩=some (.int .i64 (k:Int)):=hx.cell (i:=0) rfl;have x1:W.cell? ⟨Bx,1,none⟩=some (.int .i64 (nd d s k:Int)):=hx.cell (i:=1) rfl;have x2:W.cell? ⟨Bx,2,none⟩=some (.int .i64 (sd d s k:Int)):=hx.cell (i:=2) rfl;have HS:Hid (a6h d s (k+1)=a6h d s k++[.int .i64 (k:Int),.int .i64 (nd d s k:Int),.int .i64 (sd d s k:Int)]):=a8d d s k;have hk':k+1<=4:=by omega
  generalize stepV d s k=sv at hx⊢;generalize nd d s k=M at x1 HS;generalize sd d s k=S at x2 HS
  gi_wp2_with (gi_at_builtin;refine wpListIn_append_own _ rfl _ _ 203 rfl (w.heap.size+4) 205 i0 (.agg #[.int .i64 0,.int .i64 0,.int .i64 0]) 3 24 underlying203 hi hz0 hz1 hz2 rfl (by decide) _ _ _ rfl (hr.alloc _) ⟨W.heap.size,0,none⟩ 1 1 [.int .i64 (k:Int),.int .i64 (M:Int),.int .i64 (S:Int)] rfl rfl (d5o W 205 _) (by simp[Value.oneCell']) (by unfold maxLen;omega) (by omega) (by simp;omega) ?_;intro v' w1 t6 q9 _;obtain⟨g',cap',rfl⟩:=ownsRow_succ t6;have hk1:=((Kept.refl (λj=>v.ownBlock=some j) W).alloc (.cells #[.int .i64 (k:Int),.int .i64 (M:Int),.int .i64 (S:Int)] 205)).grown q9 (λj e=>.inl e);have hv1:=hv.kept hk1 (λe=>by have:=(World.ownsRow.lt hr _ e).1;omega);have hc1:=hv1.cell (i:=0) rfl;have hf1:=hv1.frozen 0)
  have hk2:Kept (λj=>j=w.heap.size\/w.heap.size+4<=j) W (w1.setCell ⟨w.heap.size,0,none⟩ (.slice (some ⟨g',0,none⟩) (k+1) cap')):=(hk1.mono (λj _ e=>.inr (World.ownsRow.lt hr j e).1)).setCell (.inl (.inl rfl)) 0 _;refine⟨hk2,_,hv1.setCell 0 _,?_,hk2.below hb hb.size (λj hj=>by omega)⟩;rw[HS.out];refine a2n t6 (Kept.one w1 w.heap.size 0 _) (λj hj=>?_);have:=(World.ownsRow.lt t6 j hj).1;omega
 case done=>
  rintro W ⟨v,hv,hr,hb⟩ hD;have c6:=hv.cell (i:=0) rfl;have hp:=Kept.put W W0.heap.size (.deferred none)
  gi_wp2_with fail
  refine⟨by simp,.inl ⟨_,_,rfl,run_takeDeferred hD,?_⟩⟩;refine⟨_,results_tmp rfl _ _ _,v,rfl,b9o (a2n hr hp (λj hj=>?_)) (by omega),hp.below hb hb.size (λj hj=>by omega)⟩;have:=(World.ownsRow.lt hr j hj).1;omega
 case stop=>
  rintro c k W _ h _;exact h.elim
theorem c4p (d n s:Nat)(hn:2^d=n)(hd:d<=4)(hs:s<2^d)(gl gs:Nat)(w:World)(hl:w.cell? ⟨gl,0,none⟩=some (.int .i64 (n:Int)))(gK:w.cell? ⟨gs,0,none⟩=some (.int .i64 (s:Int))):
 Calls prog 127 #[.func (.func 177) #[] #[.pointer (some ⟨gl,0,none⟩),.pointer (some ⟨gs,0,none⟩)]] w λe w'=>∃v,e=.returned v/\w'.ownsRow w.heap.size 205 3 v d (a6h d s d)/\Below w.heap.size w w':=by
 have h:=b8c d n s hn hd hs gl gs w hl gK;clear hl gK;go_enter func127,ntmps127;go_wp2_with fail;refine h.mono ?_;rintro e w' ⟨v,rfl,hv,hb⟩;go_wp2_with fail;go_ret;exact⟨v,rfl,hv,hb⟩
theorem e1h (v:Value)(w:World)(a:Option Addr)(k c:Nat)(hv:v=.slice a k c):Calls prog 126 #[v] w λe w'=>e=.returned (.func (.func 175) #[] #[.pointer (some ⟨w.heap.size,0,none⟩)])/\w'=w.alloc (.cells #[v] 203):=by
 subst hv;go_enter func126,ntmps126;go_wp2;go_ret;exact⟨rfl,rfl⟩
attribute [local go_sem] Oper.semAt_some
theorem d6e (n d s:Nat)(hd1:1<=d)(hd:d<=4)(w:World)(MM:Nat->Prop)(gb gr cap:Nat)(hgb:gb<w.heap.size)(dO:gr<w.heap.size)
 (nZ:w.cell? ⟨gb,0,none⟩=some (.slice (some ⟨gr,0,none⟩) d cap))(iF:∀i j v,i<d->j<3->(stepV d s i).toList[j]?=some v->w.cell? ⟨gr,i*3+j,none⟩=some v)
 (hM:∀k,MM k->k≠gb/\k≠gr):
 Iter prog n 175 #[.pointer (some ⟨gb,0,none⟩)] (λj=>#[.int .i64 ((d-1-j:Nat):Int),.agg (stepV d s (d-1-j))]) d w 0 MM:=by
 intro J Jx W hW hWs hJ hJx hY h0;have hb0:W.cell? ⟨gb,0,none⟩=some (.slice (some ⟨gr,0,none⟩) d cap):=(hW.cell (p:=⟨gb,0,none⟩) hgb).trans nZ;have hr0:Hid (∀i j v,i<d->j<3->(stepV d s i).toList[j]?=some v->W.cell? ⟨gr,i*3+j,none⟩=some v):=λi j v hi hj hv=>(hW.cell (p:=⟨gr,i*3+j,none⟩) dO).trans (iF i j v hi hj hv);refine callsIn_of_wp func175 rfl trivial ?_ rfl;simp only[ntmps175,List.size_toArray,List.length_cons,List.length_nil,Nat.reduceAdd,Nat.reduceSub,Array.replicate_succ,Array.replicate_zero,List.push_toArray,List.append_toArray,List.nil_append,List.cons_append];clear nZ iF
 gi_wp2
 gi_loopw [3] (λp wr=>∃j:Nat,j<=d/\p=.int .i64 ((d:Int)-1-(j:Int))/\wr.cell? ⟨gb,0,none⟩=some (.slice (some ⟨gr,0,none⟩) d cap)/\Hid (∀i j v,i<d->j<3->(stepV d s i).toList[j]?=some v->wr.cell? ⟨gr,i*3+j,none⟩=some v)/\J j wr/\w.heap.size+2<=wr.heap.size) (λp _=>(intOf p+1).toNat)
 case atStart=>exact⟨0,Nat.zero_le _,by simp,hb0,hr0,h0,by omega⟩
 case round=>
  clear hb0 hr0 h0;obtain⟨j,hj,rfl,hb,hr,tX,aA⟩:=hrel;rcases Nat.lt_or_ge j d with p9|mC
  ·obtain⟨m,hm⟩:∃m,d-1-j=m:=⟨_,rfl⟩;have hmd:m<d:=(by omega);have hmi:(d:Int)-1-(j:Int)=(m:Int):=(by omega);have hmi2:(m:Int)<(d:Int):=(by omega);have hy:=hY j wr p9 tX aA;rw[hm]at hy;unfold stepV at hy;have x0:=hr.out m 0 _ hmd (by decide) rfl;have x1:=hr.out m 1 _ hmd (by decide) rfl;have x2:=hr.out m 2 _ hmd (by decide) rfl;rw[Nat.add_zero]at x0;obtain⟨fn,tmps,assign,body,hy,hR⟩:=hy;rw[hmi]
   gi_wp2
   refine⟨λh=>(by cases h),hR.mono ?_⟩;rintro e W3 ⟨hk3,h3⟩;have hz3:w.heap.size+2<=W3.heap.size:=Nat.le_trans aA hk3.size;have hb3:W3.cell? ⟨gb,0,none⟩=some (.slice (some ⟨gr,0,none⟩) d cap):=(hk3.cell (p:=⟨gb,0,none⟩) (show gb<_ by omega) (λh=>by rcases h with h|h;exact absurd h (show gb≠_ by omega);exact(hM _ h).1 rfl)).trans hb;have hr3:Hid (∀i j v,i<d->j<3->(stepV d s i).toList[j]?=some v->W3.cell? ⟨gr,i*3+j,none⟩=some v):=λi j v hi hj hv=>(hk3.cell (p:=⟨gr,i*3+j,none⟩) (show gr<_ by omega) (λh=>by rcases h with h|h;exact absurd h (show gr≠_ by omega);exact(hM _ h).2 rfl)).trans (hr.out i j v hi hj hv);rcases h3 with⟨rfl,hJ3⟩|⟨rfl,qA⟩
   ·clear hb x0 x1 x2 hy hR
    gi_wp2
    go_roundw
    case rel=>exact⟨j+1,p9,by rw[show(d:Int)-1-((j+1:Nat):Int)=(m:Int)-1 by omega],hb3,hr3,hJ3,hz3⟩
    case measure=>simp[intOf]
   ·gi_wp2
    refine bodyPost_ret (results_none rfl _ _ _) rfl ?_;exact⟨⟨_,rfl⟩,.inr ⟨j+1,p9,qA⟩⟩
  ·have hjd:j=d:=(by omega);subst hjd;rw[show(j:Int)-1-(j:Int)=-1 by omega]
   gi_wp2
   go_end0;exact⟨⟨_,rfl⟩,.inl tX⟩
attribute [local go_sem] Oper.semAt_some
def cN (n s:Nat)(p:Nat->BA)(x:BA)(j i:Nat):BA:=if n<=i+j then neu n s p x i else noB
theorem e6h (n s:Nat)(p:Nat->BA)(x:BA)(i:Nat)(h:i<n):cN n s p x 0 i=noB:=by unfold cN;rw[qn (by omega)]
theorem e6i (n s:Nat)(p:Nat->BA)(x:BA)(j i:Nat)(h:j<n):upd (cN n s p x j) (n-1-j,neu n s p x (n-1-j)) i=cN n s p x (j+1) i:=by
 unfold upd cN;dsimp only;by_cases e:i=n-1-j
 ·rw[qp e,qp (by omega),e]
 ·rw[qn e];by_cases h2:n<=i+j
  ·rw[qp h2,qp (by omega)]
  ·rw[qn h2,qn (by omega)]
theorem e9o (n s:Nat)(p:Nat->BA)(x:BA)(i:Nat):cN n s p x n i=neu n s p x i:=by unfold cN;rw[qp (by omega)]
theorem e7q (a:Option Addr)(n cap s:Nat)(x:BA)(p:Nat->BA)(h:okS n (s:Int))(hx:x.size=32/\∀i,i<n->(p i).size=64)(w:World)(hp:Sa w a n p)(ht:Tabs w):Calls prog 79 #[.int .i64 (s:Int),.slice a n cap,.string x] w λe w'=>
 ∃v,e=.returned (.tuple #[v,.string (cur n s p x n),.int .i64 0])/\w'.ownsRow w.heap.size 9 1 v n (strs n (neu n s p x))/\Below w.heap.size w w':=by
 have hu:=λz=>b2t a n cap (by have:=h.2.1;omega) z;have hc:=λz=>b0y ((2^n:Nat):Int) s z;rw[b7m n s h]at hc;obtain⟨h1,h2,_,h4⟩:=h;have h4':s<2^n:=by omega
 obtain⟨pb,po,rfl,x5⟩:=hp.cells h1;have pC:=a1v (x5 0 h1);obtain⟨N,hN⟩:∃N,2^n=N:=⟨_,rfl⟩;rw[hN]at hu hc;have HU:Hid _:=hu;have HC:Hid _:=hc;have HN:Hid (2^n=N):=hN;have HX:Hid (∀i,i<n->(p i).size=64):=hx.2;have h32:=hx.1;have b0:=Blk.new w 23 #[.slice (some ⟨pb,po,none⟩) n cap];have c0:=b0.cell (i:=0) rfl;have hB0:Below w.heap.size w (w.alloc (.cells #[.slice (some ⟨pb,po,none⟩) n cap] 23)):=(qw _ w).alloc (ql _) _;have aA:(w.alloc (.cells #[.slice (some ⟨pb,po,none⟩) n cap] 23)).heap.size=w.heap.size+1:=by simp
 have hp0:=hp.later hB0;have hm:=b7b n (by omega);clear hu hc hN h4 hp hx;refine(callsIn_wide (n:=9)).1 ?_;refine callsIn_of_wp_marks func79 rfl trivial ?_ rfl;simp only[ntmps79,List.size_toArray,List.length_cons,List.length_nil,Nat.reduceAdd,Nat.reduceSub,Array.replicate_succ,Array.replicate_zero,List.push_toArray,List.append_toArray,List.nil_append,List.cons_append]
 gi_wp2_with fail
 refine⟨trivial,(callsIn_wide.2 (HU.out _)).mono ?_⟩;rintro e w' ⟨rfl,hw'⟩;rw[hw'];clear hw' w' c0;generalize w.alloc (.cells #[.slice (some ⟨pb,po,none⟩) n cap] 23)=W0 at b0 hB0 aA hp0⊢
 gi_wp2_with fail
 refine⟨trivial,(callsIn_wide.2 (HC.out _)).mono ?_⟩;rintro e w' ⟨rfl,hw'⟩;rw[hw'];clear hw' w';have c0:=b0.cell (i:=0) rfl;have tD:=b6f _ n cap p W0 (by omega) hp0;rw[decide_eq_false (show ¬∃i,i<n/\(p i).size≠64 from λ⟨i,hi,h⟩=>h (HX.out i hi))]at tD;have HCT:Hid _:=tD;clear tD hp0
 gi_wp2_with fail
 refine⟨trivial,(callsIn_wide.2 HCT.out).mono ?_⟩;rintro e w' ⟨rfl,hw'⟩;rw[hw'];clear hw' w'
 gi_wp2_with fail
 refine⟨trivial,(callsIn_wide.2 (b6w _ _ _)).mono ?_⟩;rintro e w' ⟨rfl,hw'⟩;rw[hw'];clear hw' w' HU HC HCT;have hb0:=((((b0.alloc (.cells (strs n λ_=>noB).toArray 9)).alloc (.cells #[.slice (some ⟨w.heap.size+1,0,none⟩) n n] 23)).alloc (.cells #[.string x] 9)).alloc (.cells #[.int .i64 (N:Int)] 3)).alloc (.cells #[.int .i64 (s:Int)] 3);have hb1:=((((Blk.new W0 9 (strs n λ_=>noB).toArray).alloc (.cells #[.slice (some ⟨w.heap.size+1,0,none⟩) n n] 23)).alloc (.cells #[.string x] 9)).alloc (.cells #[.int .i64 (N:Int)] 3)).alloc (.cells #[.int .i64 (s:Int)] 3);have hb2:=(((Blk.new (W0.alloc (.cells (strs n λ_=>noB).toArray 9)) 23 #[.slice (some ⟨w.heap.size+1,0,none⟩) n n]).alloc (.cells #[.string x] 9)).alloc (.cells #[.int .i64 (N:Int)] 3)).alloc (.cells #[.int .i64 (s:Int)] 3);have hb3:=((Blk.new ((W0.alloc (.cells (strs n λ_=>noB).toArray 9)).alloc (.cells #[.slice (some ⟨w.heap.size+1,0,none⟩) n n] 23)) 9 #[.string x]).alloc (.cells #[.int .i64 (N:Int)] 3)).alloc (.cells #[.int .i64 (s:Int)] 3);have hb4:=(Blk.new (((W0.alloc (.cells (strs n λ_=>noB).toArray 9)).alloc (.cells #[.slice (some ⟨w.heap.size+1,0,none⟩) n n] 23)).alloc (.cells #[.string x] 9)) 3 #[.int .i64 (N:Int)]).alloc (.cells #[.int .i64 (s:Int)] 3);have hb5:=Blk.new ((((W0.alloc (.cells (strs n λ_=>noB).toArray 9)).alloc (.cells #[.slice (some ⟨w.heap.size+1,0,none⟩) n n] 23)).alloc (.cells #[.string x] 9)).alloc (.cells #[.int .i64 (N:Int)] 3)) 3 #[.int .i64 (s:Int)];simp only[World.size_alloc,aA]at hb1 hb2 hb3 hb4 hb5;have hB6:Below w.heap.size w (((((W0.alloc (.cells (strs n λ_=>noB).toArray 9)).alloc (.cells #[.slice (some ⟨w.heap.size+1,0,none⟩) n n] 23)).alloc (.cells #[.string x] 9)).alloc (.cells #[.int .i64 (N:Int)] 3)).alloc (.cells #[.int .i64 (s:Int)] 3)):=((((hB0.alloc (by omega) _).alloc (by simp;omega) _).alloc (by simp;omega) _).alloc (by simp;omega) _).alloc (by simp;omega) _;have oQ:(((((W0.alloc (.cells (strs n λ_=>noB).toArray 9)).alloc (.cells #[.slice (some ⟨w.heap.size+1,0,none⟩) n n] 23)).alloc (.cells #[.string x] 9)).alloc (.cells #[.int .i64 (N:Int)] 3)).alloc (.cells #[.int .i64 (s:Int)] 3)).heap.size=w.heap.size+6:=by simp[aA]
 simp only[World.size_alloc,aA];generalize((((W0.alloc (.cells (strs n λ_=>noB).toArray 9)).alloc (.cells #[.slice (some ⟨w.heap.size+1,0,none⟩) n n] 23)).alloc (.cells #[.string x] 9)).alloc (.cells #[.int .i64 (N:Int)] 3)).alloc (.cells #[.int .i64 (s:Int)] 3)=W6 at hb0 hb1 hb2 hb3 hb4 hb5 hB6 oQ⊢;clear b0 hB0 c0 hm;have fY:=c4p n N s HN.out h2 h4' (w.heap.size+1+1+1+1) (w.heap.size+1+1+1+1+1) W6 (hb4.cell rfl) (hb5.cell rfl);have HCO:Hid _:=fY;clear fY
 gi_wp2_with fail
 refine⟨trivial,(callsIn_wide.2 HCO.out).mono ?_⟩;rintro e wc ⟨v,rfl,hv,bW⟩;clear HCO;have x9:∀i j u,i<n->j<3->(stepV n s i).toList[j]?=some u->(a6h n s n)[i*3+j]?=some u:=λi j u hi hj hu=>d0y n s n i j hi u hj hu;have hv':=hv;rcases hv.2 with⟨_,h0⟩|⟨gr,cr,cu,rfl,sJ,jT,_⟩
 ·omega
 have mA:gr<wc.heap.size:=(Array.getElem?_eq_some_iff.1 jT).1;have iF:∀i j u,i<n->j<3->(stepV n s i).toList[j]?=some u->wc.cell? ⟨gr,i*3+j,none⟩=some u:=λi j u hi hj hu=>(hv'.cellAt (i*3+j) (by omega)).trans (x9 i j u hi hj hu);have HCR:Hid _:=iF;have k0:=hb0.below bW hb0.lt;have k1:=hb1.below bW hb1.lt;have k2:=hb2.below bW hb2.lt;have k3:=hb3.below bW hb3.lt;have qC:=hB6.trans (bW.mono (by omega));have rB:=bW.size;rw[oQ]at rB sJ;clear hb0 hb1 hb2 hb3 hb4 hb5 hB6 x9 hv hv' jT iF bW oQ aA
 gi_wp2_with fail
 refine⟨trivial,(callsIn_wide.2 (e1h _ wc _ n cr rfl)).mono ?_⟩;rintro e w' ⟨rfl,hw'⟩;rw[hw'];clear hw' w'
 gi_wp2_with fail
 have m0:=k0.alloc (.cells #[.slice (some ⟨gr,0,none⟩) n cr] 203);have m1:=k1.alloc (.cells #[.slice (some ⟨gr,0,none⟩) n cr] 203);have m2:=k2.alloc (.cells #[.slice (some ⟨gr,0,none⟩) n cr] 203);have m3:=k3.alloc (.cells #[.slice (some ⟨gr,0,none⟩) n cr] 203);have m4:=Blk.new wc 203 #[.slice (some ⟨gr,0,none⟩) n cr];have hBL:Below w.heap.size w (wc.alloc (.cells #[.slice (some ⟨gr,0,none⟩) n cr] 203)):=qC.alloc (by omega) _;have oP:(wc.alloc (.cells #[.slice (some ⟨gr,0,none⟩) n cr] 203)).heap.size=wc.heap.size+1:=by simp
 have iP:Hid (∀i j u,i<n->j<3->(stepV n s i).toList[j]?=some u->(wc.alloc (.cells #[.slice (some ⟨gr,0,none⟩) n cr] 203)).cell? ⟨gr,i*3+j,none⟩=some u):=λi j u hi hj hu=>by
  have h:=HCR.out i j u hi hj hu;rw[World.cell?_alloc_some _ _ _ (by rw[h];rfl)];exact h
 generalize wc.alloc (.cells #[.slice (some ⟨gr,0,none⟩) n cr] 203)=WL at m0 m1 m2 m3 m4 hBL oP iP⊢;clear k0 k1 k2 k3 HCR qC;generalize wc.heap.size=L at m4 oP rB mA⊢;clear wc;refine a9f (enc:=λk=>#[.int .i64 ((n-1-k:Nat):Int),.agg (stepV n s (n-1-k))]) (c:=0) (N:=n) (MM:=λk=>k=w.heap.size+1\/k=w.heap.size+1+1+1\/L+3<=k) rfl (enters_of func175 (by kernel_rfl) rfl)
  (d6e 8 n s h1 h2 WL _ L gr cr (by omega) (by omega) (m4.cell rfl) iP.out (λk hk=>by omega)) (λk hk=>by omega) (λ_=>rfl)
  (λk W=>Blk W w.heap.size 23 [.slice (some ⟨pb,po,none⟩) n cap]/\Blk W (w.heap.size+1) 9 (strs n (cN n s p x k))/\Blk W (w.heap.size+1+1) 23 [.slice (some ⟨w.heap.size+1,0,none⟩) n n]/\Blk W (w.heap.size+1+1+1) 9 [.string (cur n s p x k)]/\Below w.heap.size w W)
  (λ_ _ _=>False)
  ?hI (λ_ _ _ _ h _=>h) ⟨m0,by rw[a1d n (cN n s p x 0) (λ_=>noB) (λi hi=>e6h n s p x i hi)];exact m1,m2,m3,hBL⟩
  (λk a' W=>∃Bx,Blk W Bx 205 (stepV n s (n-1-k)).toList/\L+3<=Bx/\a'={tmps:=#[.int .i64 (s:Int),.slice (some ⟨pb,po,none⟩) n cap,.string x,undef,.pointer (some ⟨w.heap.size,0,none⟩),undef,.slice none 0 0,.string noB,.int .i64 0,.int .i64 (N:Int),.pointer (some ⟨w.heap.size+1+1,0,none⟩),.pointer (some ⟨w.heap.size+1+1+1,0,none⟩),undef,.pointer (some ⟨Bx,0,none⟩),.slice (some ⟨pb,po,none⟩) n cap,.int .i64 (N:Int),.int .i64 (N:Int),.int .i64 (s:Int),.bool true,.bool false,.string x,.int .i64 32,.bool false,.bool false,.slice (some ⟨pb,po,none⟩) n cap,.bool false,.bool false,.slice (some ⟨pb,po,none⟩) n cap,.int .i64 (n:Int),.slice (some ⟨w.heap.size+1,0,none⟩) n n,.string x,.int .i64 (N:Int),.int .i64 (s:Int),.func (.func 177) #[] #[.pointer (some ⟨w.heap.size+1+1+1+1,0,none⟩),.pointer (some ⟨w.heap.size+1+1+1+1+1,0,none⟩)],.slice (some ⟨gr,0,none⟩) n cr,.func (.func 175) #[] #[.pointer (some ⟨L,0,none⟩)],.int .i64 ((n-1-k:Nat):Int),.agg (stepV n s (n-1-k)),undef,undef,undef,undef,undef,undef,undef,undef,undef,undef,undef,undef,undef,undef,undef,undef,undef,undef,undef,undef,undef],defers:=[]}) ?hA ?assign ?body ?done ?stop
 case hI=>
  rintro k A B ⟨q0,q1,q2,q3,q4⟩ hk;exact⟨q0.kept hk (by omega),q1.kept hk (by omega),q2.kept hk (by omega),q3.kept hk (by omega),hk.below q4 q4.size (λj hj=>by omega)⟩
 case hA=>
  rintro k a' A B ⟨Bx,hb,hx,rfl⟩ hk;exact⟨Bx,hb.kept hk (by omega),hx,rfl⟩
 case assign=>
  rintro k W K hk _ hs hK;unfold stepV;have hb:=Blk.new W 205 (stepV n s (n-1-k));unfold stepV at hb
  gi_wp2
  exact hK _ _ ((Kept.refl _ W).alloc _) ⟨W.heap.size,hb,by omega,rfl⟩
 case body=>
  rintro k a' W hk ⟨q0,q1,q2,q3,q4⟩ ⟨Bx,hx,dX,rfl⟩ hs;have x0:W.cell? ⟨Bx,0,none⟩=some (.int .i64 ((n-1-k:Nat):Int)):=hx.cell (i:=0) rfl;have x2:W.cell? ⟨Bx,2,none⟩=some (.int .i64 (sd n s (n-1-k):Int)):=hx.cell (i:=2) rfl;have cH:n-1-k<n:=by omega
  have mF:=λi=>e6i n s p x k i hk;have iE:=c6l n s p x k hk;have cR:=c6m n s p x h32 k;have kT:=HX.out _ cH;have oX:=b6e n s (n-1-k);have gL:neu n s p x (n-1-k)=b1p (p (n-1-k)) (sd n s (n-1-k)) (cur n s p x k):=by unfold neu;rw[show n-1-(n-1-k)=k by omega]
  obtain⟨m,hm⟩:∃m,n-1-k=m:=⟨_,rfl⟩;have jL:=c5p n s p x h32 m (HX.out m (by omega));rw[hm]at x0 x2 cH kT oX gL iE mF hx⊢;have iQ:=λz=>b8n (p m) (cur n s p x k) (sd n s m) oX kT cR z;rw[<-gL]at iQ;have iW:Hid _:=iQ;have c0:=q0.cell (i:=0) rfl;have c2:=q2.cell (i:=0) rfl;have c3:=q3.cell (i:=0) rfl;have cp:W.cell? ⟨pb,po+m,none⟩=some (.string (p m)):=(q4.cell (p:=⟨pb,po+m,none⟩) pC).trans (x5 m cH);have c1:=q1.cell (a0s n (cN n s p x k) m cH);have f1:=q1.frozen m;have hmi:(m:Int)<(n:Int):=by omega
  have uP:Hid _:=mF;have mT:Hid _:=iE;clear hm iQ gL kT mF iE;generalize stepV n s m=sv at hx⊢;generalize p m=X at cp iW;generalize sd n s m=S at x2 oX iW;generalize cur n s p x k=Y at c3 q3 cR iW;generalize hZ:neu n s p x m=Z at iW jL
  gi_wp2_with fail
  have r0:Blk W.drew w.heap.size 23 [.slice (some ⟨pb,po,none⟩) n cap]:=q0;have r1:Blk W.drew (w.heap.size+1) 9 (strs n (cN n s p x k)):=q1;have r2:Blk W.drew (w.heap.size+1+1) 23 [.slice (some ⟨w.heap.size+1,0,none⟩) n n]:=q2;have r3:Blk W.drew (w.heap.size+1+1+1) 9 [.string Y]:=q3;have rx:Blk W.drew Bx 205 sv.toList:=hx;have nT:Kept (λ_=>False) W W.drew:=(Kept.refl _ W).drew;have rc:Hid (W.drew.cell? ⟨w.heap.size+1+1,0,none⟩=some (.slice (some ⟨w.heap.size+1,0,none⟩) n n)/\W.drew.cell? ⟨Bx,0,none⟩=some (.int .i64 (m:Int))/\W.drew.cell? ⟨Bx,2,none⟩=some (.int .i64 (S:Int))/\W.drew.cell? ⟨w.heap.size,0,none⟩=some (.slice (some ⟨pb,po,none⟩) n cap)/\W.drew.cell? ⟨pb,po+m,none⟩=some (.string X)/\W.drew.cell? ⟨w.heap.size+1+1+1,0,none⟩=some (.string Y)):=⟨c2,x0,x2,c0,cp,c3⟩;have hsW:w.heap.size<W.drew.heap.size:=q0.lt;refine a5g (S:=λz:World=>z.cell? ⟨w.heap.size+1+1,0,none⟩=some (.slice (some ⟨w.heap.size+1,0,none⟩) n n)/\z.cell? ⟨Bx,0,none⟩=some (.int .i64 (m:Int))/\z.cell? ⟨Bx,2,none⟩=some (.int .i64 (S:Int))/\z.cell? ⟨w.heap.size,0,none⟩=some (.slice (some ⟨pb,po,none⟩) n cap)/\z.cell? ⟨pb,po+m,none⟩=some (.string X)/\z.cell? ⟨w.heap.size+1+1+1,0,none⟩=some (.string Y)) (by kernel_rfl) (by kernel_rfl) rc.out (λp8=>?_);generalize W.drew=Wd at p8 r0 r1 r2 r3 rx nT rc hsW⊢;clear c0 c1 c2 c3 cp x0 x2 f1;refine tkH 0 ?_;go_simp;refine tkH 1 ?_;go_simp;refine tkH 2 ?_;go_simp;refine tkH 3 ?_;go_simp;refine tkH 4 ?_;go_simp;refine tkH 5 ?_;go_simp;refine tkH 6 ?_;go_simp;refine tkH 7 ?_;go_simp;refine tkH 8 ?_;go_simp;refine tkH 9 ?_;go_simp;refine tkH 10 ?_;go_simp;refine rdH 11 λK hK=>?_;go_simp;go_at_call 129;refine Calls.mono (iW.out _) ?_;rintro e wa ⟨rfl,aP⟩;rw[aP];clear aP wa;refine hK.out _ _ rc.out (λp8=>?_);clear hK K;refine tkH 12 ?_;go_simp;have c1:=r1.cell (a0s n (cN n s p x k) m cH);have f1:=r1.frozen m;refine rdH 13 λK hK=>?_;go_simp;refine hK.out _ _ ⟨(World.cell?_setCell_far _ _ _ _ (show w.heap.size+1≠w.heap.size+1+1 by omega)).trans rc.out.1,(World.cell?_setCell_far _ _ _ _ (show w.heap.size+1≠Bx by omega)).trans rc.out.2.1,(World.cell?_setCell_far _ _ _ _ (show w.heap.size+1≠Bx by omega)).trans rc.out.2.2.1,(World.cell?_setCell_far _ _ _ _ (show w.heap.size+1≠w.heap.size by omega)).trans rc.out.2.2.2.1,(World.cell?_setCell_far _ _ _ _ (show w.heap.size+1≠pb by omega)).trans rc.out.2.2.2.2.1,(World.cell?_setCell_far _ _ _ _ (show w.heap.size+1≠w.heap.size+1+1+1 by omega)).trans rc.out.2.2.2.2.2⟩ (λp8=>?_);clear hK K;refine wpAnyH_done (by kernel_rfl) ?_ _;refine Onward.mk ?_;have t0:=r0.setOther (show w.heap.size≠w.heap.size+1 by omega) m (.string Z);have t1:Blk (Wd.setCell ⟨w.heap.size+1,m,none⟩ (.string Z)) (w.heap.size+1) 9 (strs n (cN n s p x (k+1))):=by
   have:=r1.setCell m (.string Z);rw[a2y,<-hZ]at this;rw[a1d n (cN n s p x (k+1)) _ (λi _=>(uP.out i).symm),<-hZ];exact this
  have t2:=r2.setOther (show w.heap.size+1+1≠w.heap.size+1 by omega) m (.string Z);have t3:=r3.setOther (show w.heap.size+1+1+1≠w.heap.size+1 by omega) m (.string Z);have tx:=rx.setOther (show Bx≠w.heap.size+1 by omega) m (.string Z);have hk2:Kept (λj=>j=w.heap.size+1\/j=w.heap.size+1+1+1\/L+3<=j) W (Wd.setCell ⟨w.heap.size+1,m,none⟩ (.string Z)):=(nT.mono (λ_ _ h=>h.elim)).setCell (.inl (.inl rfl)) _ _;have y0:=p8.2.1;have y2:=p8.1;clear p8 c1 f1 r0 r1 r2 r3 rx nT rc hsW iW;generalize Wd.setCell ⟨w.heap.size+1,m,none⟩ (.string Z)=W2 at t0 t1 t2 t3 tx hk2 y0 y2⊢;have hB2:=hk2.below q4 q4.size (λj hj=>by omega);have c1:=t1.cell (a0s n (cN n s p x (k+1)) m cH);rw[show cN n s p x (k+1) m=Z by rw[<-hZ,<-uP.out m];unfold upd;rw[qp rfl]]at c1;have bX:=b6z Z (by omega) W2 (ht.below hB2 ht.lt);rw[show a3p (⟨#[1]⟩++Z)=nH Z from rfl]at bX;have HNode:Hid _:=bX;clear bX
  gi_wp2_with fail
  refine⟨trivial,CallsIn.inRound _ ((callsIn_wide.2 HNode.out).mono ?_)⟩;rintro e w4 ⟨rfl,hb4⟩;have u0:=t0.below hb4 t0.lt;have u1:=t1.below hb4 t1.lt;have u2:=t2.below hb4 t2.lt;have u3:=t3.below hb4 t3.lt;have hk4:=hk2.thenBelow hb4;have c3:=u3.cell (i:=0) rfl;have f3:=u3.frozen 0;have mF:cur n s p x (k+1)=nH Z:=by rw[mT.out,hZ]
  have hk5:Kept (λj=>j=w.heap.size+1\/j=w.heap.size+1+1+1\/L+3<=j) W (w4.setCell ⟨w.heap.size+1+1+1,0,none⟩ (.string (nH Z))):=hk4.setCell (.inl (.inr (.inl rfl))) _ _;clear HNode t0 t1 t2 t3 tx hk2 c1 y0 y2 hB2
  gi_wp2_with fail
  refine⟨hk5,u0.setOther (by omega) _ _,u1.setOther (by omega) _ _,u2.setOther (by omega) _ _,?_,hk5.below q4 q4.size (λj hj=>by omega)⟩;rw[mF];exact u3.setCell 0 _
 case done=>
  rintro W ⟨q0,q1,q2,q3,q4⟩ hD;have c2:=q2.cell (i:=0) rfl;have c3:=q3.cell (i:=0) rfl
  gi_wp2_with fail
  refine wpIn_wide.2 ?_;go_region
  gi_wp2_with fail
  rw[oP]at hD;have hD':W.drew.heap[L+1]?=some (.deferred (some [])):=hD;have hp:=Kept.put W.drew (L+1) (.deferred none);refine⟨by simp,.inl ⟨_,_,rfl,run_takeDeferred hD',?_⟩⟩;refine⟨_,results_tmp3 rfl _ _ _,_,rfl,b2n (L:=strs n (neu n s p x)) ?_ (a0o _ _) (by omega) (by omega),?_⟩
  ·rw[a1d n (neu n s p x) (cN n s p x n) (λi _=>(e9o n s p x i).symm)];exact(show Blk W.drew (w.heap.size+1) 9 (strs n (cN n s p x n))from q1).kept hp (by omega)
  ·exact hp.below (show Below w.heap.size w W.drew from q4.drew) q4.size (λj hj=>by omega)
 case stop=>
  rintro c k W _ h _;exact h.elim
def depI (n:Int):Int:=if n=2 then 1 else if n=4 then 2 else if n=8 then 3 else if n=16 then 4 else 0
theorem b5i (n:Int)(w:World):Calls prog 135 #[.int .i64 n] w λe w'=>e=.returned (.int .i64 (depI n))/\w'=w:=by
 unfold depI;by_cases h2:n=2
 ·subst h2;go_enter func135,ntmps135;go_wp2;go_ret;exact⟨rfl,rfl⟩
 by_cases h4:n=4
 ·subst h4;go_enter func135,ntmps135;go_wp2;go_ret;exact⟨rfl,rfl⟩
 by_cases h8:n=8
 ·subst h8;go_enter func135,ntmps135;go_wp2;go_ret;exact⟨rfl,rfl⟩
 by_cases h16:n=16
 ·subst h16;go_enter func135,ntmps135;go_wp2;go_ret;exact⟨rfl,rfl⟩
 rw[qn h2,qn h4,qn h8,qn h16];go_enter func135,ntmps135;go_wp2;go_ret;exact⟨rfl,rfl⟩
theorem c6j (d:Nat)(h1:1<=d)(h2:d<=4):depI ((2^d:Nat):Int)=(d:Int):=by
 have:d=1\/d=2\/d=3\/d=4:=by omega
 rcases this with rfl|rfl|rfl|rfl<;>rfl
theorem e5y (n:Int)(h:¬(n=2\/n=4\/n=8\/n=16)):depI n=0:=by unfold depI;rw[qn (by omega),qn (by omega),qn (by omega),qn (by omega)]
theorem c6i (n:Int)(h:n=2\/n=4\/n=8\/n=16):∃d:Nat,1<=d/\d<=4/\n=((2^d:Nat):Int):=by
 rcases h with rfl|rfl|rfl|rfl
 ·exact⟨1,by decide,by decide,rfl⟩
 ·exact⟨2,by decide,by decide,rfl⟩
 ·exact⟨3,by decide,by decide,rfl⟩
 ·exact⟨4,by decide,by decide,rfl⟩
theorem b0t {d:Nat}(h1:1<=d)(h2:d<=4):a4u (2^d):=by
 have:d=1\/d=2\/d=3\/d=4:=by omega
 unfold a4u;rcases this with rfl|rfl|rfl|rfl<;>decide
def sizI (n:Nat):Nat:=if 1<=n/\n<=4 then 2^n else 0
theorem b8z (n:Nat)(hn:n<=1000000)(w:World):Calls prog 185 #[.int .i64 (n:Int)] w λe w'=>e=.returned (.int .i64 (sizI n:Int))/\w'=w:=by
 by_cases h:1<=n/\n<=4
 ·have:n=1\/n=2\/n=3\/n=4:=by omega
  rcases this with rfl|rfl|rfl|rfl
  ·rw[show((1:Nat):Int)=1 from rfl];go_enter func185,ntmps185;go_wp2;go_ret;exact⟨rfl,rfl⟩
  ·rw[show((2:Nat):Int)=2 from rfl];go_enter func185,ntmps185;go_wp2;go_ret;exact⟨rfl,rfl⟩
  ·rw[show((3:Nat):Int)=3 from rfl];go_enter func185,ntmps185;go_wp2;go_ret;exact⟨rfl,rfl⟩
  ·rw[show((4:Nat):Int)=4 from rfl];go_enter func185,ntmps185;go_wp2;go_ret;exact⟨rfl,rfl⟩
 ·have e:sizI n=0:=by unfold sizI;rw[qn h]
  have h1:(n:Int)≠1:=by omega
  have h2:(n:Int)≠2:=by omega
  have h3:(n:Int)≠3:=by omega
  have h4:(n:Int)≠4:=by omega
  rw[e];generalize(n:Int)=N at h1 h2 h3 h4⊢;go_enter func185,ntmps185;go_wp2;go_ret;exact⟨rfl,rfl⟩
theorem info3q:(prog.info? 3).map (λi=>(i.zero,i.size,i.bytes))=some (some (.int .i64 0),1,8):=by kernel_rfl
theorem e5e (n:Nat)(h:n<=512)(w:World):(Instr.makeSlice 55 (.int .i64 (n:Int)) (.int .i64 (n:Int))).run prog w=.ok (.slice (some ⟨w.heap.size,0,none⟩) n n) (w.alloc (.cells (nr .i64 n λ_=>0).toArray 3)):=by
 obtain⟨i0,hi,hz0,hz1,hz2⟩:=info_parts info3q;have hr:=run_make (P:=prog) w 55 3 i0 (.int .i64 0) underlying55 hi hz0 .i64 .i64 n n (by omega) (by omega) (by rw[hz2];omega) (by omega);rw[hz1,Int.toNat_natCast,show madeCells (Value.int .i64 0).cells (n*1)=(nr .i64 n λ_=>0).toArray from by
  apply Array.ext
  ·simp[madeCells,nr]
  ·intro i h1 h2;simp[madeCells,nr,Value.cells,Nat.mod_one]]at hr
 exact hr
def nM (d s j i:Nat):Nat:=if j<=i then nd d s i else 0
theorem c5h (d n s:Nat)(hn:2^d=n)(h:okS d (s:Int))(w:World):Calls prog 136 #[.int .i64 (n:Int),.int .i64 (s:Int)] w λe w'=>∃v,e=.returned (.tuple #[v,.int .i64 0])/\w'.ownsRow w.heap.size 3 1 v d (nr .i64 d (nd d s))/\Below w.heap.size w w':=by
 have hd:=b5i ((2^d:Nat):Int) w;obtain⟨h1,h2,_,h4⟩:=h;rw[c6j d h1 h2,hn]at hd;rw[hn]at h4;have h16:=a1f d h2;rw[hn]at h16;have hm:=e5e d (by omega);have HD:Hid _:=hd;have HN:Hid (2^d=n):=hn;have h4':(s:Int)<(n:Int):=h4;have hs4:s<2^d:=by omega
 have hdz:(d:Int)≠0:=by omega
 have g1:((d:Int)==0)=false:=beq_eq_false_iff_ne.2 hdz;have g2:decide ((s:Int)<0)=false:=decide_eq_false (by omega);have g3:decide (n<=s)=false:=decide_eq_false (by omega);have b0:Blk (w.alloc (.cells (nr .i64 d λ_=>0).toArray 3)) w.heap.size 3 (nr .i64 d (nM d s d)):=by
  have:=Blk.new w 3 (nr .i64 d λ_=>0).toArray;rw[List.toList_toArray]at this;rw[a0t .i64 d (nM d s d) (λ_=>0) (λi hi=>by unfold nM;rw[qn (by omega)])];exact this
 have hB0:Below w.heap.size w (w.alloc (.cells (nr .i64 d λ_=>0).toArray 3)):=(qw _ w).alloc (ql _) _;clear hd hn h4;go_enter func136,ntmps136;go_wp2_with fail;refine Calls.mono HD.out ?_;rintro e w' ⟨rfl,hw'⟩;rw[hw'];clear hw' w';go_wp2_with fail;generalize w.alloc (.cells (nr .i64 d λ_=>0).toArray 3)=W0 at b0 hB0⊢;clear hm;go_loopw[8,9] (λy i wr=>∃j:Nat,j<=d/\y=.int .i64 (nd d s j:Int)/\i=.int .i64 ((j:Int)-1)/\Blk wr w.heap.size 3 (nr .i64 d (nM d s j))/\Below w.heap.size w wr) (λ_ i _=>(intOf i+1).toNat)
 case atStart=>exact⟨d,ql _,by rw[b3t,HN.out];simp,rfl,b0,hB0⟩
 case round=>
  clear b0 hB0;obtain⟨j,hj,rfl,rfl,hb,hB⟩:=hrel;rcases Nat.eq_zero_or_pos j with rfl|hj1
  ·rw[show((0:Nat):Int)-1=-1 from rfl];go_wp2_with fail;go_ret2;refine⟨_,rfl,b2n (L:=nr .i64 d (nd d s)) ?_ (a0k _ _ _) (by omega) (ql _),hB⟩;rw[a0t .i64 d (nd d s) (nM d s 0) (λi hi=>by unfold nM;rw[qp (by omega)])];exact hb
  ·obtain⟨m,rfl⟩:∃m,j=m+1:=⟨j-1,by omega⟩;rw[show((m+1:Nat):Int)-1=(m:Int) by omega];have hhalf:=e5c d s m (by omega);have aX:=a2u d s m (by omega) hs4;have fF:nd d s (m+1)<=100:=by
    have:=c3n d s (m+1) (by omega) hs4;have:2^(m+1)<=2^d:=a3k (by omega);have:=HN.out;omega
   have c1:=hb.cell (a3c .i64 d (nM d s (m+1)) m (by omega));have f1:=hb.frozen m;have hmi:(m:Int)<(d:Int):=(by omega);have hb1:Blk (wr.setCell ⟨w.heap.size,m,none⟩ (.int .i64 (nd d s m:Int))) w.heap.size 3 (nr .i64 d (nM d s m)):=by
    have:=hb.setCell m (.int .i64 (nd d s m:Int));rw[a4i]at this;rw[a0t .i64 d (nM d s m) _ (λi hi=>?_)]
    ·exact this
    ·unfold nM;by_cases e:i=m
     ·rw[qp (by omega),qp e,e]
     ·rw[qn e];by_cases e2:m<=i
      ·rw[qp e2,qp (by omega)]
      ·rw[qn e2,qn (by omega)]
   have hB1:Below w.heap.size w (wr.setCell ⟨w.heap.size,m,none⟩ (.int .i64 (nd d s m:Int))):=hB.setCell (p:=⟨w.heap.size,m,none⟩) (ql _) _;have hq:(nd d s (m+1):Int)/2=(nd d s m:Int):=(by omega);generalize nd d s (m+1)=Y at hq fF⊢;generalize hM:nd d s m=M at hq hb1 hB1;go_wp2_with fail;go_roundw
   case rel=>exact⟨m,by omega,by rw[hM],rfl,hb1,hB1⟩
   case measure=>simp[intOf]
theorem kind1 (s:BA):a3p (strOfNums [(1:Int)]++s)=nH s:=rfl
theorem d2f (s:BA)(hs:s.size<=90000000)(w:World)(ht:RTabs w):Calls prog 93 #[.int .u8 1,.string s] w λe w'=>e=.returned (.string (nH s))/\Below w.heap.size w w':=by
 have h:=b3i 1 (by decide) s (by omega) w ht;rw[show(((1:Nat):Int))=1 from rfl,kind1]at h;exact h
theorem e4z (n:Nat)(s:Int)(h:¬okS n s):s<0\/(sizI n:Int)<=s:=by
 unfold okS at h;unfold sizI;by_cases h1:1<=n/\n<=4
 ·rw[qp h1];by_cases h2:s<0
  ·exact .inl h2
  ·exact .inr (Int.not_lt.1 λh3=>h ⟨h1.1,h1.2,by omega,h3⟩)
 ·rw[qn h1];omega
theorem e4c {n:Nat}{s:Int}(h:okS n s):sizI n=2^n:=by unfold sizI;rw[qp ⟨h.1,h.2.1⟩]
theorem c2w (top:BA)(s:Int)(a:Option Addr)(n cap:Nat)(hn:n<=1000000)(h:¬okS n s)(w:World):Calls prog 137 #[.string top,.int .i64 s,.slice a n cap] w λe w'=>e=.returned (.tuple #[.string noB,.int .i64 2])/\Below w.heap.size w w':=by
 have hz:=b8z n hn w;have h':=e4z n s h;generalize(sizI n:Int)=Z at hz h';by_cases hs:s<0
 ·go_enter func137,ntmps137;go_wp2_with fail;refine hz.mono ?_;rintro e w' ⟨rfl,hw'⟩;rw[hw'];clear hw' w';go_wp2_with fail;go_ret2;exact⟨rfl,qw _ _⟩
 ·have h2:Z<=s:=by omega
  have h0:0<=s:=by omega
  clear h h' hs;go_enter func137,ntmps137;go_wp2_with fail;refine hz.mono ?_;rintro e w' ⟨rfl,hw'⟩;rw[hw'];clear hw' w';go_wp2_with fail;go_ret2;exact⟨rfl,qw _ _⟩
theorem c8o (top:BA)(s:Nat)(a:Option Addr)(n cap:Nat)(p:Nat->BA)(h:okS n (s:Int))(w:World)(hp:Sa w a n p)(ht:RTabs w):Calls prog 137 #[.string top,.int .i64 (s:Int),.slice a n cap] w λe w'=>
 e=.returned (.tuple #[.string (folS n (s:Int) p top),.int .i64 (folE n (s:Int) p top)])/\Below w.heap.size w w':=by
 have sN:folS n (s:Int) p top=(fol n s p top n).getD noB:=by unfold folS;rw[qp h,Int.toNat_natCast]
 have sU:folE n (s:Int) p top=oE (fol n s p top n):=by unfold folE;rw[qp h,Int.toNat_natCast]
 rw[sN,sU];obtain⟨N,hN⟩:∃N,2^n=N:=⟨_,rfl⟩;have hz:=b8z n (by have:=h.2.1;omega) w;have cM:=λz=>c5h n N s hN h z;rw[e4c h,hN]at hz;obtain⟨h1,h2,_,h4⟩:=h;rw[hN]at h4;have h16:=a1f n h2;rw[hN]at h16;obtain⟨pb,po,rfl,x5⟩:=hp.cells h1;have pC:=a1v (x5 0 h1);have HC:Hid _:=x5;have HN:Hid (2^n=N):=hN;have HZ:Hid _:=hz;have qR:Hid _:=cM;have g2:decide ((s:Int)<0)=false:=decide_eq_false (by omega);have g3:decide (N<=s)=false:=decide_eq_false (by omega);have hs4:s<2^n:=by omega
 clear sN sU hz cM x5 hN hp;go_enter func137,ntmps137;go_wp2_with fail;refine Calls.mono HZ.out ?_;rintro e w' ⟨rfl,hw'⟩;rw[hw'];clear hw' w' HZ;go_wp2_with fail;refine Calls.mono (qR.out w) ?_;rintro e w1 ⟨v,rfl,hv,hb1⟩;clear qR;rcases hv.2 with⟨_,h0⟩|⟨gr,cr,cu,rfl,sJ,jT,_⟩
 ·omega
 have mA:gr<w1.heap.size:=(Array.getElem?_eq_some_iff.1 jT).1;have HR:Hid (∀i,i<n->w1.cell? ⟨gr,i,none⟩=some (.int .i64 (nd n s i:Int))):=λi hi=>(hv.cellAt i (by omega)).trans (a3c .i64 n (nd n s) i hi);clear hv jT;go_wp2_with fail;go_loopw[0,11] (λtv i wr=>∃(k:Nat) (t:BA),k<=n/\tv=.string t/\i=.int .i64 (k:Int)/\Hid (fol n s p top k=some t)/\Below w1.heap.size w1 wr) (λ_ i _=>n-(intOf i).toNat)
 case atStart=>exact⟨0,top,Nat.zero_le _,rfl,rfl,rfl,qw _ _⟩
 case round=>
  obtain⟨k,t,hk,rfl,rfl,hf,hB⟩:=hrel;have fA:Below w.heap.size w wr:=hb1.trans (hB.mono hb1.size);by_cases p9:k<n
  ·have cp:wr.cell? ⟨pb,po+k,none⟩=some (.string (p k)):=(fA.cell (p:=⟨pb,po+k,none⟩) pC).trans (HC.out k p9);have hki:(k:Int)<(n:Int):=(by omega);by_cases h64:(p k).size=64
   ·have nT:=d2f (p k) (by omega) wr (ht.below fA ht.lt);have HK:Hid _:=nT;have H64:Hid ((p k).size=64):=h64;clear nT;by_cases hq:nH (p k)=t
    ·have hy:=b7o hf.out h64 hq;have oX:=b6e n s k;have hS:sd n s k=0\/sd n s k=1:=(by omega);have dU:=a8i n s k p9;have hM100:nd n s k<=100:=(by have:=(a2u n s k p9 hs4).2;have:=HN.out;omega);have qb:((nH (p k)).toList==t.toList)=true:=(by rw[teq,decide_eq_true hq]);have HQ:Hid (nH (p k)=t):=hq;generalize nH (p k)=Y at HK qb;generalize hX:p k=X at cp h64 HK hy;clear hq;go_wp2_with fail;refine Calls.mono HK.out ?_;rintro e w2 ⟨rfl,hb2⟩;have hB2:=hB.trans (hb2.mono hB.size);have cp2:w2.cell? ⟨pb,po+k,none⟩=some (.string X):=(hb2.cell (p:=⟨pb,po+k,none⟩) (a1v cp)).trans cp;have cm:w2.cell? ⟨gr,k,none⟩=some (.int .i64 (nd n s k:Int)):=(hB2.cell (p:=⟨gr,k,none⟩) mA).trans (HR.out k p9);clear cp hb2 HK hB fA;by_cases hk1:k+1<n
     ·have cn:w2.cell? ⟨gr,k+1,none⟩=some (.int .i64 (nd n s (k+1):Int)):=(hB2.cell (p:=⟨gr,k+1,none⟩) mA).trans (HR.out (k+1) hk1);have hk1i:(k:Int)+1<(n:Int):=(by omega);have e1:((k:Int)+1).toNat=k+1:=(by omega);rcases hS with hS|hS
      ·unfold half at hy;rw[hS,qp rfl]at hy;rw[hS]at dU;rw[dU]at cn;generalize nd n s k=M at cm cn hM100;have cn':w2.cell? ⟨gr,k+1,none⟩=some (.int .i64 (2*(M:Int))):=(by rw[show(2*M+0:Nat)=2*M from rfl]at cn;rw[cn];congr 2);clear cn dU;go_wp2_with fail;go_roundw
       case rel=>exact⟨k+1,_,p9,rfl,by go_num,hy,hB2⟩
       case measure=>simp[intOf];omega
      ·unfold half at hy;rw[hS,qn (by decide)]at hy;rw[hS]at dU;rw[dU]at cn;generalize nd n s k=M at cm cn hM100;have cn':w2.cell? ⟨gr,k+1,none⟩=some (.int .i64 (2*(M:Int)+1)):=(by rw[cn];congr 2);clear cn dU;go_wp2_with fail;go_roundw
       case rel=>exact⟨k+1,_,p9,rfl,by go_num,hy,hB2⟩
       case measure=>simp[intOf];omega
     ·have aM:k+1=n:=(by omega);have hk1i:(n:Int)<=(k:Int)+1:=(by omega);have bZ:=b3t n s;rw[HN.out,<-aM]at bZ;rw[<-aM]at dU;rw[dU]at bZ;rw[<-aM]at hS;rw[<-aM]at cm hM100;have oN:fol n s p top (k+1)=some (half (sd (k+1) s k) X):=(by rw[<-aM]at hy⊢;exact hy);clear hy;rcases hS with hS|hS
      ·unfold half at oN;rw[hS,qp rfl]at oN;rw[hS]at bZ;generalize nd (k+1) s k=M at cm bZ hM100;have e2:(N:Int)+(s:Int)=2*(M:Int):=(by omega);clear dU bZ;go_wp2_with fail;go_roundw
       case rel=>exact⟨k+1,_,p9,rfl,by go_num,oN,hB2⟩
       case measure=>simp[intOf];omega
      ·unfold half at oN;rw[hS,qn (by decide)]at oN;rw[hS]at bZ;generalize nd (k+1) s k=M at cm bZ hM100;have e2:(N:Int)+(s:Int)=2*(M:Int)+1:=(by omega);clear dU bZ;go_wp2_with fail;go_roundw
       case rel=>exact⟨k+1,_,p9,rfl,by go_num,oN,hB2⟩
       case measure=>simp[intOf];omega
    ·have aW:=c0i hf.out (λh=>hq h.2);have iC:=a9t aW p9;have qb:((nH (p k)).toList==t.toList)=false:=(by rw[teq,decide_eq_false hq]);have HQ:Hid _:=hq;generalize nH (p k)=Y at HK qb;generalize p k=X at cp h64 HK;have HE:Hid _:=iC;clear hq aW iC;go_wp2_with fail;refine Calls.mono HK.out ?_;rintro e w2 ⟨rfl,hb2⟩;go_wp2_with fail;go_ret2;rw[HE.out];exact⟨rfl,fA.trans (hb2.mono fA.size)⟩
   ·have aW:=c0i hf.out (λh=>h64 h.1);have iC:=a9t aW p9;have y6:((p k).size:Int)≠64:=(by omega);have HE:Hid _:=iC;generalize p k=X at cp h64 y6;clear aW iC;go_wp2_with fail;go_ret2;rw[HE.out];exact⟨rfl,fA⟩
  ·have aM:k=n:=(by omega);subst aM;go_wp2_with fail;go_ret2;rw[hf.out];exact⟨rfl,fA⟩
theorem c2x (top:BA)(s:Int)(a:Option Addr)(n cap:Nat)(hn:n<=1000000)(p:Nat->BA)(w:World)(hp:Sa w a n p)(ht:RTabs w):Calls prog 137 #[.string top,.int .i64 s,.slice a n cap] w λe w'=>
 e=.returned (.tuple #[.string (folS n s p top),.int .i64 (folE n s p top)])/\Below w.heap.size w w':=by
 by_cases h:okS n s
 ·obtain⟨k,rfl⟩:=Int.eq_ofNat_of_zero_le h.2.2.1;exact c8o top k a n cap p h w hp ht
 ·have:=c2w top s a n cap hn h w;unfold folS folE;rw[qn h,qn h];exact this
end Go.Proofs.YtokknmkleceooaaGreatDoor
