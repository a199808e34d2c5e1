import Derived.Test.YtokknmkleceooaaGreatDoorBaseM
import Derived.Test.YtokknmkleceooaaGreatDoorDkM
namespace Go.Proofs.YtokknmkleceooaaGreatDoor
set_option linter.unusedVariables false
set_option maxRecDepth 20000
set_option maxHeartbeats 8000000
open Go.Proofs.Tryz
open Go.RowKit Go.PlainAid
structure Dk where
 g:Nat
 n:Nat
 l:Nat->BA
 q:List Wr
 dead:Bool
abbrev Dk.ptr (d:Dk):Value:=.pointer (some ⟨d.g,0,none⟩)
def dk (d:Dk):Asn:=dsk d.g d.n d.l d.q d.dead
def rdk (d:Dk):Asn:=rf d.g d.n d.l d.q d.dead
theorem a6u (d:Dk):Firm (dk d):=c6g _ _ _ _ _
theorem a3m (d:Dk):Firm (rdk d):=c4h _ _ _ _ _
def ptrs (N:Nat)(D:Nat->Dk):List Value:=(List.range N).map λi=>(D i).ptr
theorem c3d (N:Nat)(D:Nat->Dk)(i:Nat)(h:i<N):(ptrs N D)[i]?=some (.pointer (some ⟨(D i).g,0,none⟩)):=by simp[ptrs,h]
theorem b0s (N:Nat)(D D':Nat->Dk)(h:∀i,i<N->(D i).g=(D' i).g):ptrs N D=ptrs N D':=by
 unfold ptrs;exact List.map_congr_left λi hi=>by unfold Dk.ptr;rw[h i (List.mem_range.1 hi)]
theorem d2i (N:Nat)(D:Nat->Dk):ptrs (N+1) D=ptrs N D++[.pointer (some ⟨(D N).g,0,none⟩)]:=by
 unfold ptrs;rw[List.range_succ,List.map_append];rfl
def pl:Option Nat->Int
 |none=>0
 |some k=>(k:Int)
def pr:Option Nat->Int
 |none=>-1
 |some k=>(k:Int)
def Fit (N:Nat)(p:Option Nat):Prop:=(1<=N/\N<=12)/\∀k,p=some k->k<=9223372036854775807
def bnk (g N:Nat)(D:Nat->Dk)(s:Nat)(p:Option Nat):Asn:=λw F=>Fit N p/\∃gd,star (blkA g 105 [.slice (some ⟨gd,0,none⟩) N N,.int .i64 (s:Int),.bool p.isSome,.int .i64 (pl p)]) (star (blkA gd 71 (ptrs N D)) (each (λi=>i<N) λi=>dk (D i))) w F
theorem a2f (g N:Nat)(D:Nat->Dk)(s:Nat)(p:Option Nat):Firm (bnk g N D s p):=
 ⟨λ⟨hN,gd,h⟩ hk hd=>⟨hN,gd,((a0e _ _ _).star ((a0e _ _ _).star (a1c λ_=>a6u _))).kept h hk hd⟩,λ⟨hN,gd,h⟩=>((a0e _ _ _).star ((a0e _ _ _).star (a1c λ_=>a6u _))).bound h⟩
def rbk (g N:Nat)(D:Nat->Dk)(s:Nat)(p:Option Nat):Asn:=λw F=>Fit N p/\∃gd cap,star (blkA g 98 [.slice (some ⟨gd,0,none⟩) N cap,.int .i64 (s:Int),.int .i64 (pr p)]) (star (rowA 95 (.slice (some ⟨gd,0,none⟩) N cap) N (ptrs N D)) (each (λi=>i<N) λi=>rdk (D i))) w F
theorem a2z (g N:Nat)(D:Nat->Dk)(s:Nat)(p:Option Nat):Firm (rbk g N D s p):=
 ⟨λ⟨hN,gd,cap,h⟩ hk hd=>⟨hN,gd,cap,((a0e _ _ _).star ((a3x _ _ _ _).star (a1c λ_=>a3m _))).kept h hk hd⟩,λ⟨hN,gd,cap,h⟩=>((a0e _ _ _).star ((a3x _ _ _ _).star (a1c λ_=>a3m _))).bound h⟩
def updD (D:Nat->Dk)(i:Nat)(d:Dk):Nat->Dk:=λj=>if j=i then d else D j
theorem a0r (D:Nat->Dk)(i:Nat)(d:Dk):updD D i d i=d:=qp rfl
theorem a1g (D:Nat->Dk)(i:Nat)(d:Dk)(j:Nat)(h:j≠i):updD D i d j=D j:=qn h
section
variable {B:Nat}{w0 w:World}{g N:Nat}{D:Nat->Dk}{s:Nat}{p:Option Nat}{R:Asn}
theorem Hold.bnkN (h:Hold B w0 w (star (bnk g N D s p) R)):1<=N/\N<=12:=by
 obtain⟨h1,h2,F,⟨G,H,h3,h4⟩,h7⟩:=h;exact h3.1.1
theorem Hold.bnkFit (h:Hold B w0 w (star (bnk g N D s p) R)):Fit N p:=by
 obtain⟨h1,h2,F,⟨G,H,h3,h4⟩,h7⟩:=h;exact h3.1
theorem Hold.rbkFit (h:Hold B w0 w (star (rbk g N D s p) R)):Fit N p:=by
 obtain⟨h1,h2,F,⟨G,H,h3,h4⟩,h7⟩:=h;exact h3.1
theorem Hold.rbkN (h:Hold B w0 w (star (rbk g N D s p) R)):1<=N/\N<=12:=by
 obtain⟨h1,h2,F,⟨G,H,h3,h4⟩,h7⟩:=h;exact h3.1.1
def bnkX (g N:Nat)(D:Nat->Dk)(s:Nat)(p:Option Nat)(i:Nat):Asn:=λw F=>Fit N p/\∃gd,star (blkA g 105 [.slice (some ⟨gd,0,none⟩) N N,.int .i64 (s:Int),.bool p.isSome,.int .i64 (pl p)]) (star (blkA gd 71 (ptrs N D)) (each (λj=>j<N/\j≠i) λi=>dk (D i))) w F
def rbkX (g N:Nat)(D:Nat->Dk)(s:Nat)(p:Option Nat)(i:Nat):Asn:=λw F=>Fit N p/\∃gd cap,star (blkA g 98 [.slice (some ⟨gd,0,none⟩) N cap,.int .i64 (s:Int),.int .i64 (pr p)]) (star (rowA 95 (.slice (some ⟨gd,0,none⟩) N cap) N (ptrs N D)) (each (λj=>j<N/\j≠i) λi=>rdk (D i))) w F
theorem a9w (i:Nat):Firm (bnkX g N D s p i):=
 ⟨λ⟨hN,gd,h⟩ hk hd=>⟨hN,gd,((a0e _ _ _).star ((a0e _ _ _).star (a1c λ_=>a6u _))).kept h hk hd⟩,λ⟨hN,gd,h⟩=>((a0e _ _ _).star ((a0e _ _ _).star (a1c λ_=>a6u _))).bound h⟩
theorem d4z (i:Nat):Firm (rbkX g N D s p i):=
 ⟨λ⟨hN,gd,cap,h⟩ hk hd=>⟨hN,gd,cap,((a0e _ _ _).star ((a3x _ _ _ _).star (a1c λ_=>a3m _))).kept h hk hd⟩,λ⟨hN,gd,cap,h⟩=>((a0e _ _ _).star ((a3x _ _ _ _).star (a1c λ_=>a3m _))).bound h⟩
theorem e1a {F:Nat->Prop}(i:Nat)(hi:i<N)(h:bnk g N D s p w F):star (dk (D i)) (bnkX g N D s p i) w F:=by
 obtain⟨hN,gd,h⟩:=h;have h1:=a0n h (λF h=>a0n h (λF h=>b4a (S:=λj=>j<N) (P:=λi=>dk (D i)) i hi h));obtain⟨G,H,g1,g2,g3⟩:=a0q (a0n h1 (λF h=>a0q h));exact⟨G,H,g1,⟨hN,gd,g2⟩,g3⟩
theorem e0z {F:Nat->Prop}(i:Nat)(hi:i<N)(d:Dk)(hg:d.g=(D i).g)(h:star (dk d) (bnkX g N D s p i) w F):bnk g N (updD D i d) s p w F:=by
 obtain⟨G,H,g1,⟨hN,gd,g2⟩,g3⟩:=h;have h0:star (dk d) (star (blkA g 105 [.slice (some ⟨gd,0,none⟩) N N,.int .i64 (s:Int),.bool p.isSome,.int .i64 (pl p)]) (star (blkA gd 71 (ptrs N D)) (each (λj=>j<N/\j≠i) λi=>dk (D i)))) w F:=⟨G,H,g1,g2,g3⟩;have h1:=a0n (a0q h0) (λF h=>a0q h);refine⟨hN,gd,a0n h1 (λF h=>?_)⟩;have hp:ptrs N D=ptrs N (updD D i d):=b0s _ _ _ (λj hj=>by
  by_cases e:j=i
  ·subst e;rw[a0r,hg]
  ·rw[a1g _ _ _ _ e])
 rw[<-hp];refine a0n h (λF h=>b7r (P:=λi=>dk (D i)) i hi (λj hj e=>by rw[a1g _ _ _ _ e]) (a2s h (λF h=>by rw[a0r];exact h)))
theorem d8d {F:Nat->Prop}(i:Nat)(hi:i<N)(h:rbk g N D s p w F):star (rdk (D i)) (rbkX g N D s p i) w F:=by
 obtain⟨hN,gd,cap,h⟩:=h;have h1:=a0n h (λF h=>a0n h (λF h=>b4a (S:=λj=>j<N) (P:=λi=>rdk (D i)) i hi h));obtain⟨G,H,g1,g2,g3⟩:=a0q (a0n h1 (λF h=>a0q h));exact⟨G,H,g1,⟨hN,gd,cap,g2⟩,g3⟩
theorem d8c {F:Nat->Prop}(i:Nat)(hi:i<N)(d:Dk)(hg:d.g=(D i).g)(h:star (rdk d) (rbkX g N D s p i) w F):rbk g N (updD D i d) s p w F:=by
 obtain⟨G,H,g1,⟨hN,gd,cap,g2⟩,g3⟩:=h;have h0:star (rdk d) (star (blkA g 98 [.slice (some ⟨gd,0,none⟩) N cap,.int .i64 (s:Int),.int .i64 (pr p)]) (star (rowA 95 (.slice (some ⟨gd,0,none⟩) N cap) N (ptrs N D)) (each (λj=>j<N/\j≠i) λi=>rdk (D i)))) w F:=⟨G,H,g1,g2,g3⟩;have h1:=a0n (a0q h0) (λF h=>a0q h);refine⟨hN,gd,cap,a0n h1 (λF h=>?_)⟩;have hp:ptrs N D=ptrs N (updD D i d):=b0s _ _ _ (λj hj=>by
  by_cases e:j=i
  ·subst e;rw[a0r,hg]
  ·rw[a1g _ _ _ _ e])
 rw[<-hp];refine a0n h (λF h=>b7r (P:=λi=>rdk (D i)) i hi (λj hj e=>by rw[a1g _ _ _ _ e]) (a2s h (λF h=>by rw[a0r];exact h)))
theorem Hold.openD (h:Hold B w0 w (star (bnk g N D s p) R))(i:Nat)(hi:i<N):Hold B w0 w (star (dk (D i)) (star (bnkX g N D s p i) R)):=(h.monoL (λF=>e1a i hi)).assoc
theorem Hold.shutD (i:Nat)(hi:i<N)(d:Dk)(hg:d.g=(D i).g)(h:Hold B w0 w (star (dk d) (star (bnkX g N D s p i) R))):Hold B w0 w (star (bnk g N (updD D i d) s p) R):=h.unassoc.monoL (λF=>e0z i hi d hg)
theorem Hold.openR (h:Hold B w0 w (star (rbk g N D s p) R))(i:Nat)(hi:i<N):Hold B w0 w (star (rdk (D i)) (star (rbkX g N D s p i) R)):=(h.monoL (λF=>d8d i hi)).assoc
theorem Hold.shutR (i:Nat)(hi:i<N)(d:Dk)(hg:d.g=(D i).g)(h:Hold B w0 w (star (rdk d) (star (rbkX g N D s p i) R))):Hold B w0 w (star (rbk g N (updD D i d) s p) R):=h.unassoc.monoL (λF=>d8c i hi d hg)
theorem Hold.bnkTop (h:Hold B w0 w (star (bnk g N D s p) R)):∃gd,Blk w g 105 [.slice (some ⟨gd,0,none⟩) N N,.int .i64 (s:Int),.bool p.isSome,.int .i64 (pl p)]/\Blk w gd 71 (ptrs N D)/\Hold B w0 w (star (blkA g 105 [.slice (some ⟨gd,0,none⟩) N N,.int .i64 (s:Int),.bool p.isSome,.int .i64 (pl p)]) (star (star (blkA gd 71 (ptrs N D)) (each (λi=>i<N) λi=>dk (D i))) R)):=by
 obtain⟨h1,h2,F,⟨G,H,⟨hN,gd,h3⟩,h4⟩,h7⟩:=h;have h':Hold B w0 w (star (star (blkA g 105 [.slice (some ⟨gd,0,none⟩) N N,.int .i64 (s:Int),.bool p.isSome,.int .i64 (pl p)]) (star (blkA gd 71 (ptrs N D)) (each (λi=>i<N) λi=>dk (D i)))) R):=⟨h1,h2,F,⟨G,H,h3,h4⟩,h7⟩;refine⟨gd,h'.assoc.blk,?_,h'.assoc⟩;obtain⟨G1,k1,_⟩:=b0p h3;obtain⟨G2,k2,_⟩:=a8x k1;exact k2.1
theorem Hold.ofTop (hN:Fit N p)(gd:Nat){P:Asn}(h:Hold B w0 w (star P (star (star (blkA gd 71 (ptrs N D)) (each (λi=>i<N) λi=>dk (D i))) R)))(e:P=blkA g 105 [.slice (some ⟨gd,0,none⟩) N N,.int .i64 (s:Int),.bool p.isSome,.int .i64 (pl p)]):Hold B w0 w (star (bnk g N D s p) R):=by
 subst e;exact h.unassoc.monoL (λF h=>⟨hN,gd,h⟩)
theorem Hold.rbkTop (h:Hold B w0 w (star (rbk g N D s p) R)):∃gd cap,Blk w g 98 [.slice (some ⟨gd,0,none⟩) N cap,.int .i64 (s:Int),.int .i64 (pr p)]/\w.ownsRow 0 95 1 (.slice (some ⟨gd,0,none⟩) N cap) N (ptrs N D)/\Hold B w0 w (star (blkA g 98 [.slice (some ⟨gd,0,none⟩) N cap,.int .i64 (s:Int),.int .i64 (pr p)]) (star (star (rowA 95 (.slice (some ⟨gd,0,none⟩) N cap) N (ptrs N D)) (each (λi=>i<N) λi=>rdk (D i))) R)):=by
 obtain⟨h1,h2,F,⟨G,H,⟨hN,gd,cap,h3⟩,h4⟩,h7⟩:=h;have h':Hold B w0 w (star (star (blkA g 98 [.slice (some ⟨gd,0,none⟩) N cap,.int .i64 (s:Int),.int .i64 (pr p)]) (star (rowA 95 (.slice (some ⟨gd,0,none⟩) N cap) N (ptrs N D)) (each (λi=>i<N) λi=>rdk (D i)))) R):=⟨h1,h2,F,⟨G,H,h3,h4⟩,h7⟩;refine⟨gd,cap,h'.assoc.blk,?_,h'.assoc⟩;obtain⟨G1,k1,_⟩:=b0p h3;obtain⟨G2,k2,_⟩:=a8x k1;exact k2.1
theorem Hold.ofRTop (hN:Fit N p)(gd cap:Nat){P:Asn}(h:Hold B w0 w (star P (star (star (rowA 95 (.slice (some ⟨gd,0,none⟩) N cap) N (ptrs N D)) (each (λi=>i<N) λi=>rdk (D i))) R)))(e:P=blkA g 98 [.slice (some ⟨gd,0,none⟩) N cap,.int .i64 (s:Int),.int .i64 (pr p)]):Hold B w0 w (star (rbk g N D s p) R):=by
 subst e;exact h.unassoc.monoL (λF h=>⟨hN,gd,cap,h⟩)
theorem a9v (gd:Nat)(hR:Firm R):Firm (star (star (blkA gd 71 (ptrs N D)) (each (λi=>i<N) λi=>dk (D i))) R):=((a0e _ _ _).star (a1c λ_=>a6u _)).star hR
theorem d4y (gd cap:Nat)(hR:Firm R):Firm (star (star (rowA 95 (.slice (some ⟨gd,0,none⟩) N cap) N (ptrs N D)) (each (λi=>i<N) λi=>rdk (D i))) R):=((a3x _ _ _ _).star (a1c λ_=>a3m _)).star hR
end
def a8z (p:Option Nat):Int:=if p=some 0 then 21 else 0
def a6d (p:Option Nat)(s:Nat):Nat:=if p=some 0 then s else s+1
def a7r (p:Option Nat):Option Nat:=p.map (·-1)
theorem a8e:a8z (some 0)=21:=rfl
theorem c2g:a8z none=0:=rfl
theorem c2h (k:Nat):a8z (some (k+1))=0:=by unfold a8z;rw[qn (by simp)]
theorem c2d (s:Nat):a6d none s=s+1:=rfl
theorem c2f (s:Nat):a6d (some 0) s=s:=rfl
theorem c2e (k s:Nat):a6d (some (k+1)) s=s+1:=by unfold a6d;rw[qn (by simp)]
section
variable {B:Nat}{w0 w:World}{g N:Nat}{D:Nat->Dk}{s:Nat}{p:Option Nat}{R:Asn}
theorem c0x (h:Hold B w0 w (star (bnk g N D s p) R)):Calls prog 101 #[.pointer (some ⟨g,0,none⟩)] w λe w'=>e=.returned (.bool (decide (p=some 0)))/\w'=w:=by
 obtain⟨gd,hb,-,-⟩:=h.bnkTop;have c2:=hb.cell (i:=2) rfl;have c3:=hb.cell (i:=3) rfl;clear h hb;rcases p with _|_|k
 ·rw[show decide (none=some 0)=false from rfl];rw[show(none:Option Nat).isSome=false from rfl]at c2;rw[show pl none=0 from rfl]at c3;go_enter func101,ntmps101;go_wp2;go_ret;exact⟨rfl,rfl⟩
 ·rw[show decide (some 0=some 0)=true from rfl];rw[show(some 0:Option Nat).isSome=true from rfl]at c2;rw[show pl (some 0)=0 from rfl]at c3;go_enter func101,ntmps101;go_wp2;go_ret;exact⟨rfl,rfl⟩
 ·rw[show decide (some (k+1)=some 0)=false from by simp];rw[show(some (k+1):Option Nat).isSome=true from rfl]at c2;obtain⟨x,hx⟩:∃x,pl (some (k+1))=x:=⟨_,rfl⟩;have hx0:(x==0)=false:=by
   rw[<-hx];show(((k+1:Nat):Int)==0)=false;simp only[beq_eq_false_iff_ne,ne_eq];omega
  rw[hx]at c3;clear hx;go_enter func101,ntmps101;go_wp2;go_ret;exact⟨rfl,rfl⟩
theorem b4k (h:Hold B w0 w (star (bnk g N D s p) R))(i:Int)(hi:i<0\/(N:Int)<=i):Calls prog 59 #[.pointer (some ⟨g,0,none⟩),.int .i64 i] w λe w'=>e=.returned (.tuple #[.pointer none,.int .i64 11])/\w'=w:=by
 obtain⟨gd,hb,-,-⟩:=h.bnkTop;have c0:=hb.cell (i:=0) rfl;clear h hb;have HI:Hid _:=hi;clear hi;by_cases h0:i<0
 ·go_enter func59,ntmps59;go_wp2;go_ret2;exact⟨rfl,rfl⟩
 ·have h1:(N:Int)<=i:=HI.out.resolve_left h0;go_enter func59,ntmps59;go_wp2;go_ret2;exact⟨rfl,rfl⟩
theorem b8a (h:Hold B w0 w (star (bnk g N D s p) R))(i:Nat)(hi:i<N):Calls prog 59 #[.pointer (some ⟨g,0,none⟩),.int .i64 (i:Int)] w λe w'=>e=.returned (.tuple #[.pointer (some ⟨(D i).g,0,none⟩),.int .i64 0])/\w'=w:=by
 obtain⟨gd,hb,hd,-⟩:=h.bnkTop;have hN:=h.bnkN;have c0:=hb.cell (i:=0) rfl;have ci:=hd.cell (c3d N D i hi);clear h hb hd;have hi':¬(N:Int)<=(i:Int):=by omega
 have hi0:¬(i:Int)<0:=by omega
 go_enter func59,ntmps59;go_wp2;go_ret2;exact⟨rfl,rfl⟩
theorem d6d (h:Hold B w0 w (star (bnk g N D s p) R))(i:Int)(hi:i<0\/(N:Int)<=i):Calls prog 24 #[.pointer (some ⟨g,0,none⟩),.int .i64 i] w λe w'=>e=.returned (.pointer none)/\w'=w:=by
 have hf:=b4k h i hi;clear h hi;go_enter func24,ntmps24;go_wp2_with(go_at_call 59;refine hf.mono ?_;rintro e w' ⟨rfl,rfl⟩);go_ret;exact⟨rfl,rfl⟩
theorem b8b (h:Hold B w0 w (star (bnk g N D s p) R))(i:Nat)(hi:i<N):Calls prog 24 #[.pointer (some ⟨g,0,none⟩),.int .i64 (i:Int)] w λe w'=>e=.returned (.pointer (some ⟨(D i).g,0,none⟩))/\w'=w:=by
 have hf:=b8a h i hi;clear h;go_enter func24,ntmps24;go_wp2_with(go_at_call 59;refine hf.mono ?_;rintro e w' ⟨rfl,rfl⟩);go_ret;exact⟨rfl,rfl⟩
theorem c9u (hR:Firm R)(h:Hold B w0 w (star (bnk g N D s p) R))(hs:s<=1000000000):Calls prog 174 #[.pointer (some ⟨g,0,none⟩)] w λe w'=>e=.returned (.int .i64 (a8z p))/\Hold B w0 w' (star (bnk g N D (a6d p s) (a7r p)) R):=by
 have hd:=c0x h;have hN:=h.bnkFit;obtain⟨gd,hb,-,ht⟩:=h.bnkTop;have c1:=hb.cell (i:=1) rfl;have c2:=hb.cell (i:=2) rfl;have c3:=hb.cell (i:=3) rfl;have f1:=hb.frozen 1;have f3:=hb.frozen 3;rcases p with _|_|k
 ·rw[show decide (none=some 0)=false from rfl]at hd;rw[show(none:Option Nat).isSome=false from rfl]at c2;rw[c2g,c2d,show a7r none=none from rfl];have HT:Hid (Hold B w0 (w.setCell ⟨g,1,none⟩ (.int .i64 ((s:Int)+1))) (star (bnk g N D (s+1) none) R)):=(ht.setBlk (a9v gd hR) 1 (.int .i64 ((s:Int)+1))).ofTop hN gd (by simp[pl]);clear h hb ht hN;go_enter func174,ntmps174;go_wp2_with(go_at_call 101;refine hd.mono ?_;rintro e w' ⟨rfl,rfl⟩);go_ret;exact⟨rfl,HT.out⟩
 ·rw[show decide (some 0=some 0)=true from rfl]at hd;rw[a8e,c2f,show a7r (some 0)=some 0 from rfl];have HT:Hid (Hold B w0 w (star (bnk g N D s (some 0)) R)):=h;clear h hb ht;go_enter func174,ntmps174;go_wp2_with(go_at_call 101;refine hd.mono ?_;rintro e w' ⟨rfl,rfl⟩);go_ret;exact⟨rfl,HT.out⟩
 ·rw[show decide (some (k+1)=some 0)=false from by simp]at hd;rw[show(some (k+1):Option Nat).isSome=true from rfl]at c2;rw[c2h,c2e,show a7r (some (k+1))=some k from rfl];have hv:=ht;have h3:=ht.setBlk (a9v gd hR) 3 (.int .i64 (k:Int));have b3:=h3.blk;have c1':=b3.cell (i:=1) rfl;have f1':=b3.frozen 1;have HT:Hid (Hold B w0 ((w.setCell ⟨g,3,none⟩ (.int .i64 (k:Int))).setCell ⟨g,1,none⟩ (.int .i64 ((s:Int)+1))) (star (bnk g N D (s+1) (some k)) R)):=(h3.setBlk (a9v gd hR) 1 (.int .i64 ((s:Int)+1))).ofTop ⟨hN.1,λj e=>by cases e;have:=hN.2 (k+1) rfl;omega⟩ gd (by simp[pl]);rw[show pl (some (k+1))=(k:Int)+1 from by simp[pl]]at c3;have hk:wrap64 (k:Int)=(k:Int):=IntWalk.wrap64_in _ ⟨by omega,by have:=hN.2 (k+1) rfl;omega⟩;clear h hb ht hv h3 b3 hN;go_enter func174,ntmps174;go_wp2_with(go_at_call 101;refine hd.mono ?_;rintro e w' ⟨rfl,rfl⟩);go_ret;exact⟨rfl,HT.out⟩
theorem c6s (h:Hold B w0 w (star (bnk g N D s p) R))(i:Int)(hi:i<0\/(N:Int)<=i):Calls prog 121 #[.pointer (some ⟨g,0,none⟩),.int .i64 i] w λe w'=>e=.returned (.tuple #[.pointer none,.int .i64 11])/\w'=w:=by
 have hf:=b4k h i hi;clear h hi;go_enter func121,ntmps121;go_wp2_with(go_at_call 59;refine hf.mono ?_;rintro e w' ⟨rfl,rfl⟩);go_ret2;exact⟨rfl,rfl⟩
theorem d5q (hR:Firm R)(h:Hold B w0 w (star (bnk g N D s p) R))(hs:s<=1000000000)(i:Nat)(hi:i<N):Calls prog 121 #[.pointer (some ⟨g,0,none⟩),.int .i64 (i:Int)] w λe w'=>e=.returned (.tuple #[.pointer (some ⟨(D i).g,0,none⟩),.int .i64 (a8z p)])/\Hold B w0 w' (star (bnk g N D (a6d p s) (a7r p)) R):=by
 have hf:=b8a h i hi;have hsp:=c9u hR h hs;obtain⟨E,hE⟩:∃E,a8z p=E:=⟨_,rfl⟩;rw[hE]at hsp⊢;clear h hi;go_enter func121,ntmps121;go_wp2_with(first
  |(go_at_call 59;refine hf.mono ?_;rintro e w' ⟨rfl,rfl⟩)
  |(go_at_call 174;refine hsp.mono ?_;rintro e w1 ⟨rfl,h1⟩;have h1:Hid _:=h1))
 go_ret2;exact⟨rfl,h1.out⟩
theorem e1g (hR:Firm R)(h:Hold B w0 w (star (bnk g N D s p) R))(n:Int)(hn:n<=9223372036854775807):Calls prog 15 #[.pointer (some ⟨g,0,none⟩),.int .i64 n] w λe w'=>e=.returned (.tuple #[])/\Hold B w0 w' (star (bnk g N D s (some n.toNat)) R):=by
 have hN:=h.bnkFit;obtain⟨gd,hb,-,ht⟩:=h.bnkTop;have c2:=hb.cell (i:=2) rfl;have f2:=hb.frozen 2;have h2:=ht.setBlk (a9v gd hR) 2 (.bool true);have b2:=h2.blk;have c3:=b2.cell (i:=3) rfl;have f3:=b2.frozen 3;have HT:Hid (Hold B w0 ((w.setCell ⟨g,2,none⟩ (.bool true)).setCell ⟨g,3,none⟩ (.int .i64 (n.toNat:Int))) (star (bnk g N D s (some n.toNat)) R)):=(h2.setBlk (a9v gd hR) 3 (.int .i64 (n.toNat:Int))).ofTop ⟨hN.1,λj e=>by cases e;omega⟩ gd (by simp[pl]);clear h hb ht h2 b2 hN hn;by_cases h0:n<0
 ·rw[show(n.toNat:Int)=0 by omega]at HT;go_enter func15,ntmps15;go_wp2;go_end0;exact⟨rfl,HT.out⟩
 ·rw[show(n.toNat:Int)=n by omega]at HT;go_enter func15,ntmps15;go_wp2;go_end0;exact⟨rfl,HT.out⟩
end
def putD (d:Dk)(at_:Int)(t:BA):Dk:=⟨d.g,d.n,d.l,putQ d.q d.dead d.n at_ t,d.dead⟩
def a4w (d:Dk):Dk:=⟨d.g,d.n,a9u d.l d.q d.dead,a5c d.q d.dead,d.dead⟩
def c7r (d:Dk)(at_:Int)(t:BA):Dk:=⟨d.g,d.n,a8c d.l d.dead d.n at_ t,b2v d.q d.dead d.n at_ t,d.dead⟩
def Out (N:Nat)(i:Int):Prop:=i<0\/(N:Int)<=i
instance (N:Nat)(i:Int):Decidable (Out N i):=by unfold Out;infer_instance
theorem a6m (N:Nat)(i:Int):Out N i\/∃k:Nat,i=(k:Int)/\k<N/\¬Out N i:=by
 by_cases h:Out N i
 ·exact .inl h
 ·unfold Out at h;exact .inr ⟨i.toNat,by omega,by omega,by unfold Out;omega⟩
theorem a2o (N k:Nat)(h:k<N):¬Out N (k:Int):=by unfold Out;omega
def stE (N:Nat)(p:Option Nat)(i:Int)(e:Int):Int:=if Out N i then 11 else if p=some 0 then 21 else e
def stS (N:Nat)(p:Option Nat)(i:Int)(s:Nat):Nat:=if Out N i then s else a6d p s
def stP (N:Nat)(p:Option Nat)(i:Int):Option Nat:=if Out N i then p else a7r p
def stD (N:Nat)(p:Option Nat)(i:Int)(D:Nat->Dk)(d:Dk):Nat->Dk:=if Out N i then D else if p=some 0 then D else updD D i.toNat d
theorem e1x (N:Nat)(p:Option Nat)(i:Int)(s:Nat):stS N p i s<=s+1:=by
 unfold stS a6d;split
 ·omega
 ·split<;>omega
section
variable {B:Nat}{w0 w:World}{g N:Nat}{D:Nat->Dk}{s:Nat}{p:Option Nat}{R:Asn}
theorem c9s (hR:Firm R)(h:Hold B w0 w (star (bnk g N D s p) R))(hs:s<=1000000000)(hq:∀j,j<N->(D j).q.length<=1000000)(i at_:Int)(t:BA):
 Calls prog 76 #[.pointer (some ⟨g,0,none⟩),.int .i64 i,.int .i64 at_,.string t] w λe w'=>e=.returned (.int .i64 (stE N p i (errW (D i.toNat).dead (D i.toNat).n at_ t)))/\Hold B w0 w' (star (bnk g N (stD N p i D (putD (D i.toNat) at_ t)) (stS N p i s) (stP N p i)) R):=by
 rcases a6m N i with ho|⟨k,rfl,hk,ho⟩
 ·have hf:=c6s h i ho;simp only[stE,stD,stS,stP,qp ho];have h:Hid _:=h;clear hR hq ho;go_enter func76,ntmps76;go_wp2_with(go_at_call 121;refine hf.mono ?_;rintro e w' ⟨rfl,rfl⟩);go_ret;exact⟨rfl,h.out⟩
 ·have hf:=d5q hR h hs k hk;simp only[stE,stD,stS,stP,qn ho,Int.toNat_natCast];by_cases h0:p=some 0
  ·subst h0;simp only[if_true];rw[a8e]at hf;clear h hR hq ho hk;go_enter func76,ntmps76;go_wp2_with(go_at_call 121;refine hf.mono ?_;rintro e w' ⟨rfl,h1⟩;have h1:Hid _:=h1);go_ret;exact⟨rfl,h1.out⟩
  ·simp only[qn h0];rw[show a8z p=0 from qn h0]at hf;have hw:Hid (∀w',Hold B w0 w' (star (bnk g N D (a6d p s) (a7r p)) R)->Calls prog 122 #[.pointer (some ⟨(D k).g,0,none⟩),.int .i64 at_,.string t] w' λe w'=>e=.returned (.int .i64 (errW (D k).dead (D k).n at_ t))/\Hold B w0 w' (star (bnk g N (updD D k (putD (D k) at_ t)) (a6d p s) (a7r p)) R)):=λw' h'=>
    (e5o ((a9w k).star hR) (h'.openD k hk) at_ t (hq k hk)).mono λe w2 ⟨he,h2⟩=>⟨he,Hold.shutD k hk (putD (D k) at_ t) rfl h2⟩
   obtain⟨E,hE⟩:∃E,errW (D k).dead (D k).n at_ t=E:=⟨_,rfl⟩;rw[hE]at hw⊢;clear h hR hq ho hk h0 hE;go_enter func76,ntmps76;go_wp2_with(first
    |(go_at_call 121;refine hf.mono ?_;rintro e w' ⟨rfl,h1⟩;have h1:Hid _:=h1)
    |(go_at_call 122;refine(hw.out _ h1.out).mono ?_;rintro e w2 ⟨rfl,h2⟩;have h2:Hid _:=h2))
   go_ret;exact⟨rfl,h2.out⟩
theorem c9w (hR:Firm R)(h:Hold B w0 w (star (bnk g N D s p) R))(hs:s<=1000000000)(i:Int):
 Calls prog 77 #[.pointer (some ⟨g,0,none⟩),.int .i64 i] w λe w'=>e=.returned (.int .i64 (stE N p i (errD (D i.toNat).dead)))/\Hold B w0 w' (star (bnk g N (stD N p i D (a4w (D i.toNat))) (stS N p i s) (stP N p i)) R):=by
 rcases a6m N i with ho|⟨k,rfl,hk,ho⟩
 ·have hf:=c6s h i ho;simp only[stE,stD,stS,stP,qp ho];have h:Hid _:=h;clear hR ho;go_enter func77,ntmps77;go_wp2_with(go_at_call 121;refine hf.mono ?_;rintro e w' ⟨rfl,rfl⟩);go_ret;exact⟨rfl,h.out⟩
 ·have hf:=d5q hR h hs k hk;simp only[stE,stD,stS,stP,qn ho,Int.toNat_natCast];by_cases h0:p=some 0
  ·subst h0;simp only[if_true];rw[a8e]at hf;clear h hR ho hk;go_enter func77,ntmps77;go_wp2_with(go_at_call 121;refine hf.mono ?_;rintro e w' ⟨rfl,h1⟩;have h1:Hid _:=h1);go_ret;exact⟨rfl,h1.out⟩
  ·simp only[qn h0];rw[show a8z p=0 from qn h0]at hf;have hw:Hid (∀w',Hold B w0 w' (star (bnk g N D (a6d p s) (a7r p)) R)->Calls prog 123 #[.pointer (some ⟨(D k).g,0,none⟩)] w' λe w'=>e=.returned (.int .i64 (errD (D k).dead))/\Hold B w0 w' (star (bnk g N (updD D k (a4w (D k))) (a6d p s) (a7r p)) R)):=λw' h'=>
    (e5q ((a9w k).star hR) (h'.openD k hk)).mono λe w2 ⟨he,h2⟩=>⟨he,Hold.shutD k hk (a4w (D k)) rfl h2⟩
   obtain⟨E,hE⟩:∃E,errD (D k).dead=E:=⟨_,rfl⟩;rw[hE]at hw⊢;clear h hR ho hk h0 hE;go_enter func77,ntmps77;go_wp2_with(first
    |(go_at_call 121;refine hf.mono ?_;rintro e w' ⟨rfl,h1⟩;have h1:Hid _:=h1)
    |(go_at_call 123;refine(hw.out _ h1.out).mono ?_;rintro e w2 ⟨rfl,h2⟩;have h2:Hid _:=h2))
   go_ret;exact⟨rfl,h2.out⟩
def rdB (N:Nat)(p:Option Nat)(i:Int)(t:BA):BA:=if Out N i then noB else if p=some 0 then noB else t
theorem d5w (h:Hold B w0 w (star (bnk g N D s p) R))(i at_:Int):
 Calls prog 55 #[.pointer (some ⟨g,0,none⟩),.int .i64 i,.int .i64 at_] w λe w'=>e=.returned (.tuple #[.string (rdB N p i (b1t (D i.toNat).l (D i.toNat).q (D i.toNat).dead (D i.toNat).n at_)),.int .i64 (stE N p i (errA (D i.toNat).dead (D i.toNat).n at_))])/\w'=w:=by
 rcases a6m N i with ho|⟨k,rfl,hk,ho⟩
 ·have hf:=b4k h i ho;simp only[stE,rdB,qp ho];clear h ho;go_enter func55,ntmps55;go_wp2_with(go_at_call 59;refine hf.mono ?_;rintro e w' ⟨rfl,rfl⟩);go_ret2;exact⟨rfl,rfl⟩
 ·have hf:=b8a h k hk;have hd:=c0x h;simp only[stE,rdB,qn ho,Int.toNat_natCast];by_cases h0:p=some 0
  ·rw[decide_eq_true h0]at hd;simp only[qp h0];clear h ho hk h0;go_enter func55,ntmps55;go_wp2_with(first
    |(go_at_call 59;refine hf.mono ?_;rintro e w' ⟨rfl,rfl⟩)
    |(go_at_call 101;refine hd.mono ?_;rintro e w' ⟨rfl,hw'⟩;rw[hw'];clear hw' w'))
   go_ret2;exact⟨rfl,rfl⟩
  ·rw[decide_eq_false h0]at hd;simp only[qn h0];obtain⟨F,hF⟩:=(h.openD k hk).dsk;have hr:=d8a hF at_;obtain⟨E,hE⟩:∃E,errA (D k).dead (D k).n at_=E:=⟨_,rfl⟩;obtain⟨T,hT⟩:∃T,b1t (D k).l (D k).q (D k).dead (D k).n at_=T:=⟨_,rfl⟩;rw[hE,hT]at hr;rw[hE,hT];clear h ho hk h0 hE hT hF;go_enter func55,ntmps55;go_wp2_with(first
    |(go_at_call 59;refine hf.mono ?_;rintro e w' ⟨rfl,rfl⟩)
    |(go_at_call 101;refine hd.mono ?_;rintro e w' ⟨rfl,hw'⟩;rw[hw'];clear hw' w')
    |(go_at_call 102;refine hr.mono ?_;rintro e w' ⟨rfl,hw'⟩;rw[hw'];clear hw' w'))
   go_ret2;exact⟨rfl,rfl⟩
end
section
variable {B:Nat}{w0 w:World}{g N:Nat}{D:Nat->Dk}{s:Nat}{p:Option Nat}{R:Asn}
theorem d8b (hR:Firm R)(h:Hold B w0 w (star (rbk g N D s p) R))(n:Int)(hn:n<=9223372036854775807):Calls prog 16 #[.pointer (some ⟨g,0,none⟩),.int .i64 n] w λe w'=>e=.returned (.tuple #[])/\Hold B w0 w' (star (rbk g N D s (some n.toNat)) R):=by
 have hN:=h.rbkFit;obtain⟨gd,cap,hb,-,ht⟩:=h.rbkTop;have c2:=hb.cell (i:=2) rfl;have f2:=hb.frozen 2;have HT:Hid (Hold B w0 (w.setCell ⟨g,2,none⟩ (.int .i64 (n.toNat:Int))) (star (rbk g N D s (some n.toNat)) R)):=(ht.setBlk (d4y gd cap hR) 2 (.int .i64 (n.toNat:Int))).ofRTop ⟨hN.1,λj e=>by cases e;omega⟩ gd cap (by simp[pr]);clear h hb ht hN hn;by_cases h0:n<0
 ·rw[show(n.toNat:Int)=0 by omega]at HT;go_enter func16,ntmps16;go_wp2;go_end0;exact⟨rfl,HT.out⟩
 ·rw[show(n.toNat:Int)=n by omega]at HT;go_enter func16,ntmps16;go_wp2;go_end0;exact⟨rfl,HT.out⟩
theorem Hold.rbkAt (h:Hold B w0 w (star (rbk g N D s p) R))(i:Nat)(hi:i<N):∃gd cap,w.cell? ⟨g,0,none⟩=some (.slice (some ⟨gd,0,none⟩) N cap)/\w.cell? ⟨gd,i,none⟩=some (.pointer (some ⟨(D i).g,0,none⟩)):=by
 obtain⟨gd,cap,hb,hr,-⟩:=h.rbkTop;refine⟨gd,cap,hb.cell (i:=0) rfl,?_⟩;rw[World.ownsRow.cellAt hr i (by omega),c3d N D i hi]
theorem d1m (h:Hold B w0 w (star (rbk g N D s p) R))(hq:∀j,j<N->(D j).q.length<=1000000)(i at_:Int):
 Calls prog 92 #[.pointer (some ⟨g,0,none⟩),.int .i64 i,.int .i64 at_] w λe w'=>e=.returned (.tuple #[.string (rdB N p i (b1t (D i.toNat).l (D i.toNat).q (D i.toNat).dead (D i.toNat).n at_)),.int .i64 (stE N p i (errA (D i.toNat).dead (D i.toNat).n at_))])/\w'=w:=by
 have hN12:=h.rbkN;obtain⟨gd,cap,hb,-,-⟩:=h.rbkTop;have c0:=hb.cell (i:=0) rfl;have c2:=hb.cell (i:=2) rfl;rcases a6m N i with ho|⟨k,rfl,hk,ho⟩
 ·simp only[stE,rdB,qp ho];have HO:Hid _:=ho;clear hq ho h hb;by_cases h0:i<0
  ·go_enter func92,ntmps92;go_wp2;go_ret2;exact⟨rfl,rfl⟩
  ·have h1:(N:Int)<=i:=HO.out.resolve_left h0;go_enter func92,ntmps92;go_wp2;go_ret2;exact⟨rfl,rfl⟩
 ·have hk1:¬(N:Int)<=(k:Int):=by omega
  have hk2:¬(k:Int)<0:=by omega
  simp only[stE,rdB,qn ho,Int.toNat_natCast];by_cases h0:p=some 0
  ·subst h0;simp only[if_true];rw[show pr (some 0)=0 from rfl]at c2;clear h hq ho hk hb;go_enter func92,ntmps92;go_wp2;go_ret2;exact⟨rfl,rfl⟩
  ·simp only[qn h0];clear hb c0;have hx0:(pr p==0)=false:=by
    rcases p with _|_|j
    ·rfl
    ·exact absurd rfl h0
    ·show(((j+1:Nat):Int)==0)=false;simp only[beq_eq_false_iff_ne,ne_eq];omega
   obtain⟨x,hx⟩:∃x,pr p=x:=⟨_,rfl⟩;rw[hx]at c2 hx0;obtain⟨gd,cap,c0,ck⟩:=h.rbkAt k hk;obtain⟨F,hF⟩:=(h.openR k hk).rf;have hr:=c2o hF at_ (hq k hk);obtain⟨E,hE⟩:∃E,errA (D k).dead (D k).n at_=E:=⟨_,rfl⟩;obtain⟨T,hT⟩:∃T,b1t (D k).l (D k).q (D k).dead (D k).n at_=T:=⟨_,rfl⟩;rw[hE,hT]at hr;rw[hE,hT];clear h ho h0 hE hT hF hx hq;go_enter func92,ntmps92;go_wp2_with(go_at_call 138;refine hr.mono ?_;rintro e w' ⟨rfl,hw'⟩;rw[hw'];clear hw' w');go_ret2;exact⟨rfl,rfl⟩
end
theorem info71:(prog.info? 71).map (λi=>(i.zero,i.size,i.bytes))=some (some (.pointer none),1,8):=by kernel_rfl
theorem info95:(prog.info? 95).map (λi=>(i.zero,i.size,i.bytes))=some (some (.pointer none),1,8):=by kernel_rfl
def newB (c:Int):Nat:=if c<1 then 1 else if 12<c then 12 else c.toNat
theorem c5o (c:Int):1<=newB c/\newB c<=12:=by
 unfold newB
 split
 ·omega
 ·split<;>omega
def b0f (d:Dk)(c:Int):Prop:=d.n=newN c/\d.l=(λ_=>noB)/\d.q=[]/\d.dead=false
def a9s (g:Nat)(c:Int):Dk:=⟨g,newN c,λ_=>noB,[],false⟩
def a6f (N j:Nat)(D:Nat->Dk):List Value:=(List.range N).map λi=>if i<j then(D i).ptr else .pointer none
theorem d2k (N:Nat)(D:Nat->Dk):a6f N N D=ptrs N D:=by
 unfold a6f ptrs;exact List.map_congr_left λi hi=>by rw[qp (List.mem_range.1 hi)]
theorem d8e (N j:Nat)(D:Nat->Dk)(i:Nat)(hi:i<N)(h:j<=i):(a6f N j D)[i]?=some (.pointer none):=by
 have:¬i<j:=by omega
 simp[a6f,hi,this]
theorem d2j (N j:Nat)(D:Nat->Dk)(d:Dk):(a6f N j D).set j d.ptr=a6f N (j+1) (updD D j d):=by
 apply List.ext_getElem
 ·simp[a6f]
 ·intro i h1 h2;rw[List.getElem_set];simp only[a6f,List.getElem_map,List.getElem_range];by_cases e:j=i
  ·subst e;rw[qp rfl,qp (by omega),a0r]
  ·rw[qn e,a1g _ _ _ _ (λh=>e h.symm)];by_cases h:i<j
   ·rw[qp h,qp (by omega)]
   ·rw[qn h,qn (by omega)]
theorem d3p (n:Nat)(D:Nat->Dk):madeCells (Value.pointer none).cells (n*1)=(a6f n 0 D).toArray:=by
 apply Array.ext
 ·simp[madeCells,a6f]
 ·intro i h1 h2;simp[madeCells,a6f,Value.cells,Nat.mod_one]
theorem d3m (n:Nat)(D:Nat->Dk)(h:n<=12)(w:World):(Instr.makeSlice 103 (.int .i64 (n:Int)) (.int .i64 (n:Int))).run prog w=.ok (.slice (some ⟨w.heap.size,0,none⟩) n n) (w.alloc (.cells (a6f n 0 D).toArray 71)):=by
 obtain⟨i0,hi,hz0,hz1,hz2⟩:=info_parts info71;have hr:=run_make (P:=prog) w 103 71 i0 (.pointer none) underlying103 hi hz0 .i64 .i64 n n (by omega) (by omega) (by rw[hz2];omega) (by omega);rw[hz1,Int.toNat_natCast,d3p n D]at hr;exact hr
def Making (B:Nat)(w0 w:World)(R:Asn)(g gd N j:Nat)(c:Int):Prop:=∃D:Nat->Dk,(∀i,i<j->b0f (D i) c)/\Hold B w0 w (star (blkA g 105 [.slice (some ⟨gd,0,none⟩) N N,.int .i64 0,.bool false,.int .i64 0]) (star (blkA gd 71 (a6f N j D)) (star (each (λi=>i<j) λi=>dk (D i)) R)))
theorem Making.start {B:Nat}{w0 w:World}{R:Asn}(hR:Firm R)(h:Hold B w0 w R)(N:Nat)(c:Int)(D:Nat->Dk):Making B w0 ((w.alloc (.cells (a6f N 0 D).toArray 71)).alloc (.cells #[.slice (some ⟨w.heap.size,0,none⟩) N N,.int .i64 0,.bool false,.int .i64 0] 105)) R (w.heap.size+1) w.heap.size N 0 c:=by
 have h0:Hold B w0 w (star (each (λi=>i<0) λi=>dk (D i)) R):=h.addNought.monoL (λF h=>c0o (λi hi=>by omega) h);have f0:Firm (star (each (λi=>i<0) λi=>dk (D i)) R):=(a1c λ_=>a6u _).star hR;have h1:=h0.newBlk f0 71 (a6f N 0 D).toArray;have h2:=h1.newBlk ((a0e _ _ _).star f0) 105 #[.slice (some ⟨w.heap.size,0,none⟩) N N,.int .i64 0,.bool false,.int .i64 0];rw[World.size_alloc,List.toList_toArray]at h2;exact⟨D,λi hi=>by omega,h2⟩
theorem Making.firm {R:Asn}(hR:Firm R)(g gd N j:Nat)(D:Nat->Dk):Firm (star (blkA g 105 [.slice (some ⟨gd,0,none⟩) N N,.int .i64 0,.bool false,.int .i64 0]) (star (blkA gd 71 (a6f N j D)) (star (each (λi=>i<j) λi=>dk (D i)) R))):=(a0e _ _ _).star ((a0e _ _ _).star ((a1c λ_=>a6u _).star hR))
theorem Making.drew {B:Nat}{w0 w:World}{R:Asn}(hR:Firm R){g gd N j:Nat}{c:Int}(h:Making B w0 w R g gd N j c):Making B w0 w.drew R g gd N j c:=by
 obtain⟨D,h1,h2⟩:=h;exact⟨D,h1,h2.drew (Making.firm hR g gd N j D)⟩
theorem Making.more {B:Nat}{w0 w:World}{R:Asn}(hR:Firm R){g gd N j:Nat}{c:Int}{D:Nat->Dk}(hj:j<N)(hD:∀i,i<j->b0f (D i) c){gj:Nat}(h:Hold B w0 w (star (dsk gj (newN c) (λ_=>noB) [] false) (star (blkA g 105 [.slice (some ⟨gd,0,none⟩) N N,.int .i64 0,.bool false,.int .i64 0]) (star (blkA gd 71 (a6f N j D)) (star (each (λi=>i<j) λi=>dk (D i)) R))))):
 w.cell? ⟨g,0,none⟩=some (.slice (some ⟨gd,0,none⟩) N N)/\w.cell? ⟨gd,j,none⟩=some (.pointer none)/\w.frozen? ⟨gd,j,none⟩=false/\Making B w0 (w.setCell ⟨gd,j,none⟩ (.pointer (some ⟨gj,0,none⟩))) R g gd N (j+1) c/\(w.setCell ⟨gd,j,none⟩ (.pointer (some ⟨gj,0,none⟩))).cell? ⟨g,0,none⟩=some (.slice (some ⟨gd,0,none⟩) N N):=by
 have hg:=h.swap.blk;have h1:=h.swap.monoR (λF h=>a0q h);have h2:=h1.swap;have hd:=h2.blk;have h3:=h2.setBlk ((a0e _ _ _).star ((c6g _ _ _ _ _).star ((a1c λ_=>a6u _).star hR))) j (.pointer (some ⟨gj,0,none⟩));have hg3:=h3.swap.blk;refine⟨hg.cell (i:=0) rfl,hd.cell (d8e N j D j hj (ql _)),hd.frozen j,⟨updD D j (a9s gj c),λi hi=>?_,?_⟩,hg3.cell (i:=0) rfl⟩
 ·by_cases e:i=j
  ·subst e;rw[a0r];exact⟨rfl,rfl,rfl,rfl⟩
  ·rw[a1g _ _ _ _ e];exact hD i (by omega)
 ·rw[<-d2j N j D (a9s gj c)];refine h3.swap.monoR (λF h=>a0n h (λF h=>a2s (a1z h) (λF h=>c0p (P:=λi=>dk (D i)) j (λi hi=>by rw[a1g _ _ _ _ (by omega)]) (a2s h (λF h=>by rw[a0r];exact h)))))
theorem Making.done {B:Nat}{w0 w:World}{R:Asn}{g gd N:Nat}{c:Int}(hN:1<=N/\N<=12)(h:Making B w0 w R g gd N N c):∃D,(∀i,i<N->b0f (D i) c)/\Hold B w0 w (star (bnk g N D 0 none) R):=by
 obtain⟨D,h1,h2⟩:=h;rw[d2k]at h2;exact⟨D,h1,(h2.monoR (λF h=>a1z h)).ofTop ⟨hN,λk e=>by cases e⟩ gd rfl⟩
theorem Making.read {B:Nat}{w0 w:World}{R:Asn}{g gd N j:Nat}{c:Int}(h:Making B w0 w R g gd N j c):w.cell? ⟨g,0,none⟩=some (.slice (some ⟨gd,0,none⟩) N N):=by
 obtain⟨D,h1,h2⟩:=h;exact h2.blk.cell (i:=0) rfl
theorem e1c {B:Nat}{w0 w:World}{R:Asn}(hR:Firm R)(h:Hold B w0 w R)(d c:Int):Calls prog 32 #[.int .i64 d,.int .i64 c] w λe w'=>∃g,e=.returned (.pointer (some ⟨g,0,none⟩))/\∃D,(∀i,i<newB d->b0f (D i) c)/\Hold B w0 w' (star (bnk g (newB d) D 0 none) R):=by
 obtain⟨N,hN⟩:∃N,newB d=N:=⟨_,rfl⟩;have hl:=c5o d;rw[hN]at hl⊢;have D0:Nat->Dk:=λ_=>a9s 0 c;have cH:=d3m N D0 hl.2;have HM:Hid (Making _ _ _ _ _ _ _ _ _):=Making.start hR h N c D0;obtain⟨Z,hZ⟩:∃Z,a6f N 0 D0=Z:=⟨_,rfl⟩;rw[hZ]at cH HM;have HR:Hid _:=hR;clear hZ h hR;obtain⟨a,ha⟩:∃a:Int,(if d<1 then(1:Int)else d)=a:=⟨_,rfl⟩;have hb:(if 12<a then(12:Int)else a)=(N:Int):=by
  rw[<-ha,<-hN];unfold newB;by_cases h1:d<1
  ·rw[qp h1,qp h1];rfl
  ·rw[qn h1,qn h1];by_cases h2:12<d
   ·rw[qp h2,qp h2];rfl
   ·rw[qn h2,qn h2];omega
 go_enter func32,ntmps32;go_wp2_with fail;clear cH ha hb hN;obtain⟨gd,y5⟩:∃gd,w.heap.size=gd:=⟨_,rfl⟩;rw[y5]at HM⊢;go_loopw[18] (λi wr=>∃j:Nat,j<=N/\i=.int .i64 (j:Int)/\Hid (Making B w0 wr R (gd+1) gd N j c)) (λi _=>N-(intOf i).toNat)
 case atStart=>exact⟨0,Nat.zero_le _,rfl,HM.out⟩
 case round=>
  clear HM;obtain⟨j,hj,rfl,aE⟩:=hrel;by_cases p9:j<N
  ·have hj':(j:Int)<(N:Int):=(by omega);obtain⟨D,hD,hH⟩:=Making.drew HR.out aE.out;have c0:=hH.blk.cell (i:=0) rfl;have y9:=h_new (Making.firm HR.out (gd+1) gd N j D) hH c;have HD:Hid _:=hD;have HL:Hid _:=p9;clear aE hH hD;go_wp2_with fail;refine wp_region_noPanic ?_;refine wp_region_held_drew (S:=λz=>z.cell? ⟨gd+1,0,none⟩=some (.slice (some ⟨gd,0,none⟩) N N)) (by kernel_rfl) c0 (λp8=>?_);refine tkH 0 ?_;go_simp;refine tkH 1 ?_;go_simp;refine tkH 2 ?_;go_simp;refine tkH 3 ?_;go_simp;refine tkH 4 ?_;go_simp;refine tkH 5 ?_;go_simp;refine rdH 6 λK hK=>?_;go_simp;go_at_call 68;refine y9.mono ?_;rintro e wz ⟨gj,rfl,hz⟩;obtain⟨z0,z1,z2,z3,z4⟩:=Making.more HR.out HL.out HD.out hz;clear hz y9;have z3:Hid _:=z3;refine hK.out _ _ z0 (λp8=>?_);clear hK K;refine tkH 7 ?_;go_simp;refine rdH 8 λK hK=>?_;go_simp;refine hK.out _ _ z4 (λp8=>?_);clear hK K;refine wpAnyH_done (by kernel_rfl) ?_ _;refine NoPanic.normal ?_;go_wp2_with fail;go_roundw
   case rel=>exact⟨j+1,by omega,by go_num,z3.out⟩
   case measure=>simp[intOf];omega
  ·obtain rfl:j=N:=(by omega);have HT:Hid _:=Making.done hl aE.out;clear aE;go_wp2_with fail;go_ret;exact⟨_,rfl,HT.out⟩
def RMaking (B:Nat)(w0 w:World)(R:Asn)(g j:Nat)(c:Int):Prop:=∃(D:Nat->Dk) (v:Value),(∀i,i<j->b0f (D i) c)/\Hold B w0 w (star (blkA g 98 [v,.int .i64 0,.int .i64 (-1)]) (star (rowA 95 v j (ptrs j D)) (star (each (λi=>i<j) λi=>rdk (D i)) R)))
theorem RMaking.start {B:Nat}{w0 w:World}{R:Asn}(hR:Firm R)(h:Hold B w0 w R)(c:Int):RMaking B w0 (w.alloc (.cells #[.slice none 0 0,.int .i64 0,.int .i64 (-1)] 98)) R w.heap.size 0 c:=by
 have h0:Hold B w0 w (star (each (λi=>i<0) λi=>rdk (a9s 0 c)) R):=h.addNought.monoL (λF h=>c0o (λi hi=>by omega) h);have f0:Firm (star (each (λi=>i<0) λi=>rdk (a9s 0 c)) R):=(a1c λ_=>a3m _).star hR;have h1:Hold B w0 w (star (rowA 95 (.slice none 0 0) 0 []) (star (each (λi=>i<0) λi=>rdk (a9s 0 c)) R)):=h0.addNought.monoL (λF h=>⟨World.ownsRow_nil _ _ _ _,λk=>⟨λhk=>absurd hk (h k),λe=>by cases e⟩⟩);have h2:=h1.newBlk ((a3x _ _ _ _).star f0) 98 #[.slice none 0 0,.int .i64 0,.int .i64 (-1)];exact⟨λ_=>a9s 0 c,.slice none 0 0,λi hi=>by omega,h2⟩
theorem RMaking.firm {R:Asn}(hR:Firm R)(g j:Nat)(v:Value)(D:Nat->Dk):Firm (star (blkA g 98 [v,.int .i64 0,.int .i64 (-1)]) (star (rowA 95 v j (ptrs j D)) (star (each (λi=>i<j) λi=>rdk (D i)) R))):=(a0e _ _ _).star ((a3x _ _ _ _).star ((a1c λ_=>a3m _).star hR))
theorem RMaking.more {B:Nat}{w0 w:World}{R:Asn}(hR:Firm R){g j:Nat}{c:Int}{D:Nat->Dk}{v:Value}(hj:j<12)(hD:∀i,i<j->b0f (D i) c){gj:Nat}(h:Hold B w0 w (star (rf gj (newN c) (λ_=>noB) [] false) (star (blkA g 98 [v,.int .i64 0,.int .i64 (-1)]) (star (rowA 95 v j (ptrs j D)) (star (each (λi=>i<j) λi=>rdk (D i)) R))))):
 w.cell? ⟨g,0,none⟩=some v/\∃g' cap' w',(Builtin.append_ #[96,96] 96 #[v,.slice (some ⟨w.heap.size,0,none⟩) 1 1]).run prog (w.alloc (.cells #[.pointer (some ⟨gj,0,none⟩)] 95))=.ok (.slice (some ⟨g',0,none⟩) (j+1) cap') w'/\w'.cell? ⟨g,0,none⟩=some v/\w'.frozen? ⟨g,0,none⟩=false/\RMaking B w0 (w'.setCell ⟨g,0,none⟩ (.slice (some ⟨g',0,none⟩) (j+1) cap')) R g (j+1) c:=by
 have hg:=h.swap.blk;have h1:=(h.swap.monoR (λF h=>a0q h)).swap;obtain⟨g',cap',w',r6,h2⟩:=d7t ((a0e _ _ _).star ((c4h _ _ _ _ _).star ((a1c λ_=>a3m _).star hR))) 96 95 96 (.pointer none) 8 underlying96 info95 rfl (by decide) h1 (.pointer (some ⟨gj,0,none⟩)) rfl (by omega);have h3:=h2.swap;have hg3:=h3.blk;have h4:=h3.setBlk ((a3x _ _ _ _).star ((c4h _ _ _ _ _).star ((a1c λ_=>a3m _).star hR))) 0 (.slice (some ⟨g',0,none⟩) (j+1) cap');refine⟨hg.cell (i:=0) rfl,g',cap',w',r6,hg3.cell (i:=0) rfl,hg3.frozen 0,updD D j (a9s gj c),.slice (some ⟨g',0,none⟩) (j+1) cap',λi hi=>?_,?_⟩
 ·by_cases e:i=j
  ·subst e;rw[a0r];exact⟨rfl,rfl,rfl,rfl⟩
  ·rw[a1g _ _ _ _ e];exact hD i (by omega)
 ·rw[d2i,a0r,<-b0s j D (updD D j (a9s gj c)) (λi hi=>by rw[a1g _ _ _ _ (by omega)])];exact h4.monoR (λF h=>a0n h (λF h=>a2s (a1z h) (λF h=>c0p (P:=λi=>rdk (D i)) j (λi hi=>by rw[a1g _ _ _ _ (by omega)]) (a2s h (λF h=>by rw[a0r];exact h)))))
theorem RMaking.done {B:Nat}{w0 w:World}{R:Asn}{g N:Nat}{c:Int}(hN:1<=N/\N<=12)(h:RMaking B w0 w R g N c):∃D,(∀i,i<N->b0f (D i) c)/\Hold B w0 w (star (rbk g N D 0 none) R):=by
 obtain⟨D,v,h1,h2⟩:=h;have hr:=h2.swap.row;rcases hr.2 with⟨_,h0⟩|⟨gd,cap,cur,rfl,_⟩
 ·omega
 ·exact⟨D,h1,(h2.monoR (λF h=>a1z h)).ofRTop ⟨hN,λk e=>by cases e⟩ gd cap rfl⟩
theorem d7w {B:Nat}{w0 w:World}{R:Asn}(hR:Firm R)(h:Hold B w0 w R)(d c:Int):Calls prog 33 #[.int .i64 d,.int .i64 c] w λe w'=>∃g,e=.returned (.pointer (some ⟨g,0,none⟩))/\∃D,(∀i,i<newB d->b0f (D i) c)/\Hold B w0 w' (star (rbk g (newB d) D 0 none) R):=by
 obtain⟨N,hN⟩:∃N,newB d=N:=⟨_,rfl⟩;have hl:=c5o d;rw[hN]at hl⊢;have HM:Hid (RMaking _ _ _ _ _ _ _):=RMaking.start hR h c;have HR:Hid _:=hR;clear h hR;obtain⟨gr,dO⟩:∃gr,w.heap.size=gr:=⟨_,rfl⟩;unfold newB at hN;by_cases h1:d<1
 ·rw[qp h1]at hN;have HN:Hid (1=N):=hN;clear hN;go_enter func33,ntmps33;go_wp2_with fail
  try rw[dO]at HM
  try rw[dO]
  go_loopw[6] (λi wr=>∃j:Nat,j<=N/\i=.int .i64 (j:Int)/\Hid (RMaking B w0 wr R gr j c)) (λi _=>N-(intOf i).toNat)
  case atStart=>exact⟨0,Nat.zero_le _,rfl,HM.out⟩
  case round=>
   clear HM;obtain⟨j,hj,rfl,aE⟩:=hrel;by_cases p9:j<N
   ·have hj':(j:Int)<(1:Int):=(by have:=HN.out;omega);obtain⟨D,v,hD,hH⟩:=aE.out;have y9:=d4l (RMaking.firm HR.out gr j v D) hH c;have HD:Hid _:=hD;have HL:Hid (j<12):=(by have:=hl.2;exact(by omega:j<12));clear aE hH hD;go_wp2_with(first
     |(go_at_call 69;refine y9.mono ?_;rintro e wz ⟨gj,rfl,hz⟩;obtain⟨z0,g',cap',w2,r6,z1,z2,z3⟩:=RMaking.more HR.out HL.out HD.out hz;clear hz y9;have z3:Hid _:=z3)
     |(at_builtin;refine wpList_append_run rfl _ _ 96 96 rfl _ _ rfl rfl _ _ r6 ?_))
    go_roundw
    case rel=>exact⟨j+1,by omega,by go_num,z3.out⟩
    case measure=>simp[intOf];omega
   ·have hj':¬(j:Int)<(1:Int):=(by have:=HN.out;omega);obtain rfl:j=N:=(by omega);have HT:Hid _:=RMaking.done hl aE.out;clear aE;go_wp2_with fail;go_ret;exact⟨_,rfl,HT.out⟩
 ·rw[qn h1]at hN;by_cases h2:12<d
  ·rw[qp h2]at hN;have HN:Hid (12=N):=hN;clear hN;go_enter func33,ntmps33;go_wp2_with fail
   try rw[dO]at HM
   try rw[dO]
   go_loopw[6] (λi wr=>∃j:Nat,j<=N/\i=.int .i64 (j:Int)/\Hid (RMaking B w0 wr R gr j c)) (λi _=>N-(intOf i).toNat)
   case atStart=>exact⟨0,Nat.zero_le _,rfl,HM.out⟩
   case round=>
    clear HM;obtain⟨j,hj,rfl,aE⟩:=hrel;by_cases p9:j<N
    ·have hj':(j:Int)<(12:Int):=(by have:=HN.out;omega);obtain⟨D,v,hD,hH⟩:=aE.out;have y9:=d4l (RMaking.firm HR.out gr j v D) hH c;have HD:Hid _:=hD;have HL:Hid (j<12):=(by have:=hl.2;exact(by omega:j<12));clear aE hH hD;go_wp2_with(first
      |(go_at_call 69;refine y9.mono ?_;rintro e wz ⟨gj,rfl,hz⟩;obtain⟨z0,g',cap',w2,r6,z1,z2,z3⟩:=RMaking.more HR.out HL.out HD.out hz;clear hz y9;have z3:Hid _:=z3)
      |(at_builtin;refine wpList_append_run rfl _ _ 96 96 rfl _ _ rfl rfl _ _ r6 ?_))
     go_roundw
     case rel=>exact⟨j+1,by omega,by go_num,z3.out⟩
     case measure=>simp[intOf];omega
    ·have hj':¬(j:Int)<(12:Int):=(by have:=HN.out;omega);obtain rfl:j=N:=(by omega);have HT:Hid _:=RMaking.done hl aE.out;clear aE;go_wp2_with fail;go_ret;exact⟨_,rfl,HT.out⟩
  ·rw[qn h2]at hN;obtain rfl:d=(N:Int):=(by omega);go_enter func33,ntmps33;go_wp2_with fail
   try rw[dO]at HM
   try rw[dO]
   clear h1 h2;go_loopw[6] (λi wr=>∃j:Nat,j<=N/\i=.int .i64 (j:Int)/\Hid (RMaking B w0 wr R gr j c)) (λi _=>N-(intOf i).toNat)
   case atStart=>exact⟨0,Nat.zero_le _,rfl,HM.out⟩
   case round=>
    clear HM;obtain⟨j,hj,rfl,aE⟩:=hrel;by_cases p9:j<N
    ·have hj':(j:Int)<(N:Int):=(by omega);obtain⟨D,v,hD,hH⟩:=aE.out;have y9:=d4l (RMaking.firm HR.out gr j v D) hH c;have HD:Hid _:=hD;have HL:Hid (j<12):=(by have:=hl.2;exact(by omega:j<12));clear aE hH hD;go_wp2_with(first
      |(go_at_call 69;refine y9.mono ?_;rintro e wz ⟨gj,rfl,hz⟩;obtain⟨z0,g',cap',w2,r6,z1,z2,z3⟩:=RMaking.more HR.out HL.out HD.out hz;clear hz y9;have z3:Hid _:=z3)
      |(at_builtin;refine wpList_append_run rfl _ _ 96 96 rfl _ _ rfl rfl _ _ r6 ?_))
     go_roundw
     case rel=>exact⟨j+1,by omega,by go_num,z3.out⟩
     case measure=>simp[intOf];omega
    ·have hj':¬(j:Int)<(N:Int):=(by omega);obtain rfl:j=N:=(by omega);have HT:Hid _:=RMaking.done hl aE.out;clear aE;go_wp2_with fail;go_ret;exact⟨_,rfl,HT.out⟩
structure Bl where
 a:Option Addr
 m:Nat
 c:Nat
 k:Nat->Bool
abbrev Bl.v (b:Bl):Value:=.slice b.a b.m b.c
end Go.Proofs.YtokknmkleceooaaGreatDoor
