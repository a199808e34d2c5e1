import Derived.Test.YtokknmkleceooaaGreatDoorBaseM
import Derived.Deep.MidRow
import Derived.Maps.AppendAt
import Derived.Shelf.Strings.Repeat
import Derived.Lib.Strings
import Derived.Deep.WholeRow
import Derived.Deep.AppendLies
import Derived.Lib.ConvBytes
import Derived.ArgAppend
namespace Go.Proofs.YtokknmkleceooaaGreatDoor
set_option linter.unusedVariables false
set_option maxRecDepth 20000
set_option maxHeartbeats 8000000
open Go.Proofs.Tryz
open Go.RowKit Go.PlainAid
def rr (n:Nat)(x:Int):Int:=turn (32-n) x
theorem d7c (n:Nat)(hn:n<=32)(x:Int)(h:0<=x/\x<4294967296):b1q n x=rr n x:=by
 unfold rr;have e:turn n (turn (32-n) x)=x:=by rw[c4y,show n+(32-n)=32 by omega,d0u x h.1 h.2]
 conv=>lhs;rw[<-e]
 exact c7l n _ (a8b _ x h.1 h.2).1 (a8b _ x h.1 h.2).2
def bS1 (e:Int):Int:=bits .xor .u32 (bits .xor .u32 (rr 6 e) (rr 11 e)) (rr 25 e)
def bS0 (a:Int):Int:=bits .xor .u32 (bits .xor .u32 (rr 2 a) (rr 13 a)) (rr 22 a)
def sg1 (x:Int):Int:=bits .xor .u32 (bits .xor .u32 (rr 17 x) (rr 19 x)) (x/1024)
def sg0 (x:Int):Int:=bits .xor .u32 (bits .xor .u32 (rr 7 x) (rr 18 x)) (x/8)
def chF (e f g:Int):Int:=bits .xor .u32 (bits .and .u32 e f) (bits .and .u32 (4294967295-e) g)
def mjF (a b c:Int):Int:=bits .xor .u32 (bits .xor .u32 (bits .and .u32 a b) (bits .and .u32 a c)) (bits .and .u32 b c)
def Wt (b:Nat->Int)(t:Nat):Int:=
 if h:t<16 then b t else(((sg1 (Wt b (t-2))+Wt b (t-7))%4294967296+sg0 (Wt b (t-15)))%4294967296+Wt b (t-16))%4294967296
 termination_by t
 decreasing_by all_goals omega
theorem b0e (b:Nat->Int)(t:Nat)(h:t<16):Wt b t=b t:=by rw[Wt,dif_pos h]
theorem b4n (b:Nat->Int)(t:Nat)(h:16<=t):Wt b t=(((sg1 (Wt b (t-2))+Wt b (t-7))%4294967296+sg0 (Wt b (t-15)))%4294967296+Wt b (t-16))%4294967296:=by
 conv=>lhs;rw[Wt]
 rw[dif_neg (by omega)]
theorem e1n (b:Nat->Int)(hb:∀i,i<16->0<=b i/\b i<4294967296)(t:Nat):0<=Wt b t/\Wt b t<4294967296:=by
 by_cases h:t<16
 ·rw[b0e b t h];exact hb t h
 ·rw[b4n b t (by omega)];omega
theorem e1o (b c:Nat->Int)(h:∀i,i<16->b i=c i)(t:Nat):Wt b t=Wt c t:=by
 induction t using Nat.strongRecOn with
 |_ t ih=>
  by_cases h1:t<16
  ·rw[b0e b t h1,b0e c t h1,h t h1]
  ·rw[b4n b t (by omega),b4n c t (by omega),ih (t-2) (by omega),ih (t-7) (by omega),ih (t-15) (by omega),ih (t-16) (by omega)]
def tin (S:Nat->Int)(x:Int):Int:=(x+((S 7+bS1 (S 4))%4294967296+chF (S 4) (S 5) (S 6))%4294967296)%4294967296
def nx (S:Nat->Int)(x:Int)(i:Nat):Int:=
 if i=0 then((tin S x+bS0 (S 0))%4294967296+mjF (S 0) (S 1) (S 2))%4294967296
 else if i=4 then(S 3+tin S x)%4294967296 else S (i-1)
def rds (S:Nat->Int)(x:Nat->Int)(t:Nat):Nat->Int:=((List.range t).map x).foldl nx S
theorem b6r (S x:Nat->Int)(t:Nat):rds S x (t+1)=nx (rds S x t) (x t):=by
 unfold rds;rw[List.range_succ,List.map_append,List.foldl_append];rfl
def Ok (S:Nat->Int):Prop:=∀i,i<8->0<=S i/\S i<4294967296
theorem nx_ok (S:Nat->Int)(x:Int)(h:Ok S):Ok (nx S x):=by
 intro i hi;unfold nx
 split
 ·omega
 ·split
  ·omega
  ·exact h (i-1) (by omega)
theorem e2d (S x:Nat->Int)(t:Nat)(h:Ok S):Ok (rds S x t):=by
 induction t with
 |zero=>exact h
 |succ t ih=>rw[b6r];exact nx_ok _ _ ih
def kL:List Int:=[1116352408,1899447441,3049323471,3921009573,961987163,1508970993,2453635748,2870763221,3624381080,310598401,607225278,1426881987,1925078388,2162078206,2614888103,3248222580,3835390401,4022224774,264347078,604807628,770255983,1249150122,1555081692,1996064986,2554220882,2821834349,2952996808,3210313671,3336571891,3584528711,113926993,338241895,666307205,773529912,1294757372,1396182291,1695183700,1986661051,2177026350,2456956037,2730485921,2820302411,3259730800,3345764771,3516065817,3600352804,4094571909,275423344,430227734,506948616,659060556,883997877,958139571,1322822218,1537002063,1747873779,1955562222,2024104815,2227730452,2361852424,2428436474,2756734187,3204031479,3329325298]
def kc (i:Nat):Int:=kL.getD i 0
def iL:List Int:=[1779033703,3144134277,1013904242,2773480762,1359893119,2600822924,528734635,1541459225]
def ini (i:Nat):Int:=iL.getD i 0
theorem e8o:Ok ini:=by
 have h:(List.range 8).all (λi=>decide (0<=ini i/\ini i<4294967296))=true:=by decide+kernel
 intro i hi;have:=List.all_eq_true.1 h i (List.mem_range.2 hi);simpa using this
def cpr (S b:Nat->Int)(i:Nat):Int:=(rds S (λt=>(Wt b t+kc t)%4294967296) 64 i+S i)%4294967296
theorem e9l (S b:Nat->Int):Ok (cpr S b):=λi _=>by unfold cpr;omega
theorem b4d (S b c:Nat->Int)(h:∀i,i<16->b i=c i):cpr S b=cpr S c:=by
 funext i;unfold cpr;simp only[e1o b c h]
def blk (s:BA)(k i:Nat):Int:=a0h be4 s (16*k+i)
def hst (s:BA):Nat->Nat->Int
 |0=>ini
 |k+1=>cpr (hst s k) (blk s k)
theorem c5z (s:BA)(k:Nat):Ok (hst s k):=by
 cases k with
 |zero=>exact e8o
 |succ k=>exact e9l _ _
theorem d4f (s t:BA)(k:Nat)(h:∀i,i<64*k->bt s i=bt t i):hst s k=hst t k:=by
 induction k with
 |zero=>rfl
 |succ k ih=>
  rw[hst,hst,ih (λi hi=>h i (by omega))];apply b4d;intro i hi;unfold blk a0h;rw[h _ (by omega),h _ (by omega),h _ (by omega),h _ (by omega)]
theorem e9t (a b c d:Int)(ha:0<=a/\a<=255)(hb:0<=b/\b<=255)(hc:0<=c/\c<=255)(hd:0<=d/\d<=255):0<=be4 a b c d/\be4 a b c d<4294967296:=by
 unfold be4 le4;omega
theorem b1y (s:BA)(i:Nat):0<=a0h be4 s i/\a0h be4 s i<4294967296:=e9t _ _ _ _ (a1p s _) (a1p s _) (a1p s _) (a1p s _)
def zs (n:Nat):Nat:=(64-(n+9)%64)%64
def lw (n:Nat)(i:Nat):Int:=if i=0 then(8*(n:Int))/4294967296 else(8*(n:Int))%4294967296
def endL (n:Nat):List Int:=128::(List.replicate (zs n) 0++a1x a1s (lw n) 2)
def endB (n:Nat):BA:=strOfNums (endL n)
theorem b3z (n:Nat):(endB n).size=zs n+9:=by
 unfold endB endL;rw[strOfNums_size,List.length_cons,List.length_append,List.length_replicate,a1h a1s (λ_=>rfl)]
theorem d5c (n:Nat):(n+(endB n).size)%64=0:=by
 rw[b3z];unfold zs;omega
def padB (s:BA):BA:=s++endB s.size
theorem b9m (s:BA):(padB s).size=s.size+(endB s.size).size:=by unfold padB;exact ByteArray.size_append
theorem c8v (s:BA):(padB s).size%64=0:=by rw[b9m];exact d5c _
def d7e (S:Nat->Int):BA:=strOfNums (a1x a1s S 8)
def a3p (s:BA):BA:=d7e (hst (padB s) ((padB s).size/64))
theorem b4b (s:BA):(a3p s).size=32:=by
 unfold a3p d7e;rw[strOfNums_size,a1h a1s (λ_=>rfl)]
theorem e4y (x:Int)(h:0<=x/\x<4294967296):bits .xor .u32 IntKind.u32.max x=4294967295-x:=by
 obtain⟨X,rfl⟩:=Int.eq_ofNat_of_zero_le h.1;have hX:X<4294967296:=by omega
 rw[show IntKind.u32.max=((4294967295:Nat):Int)from rfl,u32_xor_nat _ _ (by omega) hX];have e:4294967295^^^X=4294967295-X:=by
  have h1:(BitVec.allOnes 32^^^BitVec.ofNat 32 X)= ~~~ BitVec.ofNat 32 X:=BitVec.allOnes_xor;have h2:=congrArg BitVec.toNat h1;rw[BitVec.toNat_xor,BitVec.toNat_not,BitVec.toNat_ofNat,Nat.mod_eq_of_lt hX]at h2;exact h2
 rw[e];omega
theorem d7d (S:Nat->Int)(x:Int)(h:0<=S 4/\S 4<4294967296):
 (x+(S 7+bits .xor .u32 (bits .xor .u32 (turn 26 (S 4)) (turn 21 (S 4))) (turn 7 (S 4))+bits .xor .u32 (bits .and .u32 (S 4) (S 5)) (bits .and .u32 (bits .xor .u32 IntKind.u32.max (S 4)) (S 6))))%4294967296=tin S x:=by
 rw[e4y (S 4) h];unfold tin bS1 chF rr;simp only[show 32-6=26 from rfl,show 32-11=21 from rfl,show 32-25=7 from rfl];omega
theorem d1u (g:Nat)(S:Nat->Int)(x:Int)(hS:Ok S)(hx:0<=x/\x<4294967296)(w:World)(hg:Blk w g 264 (ws 8 S)):
 Calls prog 228 #[.pointer (some ⟨g,0,none⟩),.int .u32 x] w λe w'=>e=.returned (.tuple #[])/\Blk w' g 264 (ws 8 (nx S x))/\Only g w w':=by
 have c0:=hg.cell (a0z 8 S 0 (by decide));have c1:=hg.cell (a0z 8 S 1 (by decide));have c2:=hg.cell (a0z 8 S 2 (by decide));have c4:=hg.cell (a0z 8 S 4 (by decide));have c5:=hg.cell (a0z 8 S 5 (by decide));have c6:=hg.cell (a0z 8 S 6 (by decide));have c7:=hg.cell (a0z 8 S 7 (by decide));obtain⟨h40,h41⟩:=hS 4 (by decide);obtain⟨h00,h01⟩:=hS 0 (by decide);go_enter func228,ntmps228;go_wp2
 go_quiet(fail)
 have hg1:Blk (w.drewN nq) g 264 (ws 8 S):=hg;have ho1:Only g w (w.drewN nq):=(Only.refl g w).drewN _;clear c0 c1 c2 c4 c5 c6 c7 hg;generalize w.drewN nq=w1 at hg1 ho1⊢;have c4:=hg1.cell (a0z 8 S 4 (by decide));have c5:=hg1.cell (a0z 8 S 5 (by decide));have c6:=hg1.cell (a0z 8 S 6 (by decide));go_wp2
 go_quiet(fail)
 have hg2:Blk (w1.drewN nq) g 264 (ws 8 S):=hg1;have ho2:Only g w (w1.drewN nq):=ho1.drewN _;clear c4 c5 c6 hg1 ho1;generalize w1.drewN nq=w2 at hg2 ho2⊢;have c7:=hg2.cell (a0z 8 S 7 (by decide));go_wp2
 go_quiet((go_at_call 245;exact Calls.quiet_of_same (a5j _ _ h40 h41 _)))
 have hg3:Blk (w2.drewN nq) g 264 (ws 8 S):=hg2;have ho3:Only g w (w2.drewN nq):=ho2.drewN _;clear c7 hg2 ho2;generalize w2.drewN nq=w3 at hg3 ho3⊢;go_wp2;rw[d7d S x ⟨h40,h41⟩];obtain⟨y,hy⟩:∃y,tin S x=y:=⟨_,rfl⟩;rw[hy];have HY:Hid (tin S x=y):=hy;clear hy;obtain⟨Z,hZ⟩:∃Z,ws 7 S=Z:=⟨_,rfl⟩;have dA:∀(j:Nat) v,Z[j]?=some v->w3.cell? ((⟨g,0,none⟩:Addr).add j)=some v:=by
  intro j v hj;rw[<-hZ]at hj;have hj7:j<7:=by
   rcases Nat.lt_or_ge j 7 with h|h
   ·exact h
   ·rw[List.getElem?_eq_none (by rw[a0f];exact h)]at hj;cases hj
  rw[a0z 7 S j hj7]at hj
  cases hj
  have:=hg3.cell (a0z 8 S j (by omega));unfold Addr.add
  split
  ·simp_all
  ·simpa using this
 have fJ:Z.length=7:=by rw[<-hZ,a0f]
 have hZo:∀v∈Z,v.oneCell'=true:=by rw[<-hZ];exact a3f 7 S
 have r6:=run_copy_row prog w3.drew 254 254 3 195 g 1 7 7 ⟨g,0,none⟩ 7 8 (ws 8 S).toArray 264 Z underlying254 size195 hg3 (by rw[fJ];rfl) dA (by rw[fJ];simp[a0f]) hZo;have x9:(List.take 1 (ws 8 S).toArray.toList++Z++List.drop (1+Z.length) (ws 8 S).toArray.toList)=ws 8 (λi=>if i=0 then S 0 else S (i-1)):=by
  rw[<-hZ];rfl
 rw[x9]at r6;have hg4:Blk (w3.drew.setRow g (ws 8 (λi=>if i=0 then S 0 else S (i-1))).toArray) g 264 (ws 8 (λi=>if i=0 then S 0 else S (i-1))):=setRow_heap _ g _ _ 264 _ hg3;have ho4:Only g w (w3.drew.setRow g (ws 8 (λi=>if i=0 then S 0 else S (i-1))).toArray):=ho3.drew.setRow _;clear x9 hZ;refine wp_region_noPanic ?_;refine wp_region_held_drew (S:=λ_=>True) (by kernel_rfl) trivial (λp8=>?_);refine tkH 0 ?_;go_simp;refine tkH 1 ?_;go_simp;refine tkH 2 ?_;go_simp;refine tkH 3 ?_;go_simp;refine tkH 4 ?_;go_simp;refine tkH 5 ?_;go_simp;refine rdH 6 λK hK=>?_;refine a3h rfl _ _ 254 254 rfl _ _ rfl rfl _ _ r6 ?_;refine hK.out _ _ trivial (λp8=>?_);clear hK K;go_simp;refine wpAnyH_done (by kernel_rfl) ?_ _;refine NoPanic.normal ?_;clear r6 dA fJ hZo hg3 ho3;generalize w3.drew.setRow g (ws 8 (λi=>if i=0 then S 0 else S (i-1))).toArray=w4 at hg4 ho4⊢;have c4:w4.cell? ⟨g,4,none⟩=some (.int .u32 (S 3)):=hg4.cell (a0z 8 _ 4 (by decide));have f4:=hg4.frozen 4;obtain⟨Y4,hY4⟩:∃Y4,IntKind.u32.wrap (S 3+y)=Y4:=⟨_,rfl⟩;have HY4:Hid ((S 3+y)%4294967296=Y4):=by rw[<-hY4,IntKind.wrap_u32'];exact rfl
 have hg5:=hg4.drew.setCell 4 (.int .u32 Y4);have ho5:=ho4.drew.setCell 4 (.int .u32 Y4);rw[a7p]at hg5;go_wp2;refine wp_region_noPanic ?_;refine wp_region_held_drew (S:=λ_=>True) (by kernel_rfl) trivial (λp8=>?_);refine tkH 0 ?_;go_simp;refine tkH 1 ?_;go_simp;refine tkH 2 ?_;go_simp;refine tkH 4 ?_;go_simp;refine tkH 6 ?_;go_simp;refine rdH 3 λK hK=>?_;go_simp;refine hK.out _ _ trivial (λp8=>?_);clear hK K;refine tkH 5 ?_;go_simp;refine tkH 7 ?_;go_simp;refine rdH 8 λK hK=>?_;go_simp;refine hK.out _ _ trivial (λp8=>?_);clear hK K;refine wpAnyH_done (by kernel_rfl) ?_ _;refine NoPanic.normal ?_;have hg5':Blk ((w4.setCell ⟨g,4,none⟩ (.int .u32 Y4)).drew) g 264 _:=hg5;have ho5':Only g w ((w4.setCell ⟨g,4,none⟩ (.int .u32 Y4)).drew):=ho5;clear hg4 ho4 hg5 ho5 c4 f4 hY4;generalize(w4.setCell ⟨g,4,none⟩ (.int .u32 Y4)).drew=w5 at hg5' ho5'⊢;have f0:=hg5'.frozen 0;have c0:w5.cell? ⟨g,0,none⟩=some (.int .u32 (S 0)):=hg5'.cell (a0z 8 _ 0 (by decide));go_wp2;refine wp_region_noPanic ?_;refine wp_region_held_drew (S:=λ_=>True) (by kernel_rfl) trivial (λp8=>?_);refine tkH 0 ?_;go_simp;refine tkH 1 ?_;go_simp;refine tkH 2 ?_;go_simp;refine tkH 4 ?_;go_simp;refine tkH 7 ?_;go_simp;refine tkH 11 ?_;go_simp;refine tkH 12 ?_;go_simp;refine tkH 13 ?_;go_simp;refine tkH 14 ?_;go_simp;refine tkH 15 ?_;go_simp;refine tkH 16 ?_;go_simp;refine tkH 17 ?_;go_simp;refine tkH 18 ?_;go_simp;refine tkH 19 ?_;go_simp;refine tkH 20 ?_;go_simp;refine tkH 21 ?_;go_simp;refine tkH 23 ?_;go_simp;refine rdH 3 λK hK=>?_;go_simp;go_at_call 245;refine(a5j _ _ h00 h01 _).mono ?_;rintro e wx ⟨rfl,rfl⟩;go_simp;refine hK.out _ _ trivial (λp8=>?_);clear hK K;refine rdH 5 λK hK=>?_;go_simp;go_at_call 245;refine(a5j _ _ h00 h01 _).mono ?_;rintro e wx ⟨rfl,rfl⟩;go_simp;refine hK.out _ _ trivial (λp8=>?_);clear hK K;refine tkH 6 ?_;go_simp;refine rdH 8 λK hK=>?_;go_simp;go_at_call 245;refine(a5j _ _ h00 h01 _).mono ?_;rintro e wx ⟨rfl,rfl⟩;go_simp;refine hK.out _ _ trivial (λp8=>?_);clear hK K;refine tkH 9 ?_;go_simp;refine tkH 10 ?_;go_simp;refine tkH 22 ?_;go_simp;refine tkH 24 ?_;go_simp;refine rdH 25 λK hK=>?_;go_simp;refine hK.out _ _ trivial (λp8=>?_);clear hK K;refine wpAnyH_done (by kernel_rfl) ?_ _;refine NoPanic.normal ?_;go_wp2;go_end0;have key:∀V,V=nx S x 0->Blk ((w5.setCell ⟨g,0,none⟩ (.int .u32 V)).drew) g 264 (ws 8 (nx S x)):=by
  intro V hV;have hb:=hg5'.setCell 0 (.int .u32 V);rw[a7p]at hb;rw[a4k 8 (nx S x) (λi=>if i=0 then V else if i=4 then Y4 else if i=0 then S 0 else S (i-1)) ?_]
  ·exact hb
  ·intro i hi;show nx S x i=if i=0 then V else if i=4 then Y4 else if i=0 then S 0 else S (i-1);by_cases h0:i=0
   ·subst h0;rw[qp rfl,hV]
   ·rw[qn h0];unfold nx;rw[qn h0,qn h0,HY.out,HY4.out]
 refine⟨rfl,key _ ?_,(ho5'.setCell 0 _).drew⟩;unfold nx;rw[qp rfl,HY.out,IntKind.wrap_u32',IntKind.wrap_u32'];rfl
theorem zero298:(prog.info? 298).map (λi=>i.zero)=some (some (.agg (ws 64 (λ_=>0)).toArray)):=by kernel_rfl
theorem c1m (w:World):(zeroValue 298).run prog w=.ok (.agg (ws 64 (λ_=>0)).toArray) w:=by
 obtain⟨i,hi,hz⟩:=Option.map_eq_some_iff.1 zero298;simp[zeroValue,typeInfo,hi,hz]
theorem size298:(prog.info? 298).map (·.size)=some 64:=by kernel_rfl
theorem size264:(prog.info? 264).map (·.size)=some 8:=by kernel_rfl
theorem e5j {w:World}{g:Nat}{T:TypeId}{S:Nat->Int}(h:Blk w g T (ws 64 S)):(loadVar 298 ⟨g,0,none⟩).run prog w=.ok (.agg (ws 64 S).toArray) w:=
 run_loadVar_row w g T 298 _ (0,0) _ h underlying298 rfl (by rw[size298];simp[a0f])
theorem d3r {w:World}{g:Nat}{T:TypeId}{S:Nat->Int}(h:Blk w g T (ws 8 S)):(loadVar 264 ⟨g,0,none⟩).run prog w=.ok (.agg (ws 8 S).toArray) w:=
 run_loadVar_row w g T 264 _ (0,0) _ h underlying264 rfl (by rw[size264];simp[a0f])
def A64 (f:Nat->Int)(k:Nat):List Value:=ws 64 (λi=>if i<k then Wt f i else 0)
theorem b5x (f:Nat->Int)(k i:Nat)(h:i<k)(h64:i<64):(A64 f k)[i]?=some (.int .u32 (Wt f i)):=by
 unfold A64;rw[a0z 64 _ i h64,qp h]
theorem e6q (f:Nat->Int)(k:Nat):(A64 f k).set k (.int .u32 (Wt f k))=A64 f (k+1):=by
 unfold A64;rw[a7p];apply a4k;intro i _;by_cases h:i=k
 ·subst h;rw[qp rfl,qp (by omega)]
 ·rw[qn h];by_cases h2:i<k
  ·rw[qp h2,qp (by omega)]
  ·rw[qn h2,qn (by omega)]
theorem e1t (f:Nat->Int):A64 f 64=ws 64 (Wt f):=by
 unfold A64;apply a4k;intro i hi;rw[qp hi]
theorem d6r (f:Nat->Int):List.take 0 (ws 64 (λ_=>0))++(ws 16 f++List.drop (0+16) (ws 64 (λ_=>0)))=A64 f 16:=by
 apply List.ext_getElem
 ·simp[A64,a0f]
 ·intro j h1 h2;simp only[A64,a0f]at h2;simp only[List.take_zero,List.nil_append];rw[List.getElem_append];simp only[a0f,A64]
  split
  ·rename_i h
   simp only[ws,List.getElem_map,List.getElem_range];rw[qp h,b0e f j h]
  ·rename_i h
   simp only[ws,List.getElem_drop,List.getElem_map,List.getElem_range];rw[qn h]
theorem d1j (b:BA)(hb:b.size=64)(w:World):
 Calls prog 227 #[.string b] w λe w'=>e=.returned (.agg (ws 64 (Wt (a0h be4 b))).toArray)/\Below w.heap.size w w':=by
 have aI:=c1m;obtain⟨Z,hZ⟩:∃Z,(ws 64 (λ_=>0)).toArray=Z:=⟨_,rfl⟩;rw[hZ]at aI;have HZ:Hid ((ws 64 (λ_=>0)).toArray=Z):=hZ;clear hZ;go_enter func227,ntmps227;go_wp2_with fail;have hA0:Blk ((w.alloc (.cells Z 298)).alloc (.cells Z 298)) w.heap.size 298 (ws 64 (λ_=>0)):=by
  rw[<-HZ.out];exact(Blk.new w 298 _).alloc _
 have hB0:Blk ((w.alloc (.cells Z 298)).alloc (.cells Z 298)) (w.heap.size+1) 298 (ws 64 (λ_=>0)):=by
  rw[<-HZ.out];have:=Blk.new (w.alloc (.cells (ws 64 (λ_=>0)).toArray 298)) 298 (ws 64 (λ_=>0)).toArray;simpa using this
 have hl0:Below w.heap.size w ((w.alloc (.cells Z 298)).alloc (.cells Z 298)):=((qw _ w).alloc (ql _) _).alloc (by simp) _;clear aI HZ;generalize(w.alloc (.cells Z 298)).alloc (.cells Z 298)=w0 at hA0 hB0 hl0⊢;have qB:=e1e b w0 (by omega) (by omega);rw[hb]at qB;obtain⟨g,y5⟩:∃g,w.heap.size=g:=⟨_,rfl⟩;rw[y5]at hA0 hB0 hl0⊢;have HG:Hid (w.heap.size=g):=y5;clear y5;refine qB.mono ?_;rintro e w1 ⟨rfl,x9,t8⟩;clear qB;have hA1:=hA0.below t8 hA0.lt;have hB1:=hB0.below t8 hB0.lt;have hl1:Below g w w1:=hl0.trans (t8.mono (Nat.le_of_lt hA0.lt));obtain⟨F,hF⟩:∃F,ws 16 (a0h be4 b)=F:=⟨_,rfl⟩;have tZ:F.length=16:=by rw[<-hF,a0f]
 have hFo:∀v∈F,v.oneCell'=true:=by rw[<-hF];exact a3f _ _
 have dA:∀(j:Nat) v,F[j]?=some v->w1.cell? ((⟨w0.heap.size,0,none⟩:Addr).add j)=some v:=by
  intro j v hj;rw[Addr.add_mid,Nat.zero_add];have hj16:j<16:=by
   rcases Nat.lt_or_ge j 16 with h|h
   ·exact h
   ·rw[List.getElem?_eq_none (by rw[tZ];exact h)]at hj;cases hj
  rw[World.ownsRow.cellAt x9 j (by omega),<-hj,<-hF];rfl
 have HF:Hid (ws 16 (a0h be4 b)=F):=hF;clear hF x9 t8 hA0 hB0 hl0;have r6:=run_copy_row prog w1 254 254 3 195 (g+1) 0 64 64 ⟨w0.heap.size,0,none⟩ 16 16 (ws 64 (λ_=>0)).toArray 298 F underlying254 size195 hB1 (by rw[tZ];rfl) dA (by rw[tZ];simp[a0f]) hFo;have e16:=d6r (a0h be4 b);rw[HF.out]at e16;rw[tZ,List.toList_toArray,List.append_assoc,e16]at r6;go_wp2_with fail;clear r6;have hB2:Blk (w1.setRow (g+1) (A64 (a0h be4 b) 16).toArray) (g+1) 298 (A64 (a0h be4 b) 16):=hB1.setRow;have hA2:Blk (w1.setRow (g+1) (A64 (a0h be4 b) 16).toArray) g 298 (ws 64 (λ_=>0)):=hA1.setRowOther (by omega) _;have hl2:Below g w (w1.setRow (g+1) (A64 (a0h be4 b) 16).toArray):=below_setRow hl1 (by omega) _;generalize w1.setRow (g+1) (A64 (a0h be4 b) 16).toArray=w2 at hB2 hA2 hl2⊢;clear dA tZ hFo HF hA1 hB1 hl1 e16;have hw:=b1y b;obtain⟨f,hf⟩:∃f,a0h be4 b=f:=⟨_,rfl⟩;rw[hf]at hB2;have HF:Hid (a0h be4 b=f):=hf;have fV:∀i,i<16->0<=f i/\f i<4294967296:=by rw[<-hf];exact λi _=>b1y b i
 clear hf hw;go_loopw[6] (λi wr=>∃k:Nat,16<=k/\k<=64/\i=.int .i64 k/\Blk wr (g+1) 298 (A64 f k)/\Blk wr g 298 (ws 64 (λ_=>0))/\Below g w wr) (λi _=>(64-intOf i).toNat)
 case atStart=>exact⟨16,by omega,by omega,rfl,hB2,hA2,hl2⟩
 case round=>
  clear hB2 hA2 hl2;obtain⟨k,hk16,hk,rfl,hB,hA,hl⟩:=hrel;by_cases p9:k<64
  ·have aT:(k:Int)<64:=(by omega);have c2:=hB.cell (b5x f k (k-2) (by omega) (by omega));have c15:=hB.cell (b5x f k (k-15) (by omega) (by omega));have p2:(0:Int)<=(k:Int)-2:=(by omega);have p15:(0:Int)<=(k:Int)-15:=(by omega);have q2:(k:Int)-2<64:=(by omega);have q15:(k:Int)-15<64:=(by omega);have t2:((k:Int)-2).toNat=k-2:=(by omega);have t15:((k:Int)-15).toNat=k-15:=(by omega);go_wp2_with fail
   go_quiet(fail)
   have hB3:Blk (wr.drewN nq) (g+1) 298 (A64 f k):=hB;have hA3:Blk (wr.drewN nq) g 298 (ws 64 (λ_=>0)):=hA;have hl3:Below g w (wr.drewN nq):=⟨hl.os,hl.tape,hl.output,hl.size,hl.block⟩;clear hB hA hl c2 c15 p2 p15 q2 q15 t2 t15;generalize wr.drewN nq=w3 at hB3 hA3 hl3⊢;obtain⟨n0,n1⟩:=e1n f fV (k-2);obtain⟨m0,m1⟩:=e1n f fV (k-15);obtain⟨x2,hx2⟩:∃x2,Wt f (k-2)=x2:=⟨_,rfl⟩;obtain⟨x15,hx15⟩:∃x15,Wt f (k-15)=x15:=⟨_,rfl⟩;rw[hx2]at n0 n1⊢;rw[hx15]at m0 m1⊢;have HX2:Hid (Wt f (k-2)=x2):=hx2;have HX15:Hid (Wt f (k-15)=x15):=hx15;clear hx2 hx15;go_wp2_with(first|(go_at_call_of 245 (Value.int .u32 x2);refine(a5j _ _ n0 n1 _).mono ?_;rintro e w' ⟨rfl,hw'⟩;rw[hw'];clear hw')|(go_at_call_of 245 (Value.int .u32 x15);refine(a5j _ _ m0 m1 _).mono ?_;rintro e w' ⟨rfl,hw'⟩;rw[hw'];clear hw'));rw[show bits .xor .u32 (bits .xor .u32 (turn 15 x2) (turn 13 x2)) (x2/1024)=sg1 x2 from rfl,show bits .xor .u32 (bits .xor .u32 (turn 25 x15) (turn 14 x15)) (x15/8)=sg0 x15 from rfl];have c7:=hB3.cell (b5x f k (k-7) (by omega) (by omega));have c16:=hB3.cell (b5x f k (k-16) (by omega) (by omega));have f0:=hB3.frozen k;have ck:w3.cell? ⟨g+1,k,none⟩=some (.int .u32 0):=by
    refine hB3.cell ?_;unfold A64;rw[a0z 64 _ k p9,qn (by omega)]
   have hV:Wt f k=IntKind.u32.wrap (IntKind.u32.wrap (IntKind.u32.wrap (sg1 x2+Wt f (k-7))+sg0 x15)+Wt f (k-16)):=by
    rw[b4n f k hk16,HX2.out,HX15.out,IntKind.wrap_u32',IntKind.wrap_u32',IntKind.wrap_u32']
   obtain⟨x7,hx7⟩:∃x7,Wt f (k-7)=x7:=⟨_,rfl⟩;obtain⟨x16,hx16⟩:∃x16,Wt f (k-16)=x16:=⟨_,rfl⟩;have hB4:Blk (w3.drew.setCell ⟨g+1,k,none⟩ (.int .u32 (Wt f k))) (g+1) 298 (A64 f (k+1)):=by
    rw[<-e6q];exact hB3.drew.setCell k _
   have hA4:Blk (w3.drew.setCell ⟨g+1,k,none⟩ (.int .u32 (Wt f k))) g 298 (ws 64 (λ_=>0)):=hA3.drew.setOther (by omega) k _;have hl4:Below g w (w3.drew.setCell ⟨g+1,k,none⟩ (.int .u32 (Wt f k))):=hl3.drew.setCell (by show g<=g+1;omega) _;have e7:=hB4.cell (b5x f (k+1) (k-7) (by omega) (by omega));have e16:=hB4.cell (b5x f (k+1) (k-16) (by omega) (by omega));rw[hx7]at c7 e7 hV;rw[hx16]at c16 e16 hV;have HV:Hid (Wt f k=IntKind.u32.wrap (IntKind.u32.wrap (IntKind.u32.wrap (sg1 x2+x7)+sg0 x15)+x16)):=hV;rw[hV]at e7 e16;clear hV hx7 hx16 hB3 hA3 hl3;have s7:(7:Int)<=(k:Int):=(by omega);have s16:(16:Int)<=(k:Int):=(by omega);have p7:(0:Int)<=(k:Int)-7:=(by omega);have p16:(0:Int)<=(k:Int)-16:=(by omega);have q7:(k:Int)-7<64:=(by omega);have q16:(k:Int)-16<64:=(by omega);have t7:((k:Int)-7).toNat=k-7:=(by omega);have t16:((k:Int)-16).toNat=k-16:=(by omega);have z7:IntKind.i64.wrap ((k:Int)-7)=(k:Int)-7:=IntWalk.i64_in _ ⟨by omega,by omega⟩;have z16:IntKind.i64.wrap ((k:Int)-16)=(k:Int)-16:=IntWalk.i64_in _ ⟨by omega,by omega⟩;go_wp2_with fail;refine wp_region_noPanic ?_;refine wp_region_held_drew (S:=λz=>z.cell? ⟨g+1,k-7,none⟩=some (.int .u32 x7)/\z.cell? ⟨g+1,k-16,none⟩=some (.int .u32 x16)) (by kernel_rfl) ⟨c7,c16⟩ (λp8=>?_);refine tkH 0 ?_;go_simp;refine tkH 1 ?_;go_simp;refine tkH 2 ?_;go_simp;refine tkH 3 ?_;go_simp;refine tkH 4 ?_;go_simp;refine tkH 5 ?_;go_simp;refine tkH 6 ?_;go_simp;refine tkH 7 ?_;go_simp;refine tkH 8 ?_;go_simp;refine tkH 9 ?_;go_simp;refine tkH 10 ?_;go_simp;refine tkH 11 ?_;go_simp;refine tkH 12 ?_;go_simp;refine tkH 13 ?_;go_simp;refine tkH 14 ?_;go_simp;refine rdH 15 λK hK=>?_;go_simp;refine hK.out _ _ ⟨e7,e16⟩ (λp8=>?_);clear hK K;refine wpAnyH_done (by kernel_rfl) ?_ _;refine NoPanic.normal ?_;rw[<-HV.out];have hB5:Blk (w3.setCell ⟨g+1,k,none⟩ (.int .u32 (Wt f k))).drew (g+1) 298 (A64 f (k+1)):=hB4;have hA5:Blk (w3.setCell ⟨g+1,k,none⟩ (.int .u32 (Wt f k))).drew g 298 (ws 64 (λ_=>0)):=hA4;have hl5:Below g w (w3.setCell ⟨g+1,k,none⟩ (.int .u32 (Wt f k))).drew:=hl4;clear hB4 hA4 hl4 e7 e16 c7 c16 ck f0 HV;generalize(w3.setCell ⟨g+1,k,none⟩ (.int .u32 (Wt f k))).drew=w4 at hB5 hA5 hl5⊢;go_wp2_with fail;go_roundw
   case rel=>exact⟨k+1,by omega,by omega,by go_num,hB5,hA5,hl5⟩
   case measure=>simp[intOf];omega
  ·have hk64:k=64:=(by omega);subst hk64;rw[e1t,<-HF.out]at hB;have hA':Blk (wr.setRow g (ws 64 (Wt (a0h be4 b))).toArray) g 298 (ws 64 (Wt (a0h be4 b))):=hA.setRow;have hR:=e5j hA';have hl':Below g w (wr.setRow g (ws 64 (Wt (a0h be4 b))).toArray):=below_setRow hl (ql _) _;obtain⟨Y,hY⟩:∃Y,ws 64 (Wt (a0h be4 b))=Y:=⟨_,rfl⟩;have hYl:Y.length=64:=(by rw[<-hY,a0f]);have pT:∀v∈Y,v.oneCell'=true:=(by rw[<-hY];exact a3f _ _);rw[hY]at hB hR hl';have HY:Hid (ws 64 (Wt (a0h be4 b))=Y):=hY;clear hA' hl HF hY;go_wp2_with(first|(refine a0a rfl 298 _ rfl (g+1) rfl 298 Y _ hB underlying298 rfl (by rw[size298,hYl]) ?_)|(refine a0b rfl 298 _ _ rfl g _ Y rfl rfl 298 hA (by rw[size298,hYl]) (by rw[a0f,hYl]) pT ?_));refine bodyPost_ret_by (v:=.agg Y.toArray) (a1a 2 298 ⟨g,0,none⟩ results227 rfl hR) rfl ⟨by rw[HY.out],?_⟩;rw[HG.out];exact hl'
def Tabs (w:World):Prop:=∀i,i<64->w.cell? ⟨2,i,none⟩=some (.int .u32 (kc i))
theorem Tabs.lt {w:World}(h:Tabs w):2<w.heap.size:=a6b (h 0 (by decide))
theorem Tabs.below {w w':World}{B:Nat}(h:Tabs w)(hb:Below B w w')(hB:2<B):Tabs w':=λi hi=>(hb.cell (p:=⟨2,i,none⟩) hB).trans (h i hi)
theorem Tabs.only {w w':World}{g:Nat}(h:Tabs w)(ho:Only g w w')(hg:g≠2):Tabs w':=λi hi=>
 (World.cell?_of_block (ho.block 2 h.lt (λe=>hg (Option.some.inj e).symm))).trans (h i hi)
theorem Tabs.alloc {w:World}(h:Tabs w)(o:Obj):Tabs (w.alloc o):=h.below ((qw w.heap.size w).alloc (ql _) o) h.lt
theorem c4c (S:Nat->Int)(k:Nat)(hk:k<64)(w:World):(Instr.index 298 (.agg (ws 64 S).toArray) (.int .i64 (k:Int))).run prog w=.ok (.int .u32 (S k)) w:=by
 have h2:(ws 64 S)[k]?=some (.int .u32 (S k)):=a0z 64 S k hk;simp[Instr.index,asIntOf,run_underlying underlying298,part,go_sem,hk,h2]
theorem zero264:(prog.info? 264).map (λi=>i.zero)=some (some (.agg (ws 8 (λ_=>0)).toArray)):=by kernel_rfl
theorem a7v (w:World):(zeroValue 264).run prog w=.ok (.agg (ws 8 (λ_=>0)).toArray) w:=by
 obtain⟨i,hi,hz⟩:=Option.map_eq_some_iff.1 zero264;simp[zeroValue,typeInfo,hi,hz]
theorem e5f (S:Nat->Int)(hS:Ok S)(b:BA)(hb:b.size=64)(w:World)(ht:Tabs w):
 Calls prog 193 #[.agg (ws 8 S).toArray,.string b] w λe w'=>e=.returned (.agg (ws 8 (cpr S (a0h be4 b))).toArray)/\Below w.heap.size w w':=by
 have aI:=a7v;obtain⟨Z,hZ⟩:∃Z,ws 8 (λ_=>0)=Z:=⟨_,rfl⟩;obtain⟨Y,hY⟩:∃Y,ws 8 S=Y:=⟨_,rfl⟩;rw[hZ]at aI;rw[hY];have iM:Y.length=8:=by rw[<-hY,a0f]
 have cU:Z.length=8:=by rw[<-hZ,a0f]
 have pT:∀v∈Y,v.oneCell'=true:=by rw[<-hY];exact a3f _ _
 have HY:Hid (ws 8 S=Y):=hY;have HZ:Hid (ws 8 (λ_=>0)=Z):=hZ;clear hY hZ;have hL0:Blk ((w.alloc (.cells Y.toArray 264)).alloc (.cells Z.toArray 264)) w.heap.size 264 Y:=by
  have:=(Blk.new w 264 Y.toArray).alloc (.cells Z.toArray 264);simpa using this
 have hS0:Blk (((w.alloc (.cells Y.toArray 264)).alloc (.cells Z.toArray 264)).alloc (.cells Z.toArray 264)) (w.heap.size+1+1) 264 Z:=by
  have:=Blk.new ((w.alloc (.cells Y.toArray 264)).alloc (.cells Z.toArray 264)) 264 Z.toArray;simpa using this
 have hR0:Blk (((w.alloc (.cells Y.toArray 264)).alloc (.cells Z.toArray 264)).alloc (.cells Z.toArray 264)) (w.heap.size+1) 264 Z:=by
  have:=(Blk.new (w.alloc (.cells Y.toArray 264)) 264 Z.toArray).alloc (.cells Z.toArray 264);simpa using this
 have hb0:Below w.heap.size w (((w.alloc (.cells Y.toArray 264)).alloc (.cells Z.toArray 264)).alloc (.cells Z.toArray 264)):=(((qw _ w).alloc (ql _) _).alloc (by simp) _).alloc (by simp;omega) _;go_enter func193,ntmps193;go_wp2_with(first|(refine a0a rfl 264 _ rfl w.heap.size rfl 264 Y _ hL0 underlying264 rfl (by rw[size264,iM]) ?_)|(refine a0b rfl 264 _ _ rfl (w.heap.size+1+1) Z Y rfl rfl 264 hS0 (by rw[size264,iM]) (by rw[cU,iM]) pT ?_));have hn:Blk ((((w.alloc (.cells Y.toArray 264)).alloc (.cells Z.toArray 264)).alloc (.cells Z.toArray 264)).setRow (w.heap.size+1+1) Y.toArray) (w.heap.size+1+1) 264 (ws 8 S):=by
  rw[HY.out];exact hS0.setRow
 have hs:Blk ((((w.alloc (.cells Y.toArray 264)).alloc (.cells Z.toArray 264)).alloc (.cells Z.toArray 264)).setRow (w.heap.size+1+1) Y.toArray) w.heap.size 264 (ws 8 S):=by
  rw[HY.out];exact(hL0.alloc _).setRowOther (by omega) _
 have hr:Blk ((((w.alloc (.cells Y.toArray 264)).alloc (.cells Z.toArray 264)).alloc (.cells Z.toArray 264)).setRow (w.heap.size+1+1) Y.toArray) (w.heap.size+1) 264 (ws 8 (λ_=>0)):=by
  rw[HZ.out];exact hR0.setRowOther (by omega) _
 have hb1:Below w.heap.size w ((((w.alloc (.cells Y.toArray 264)).alloc (.cells Z.toArray 264)).alloc (.cells Z.toArray 264)).setRow (w.heap.size+1+1) Y.toArray):=below_setRow hb0 (by omega) _;clear hL0 hS0 hR0 hb0 aI iM cU pT HY HZ;generalize((((w.alloc (.cells Y.toArray 264)).alloc (.cells Z.toArray 264)).alloc (.cells Z.toArray 264)).setRow (w.heap.size+1+1) Y.toArray)=w0 at hn hs hr hb1⊢;have h2g:=ht.lt;have ht0:Tabs w0:=ht.below hb1 h2g;obtain⟨g,y5⟩:∃g,w.heap.size=g:=⟨_,rfl⟩;rw[y5]at hn hs hr hb1 h2g⊢;have HG:Hid (w.heap.size=g):=y5;clear y5 ht;have aA:g+3<=w0.heap.size:=hn.lt;go_wp2_with(go_at_call 227;refine(d1j b hb _).mono ?_;rintro e w1 ⟨rfl,cC⟩);have hn1:=hn.below cC hn.lt;have hs1:=hs.below cC hs.lt;have hr1:=hr.below cC hr.lt;have ht1:=ht0.below cC ht0.lt;have hb2:Below g w w1:=hb1.trans (cC.mono (by omega));clear hn hs hr ht0 hb1 cC aA;obtain⟨f,hf⟩:∃f,a0h be4 b=f:=⟨_,rfl⟩;have fV:∀i,i<16->0<=f i/\f i<4294967296:=by rw[<-hf];exact λi _=>b1y b i
 have HF:Hid (a0h be4 b=f):=hf;rw[hf];clear hf;have fT:=λk (hk:k<64) w=>c4c (Wt f) k hk w;obtain⟨X,hX⟩:∃X,(ws 64 (Wt f)).toArray=X:=⟨_,rfl⟩;rw[hX]at fT⊢;clear hX;go_wp2_with fail;go_loopw[12] (λi wr=>∃k:Nat,k<=64/\i=.int .i64 k/\Blk wr (g+1+1) 264 (ws 8 (rds S (λt=>(Wt f t+kc t)%4294967296) k))/\Blk wr g 264 (ws 8 S)/\Blk wr (g+1) 264 (ws 8 (λ_=>0))/\Tabs wr/\Below g w wr) (λi _=>(64-intOf i).toNat)
 case atStart=>exact⟨0,by omega,rfl,hn1,hs1,hr1,ht1,hb2⟩
 case round=>
  clear hn1 hs1 hr1 ht1 hb2;obtain⟨k,hk,rfl,hn,hs,hr,ht,hl⟩:=hrel;by_cases p9:k<64
  ·have aT:(k:Int)<64:=(by omega);have hi:=λw=>fT k p9 w;have hc:=ht k p9;have hx:0<=(Wt f k+kc k)%4294967296/\(Wt f k+kc k)%4294967296<4294967296:=(by omega);have x8:=d1u (g+1+1) (rds S (λt=>(Wt f t+kc t)%4294967296) k) ((Wt f k+kc k)%4294967296) (e2d _ _ k hS) hx wr hn;rw[<-b6r S (λt=>(Wt f t+kc t)%4294967296) k]at x8;have HC:=x8;clear fT x8;go_wp2_with(go_at_call 228;refine HC.mono ?_;rintro e w2 ⟨rfl,hn2,ho⟩);have hs2:=hs.only ho (by omega);have hr2:=hr.only ho (by omega);have ht2:=ht.only ho (by omega);have hl2:Below g w w2:=Below.only hl ho (Nat.le_of_lt hs.lt) (by omega);clear hn hs hr ht hl ho HC hi hc;go_wp2_with fail;go_roundw
   case rel=>exact⟨k+1,by omega,by go_num,hn2,hs2,hr2,ht2,hl2⟩
   case measure=>simp[intOf];omega
  ·have hk64:k=64:=(by omega);subst hk64;rw[show((64:Nat):Int)=(64:Int)from rfl];clear fT ht;obtain⟨R,hR⟩:∃R,rds S (λt=>(Wt f t+kc t)%4294967296) 64=R:=⟨_,rfl⟩;rw[hR]at hn;have HR:Hid (cpr S (a0h be4 b)=λi=>(R i+S i)%4294967296):=(by rw[HF.out,<-hR];rfl);clear hR HF;go_wp2_with fail;go_loopw[23] (λi wr=>∃q:Nat,q<=8/\i=.int .i64 q/\Blk wr (g+1+1) 264 (ws 8 (λi=>if i<q then(R i+S i)%4294967296 else R i))/\Blk wr g 264 (ws 8 S)/\Blk wr (g+1) 264 (ws 8 (λ_=>0))/\Below g w wr) (λi _=>(8-intOf i).toNat)
   case atStart=>exact⟨0,by omega,rfl,hn,hs,hr,hl⟩
   case round=>
    clear hn hs hr hl;obtain⟨q,hq,rfl,hn,hs,hr,hl⟩:=hrel;by_cases aD:q<8
    ·have hq':(q:Int)<8:=(by omega);have cn:wr.cell? ⟨g+1+1,q,none⟩=some (.int .u32 (R q)):=by
      have:=hn.cell (a0z 8 _ q aD);rw[qn (by omega)]at this;exact this
     have cs:=hs.cell (a0z 8 S q aD);have fn:=hn.frozen q;obtain⟨V,hV⟩:∃V,IntKind.u32.wrap (R q+S q)=V:=⟨_,rfl⟩;have HV:Hid ((R q+S q)%4294967296=V):=(by rw[<-hV,IntKind.wrap_u32'];exact rfl);have hn2:Blk (wr.drew.setCell ⟨g+1+1,q,none⟩ (.int .u32 V)) (g+1+1) 264 (ws 8 (λi=>if i<q+1 then(R i+S i)%4294967296 else R i)):=by
      have hh:=hn.drew.setCell q (.int .u32 V);rw[a7p]at hh;rw[a4k 8 (λi=>if i<q+1 then(R i+S i)%4294967296 else R i) (λi=>if i=q then V else if i<q then(R i+S i)%4294967296 else R i) ?_]
      ·exact hh
      ·intro i _;show(if i<q+1 then(R i+S i)%4294967296 else R i)=if i=q then V else if i<q then(R i+S i)%4294967296 else R i;by_cases h1:i=q
       ·subst h1;rw[qp (by omega),qp rfl,HV.out]
       ·rw[qn h1];by_cases h2:i<q
        ·rw[qp h2,qp (by omega)]
        ·rw[qn h2,qn (by omega)]
     have hs2:Blk (wr.drew.setCell ⟨g+1+1,q,none⟩ (.int .u32 V)) g 264 (ws 8 S):=hs.drew.setOther (by omega) q _;have hr2:Blk (wr.drew.setCell ⟨g+1+1,q,none⟩ (.int .u32 V)) (g+1) 264 (ws 8 (λ_=>0)):=hr.drew.setOther (by omega) q _;have hl2:Below g w (wr.drew.setCell ⟨g+1+1,q,none⟩ (.int .u32 V)):=hl.drew.setCell (by show g<=g+1+1;omega) _;have es:=hs2.cell (a0z 8 S q aD);clear hn hs hr hl HV;go_wp2_with fail;refine wp_region_noPanic ?_;refine wp_region_held_drew (S:=λz=>z.cell? ⟨g,q,none⟩=some (.int .u32 (S q))) (by kernel_rfl) cs (λp8=>?_);refine tkH 0 ?_;go_simp;refine tkH 1 ?_;go_simp;refine tkH 3 ?_;go_simp;refine tkH 4 ?_;go_simp;refine tkH 5 ?_;go_simp;refine rdH 2 λK hK=>?_;go_simp;refine hK.out _ _ cs (λp8=>?_);clear hK K;refine tkH 6 ?_;go_simp;refine tkH 7 ?_;go_simp;refine rdH 8 λK hK=>?_;go_simp;refine hK.out _ _ es (λp8=>?_);clear hK K;refine wpAnyH_done (by kernel_rfl) ?_ _;refine NoPanic.normal ?_;have hn3:Blk (wr.setCell ⟨g+1+1,q,none⟩ (.int .u32 V)).drew (g+1+1) 264 _:=hn2;have hs3:Blk (wr.setCell ⟨g+1+1,q,none⟩ (.int .u32 V)).drew g 264 _:=hs2;have hr3:Blk (wr.setCell ⟨g+1+1,q,none⟩ (.int .u32 V)).drew (g+1) 264 _:=hr2;have hl3:Below g w (wr.setCell ⟨g+1+1,q,none⟩ (.int .u32 V)).drew:=hl2;clear hn2 hs2 hr2 hl2 es cs cn fn hV;generalize(wr.setCell ⟨g+1+1,q,none⟩ (.int .u32 V)).drew=w4 at hn3 hs3 hr3 hl3⊢;go_wp2_with fail;go_roundw
     case rel=>exact⟨q+1,by omega,by go_num,hn3,hs3,hr3,hl3⟩
     case measure=>simp[intOf];omega
    ·have hq8:q=8:=(by omega);subst hq8;have eV:ws 8 (λi=>if i<8 then(R i+S i)%4294967296 else R i)=ws 8 (cpr S (a0h be4 b)):=by
      rw[HR.out];apply a4k;intro i hi;rw[qp hi]
     rw[eV]at hn;have hA':Blk (wr.setRow (g+1) (ws 8 (cpr S (a0h be4 b))).toArray) (g+1) 264 (ws 8 (cpr S (a0h be4 b))):=hr.setRow;have hR:=d3r hA';have hl':Below g w (wr.setRow (g+1) (ws 8 (cpr S (a0h be4 b))).toArray):=below_setRow hl (by omega) _;obtain⟨U,hU⟩:∃U,ws 8 (cpr S (a0h be4 b))=U:=⟨_,rfl⟩;have bO:U.length=8:=(by rw[<-hU,a0f]);have gF:∀v∈U,v.oneCell'=true:=(by rw[<-hU];exact a3f _ _);rw[hU]at hn hR hl';have HU:Hid (ws 8 (cpr S (a0h be4 b))=U):=hU;clear hA' hl hU eV HR hs;go_wp2_with(first|(refine a0a rfl 264 _ rfl (g+1+1) rfl 264 U _ hn underlying264 rfl (by rw[size264,bO]) ?_)|(refine a0b rfl 264 _ _ rfl (g+1) _ U rfl rfl 264 hr (by rw[size264,bO]) (by rw[a0f,bO]) gF ?_));refine bodyPost_ret_by (v:=.agg U.toArray) (a1a 4 264 ⟨g+1,0,none⟩ results193 rfl hR) rfl ⟨by rw[HU.out],?_⟩;rw[HG.out];exact hl'
theorem a4s (x:Int)(n:Nat)(hn:n<32)(h:0<=x/\x<4294967296)(w:World):
 Calls prog 241 #[.int .u32 x,.int .i64 (n:Int)] w λe w'=>e=.returned (.int .u32 (rr n x))/\w'=w:=by
 refine(b9g x n h.1 h.2 (by omega) (by omega) w).mono ?_;rintro e w' ⟨rfl,rfl⟩;refine⟨?_,rfl⟩;rw[show((n:Int)%32).toNat=n by omega,d7c n (by omega) x h]
theorem b5a (x:Int)(a b c:Nat)(ha:a<32)(hb:b<32)(hc:c<32)(h:0<=x/\x<4294967296)(w:World):
 Calls prog 220 #[.int .u32 x,.int .i64 (a:Int),.int .i64 (b:Int),.int .i64 (c:Int)] w λe w'=>e=.returned (.int .u32 (bits .xor .u32 (bits .xor .u32 (rr a x) (rr b x)) (rr c x)))/\w'=w:=by
 go_enter func220,ntmps220;go_wp2_with fail;refine(a4s x a ha h w).mono ?_;rintro e w1 ⟨rfl,rfl⟩;go_wp2_with fail;refine(a4s x b hb h w1).mono ?_;rintro e w2 ⟨rfl,rfl⟩;go_wp2_with fail;refine(a4s x c hc h w2).mono ?_;rintro e w3 ⟨rfl,rfl⟩;go_wp2_with fail;go_ret;exact⟨rfl,rfl⟩
theorem b9u (x:Int)(a b:Nat)(d:Int)(ha:a<32)(hb:b<32)(hd:1<=d)(h:0<=x/\x<4294967296)(w:World):
 Calls prog 219 #[.int .u32 x,.int .i64 (a:Int),.int .i64 (b:Int),.int .u32 d] w λe w'=>e=.returned (.int .u32 (bits .xor .u32 (bits .xor .u32 (rr a x) (rr b x)) (x/d)))/\w'=w:=by
 have hd0:¬d=0:=by omega
 obtain⟨h0,h1⟩:=h;have hq:x.tdiv d=x/d:=Int.tdiv_eq_ediv_of_nonneg h0;have hq0:0<=x/d:=Int.ediv_nonneg h0 (by omega);have hq1:x/d<=x:=Int.ediv_le_self d h0;have hz:IntKind.u32.wrap (x/d)=x/d:=by rw[IntKind.wrap_u32'];omega
 go_enter func219,ntmps219;go_wp2_with fail;refine(a4s x a ha ⟨h0,h1⟩ w).mono ?_;rintro e w1 ⟨rfl,rfl⟩;go_wp2_with fail;refine(a4s x b hb ⟨h0,h1⟩ w1).mono ?_;rintro e w2 ⟨rfl,rfl⟩;go_wp2_with fail;go_ret;exact⟨rfl,rfl⟩
theorem d8h (x y z:Int)(hx:0<=x/\x<4294967296)(w:World):
 Calls prog 221 #[.int .u32 x,.int .u32 y,.int .u32 z] w λe w'=>e=.returned (.int .u32 (chF x y z))/\w'=w:=by
 obtain⟨h0,h1⟩:=hx;have hz:IntKind.u32.wrap (4294967295-x)=4294967295-x:=by rw[IntKind.wrap_u32'];omega
 go_enter func221,ntmps221;go_wp2_with fail;go_ret;exact⟨rfl,rfl⟩
theorem d8s (x y z:Int)(w:World):
 Calls prog 222 #[.int .u32 x,.int .u32 y,.int .u32 z] w λe w'=>e=.returned (.int .u32 (mjF x y z))/\w'=w:=by
 go_enter func222,ntmps222;go_wp2_with fail;go_ret;exact⟨rfl,rfl⟩
open Go.RowKit Go.PlainAid Go.Shelf
def d1z:Go.Shelf.Ren:=⟨fun|105=>104|212=>115|99=>149|165=>150|166=>151|170=>152|169=>153|263=>165|264=>166|206=>195|240=>196|241=>197|276=>229|277=>230|n=>n,fun|9=>9|3=>3|4=>4|20=>20|0=>0|46=>190|109=>191|5=>5|72=>230|76=>233|51=>195|146=>242|53=>198|148=>244|70=>228|37=>22|75=>232|127=>275|164=>307|80=>227|n=>n,fun|n=>n⟩
theorem d2a:Go.Proofs.Lays.n105 prog d1z:={
 mixed:=by kernel_rfl
 f99:=func149.trans (congrArg some (by kernel_rfl))
 f105:=func104.trans (congrArg some (by kernel_rfl))
 f165:=func150.trans (congrArg some (by kernel_rfl))
 f166:=func151.trans (congrArg some (by kernel_rfl))
 f169:=func153.trans (congrArg some (by kernel_rfl))
 f170:=func152.trans (congrArg some (by kernel_rfl))
 f206:=func195.trans (congrArg some (by kernel_rfl))
 f212:=func115.trans (congrArg some (by kernel_rfl))
 f240:=func196.trans (congrArg some (by kernel_rfl))
 f241:=func197.trans (congrArg some (by kernel_rfl))
 f263:=func165.trans (congrArg some (by kernel_rfl))
 f264:=func166.trans (congrArg some (by kernel_rfl))
 f276:=func229.trans (congrArg some (by kernel_rfl))
 f277:=func230.trans (congrArg some (by kernel_rfl))
 t0:=underlying0
 a0:=isAgg0
 z0:=sizeOf0
 v0:=zeroValue0
 t3:=underlying3
 a3:=isAgg3
 z3:=sizeOf3
 v3:=zeroValue3
 t4:=underlying4
 a4:=isAgg4
 z4:=sizeOf4
 v4:=zeroValue4
 t5:=underlying5
 a5:=isAgg5
 z5:=sizeOf5
 v5:=zeroValue5
 t9:=underlying9
 a9:=isAgg9
 z9:=sizeOf9
 v9:=zeroValue9
 t20:=underlying20
 a20:=isAgg20
 z20:=sizeOf20
 v20:=zeroValue20
 t37:=underlying22
 a37:=isAgg22
 z37:=sizeOf22
 v37:=zeroValue22
 t46:=underlying190
 a46:=isAgg190
 z46:=sizeOf190
 v46:=zeroValue190
 t51:=underlying195
 a51:=isAgg195
 z51:=sizeOf195
 v51:=zeroValue195
 t53:=underlying198
 a53:=isAgg198
 z53:=sizeOf198
 v53:=zeroValue198
 t70:=underlying228
 a70:=isAgg228
 z70:=sizeOf228
 v70:=zeroValue228
 t72:=underlying230
 a72:=isAgg230
 z72:=sizeOf230
 v72:=zeroValue230
 t75:=underlying232
 a75:=isAgg232
 z75:=sizeOf232
 v75:=zeroValue232
 t76:=underlying233
 a76:=isAgg233
 z76:=sizeOf233
 v76:=zeroValue233
 t109:=underlying191
 a109:=isAgg191
 z109:=sizeOf191
 v109:=zeroValue191
 t127:=underlying275
 a127:=isAgg275
 z127:=sizeOf275
 v127:=zeroValue275
 t146:=underlying242
 a146:=isAgg242
 z146:=sizeOf242
 v146:=zeroValue242
 t148:=underlying244
 a148:=isAgg244
 z148:=sizeOf244
 v148:=zeroValue244
 t164:=underlying307
 a164:=isAgg307
 z164:=sizeOf307
 v164:=zeroValue307}
theorem d7x:Builder.Extra prog d1z:={
 sizeBuilder:=by kernel_rfl
 liesBuilder:=by kernel_rfl
 t5:=underlying5
 a5:=isAgg5
 z5:=sizeOf5
 v5:=zeroValue5
 infoByte:=by kernel_rfl
 cellsByte:=by kernel_rfl
 sizeByte:=by kernel_rfl
 neB5:=by decide}
theorem c8g (s:BA)(c:Nat)(w:World)(hc:c<=9223372036854775807)(jQ:s.size*c<=140737488355328):
 Calls prog 104 #[.string s,.int .i64 c] w λe w'=>e=.returned (.string ⟨(Lib.repeatL s.data.toList c).toArray⟩)/\Below w.heap.size w w':=Any.strings_Repeat d2a d7x s c w hc jQ
theorem a5x (c:Nat)(w:World)(hc:c<=1000):
 Calls prog 104 #[.string ⟨#[0]⟩,.int .i64 c] w λe w'=>e=.returned (.string (strOfNums (List.replicate c 0)))/\Below w.heap.size w w':=by
 refine(c8g ⟨#[0]⟩ c w (by omega) (by show 1*c<=_;omega)).mono ?_;rintro e w' ⟨rfl,hb⟩;refine⟨?_,hb⟩;have h:=Lib.repeatL_replicate 0 1 c;rw[show(⟨#[0]⟩:BA).data.toList=List.replicate 1 0 from rfl,h,Nat.mul_one];unfold strOfNums;rw[List.map_replicate];rfl
theorem a4h (a b:List Int):strOfNums (a++b)=strOfNums a++strOfNums b:=by
 apply ByteArray.ext;rw[ByteArray.data_append];unfold strOfNums;simp
theorem c9j (n:Nat)(hn:n<=150000000000000)(w:World):
 Calls prog 194 #[.int .i64 (n:Int)] w λe w'=>e=.returned (.string (endB n))/\Below w.heap.size w w':=by
 go_enter func194,ntmps194;go_wp2_with fail;rw[show(-(((n:Int)+1+8)%64)%64:Int)=((zs n:Nat):Int)from by unfold zs;omega];refine(a5x (zs n) w (by unfold zs;omega)).mono ?_;rintro e w1 ⟨rfl,hb1⟩;obtain⟨R,hR⟩:∃R,strOfNums (List.replicate (zs n) 0)=R:=⟨_,rfl⟩;have hRs:R.size<=63:=by rw[<-hR,strOfNums_size,List.length_replicate];unfold zs;omega
 rw[hR];have HR:Hid (strOfNums (List.replicate (zs n) 0)=R):=hR;clear hR;have ha:At (w1.alloc (.cells #[.int .u32 ((n:Int)*8/4294967296),.int .u32 ((n:Int)*8%4294967296)] 195)) (some ⟨w1.heap.size,0,none⟩) 2 (lw n):=by
  refine .inr ⟨w1.heap.size,0,rfl,λi hi=>?_⟩;have bS:=Blk.new w1 195 #[.int .u32 ((n:Int)*8/4294967296),.int .u32 ((n:Int)*8%4294967296)];have e:i=0\/i=1:=by omega
  rcases e with rfl|rfl
  ·refine bS.cell ?_;rw[lw,qp rfl,Int.mul_comm 8];rfl
  ·refine bS.cell ?_;rw[lw,qn (by decide),Int.mul_comm 8];rfl
 have rY:∀i,i<2->0<=lw n i/\lw n i<4294967296:=by
  intro i _;unfold lw
  split<;>omega
 have hb2:Below w.heap.size w (w1.alloc (.cells #[.int .u32 ((n:Int)*8/4294967296),.int .u32 ((n:Int)*8%4294967296)] 195)):=hb1.alloc hb1.size _;go_wp2_with fail;refine(a8n _ 2 2 (lw n) _ (by omega) ha rY).mono ?_;rintro e w2 ⟨rfl,hb3⟩;have hb4:=hb2.trans (hb3.mono hb2.size);clear ha rY hb2 hb3;obtain⟨U,hU⟩:∃U,strOfNums (a1x a1s (lw n) 2)=U:=⟨_,rfl⟩;have hUs:U.size=8:=by rw[<-hU,strOfNums_size,a1h a1s (λ_=>rfl)]
 rw[hU];have HU:Hid (strOfNums (a1x a1s (lw n) 2)=U):=hU;clear hU;go_wp2_with fail;go_ret;refine⟨?_,hb4⟩;rw[<-HR.out,<-HU.out];congr 2;unfold endB endL;rw[show(128::(List.replicate (zs n) 0++a1x a1s (lw n) 2):List Int)=([128]++List.replicate (zs n) 0)++a1x a1s (lw n) 2 from rfl,a4h,a4h];rfl
def a0u (S R:Nat->Int)(n:Nat):List Value:=(List.range 73).map λj=>if j<8 then .int .u32 (S j)else if j<72 then .int .u8 (R (j-8))else .int .i64 (n:Int)
theorem a0y (S R:Nat->Int)(n:Nat):(a0u S R n).length=73:=by simp[a0u]
theorem a4g (S R:Nat->Int)(n j:Nat)(h:j<73):(a0u S R n)[j]?=some (if j<8 then .int .u32 (S j)else if j<72 then .int .u8 (R (j-8))else .int .i64 (n:Int)):=by
 simp[a0u,h]
theorem b1k (S R:Nat->Int)(n j:Nat)(h:j<8):(a0u S R n)[j]?=some (.int .u32 (S j)):=by
 rw[a4g S R n j (by omega),qp h]
theorem c4e (S R:Nat->Int)(n j:Nat)(h:j<64):(a0u S R n)[8+j]?=some (.int .u8 (R j)):=by
 rw[a4g S R n (8+j) (by omega),qn (by omega),qp (by omega),Nat.add_sub_cancel_left]
theorem a7i (S R:Nat->Int)(n:Nat):(a0u S R n)[72]?=some (.int .i64 (n:Int)):=by
 rw[a4g S R n 72 (by omega),qn (by omega),qn (by omega)]
theorem c9e (S R:Nat->Int)(n:Nat):∀v∈a0u S R n,v.oneCell'=true:=by
 intro v hv;obtain⟨i,_,rfl⟩:=List.mem_map.1 hv
 split
 ·rfl
 ·split<;>rfl
theorem b9z (S S' R R':Nat->Int)(n:Nat)(hS:∀i,i<8->S i=S' i)(hR:∀i,i<64->R i=R' i):a0u S R n=a0u S' R' n:=by
 unfold a0u;apply List.map_congr_left;intro j hj;have:=List.mem_range.1 hj;by_cases h:j<8
 ·rw[qp h,qp h,hS j h]
 ·rw[qn h,qn h];by_cases h2:j<72
  ·rw[qp h2,qp h2,hR (j-8) (by omega)]
  ·rw[qn h2,qn h2]
theorem b7k (S R:Nat->Int)(n m:Nat):(a0u S R n).set 72 (.int .i64 (m:Int))=a0u S R m:=by
 apply List.ext_getElem
 ·simp[a0u]
 ·intro j h1 h2;simp only[a0y]at h2;rw[List.getElem_set];simp only[a0u,List.getElem_map,List.getElem_range];by_cases e:72=j
  ·subst e;rw[qp rfl,qn (by omega),qn (by omega)]
  ·rw[qn e];by_cases h:j<8
   ·rw[qp h,qp h]
   ·rw[qn h,qn h,qp (by omega),qp (by omega)]
def HashAt (w:World)(g:Nat)(s:BA):Prop:=∃R:Nat->Int,(∀i,0<=R i/\R i<=255)/\(∀i,i<s.size%64->R i=bt s (64*(s.size/64)+i))/\Blk w g 274 (a0u (hst s (s.size/64)) R s.size)
theorem HashAt.lt {w:World}{g:Nat}{s:BA}(h:HashAt w g s):g<w.heap.size:=by
 obtain⟨R,_,_,hb⟩:=h;exact hb.lt
theorem HashAt.below {w w':World}{g B:Nat}{s:BA}(h:HashAt w g s)(hb:Below B w w')(hB:g<B):HashAt w' g s:=by
 obtain⟨R,h1,h2,h3⟩:=h;exact⟨R,h1,h2,h3.below hb hB⟩
theorem HashAt.only {w w':World}{g k:Nat}{s:BA}(h:HashAt w g s)(ho:Only k w w')(hk:g≠k):HashAt w' g s:=by
 obtain⟨R,h1,h2,h3⟩:=h;exact⟨R,h1,h2,h3.only ho hk⟩
theorem c4f (S R:Nat->Int)(n r k:Nat)(f:Nat->Int)(hk:r+k<=64):
 List.take (8+r) (a0u S R n)++((List.range k).map λi=>Value.int .u8 (f i))++List.drop (8+r+k) (a0u S R n)=a0u S (λi=>if r<=i/\i<r+k then f (i-r)else R i) n:=by
 apply List.ext_getElem?;intro j;rcases Nat.lt_or_ge j (8+r)with h|h
 ·rw[List.append_assoc,List.getElem?_append_left (by simp[a0y];omega),List.getElem?_take_of_lt h,a4g _ _ _ _ (by omega),a4g _ _ _ _ (by omega)];by_cases h8:j<8
  ·rw[qp h8,qp h8]
  ·rw[qn h8,qn h8,qp (by omega),qp (by omega),qn (by omega)]
 ·rw[List.append_assoc,List.getElem?_append_right (by simp[a0y];omega)];have e:j-(List.take (8+r) (a0u S R n)).length=j-(8+r):=by simp[a0y];omega
  rw[e];rcases Nat.lt_or_ge j (8+r+k)with h2|h2
  ·rw[List.getElem?_append_left (by simp;omega),a4g _ _ _ _ (by omega),qn (by omega),qp (by omega),qp (by omega),List.getElem?_map,List.getElem?_range (by omega)];show some (Value.int .u8 (f (j-(8+r))))=_;congr 3;omega
  ·rw[List.getElem?_append_right (by simp;omega),List.getElem?_drop];simp only[List.length_map,List.length_range];rw[show 8+r+k+(j-(8+r)-k)=j by omega];rcases Nat.lt_or_ge j 73 with h3|h3
   ·have h8:¬j<8:=(by omega);rw[a4g _ _ _ _ h3,a4g _ _ _ _ h3,qn h8,qn h8];by_cases h4:j<72
    ·rw[qp h4,qp h4,qn (by omega)]
    ·rw[qn h4,qn h4]
   ·rw[List.getElem?_eq_none (by rw[a0y];omega),List.getElem?_eq_none (by rw[a0y];omega)]
theorem size5:(prog.info? 5).map (·.size)=some 1:=by kernel_rfl
theorem d0x (q:BA)(k:Nat)(hk:k<=q.size):List.take k (List.map (λb=>Value.int .u8 (b.toNat:Int)) q.data.toList)=(List.range k).map λi=>Value.int .u8 (bt q i):=by
 have hs:q.size=q.data.size:=rfl;apply List.ext_getElem
 ·simp;omega
 ·intro i h1 h2;simp only[List.length_map,List.length_range]at h2;simp only[List.getElem_take,List.getElem_map,List.getElem_range];unfold bt;rw[dif_pos (show i<q.size by omega)];simp;rfl
theorem b6h (w:World)(S R:Nat->Int)(n r k g:Nat)(q:BA)(hg:Blk w g 274 (a0u S R n))(hr:r<64)(hk:k=min q.size (64-r)):
 (Builtin.copy_ #[22,9] 3 #[.slice (some ⟨g,8+r,none⟩) (64-r) (64-r),.string q]).run prog w=.ok (.int .i64 (k:Int)) (w.setRow g (a0u S (λi=>if r<=i/\i<r+k then bt q (i-r)else R i) n).toArray):=by
 have hst:=run_storeCells_at prog g (8+r) 274 ((List.range k).map λi=>Value.int .u8 (bt q i)) 0 (a0u S R n).toArray w hg (by simp[a0y];omega) (λv hv=>by
  obtain⟨i,_,rfl⟩:=List.mem_map.1 hv;rfl)
 have ho:=c4f S R n r k (bt q) (by omega);simp only[Nat.add_zero,List.length_map,List.length_range]at hst;rw[ho]at hst;have hc:=d0x q k (by omega);have hm:Nat.min q.size (64-r)=k:=by rw[hk]
 obtain⟨i0,hi,_⟩:=Option.map_eq_some_iff.1 size5;simp[Builtin.copy_,run_underlying underlying22,Builtin.lenOf,Builtin.firstCells,sizeOf,typeInfo,hi,hm];rw[hc,hst];rfl
def b64 (R:Nat->Int):BA:=strOfNums ((List.range 64).map R)
theorem e1j (R:Nat->Int):(b64 R).size=64:=by unfold b64;rw[strOfNums_size];simp
theorem e9p (R:Nat->Int)(hR:∀i,0<=R i/\R i<=255)(i:Nat)(h:i<64):bt (b64 R) i=R i:=by
 unfold b64;rw[a3q _ (λx hx=>by obtain⟨j,_,rfl⟩:=List.mem_map.1 hx;exact hR j) i (by simp;exact h)];simp
def Rn (R:Nat->Int)(q:BA)(r k i:Nat):Int:=if r<=i/\i<r+k then bt q (i-r)else R i
theorem b8g (R:Nat->Int)(q:BA)(r k:Nat)(hR:∀i,0<=R i/\R i<=255):∀i,0<=Rn R q r k i/\Rn R q r k i<=255:=by
 intro i;unfold Rn
 split
 ·exact a1p q _
 ·exact hR i
theorem c7b (c t:BA)(p k:Nat)(R:Nat->Int)(hk:k<=64-c.size%64)(hp:p+k<=t.size)(hR:∀i,i<c.size%64->R i=bt c (64*(c.size/64)+i)):
 ∀i,i<c.size%64+k->Rn R (t.extract p t.size) (c.size%64) k i=bt (c++t.extract p (p+k)) (64*(c.size/64)+i):=by
 intro i hi;unfold Rn;by_cases h:c.size%64<=i
 ·rw[qp ⟨h,hi⟩,a2w t p t.size _ (ql _) (by omega),a1o _ _ _ (by omega),a2w t p (p+k) _ hp (by omega)];congr 1;omega
 ·rw[qn (λh2=>h h2.1),a1q _ _ _ (by omega),hR i (by omega)]
theorem c6a (c u:BA)(m:Nat)(h:64*m<=c.size):hst (c++u) m=hst c m:=d4f _ _ m λi hi=>a1q c u i (by omega)
theorem c7h (c t:BA)(p k:Nat)(R:Nat->Int)(hk:k=64-c.size%64)(hp:p+k<=t.size)(hR0:∀i,0<=R i/\R i<=255)(hR:∀i,i<c.size%64->R i=bt c (64*(c.size/64)+i)):
 hst (c++t.extract p (p+k)) (c.size/64+1)=cpr (hst c (c.size/64)) (a0h be4 (b64 (Rn R (t.extract p t.size) (c.size%64) k))):=by
 rw[hst,c6a _ _ _ (by omega)];apply b4d;intro i hi;have hb:∀j,j<64->bt (c++t.extract p (p+k)) (64*(c.size/64)+j)=bt (b64 (Rn R (t.extract p t.size) (c.size%64) k)) j:=λj hj=>by
  rw[e9p _ (b8g R _ _ _ hR0) j hj,c7b c t p k R (by omega) hp hR j (by omega)]
 unfold blk a0h;rw[show(16*(c.size/64)+i)*4=64*(c.size/64)+i*4 by omega];simp only[Nat.add_assoc];rw[hb _ (by omega),hb _ (by omega),hb _ (by omega),hb _ (by omega)]
theorem a5u {P:Program}{ops:Array Oper}{o:Oper}{a:Act}{w:World}{K:Act->World->Prop}{Q:Exit->Act->World->Prop}{E:Prop}(y5:o.guard=none)(ty:TypeId)(x:Operand)(ho:o.op=.load ty x)
 (b off:Nat)(hx:a.eval x=.pointer (some ⟨b,off,none⟩))(cs:List Value)(d:TypeDesc)(hc:w.rangeAt b off cs)
 (hu:P.underlying ty=some d)(hd:d.isRow=true)(hi:(P.info? ty).map (·.size)=some cs.length)(h:K (a.put o.dst (.agg cs.toArray)) w):
 if Region.wanted o (yielded ops a.tmps)=true then Oper.wp P o a w K Q else E:=by
 rw[qp (by simp[Region.wanted,y5])];exact wp_load_mid ty x ho b off hx cs d hc hu hd hi h
theorem a7q {P:Program}{ops:Array Oper}{o:Oper}{a:Act}{w:World}{K:Act->World->Prop}{Q:Exit->Act->World->Prop}{E:Prop}(y5:o.guard=none)(ty:TypeId)(x y:Operand)(ho:o.op=.store ty x y)
 (b off:Nat)(cells:Array Value)(hx:a.eval x=.pointer (some ⟨b,off,none⟩))(hy:a.eval y=.agg cells)
 (ht:w.there b off cells.size)(hi:(P.info? ty).map (·.size)=some cells.size)(h1:cells.all (·.oneCell')=true)(h:K (a.put o.dst undef) (w.setCells b off cells.toList)):
 if Region.wanted o (yielded ops a.tmps)=true then Oper.wp P o a w K Q else E:=by
 rw[qp (by simp[Region.wanted,y5])];exact wp_store_mid ty x y ho b off cells hx hy ht hi h1 h
def setL (L:List Value)(o:Nat):List Value->List Value
 |[]=>L
 |v::r=>setL (L.set o v) (o+1) r
theorem Blk.setCells {g:Nat}{T:TypeId}:∀(vs:List Value) (o:Nat) (w:World) (L:List Value),Blk w g T L->Blk (w.setCells g o vs) g T (setL L o vs)
 |[],_,_,_,h=>h
 |v::r,o,w,L,h=>Blk.setCells r (o+1) _ _ (h.setCell o v)
theorem Only.setCells {g:Nat}{a:World}:∀(vs:List Value) (o:Nat) (w:World),Only g a w->Only g a (w.setCells g o vs)
 |[],_,_,h=>h
 |v::r,o,w,h=>Only.setCells r (o+1) _ (h.setCell o v)
theorem a2p (S R:Nat->Int)(n j:Nat)(x:Int)(hj:j<8):(a0u S R n).set j (.int .u32 x)=a0u (λi=>if i=j then x else S i) R n:=by
 apply List.ext_getElem
 ·simp[a0u]
 ·intro i h1 h2;simp only[a0y]at h2;rw[List.getElem_set];simp only[a0u,List.getElem_map,List.getElem_range];by_cases e:j=i
  ·subst e;rw[qp rfl,qp hj,qp rfl]
  ·rw[qn e];by_cases h:i<8
   ·rw[qp h,qp h,qn (λh=>e h.symm)]
   ·rw[qn h,qn h]
theorem b7l (S S' R:Nat->Int)(n:Nat):setL (a0u S R n) 0 (ws 8 S')=a0u S' R n:=by
 rw[show ws 8 S'=[.int .u32 (S' 0),.int .u32 (S' 1),.int .u32 (S' 2),.int .u32 (S' 3),.int .u32 (S' 4),.int .u32 (S' 5),.int .u32 (S' 6),.int .u32 (S' 7)]from rfl];simp only[setL];rw[a2p _ _ _ _ _ (by omega),a2p _ _ _ _ _ (by omega),a2p _ _ _ _ _ (by omega),a2p _ _ _ _ _ (by omega),a2p _ _ _ _ _ (by omega),a2p _ _ _ _ _ (by omega),a2p _ _ _ _ _ (by omega),a2p _ _ _ _ _ (by omega)];apply b9z
 ·intro i hi;have e:i=0\/i=1\/i=2\/i=3\/i=4\/i=5\/i=6\/i=7:=by omega
  rcases e with rfl|rfl|rfl|rfl|rfl|rfl|rfl|rfl<;>rfl
 ·intro i _;rfl
theorem Blk.range {w:World}{g:Nat}{T:TypeId}{L M:List Value}{o:Nat}(h:Blk w g T L)(hm:∀j v,M[j]?=some v->L[o+j]?=some v):w.rangeAt g o M:=λj v hv=>h.cell (hm j v hv)
theorem Blk.there {w:World}{g:Nat}{T:TypeId}{L:List Value}{o n:Nat}(h:Blk w g T L)(hn:o+n<=L.length):w.there g o n:=λj hj=>
 ⟨by rw[h.cell (List.getElem?_eq_getElem (show o+j<L.length by omega))];rfl,h.frozen _⟩
theorem c9k (q:BA):q.toList.isEmpty=decide (q.size=0):=by
 rw[Lib.toList_data];have h:q.data.toList.length=q.size:=Array.length_toList
 cases hq:q.data.toList with
 |nil=>rw[hq]at h;simp at h;simp[<-h]
 |cons a l=>rw[hq]at h;simp at h;simp[<-h]
theorem e0l (t:BA)(s:BA):s++t.extract 0 0=s:=by
 apply a2q
 ·rw[ByteArray.size_append,ByteArray.size_extract];omega
 ·intro i hi;rw[ByteArray.size_append,ByteArray.size_extract]at hi;exact a1q _ _ _ (by omega)
theorem HashAt.drew {w:World}{g:Nat}{s:BA}(h:HashAt w g s):HashAt w.drew g s:=h
theorem c8b (n:Nat):((n:Int)).tmod 64=((n%64:Nat):Int):=by
 rw[Int.tmod_eq_emod_of_nonneg (by omega)];omega
theorem b2r (g:Nat)(s t:BA)(aA:s.size+t.size<=150000000000000)(w:World)(hh:HashAt w g s)(ht:Tabs w)(hg2:g≠2):
 Calls prog 147 #[.pointer (some ⟨g,0,none⟩),.string t] w λe w'=>e=.returned (.tuple #[])/\HashAt w' g (s++t)/\Only g w w':=by
 go_enter func147,ntmps147;go_wp2_with fail;go_loopw[1] (λq wr=>∃p:Nat,p<=t.size/\q=.string (t.extract p t.size)/\HashAt wr g (s++t.extract 0 p)/\Tabs wr/\Only g w wr) (λq _=>e1w q)
 case atStart=>exact⟨0,by omega,by rw[d5h],by rw[e0l];exact hh,ht,Only.refl _ _⟩
 case round=>
  clear hh ht;obtain⟨p,hp,rfl,hh,ht,ho⟩:=hrel;obtain⟨q,hq⟩:∃q,t.extract p t.size=q:=⟨_,rfl⟩;have hqs:q.size=t.size-p:=by rw[<-hq,ByteArray.size_extract];omega
  have kS:=c9k q;rw[hq];have HQS:Hid (q.size=t.size-p):=hqs;by_cases p9:p<t.size
  ·have rM:q.toList.isEmpty=false:=(by rw[kS];exact decide_eq_false (by omega));clear kS;obtain⟨c,hc⟩:∃c,s++t.extract 0 p=c:=⟨_,rfl⟩;have cR:c.size=s.size+p:=(by rw[<-hc,ByteArray.size_append,ByteArray.size_extract];omega);rw[hc]at hh;obtain⟨R,hR0,hR1,hB⟩:=hh;obtain⟨S,hS⟩:∃S,hst c (c.size/64)=S:=⟨_,rfl⟩;rw[hS]at hB;obtain⟨n,hn⟩:∃n,c.size=n:=⟨_,rfl⟩;obtain⟨r,hr⟩:∃r,n%64=r:=⟨_,rfl⟩;obtain⟨k,hk⟩:∃k,min q.size (64-r)=k:=⟨_,rfl⟩;have hr64:r<64:=(by omega);have hk1:1<=k:=(by omega);have hkq:k<=q.size:=(by omega);have hkr:r+k<=64:=(by omega);have hn1:n<=150000000000000:=(by omega);have rV:n+k<=150000000000000:=(by omega);rw[hn]at hB;have c72:=hB.cell (a7i S R n);have r6:=b6h wr.drew S R n r k g q hB hr64 hk.symm;have hB2:Blk (wr.drew.setRow g (a0u S (Rn R q r k) n).toArray) g 274 (a0u S (Rn R q r k) n):=hB.drew.setRow;have ho2:Only g w (wr.drew.setRow g (a0u S (Rn R q r k) n).toArray):=ho.drew.setRow _;have ht2:Tabs (wr.drew.setRow g (a0u S (Rn R q r k) n).toArray):=(show Tabs wr.drew from ht).only ((Only.refl g wr.drew).setRow _) hg2;have e72:(wr.drew.setRow g (a0u S (Rn R q r k) n).toArray).cell? ⟨g,72,none⟩=some (.int .i64 (n:Int)):=hB2.cell (a7i S _ n);have er:((n:Int)).tmod 64=(r:Int):=(by rw[c8b,hr]);have er':((n:Int))%64=(r:Int):=(by omega);have HC:Hid (s++t.extract 0 p=c):=hc;have HS:Hid (hst c (c.size/64)=S):=hS;have HN:Hid (c.size=n):=hn;have HQ:Hid (t.extract p t.size=q):=hq;have hrI:(r:Int)<64:=(by omega);have hrI0:(0:Int)<=(r:Int):=(by omega);have hrI1:(r:Int)<=64:=(by omega);have hr64':(64=r)=False:=eq_false (by omega);have hqs1:q.size<=150000000000000:=(by omega);have gW:p+k<=t.size:=(by omega);clear hc hS hn hq hB hqs;go_wp2_with fail;refine wp_region_noPanic ?_;refine wp_region_held_drew (S:=λz=>z.cell? ⟨g,72,none⟩=some (.int .i64 (n:Int))) (by kernel_rfl) c72 (λp8=>?_);refine tkH 0 ?_;go_simp;refine tkH 1 ?_;go_simp;refine tkH 2 ?_;go_simp;refine tkH 3 ?_;go_simp;refine tkH 4 ?_;go_simp;refine tkH 5 ?_;go_simp;refine tkH 6 ?_;go_simp;refine tkH 7 ?_;go_simp;refine tkH 8 ?_;go_simp;refine tkH 9 ?_;go_simp;refine rdH 10 λK hK=>?_;refine a3h rfl _ _ 22 9 rfl _ _ rfl rfl _ _ r6 ?_;refine hK.out _ _ e72 (λp8=>?_);clear hK K;go_simp;refine tkH 11 ?_;go_simp;refine wpAnyH_done (by kernel_rfl) ?_ _;refine NoPanic.normal ?_;rw[show(λi=>if r<=i/\i<r+k then bt q (i-r)else R i)=Rn R q r k from rfl];clear r6 c72 rM e72 er er';generalize wr.drew.setRow g (a0u S (Rn R q r k) n).toArray=w2 at hB2 ho2 ht2⊢;have d72:=hB2.cell (a7i S (Rn R q r k) n);have f72:=hB2.frozen 72;have hB3:=hB2.setCell 72 (.int .i64 ((n:Int)+(k:Int)));rw[show((n:Int)+(k:Int))=((n+k:Nat):Int) by omega,b7k]at hB3;have ho3:=ho2.setCell 72 (.int .i64 ((n:Int)+(k:Int)));have ht3:Tabs (w2.setCell ⟨g,72,none⟩ (.int .i64 ((n:Int)+(k:Int)))):=ht2.only ((Only.refl g w2).setCell 72 _) hg2;rw[show(((n+k:Nat):Int))=(n:Int)+(k:Int) by omega]at hB3;have qK:(k:Int)<=(q.size:Int):=(by omega);clear hB2 ho2 ht2;have e0:k<=q.size:=hkq;have dU:q.extract k q.size=t.extract (p+k) t.size:=by
    have hh:=e6c t p k (by omega);rw[HQ.out]at hh;exact hh
   have gM:s++t.extract 0 (p+k)=c++t.extract p (p+k):=by
    rw[<-HC.out,b5p,e0m t p (p+k) (by omega) gW]
   have jX:(s++t.extract 0 (p+k)).size=n+k:=by
    rw[gM,ByteArray.size_append,HN.out,ByteArray.size_extract];omega
   have tU:=c7b c t p k R (by rw[HN.out,hr];omega) gW hR1;rw[HN.out,hr,HQ.out]at tU;by_cases hw:r+k=64
   ·have hz:((n:Int)+(k:Int))%64=0:=(by omega);have iQ:=c7h c t p k R (by rw[HN.out,hr];omega) gW hR0 hR1;rw[HS.out,HQ.out,<-gM,HN.out,hr]at iQ;have kH:Ok S:=(by rw[<-HS.out];exact c5z _ _);go_wp2_with fail;clear d72 f72 hz tU;generalize w2.setCell ⟨g,72,none⟩ (.int .i64 ((n:Int)+(k:Int)))=w3 at hB3 ho3 ht3⊢;obtain⟨R',hR'⟩:∃R',Rn R q r k=R':=⟨_,rfl⟩;have hR0':∀i,0<=R' i/\R' i<=255:=(by rw[<-hR'];exact b8g R q r k hR0);rw[hR']at hB3 iQ;have aK:(convert 22 9 (.slice (some ⟨g,8,none⟩) 64 64)).run prog w3.drew=.ok (.string (b64 R')) w3.drew:=
     run_convert_bytes_arg (P:=prog) w3.drew 22 5 underlying22 underlying5 g 8 64 64 ((List.range 64).map R') (by simp) (λi hi=>by
      rw[hB3.drew.cell (c4e S R' _ i hi)];simp[hi]) 9 underlying9
    have eK:w3.drew.rangeAt g 0 (ws 8 S):=hB3.drew.range λj v hv=>by
     have hj:j<8:=by
      rcases Nat.lt_or_ge j 8 with h|h
      ·exact h
      ·rw[List.getElem?_eq_none (by rw[a0f];exact h)]at hv;cases hv
     rw[a0z 8 S j hj]at hv
     cases hv
     rw[Nat.zero_add,b1k S R' _ j hj]
    have y8:∀w4,Below w3.drew.heap.size w3.drew w4->w4.there g 0 8/\HashAt (w4.setCells g 0 (ws 8 (cpr S (a0h be4 (b64 R'))))) g (s++t.extract 0 (p+k))/\Tabs (w4.setCells g 0 (ws 8 (cpr S (a0h be4 (b64 R')))))/\Only g w (w4.setCells g 0 (ws 8 (cpr S (a0h be4 (b64 R'))))):=by
     intro w4 hb4;have hB4:=hB3.drew.below hb4 hB3.drew.lt;have ht4:=(show Tabs w3.drew from ht3).below hb4 (show Tabs w3.drew from ht3).lt;have ho4:Only g w w4:=ho3.drew.thenBelow hb4;refine⟨hB4.there (by rw[a0y];omega),?_,ht4.only (Only.setCells _ _ _ (Only.refl g w4)) hg2,Only.setCells _ _ _ ho4⟩;have hB5:=Blk.setCells (ws 8 (cpr S (a0h be4 (b64 R')))) 0 w4 _ hB4;rw[b7l]at hB5;refine⟨R',hR0',?_,?_⟩
     ·intro i hi;rw[jX]at hi;omega
     ·rw[jX,show(n+k)/64=n/64+1 by omega,iQ];exact hB5
    have jM:=e5f S kH (b64 R') (e1j R') w3.drew ht3;clear hB3 ho3 ht3 iQ hR0' hR';obtain⟨V,hV⟩:∃V,ws 8 (cpr S (a0h be4 (b64 R')))=V:=⟨_,rfl⟩;have pU:V.length=8:=(by rw[<-hV,a0f]);have hVo:∀v∈V,v.oneCell'=true:=(by rw[<-hV];exact a3f _ _);rw[hV]at jM y8;clear hV;refine wp_region_noPanic ?_;refine wp_region_held_drew (S:=λ_=>True) (by kernel_rfl) trivial (λp8=>?_);refine tkH 0 ?_;go_simp;refine tkH 1 ?_;go_simp;refine tkH 2 ?_;go_simp;refine tkH 3 ?_;go_simp;refine tkH 5 ?_;go_simp;refine tkH 6 ?_;go_simp;refine tkH 7 ?_;go_simp;refine tkH 8 ?_;go_simp;refine wpAnyH_ready (rs:=[4,9]) (by kernel_rfl) (by simp) (AllReadyH.cons rfl (λK hK=>?_) (AllReadyH.cons rfl (λK hK=>?_) AllReadyH.nil))
    ·refine a5u rfl 264 _ rfl g 0 rfl (ws 8 S) _ eK underlying264 rfl (by rw[size264,a0f]) ?_;refine hK.out _ _ trivial (λp8=>?_);clear hK K;go_simp;refine rdH 9 λK hK=>?_;go_simp;refine hK.out _ _ trivial (λp8=>?_);clear hK K;refine rdH 10 λK hK=>?_;go_simp;go_at_call 193;refine jM.mono ?_;rintro e w4 ⟨rfl,hb4⟩;obtain⟨rA,hH,hT,hO⟩:=y8 w4 hb4;refine hK.out _ _ trivial (λp8=>?_);clear hK K;refine tkH 11 ?_;go_simp;refine tkH 12 ?_;go_simp;refine rdH 13 λK hK=>?_;refine a7q rfl 264 _ _ rfl g 0 V.toArray rfl rfl (by simpa[pU]using rA) (by rw[size264];simp[pU]) (all_oneCell_toArray hVo) ?_;refine hK.out _ _ trivial (λp8=>?_);clear hK K;go_simp;refine wpAnyH_done (by kernel_rfl) ?_ _;refine NoPanic.normal ?_;clear jM y8 aK eK rA;generalize w4.setCells g 0 V=w5 at hH hT hO⊢;go_wp2_with fail;refine⟨⟨p+k,gW,rfl,hH,hT,hO⟩,?_⟩;show(t.extract (p+k) t.size).size<q.size;rw[ByteArray.size_extract,HQS.out];omega
    ·go_simp;refine hK.out _ _ trivial (λp8=>?_);clear hK K;refine rdH 4 λK hK=>?_;refine a5u rfl 264 _ rfl g 0 rfl (ws 8 S) _ eK underlying264 rfl (by rw[size264,a0f]) ?_;refine hK.out _ _ trivial (λp8=>?_);clear hK K;go_simp;refine rdH 10 λK hK=>?_;go_simp;go_at_call 193;refine jM.mono ?_;rintro e w4 ⟨rfl,hb4⟩;obtain⟨rA,hH,hT,hO⟩:=y8 w4 hb4;refine hK.out _ _ trivial (λp8=>?_);clear hK K;refine tkH 11 ?_;go_simp;refine tkH 12 ?_;go_simp;refine rdH 13 λK hK=>?_;refine a7q rfl 264 _ _ rfl g 0 V.toArray rfl rfl (by simpa[pU]using rA) (by rw[size264];simp[pU]) (all_oneCell_toArray hVo) ?_;refine hK.out _ _ trivial (λp8=>?_);clear hK K;go_simp;refine wpAnyH_done (by kernel_rfl) ?_ _;refine NoPanic.normal ?_;clear jM y8 aK eK rA;generalize w4.setCells g 0 V=w5 at hH hT hO⊢;go_wp2_with fail;refine⟨⟨p+k,gW,rfl,hH,hT,hO⟩,?_⟩;show(t.extract (p+k) t.size).size<q.size;rw[ByteArray.size_extract,HQS.out];omega
   ·have hz:((((n:Int)+(k:Int))%64)==0)=false:=(by simp;omega);have hH:HashAt (w2.setCell ⟨g,72,none⟩ (.int .i64 ((n:Int)+(k:Int)))) g (s++t.extract 0 (p+k)):=by
     refine⟨Rn R q r k,b8g R q r k hR0,?_,?_⟩
     ·intro i hi;rw[jX]at hi;rw[jX,gM,show(n+k)/64=n/64 by omega];exact tU i (by omega)
     ·rw[jX,show(n+k)/64=n/64 by omega,gM,c6a _ _ _ (by rw[HN.out];omega)];have e:=HS.out;rw[HN.out]at e;rw[e];exact hB3
    go_wp2_with fail;refine⟨⟨p+k,gW,rfl,hH,ht3,ho3⟩,?_⟩;show(t.extract (p+k) t.size).size<q.size;rw[ByteArray.size_extract,HQS.out];omega
  ·have hpe:p=t.size:=(by omega);subst hpe;have rM:q.toList.isEmpty=true:=(by rw[kS];exact decide_eq_true (by omega));rw[d5h]at hh;clear kS;go_wp2_with fail;go_end0;exact⟨rfl,hh,ho⟩
theorem zero274:(prog.info? 274).map (λi=>i.zero)=some (some (.agg (a0u (λ_=>0) (λ_=>0) 0).toArray)):=by kernel_rfl
theorem b2q (w:World):(zeroValue 274).run prog w=.ok (.agg (a0u (λ_=>0) (λ_=>0) 0).toArray) w:=by
 obtain⟨i,hi,hz⟩:=Option.map_eq_some_iff.1 zero274;simp[zeroValue,typeInfo,hi,hz]
theorem size274:(prog.info? 274).map (·.size)=some 73:=by kernel_rfl
theorem d5s (Z:Array Value)(h:Z=(a0u (λ_=>0) (λ_=>0) 0).toArray):((((((((Z.setIfInBounds 0 (Value.int .u32 1779033703)).setIfInBounds 1 (Value.int .u32 3144134277)).setIfInBounds 2 (Value.int .u32 1013904242)).setIfInBounds 3 (Value.int .u32 2773480762)).setIfInBounds 4 (Value.int .u32 1359893119)).setIfInBounds 5 (Value.int .u32 2600822924)).setIfInBounds 6 (Value.int .u32 528734635)).setIfInBounds 7 (Value.int .u32 1541459225))=(a0u ini (λ_=>0) 0).toArray:=by
 subst h
 kernel_rfl
theorem d9k (w:World):HashAt (w.alloc (.cells (a0u ini (λ_=>0) 0).toArray 274)) w.heap.size ⟨#[]⟩:=by
 refine⟨λ_=>0,λ_=>by show(0:Int)<=0/\(0:Int)<=255;omega,λi hi=>?_,?_⟩
 ·have:(⟨#[]⟩:BA).size=0:=rfl;rw[this]at hi;omega
 ·have:=Blk.new w 274 (a0u ini (λ_=>0) 0).toArray;rw[List.toList_toArray]at this;exact this
theorem e5b (w:World):Calls prog 146 #[] w λe w'=>e=.returned (.pointer (some ⟨w.heap.size,0,none⟩))/\HashAt w' w.heap.size ⟨#[]⟩/\Below w.heap.size w w':=by
 have hn:=d9k w
 first
 |(have hz:zeroCells274=(a0u (λ_=>0) (λ_=>0) 0).toArray:=by kernel_rfl
   have hb:=d5s _ hz;go_enter func146,ntmps146;go_wp2_with fail;go_ret;rw[hb];exact⟨rfl,hn,(qw _ _).alloc (ql _) _⟩)
 |(have aI:=b2q
   have hb:=d5s _ rfl;have mV:((a0u (λ_=>0) (λ_=>0) 0).toArray.size<8)=False:=(by simp[a0y]);generalize(a0u (λ_=>0) (λ_=>0) 0).toArray=Z at aI hb mV;go_enter func146,ntmps146;go_wp2_with fail;go_ret;exact⟨rfl,hn,(qw _ _).alloc (ql _) _⟩)
theorem b0o (w:World)(c c':Array Value)(T:TypeId):(w.alloc (.cells c T)).setRow w.heap.size c'=w.alloc (.cells c' T):=World.setRow_alloc_new w c c' T
theorem e3v (g:Nat)(s:BA)(hs:s.size<=149000000000000)(w:World)(h:HashAt w g s)(ht:Tabs w):
 Calls prog 148 #[.pointer (some ⟨g,0,none⟩)] w λe w'=>e=.returned (.string (a3p s))/\Below w.heap.size w w':=by
 have p9:=h.lt;have hH:=h;obtain⟨R,hR0,hR1,hB⟩:=h;obtain⟨L,hL⟩:∃L,a0u (hst s (s.size/64)) R s.size=L:=⟨_,rfl⟩;have eE:L.length=73:=by rw[<-hL,a0y]
 have gS:∀v∈L,v.oneCell'=true:=by rw[<-hL];exact c9e _ _ _
 have c72:w.cell? ⟨g,72,none⟩=some (.int .i64 (s.size:Int)):=hB.cell (a7i _ R s.size);have hE:HashAt (w.alloc (.cells L.toArray 274)) w.heap.size s:=by
  refine⟨R,hR0,hR1,?_⟩;rw[hL];have:=Blk.new w 274 L.toArray;simpa using this
 rw[hL]at hB;clear hL hR0 hR1;have aI:=b2q;obtain⟨Z,hZ⟩:∃Z,a0u (λ_=>0) (λ_=>0) 0=Z:=⟨_,rfl⟩;have fJ:Z.length=73:=by rw[<-hZ,a0y]
 rw[hZ]at aI;clear hZ;have hB2:Blk (w.alloc (.cells Z.toArray 274)) w.heap.size 274 Z:=by
  have:=Blk.new w 274 Z.toArray;simpa using this
 have c72':((w.alloc (.cells Z.toArray 274)).setRow w.heap.size L.toArray).cell? ⟨g,72,none⟩=some (.int .i64 (s.size:Int)):=by
  rw[b0o,World.cell?_alloc_some _ _ _ (by rw[c72];rfl)];exact c72
 have hE':HashAt ((w.alloc (.cells Z.toArray 274)).setRow w.heap.size L.toArray) w.heap.size s:=by rw[b0o];exact hE
 have hb0:Below w.heap.size w ((w.alloc (.cells Z.toArray 274)).setRow w.heap.size L.toArray):=by rw[b0o];exact(qw _ _).alloc (ql _) _
 clear hE;go_enter func148,ntmps148;go_wp2_with(first|(refine a0a rfl 274 _ rfl g rfl 274 L _ hB underlying274 rfl (by rw[size274,eE]) ?_)|(refine a0b rfl 274 _ _ rfl w.heap.size Z L rfl rfl 274 hB2 (by rw[size274,eE]) (by rw[fJ,eE]) gS ?_));generalize(w.alloc (.cells Z.toArray 274)).setRow w.heap.size L.toArray=w1 at c72' hE' hb0⊢;have h2:=ht.lt;have ht1:=ht.below hb0 h2;clear c72 hB hB2 aI eE gS fJ hH ht;obtain⟨G,hG⟩:∃G,w.heap.size=G:=⟨_,rfl⟩;rw[hG]at hE' hb0 h2 p9⊢;have HG:Hid (w.heap.size=G):=hG;clear hG;refine(c9j s.size (by omega) w1).mono ?_;rintro e w2 ⟨rfl,hb2⟩;have hE2:=hE'.below hb2 hE'.lt;have ht2:=ht1.below hb2 ht1.lt;have hb3:Below G w w2:=hb0.trans (hb2.mono (Nat.le_of_lt hE'.lt));clear hE' ht1 hb0 hb2 c72';have hes:(endB s.size).size<=100:=by rw[b3z];unfold zs;omega
 have hW:=b2r G s (endB s.size) (by omega) w2 hE2 ht2 (by omega);rw[show s++endB s.size=padB s from rfl]at hW;generalize endB s.size=E at hW⊢;go_wp2_with(go_at_call 147;refine hW.mono ?_;rintro e w3 ⟨rfl,hH3,ho3⟩);have hb4:Below G w w3:=Below.only hb3 ho3 (Nat.le_of_lt hE2.lt) (ql _);have hlt3:=hH3.lt;clear hW ho3 hE2 ht2 hb3;obtain⟨R',_,_,hB3⟩:=hH3;have aG:=c5z (padB s) ((padB s).size/64);have HD:Hid (a3p s=strOfNums (a1x a1s (hst (padB s) ((padB s).size/64)) 8)):=rfl;generalize hst (padB s) ((padB s).size/64)=S at hB3 aG HD;have bM:At w3 (some ⟨G,0,none⟩) 8 S:=.inr ⟨G,0,rfl,λi hi=>by rw[Nat.zero_add];exact hB3.cell (b1k S R' _ i hi)⟩;go_wp2_with(go_at_call 173;refine(a8n _ 8 8 S _ (by omega) bM aG).mono ?_;rintro e w4 ⟨rfl,hb5⟩);go_ret;refine⟨by rw[HD.out];rfl,?_⟩;rw[HG.out];exact hb4.trans (hb5.mono (by omega))
theorem d3e (s:BA):(⟨#[]⟩:BA)++s=s:=by
 apply ByteArray.ext;rw[ByteArray.data_append];simp
theorem c1q (g:Nat)(t:BA)(aA:t.size<=150000000000000)(w:World)(hh:HashAt w g ⟨#[]⟩)(ht:Tabs w)(hg2:g≠2):
 Calls prog 147 #[.pointer (some ⟨g,0,none⟩),.string t] w λe w'=>e=.returned (.tuple #[])/\HashAt w' g t/\Only g w w':=by
 have h:=b2r g ⟨#[]⟩ t (by show 0+t.size<=_;omega) w hh ht hg2;rw[d3e]at h;exact h
theorem b5l (kd s:BA)(aA:kd.size+s.size<=149000000000000)(w:World)(ht:Tabs w):
 Calls prog 103 #[.string kd,.string s] w λe w'=>e=.returned (.string (a3p (kd++s)))/\Below w.heap.size w w':=by
 have h2:=ht.lt;go_enter func103,ntmps103;go_wp2_with fail;refine(e5b w).mono ?_;rintro e w1 ⟨rfl,hH1,hb1⟩;obtain⟨G,hG⟩:∃G,w.heap.size=G:=⟨_,rfl⟩;rw[hG]at hH1 hb1 h2⊢;have HG:Hid (w.heap.size=G):=hG;have ht1:=ht.below hb1 h2;clear hG ht;go_wp2_with fail;refine(c1q G kd (by omega) w1 hH1 ht1 (by omega)).mono ?_;rintro e w2 ⟨rfl,hH2,ho2⟩;have ht2:=ht1.only ho2 (by omega);have hb2:Below G w w2:=Below.only hb1 ho2 (Nat.le_of_lt hH1.lt) (ql _);clear hH1 ht1 hb1 ho2;go_wp2_with fail;refine(b2r G kd s (by omega) w2 hH2 ht2 (by omega)).mono ?_;rintro e w3 ⟨rfl,hH3,ho3⟩;have ht3:=ht2.only ho3 (by omega);have hb3:Below G w w3:=Below.only hb2 ho3 (Nat.le_of_lt hH2.lt) (ql _);clear hH2 ht2 hb2 ho3;go_wp2_with fail;refine(e3v G (kd++s) (by rw[ByteArray.size_append];omega) w3 hH3 ht3).mono ?_;rintro e w4 ⟨rfl,hb4⟩;have hb5:Below G w w4:=hb3.trans (hb4.mono (Nat.le_of_lt hH3.lt));clear hH3 ht3 hb3 hb4;go_wp2_with fail;go_ret;exact⟨rfl,by rw[HG.out];exact hb5⟩
theorem b7i (s:BA)(aA:s.size<=148000000000000)(w:World)(ht:Tabs w):
 Calls prog 57 #[.string s] w λe w'=>e=.returned (.string (a3p (⟨#[0]⟩++s)))/\Below w.heap.size w w':=by
 have h:=b5l ⟨#[0]⟩ s (by show 1+s.size<=_;omega) w ht;go_enter func57,ntmps57;go_wp2_with(go_at_call 103;refine h.mono ?_;rintro e w' ⟨rfl,hb⟩);go_ret;exact⟨rfl,hb⟩
theorem b6z (s:BA)(aA:s.size<=148000000000000)(w:World)(ht:Tabs w):
 Calls prog 114 #[.string s] w λe w'=>e=.returned (.string (a3p (⟨#[1]⟩++s)))/\Below w.heap.size w w':=by
 have h:=b5l ⟨#[1]⟩ s (by show 1+s.size<=_;omega) w ht;go_enter func114,ntmps114;go_wp2_with(go_at_call 103;refine h.mono ?_;rintro e w' ⟨rfl,hb⟩);go_ret;exact⟨rfl,hb⟩
def RTabs (w:World):Prop:=(∀i,i<64->w.cell? ⟨1,i,none⟩=some (.int .u32 (kc i)))/\(∀i,i<8->w.cell? ⟨0,i,none⟩=some (.int .u32 (ini i)))
theorem RTabs.lt {w:World}(h:RTabs w):1<w.heap.size:=a6b (h.1 0 (by decide))
theorem RTabs.below {w w':World}{B:Nat}(h:RTabs w)(hb:Below B w w')(hB:1<B):RTabs w':=
 ⟨λi hi=>(hb.cell (p:=⟨1,i,none⟩) hB).trans (h.1 i hi),λi hi=>(hb.cell (p:=⟨0,i,none⟩) (by show 0<B;omega)).trans (h.2 i hi)⟩
theorem e8f (x:Int)(h:0<=x/\x<4294967296)(w:World):Calls prog 219 #[.int .u32 x,.int .i64 7,.int .i64 18,.int .u32 8] w λe w'=>e=.returned (.int .u32 (sg0 x))/\w'=w:=b9u x 7 18 8 (by omega) (by omega) (by omega) h w
theorem e8e (x:Int)(h:0<=x/\x<4294967296)(w:World):Calls prog 219 #[.int .u32 x,.int .i64 17,.int .i64 19,.int .u32 1024] w λe w'=>e=.returned (.int .u32 (sg1 x))/\w'=w:=b9u x 17 19 1024 (by omega) (by omega) (by omega) h w
theorem e3p (x:Int)(h:0<=x/\x<4294967296)(w:World):Calls prog 220 #[.int .u32 x,.int .i64 6,.int .i64 11,.int .i64 25] w λe w'=>e=.returned (.int .u32 (bS1 x))/\w'=w:=b5a x 6 11 25 (by omega) (by omega) (by omega) h w
theorem e3q (x:Int)(h:0<=x/\x<4294967296)(w:World):Calls prog 220 #[.int .u32 x,.int .i64 2,.int .i64 13,.int .i64 22] w λe w'=>e=.returned (.int .u32 (bS0 x))/\w'=w:=b5a x 2 13 22 (by omega) (by omega) (by omega) h w
theorem d5y (S:Nat->Int)(hS:Ok S)(b:BA)(hb:b.size=64)(w:World)(ht:RTabs w):
 Calls prog 187 #[.agg (ws 8 S).toArray,.string b] w λe w'=>e=.returned (.agg (ws 8 (cpr S (a0h be4 b))).toArray)/\Below w.heap.size w w':=by
 have aI:=a7v;have h1g:=ht.lt;obtain⟨Z,hZ⟩:∃Z,ws 8 (λ_=>0)=Z:=⟨_,rfl⟩;obtain⟨Y,hY⟩:∃Y,ws 8 S=Y:=⟨_,rfl⟩;rw[hZ]at aI;rw[hY];have iM:Y.length=8:=by rw[<-hY,a0f]
 have cU:Z.length=8:=by rw[<-hZ,a0f]
 have hL0:Blk ((w.alloc (.cells Y.toArray 264)).alloc (.cells Z.toArray 264)) w.heap.size 264 (ws 8 S):=by
  have:=(Blk.new w 264 Y.toArray).alloc (.cells Z.toArray 264);rw[hY];simpa using this
 have hR0:Blk ((w.alloc (.cells Y.toArray 264)).alloc (.cells Z.toArray 264)) (w.heap.size+1) 264 (ws 8 (λ_=>0)):=by
  have:=Blk.new (w.alloc (.cells Y.toArray 264)) 264 Z.toArray;rw[hZ];simpa using this
 have hb0:Below w.heap.size w ((w.alloc (.cells Y.toArray 264)).alloc (.cells Z.toArray 264)):=((qw _ w).alloc (ql _) _).alloc (by simp) _;clear hY hZ;go_enter func187,ntmps187;go_wp2_with fail;clear aI iM cU;generalize(w.alloc (.cells Y.toArray 264)).alloc (.cells Z.toArray 264)=w0 at hL0 hR0 hb0⊢;have ht0:=ht.below hb0 h1g;obtain⟨g,y5⟩:∃g,w.heap.size=g:=⟨_,rfl⟩;rw[y5]at hL0 hR0 hb0 h1g⊢;have HG:Hid (w.heap.size=g):=y5;clear y5 ht;have aA:g+2<=w0.heap.size:=hR0.lt;have hW:=b9e b w0 (by omega) (by omega);rw[hb]at hW;refine hW.mono ?_;rintro e w1 ⟨v,rfl,q8,cC⟩;clear hW;have hs1:=hL0.below cC hL0.lt;have hr1:=hR0.below cC hR0.lt;have ht1:=ht0.below cC ht0.lt;have hb2:Below g w w1:=hb0.trans (cC.mono (by omega));have jA:=cC.size;obtain⟨B,hB⟩:∃B,w0.heap.size=B:=⟨_,rfl⟩;rw[hB]at q8 aA jA;clear hL0 hR0 ht0 hb0 cC hB;obtain⟨f,hf⟩:∃f,a0h be4 b=f:=⟨_,rfl⟩;have fV:∀i,i<16->0<=f i/\f i<4294967296:=by rw[<-hf];exact λi _=>b1y b i
 have HF:Hid (a0h be4 b=f):=hf;have e16:a5h be4 b (64/4)=ws 16 (Wt f):=by
  rw[<-hf];unfold a5h;exact a4k 16 (λi=>a0h be4 b i) (Wt (a0h be4 b)) (λi hi=>(b0e _ i hi).symm)
 rw[e16]at q8;clear e16 hf;obtain⟨i0,hi,hz0,hz1,hz2⟩:=info_parts info195;go_wp2_with fail;go_loopw[5,7] (λv i wr=>∃k:Nat,16<=k/\k<=64/\i=.int .i64 k/\wr.ownsRow B 195 1 v k (ws k (Wt f))/\Blk wr g 264 (ws 8 S)/\Blk wr (g+1) 264 (ws 8 (λ_=>0))/\RTabs wr/\B<=wr.heap.size/\Below g w wr) (λ_ i _=>(64-intOf i).toNat)
 case atStart=>exact⟨16,by omega,by omega,rfl,q8,hs1,hr1,ht1,jA,hb2⟩
 case round=>
  clear q8 hs1 hr1 ht1 hb2 jA;obtain⟨k,hk16,hk,rfl,q8,hs,hr,ht,fA,hl⟩:=hrel;obtain⟨gb,cap,rfl,hgb,cV⟩:=q8.form (by omega);by_cases p9:k<64
  ·have aT:(k:Int)<64:=(by omega);have cell:∀j,j<k->wr.cell? ⟨gb,j,none⟩=some (.int .u32 (Wt f j)):=λj hj=>by
    rw[World.ownsRow.cellAt q8 j (by omega),a0z k _ j hj]
   have c2:=cell (k-2) (by omega);have c15:=cell (k-15) (by omega);have b2:=e1n f fV (k-2);have b15:=e1n f fV (k-15);have hV:=b4n f k hk16;obtain⟨x2,hx2⟩:∃x2,Wt f (k-2)=x2:=⟨_,rfl⟩;obtain⟨x15,hx15⟩:∃x15,Wt f (k-15)=x15:=⟨_,rfl⟩;rw[hx2]at b2 hV c2;rw[hx15]at b15 hV c15;have p2:(0:Int)<=(k:Int)-2:=(by omega);have p15:(0:Int)<=(k:Int)-15:=(by omega);have s2:(2:Int)<=(k:Int):=(by omega);have s15:(15:Int)<=(k:Int):=(by omega);have q2:(k:Int)-2<(k:Int):=(by omega);have q15:(k:Int)-15<(k:Int):=(by omega);have t2:((k:Int)-2).toNat=k-2:=(by omega);have t15:((k:Int)-15).toNat=k-15:=(by omega);have HV:Hid (Wt f k=_):=hV;clear hx2 hx15 hV;go_wp2_with(first|(go_at_call_of 219 (Value.int .u32 x15);refine(e8f x15 b15 _).mono ?_;rintro e w' ⟨rfl,hw'⟩;rw[hw'];clear hw')|(go_at_call_of 219 (Value.int .u32 x2);refine(e8e x2 b2 _).mono ?_;rintro e w' ⟨rfl,hw'⟩;rw[hw'];clear hw'));have c7:=cell (k-7) (by omega);have c16:=cell (k-16) (by omega);obtain⟨x7,hx7⟩:∃x7,Wt f (k-7)=x7:=⟨_,rfl⟩;obtain⟨x16,hx16⟩:∃x16,Wt f (k-16)=x16:=⟨_,rfl⟩;have hV:=HV.out;rw[hx7,hx16]at hV;rw[hx7]at c7;rw[hx16]at c16;obtain⟨V,hVw⟩:∃V,IntKind.u32.wrap (IntKind.u32.wrap (IntKind.u32.wrap (sg1 x2+x7)+sg0 x15)+x16)=V:=⟨_,rfl⟩;have hV2:Wt f k=V:=(by rw[hV,<-hVw,IntKind.wrap_u32',IntKind.wrap_u32',IntKind.wrap_u32']);obtain⟨g',cap',w',r6,t6,q9,hlie,hg'⟩:=run_append_lies (P:=prog) (wr.drew.alloc (.cells #[.int .u32 V] 195)) 254 254 B 195 i0 (.int .u32 0) 1 4 underlying254 hi hz0 hz1 hz2 rfl (by decide) (.slice (some ⟨gb,0,none⟩) k cap) k (ws k (Wt f)) (q8.drew.alloc _) ⟨wr.heap.size,0,none⟩ 1 1 [.int .u32 V] rfl (λj u hj=>by
    match j,hj with
    |0,hj=>simp at hj;subst hj;simp only[Addr.add];exact(Blk.new wr.drew 195 #[.int .u32 V]).cell rfl) (λu hu=>by simp at hu;subst hu;rfl) (by decide) (by unfold maxLen;omega) (by omega) (by simp;omega) _ rfl
   have dP:Below g w w':=by
    refine Below.grown (hl.drew.alloc (by have:=hs.lt;simp;omega) _) q9 (by have:=hs.lt;simp;omega) ?_;intro q hq;simp only[Value.ownBlock,Option.some.injEq]at hq;omega
   have hs':Blk w' g 264 (ws 8 S):=by
    have h1:=(hs.drew.alloc (.cells #[.int .u32 V] 195));have hl1:=h1.lt;unfold Blk at h1⊢;rw[q9.block g hl1 (by simp only[Value.ownBlock];intro e;cases e;omega)];exact h1
   have hr':Blk w' (g+1) 264 (ws 8 (λ_=>0)):=by
    have h1:=(hr.drew.alloc (.cells #[.int .u32 V] 195));have hl1:=h1.lt;unfold Blk at h1⊢;rw[q9.block (g+1) hl1 (by simp only[Value.ownBlock];intro e;cases e;omega)];exact h1
   have ht':RTabs w':=by
    have hq:Below (1+1) wr w':=by
     refine Below.grown (((qw (1+1) wr).drew).alloc (by have:=hs.lt;simp;omega) _) q9 (by have:=hs.lt;simp;omega) ?_;intro q hq;simp only[Value.ownBlock,Option.some.injEq]at hq;omega
    exact ht.below hq (by omega)
   have uD:B<=w'.heap.size:=(by have:=q9.size;simp at this;omega);have aB:w'.ownsRow B 195 1 (.slice (some ⟨g',0,none⟩) (k+1) cap') (k+1) (ws (k+1) (Wt f)):=by
    have e:ws (k+1) (Wt f)=ws k (Wt f)++[.int .u32 V]:=by
     rw[<-hV2];unfold ws;rw[List.range_succ,List.map_append];rfl
    rw[e];exact t6
   have s7:(7:Int)<=(k:Int):=(by omega);have s16:(16:Int)<=(k:Int):=(by omega);have q7:(k:Int)-7<(k:Int):=(by omega);have q16:(k:Int)-16<(k:Int):=(by omega);have t7:((k:Int)-7).toNat=k-7:=(by omega);have t16:((k:Int)-16).toNat=k-16:=(by omega);have z7:IntKind.i64.wrap ((k:Int)-7)=(k:Int)-7:=IntWalk.i64_in _ ⟨by omega,by omega⟩;have z16:IntKind.i64.wrap ((k:Int)-16)=(k:Int)-16:=IntWalk.i64_in _ ⟨by omega,by omega⟩;clear t6 q9 hlie q8 hs hr ht fA hl cell HV hV hV2 hx7 hx16 c2 c15 hi hz0 hz1 hz2 hg' cV;refine wp_region_noPanic ?_;refine wp_region_held_drew (S:=λ_=>True) (by kernel_rfl) trivial (λp8=>?_);refine tkH 0 ?_;go_simp;refine tkH 1 ?_;go_simp;refine tkH 2 ?_;go_simp;refine tkH 3 ?_;go_simp;refine tkH 4 ?_;go_simp;refine tkH 5 ?_;go_simp;refine tkH 8 ?_;go_simp;refine tkH 10 ?_;go_simp;refine tkH 11 ?_;go_simp;refine tkH 12 ?_;go_simp;refine tkH 13 ?_;go_simp;refine wpAnyH_ready (rs:=[6,14]) (by kernel_rfl) (by simp) (AllReadyH.cons rfl (λK hK=>?_) (AllReadyH.cons rfl (λK hK=>?_) AllReadyH.nil))
   ·go_simp;refine hK.out _ _ trivial (λp8=>?_);clear hK K;refine tkH 7 ?_;go_simp;refine tkH 9 ?_;go_simp;refine rdH 14 λK hK=>?_;go_simp;refine hK.out _ _ trivial (λp8=>?_);clear hK K;refine tkH 15 ?_;go_simp;refine rdH 16 λK hK=>?_;go_simp;refine hK.out _ _ trivial (λp8=>?_);clear hK K;refine rdH 17 λK hK=>?_;refine a4p rfl _ _ 254 254 rfl _ _ rfl rfl _ _ r6 ?_;refine hK.out _ _ trivial (λp8=>?_);clear hK K;go_simp;refine tkH 18 ?_;go_simp;refine wpAnyH_done (by kernel_rfl) ?_ _;refine NoPanic.normal ?_;go_wp2_with fail;go_roundw
    case rel=>exact⟨k+1,by omega,by omega,by go_num,aB,hs',hr',ht',uD,dP⟩
    case measure=>simp[intOf];omega
   ·go_simp;refine hK.out _ _ trivial (λp8=>?_);clear hK K;refine rdH 6 λK hK=>?_;go_simp;refine hK.out _ _ trivial (λp8=>?_);clear hK K;refine tkH 7 ?_;go_simp;refine tkH 9 ?_;go_simp;refine tkH 15 ?_;go_simp;refine rdH 16 λK hK=>?_;go_simp;refine hK.out _ _ trivial (λp8=>?_);clear hK K;refine rdH 17 λK hK=>?_;refine a4p rfl _ _ 254 254 rfl _ _ rfl rfl _ _ r6 ?_;refine hK.out _ _ trivial (λp8=>?_);clear hK K;go_simp;refine tkH 18 ?_;go_simp;refine wpAnyH_done (by kernel_rfl) ?_ _;refine NoPanic.normal ?_;go_wp2_with fail;go_roundw
    case rel=>exact⟨k+1,by omega,by omega,by go_num,aB,hs',hr',ht',uD,dP⟩
    case measure=>simp[intOf];omega
  ·have hk64:k=64:=(by omega);subst hk64;rw[show((64:Nat):Int)=(64:Int)from rfl];have cellW:∀j,j<64->wr.cell? ⟨gb,j,none⟩=some (.int .u32 (Wt f j)):=λj hj=>by
    rw[World.ownsRow.cellAt q8 j (by omega),a0z 64 _ j hj]
   have cellK:=ht.1;have a0:=hs.cell (a0z 8 S 0 (by omega));have a1:=hs.cell (a0z 8 S 1 (by omega));have a2:=hs.cell (a0z 8 S 2 (by omega));have a3:=hs.cell (a0z 8 S 3 (by omega));have a4:=hs.cell (a0z 8 S 4 (by omega));have a5:=hs.cell (a0z 8 S 5 (by omega));have a6:=hs.cell (a0z 8 S 6 (by omega));have a7:=hs.cell (a0z 8 S 7 (by omega));clear hi hz0 hz1 hz2 cV q8;have HK:Hid (∀i,i<64->wr.cell? ⟨1,i,none⟩=some (.int .u32 (kc i))):=cellK;have HW:Hid (∀j,j<64->wr.cell? ⟨gb,j,none⟩=some (.int .u32 (Wt f j))):=cellW;clear cellK cellW;go_wp2_with fail
   rename World=>wo
   go_loopw[10,11,12,13,14,15,16,17,18] (λva vb vc vd ve vf vg vh i wz=>∃(q m:Nat) (R:Nat->Int),q<=64/\i=.int .i64 q/\R=rds S (λt=>(Wt f t+kc t)%4294967296) q/\va=.int .u32 (R 0)/\vb=.int .u32 (R 1)/\vc=.int .u32 (R 2)/\vd=.int .u32 (R 3)/\ve=.int .u32 (R 4)/\vf=.int .u32 (R 5)/\vg=.int .u32 (R 6)/\vh=.int .u32 (R 7)/\wz=wo.drewN m) (λ_ _ _ _ _ _ _ _ i _=>(64-intOf i).toNat)
   case atStart=>exact⟨0,0,S,by omega,rfl,rfl,rfl,rfl,rfl,rfl,rfl,rfl,rfl,rfl,rfl⟩
   case round=>
    obtain⟨q,m,R,hq,rfl,hR,rfl,rfl,rfl,rfl,rfl,rfl,rfl,rfl,rfl⟩:=hrel;have hRo:Ok R:=(by rw[hR];exact e2d _ _ _ hS);by_cases aD:q<64
    ·have hq':(q:Int)<64:=(by omega);obtain⟨wz,lI⟩:∃wz,wo.drewN m=wz:=⟨_,rfl⟩;have cW:wz.cell? ⟨gb,q,none⟩=some (.int .u32 (Wt f q)):=(by rw[<-lI];exact HW.out q aD);have cK:wz.cell? ⟨1,q,none⟩=some (.int .u32 (kc q)):=(by rw[<-lI];exact HK.out q aD);rw[lI];have qP:Hid (wo.drewN m=wz):=lI;have HR:Hid (rds S (λt=>(Wt f t+kc t)%4294967296) (q+1)=nx R ((Wt f q+kc q)%4294967296)):=(by rw[b6r,<-hR];exact rfl);have b0:=hRo 0 (by omega);have b4:=hRo 4 (by omega);clear lI hR a0 a1 a2 a3 a4 a5 a6 a7;obtain⟨r0,e0⟩:∃r0,R 0=r0:=⟨_,rfl⟩;obtain⟨r4,e4⟩:∃r4,R 4=r4:=⟨_,rfl⟩;rw[e0]at b0⊢;rw[e4]at b4⊢;have E0:Hid (R 0=r0):=e0;have E4:Hid (R 4=r4):=e4;clear e0 e4;go_wp2_with(first|(go_at_call_of 220 (Value.int .u32 r4);refine(e3p r4 b4 _).mono ?_;rintro e w' ⟨rfl,hw'⟩;rw[hw'];clear hw')|(go_at_call_of 220 (Value.int .u32 r0);refine(e3q r0 b0 _).mono ?_;rintro e w' ⟨rfl,hw'⟩;rw[hw'];clear hw')|(go_at_call 221;refine(d8h r4 (R 5) (R 6) b4 _).mono ?_;rintro e w' ⟨rfl,hw'⟩;rw[hw'];clear hw')|(go_at_call 222;refine(d8s r0 (R 1) (R 2) _).mono ?_;rintro e w' ⟨rfl,hw'⟩;rw[hw'];clear hw'))
     go_quiet(fail)
     go_wp2_with fail;refine⟨⟨q+1,m+nq,nx R ((Wt f q+kc q)%4294967296),by omega,by go_num,HR.out.symm,?_,?_,rfl,rfl,?_,?_,rfl,rfl,?_⟩,by simp[intOf];omega⟩
     ·rw[<-E0.out,<-E4.out];congr 1;unfold nx;rw[qp rfl];unfold tin;omega
     ·rw[<-E0.out];rfl
     ·rw[<-E4.out];congr 1;unfold nx;rw[qn (by omega),qp rfl];unfold tin;omega
     ·rw[<-E4.out];rfl
     ·rw[<-qP.out,World.drewN_drewN]
    ·have hq64:q=64:=(by omega);subst hq64;have hs2:Blk (wo.drewN m) g 264 (ws 8 S):=hs;have hr2:Blk (wo.drewN m) (g+1) 264 (ws 8 (λ_=>0)):=hr;have hl2:Below g w (wo.drewN m):=⟨hl.os,hl.tape,hl.output,hl.size,hl.block⟩;clear hs hr hl a0 a1 a2 a3 a4 a5 a6 a7 HK HW;generalize wo.drewN m=wz at hs2 hr2 hl2⊢;have a0:=hs2.cell (a0z 8 S 0 (by omega));have a1:=hs2.cell (a0z 8 S 1 (by omega));have a2:=hs2.cell (a0z 8 S 2 (by omega));have a3:=hs2.cell (a0z 8 S 3 (by omega));have a4:=hs2.cell (a0z 8 S 4 (by omega));have a5:=hs2.cell (a0z 8 S 5 (by omega));have a6:=hs2.cell (a0z 8 S 6 (by omega));have a7:=hs2.cell (a0z 8 S 7 (by omega));have eV:ws 8 (cpr S (a0h be4 b))=ws 8 (λi=>(S i+R i)%4294967296):=by
      rw[HF.out];apply a4k;intro i _;unfold cpr;rw[<-hR,Int.add_comm]
     have hA':Blk (wz.setRow (g+1) (ws 8 (λi=>(S i+R i)%4294967296)).toArray) (g+1) 264 (ws 8 (λi=>(S i+R i)%4294967296)):=hr2.setRow;have hLd:=d3r hA';have hl':Below g w (wz.setRow (g+1) (ws 8 (λi=>(S i+R i)%4294967296)).toArray):=below_setRow hl2 (by omega) _;have HE:Hid (ws 8 (cpr S (a0h be4 b))=ws 8 (λi=>(S i+R i)%4294967296)):=eV;clear hA' eV hR hRo HF hl2 hs2;go_wp2_with(refine a0b rfl 264 _ _ rfl (g+1) _ (ws 8 (λi=>(S i+R i)%4294967296)) rfl rfl 264 hr2 (by rw[size264,a0f]) (by rw[a0f,a0f]) (a3f _ _) ?_);refine bodyPost_ret_by (v:=.agg (ws 8 (λi=>(S i+R i)%4294967296)).toArray) (a1a 4 264 ⟨g+1,0,none⟩ results187 rfl hLd) rfl ⟨by rw[HE.out],?_⟩;rw[HG.out];exact hl'
def RowF (w:World)(base:Nat)(v:Value)(n:Nat)(f:Nat->Int):Prop:=
 ∃g cap,v=.slice (some ⟨g,0,none⟩) n cap/\base<=g/\g<w.heap.size/\n<=cap/\(∀i,i<n->w.cell? ⟨g,i,none⟩=some (.int .u8 (f i)))/\(∀i,i<cap->(w.cell? ⟨g,i,none⟩).isSome=true/\w.frozen? ⟨g,i,none⟩=false)
theorem e4f (w:World)(s:BA):∃c w',(convert 9 22 (.string s)).run prog w=.ok (.slice (some ⟨w.heap.size,0,none⟩) s.size c) w'/\RowF w' w.heap.size (.slice (some ⟨w.heap.size,0,none⟩) s.size c) s.size (bt s)/\Below w.heap.size w w':=by
 have hr:=Lib.run_convert_string_bytes (P:=prog) w 9 22 5 s underlying9 underlying22 underlying5;have hs:=Lib.bytesWorld_size w 5 s;have hn:=Lib.bytesWorld_at_new w 5 s;have mC:=grownCap_ge w s.size 0 5;have cR:(Lib.bytesCells w 5 s).size=grownCap w s.size 0 5:=by
  unfold Lib.bytesCells;have hd:s.data.size=s.size:=rfl;rw[Array.size_append,Array.size_map,Array.size_replicate,hd];omega
 refine⟨_,_,hr,⟨w.heap.size,_,rfl,ql _,by omega,mC,λi hi=>?_,λi hi=>⟨?_,?_⟩⟩,⟨rfl,rfl,rfl,by omega,λj hj=>Lib.bytesWorld_at_old w 5 s j hj⟩⟩
 ·rw[Lib.bytesWorld_cell w 5 s i hi];congr 2;unfold bt;rw[dif_pos hi,List.getD_eq_getElem?_getD];have hd:i<s.data.toList.length:=by rw[Array.length_toList];exact hi
  rw[List.getElem?_eq_getElem hd,Option.getD_some];simp;rfl
 ·simp only[World.cell?,hn];rw[Array.getElem?_eq_getElem (by rw[cR];exact hi)];rfl
 ·simp only[World.frozen?,hn];simp;omega
theorem d1r (w:World)(base:Nat)(v:Value)(n:Nat)(f:Nat->Int)(h:RowF w base v n f)(hf:f n=0)(hn:n<=140737488355000)(hb:base<=w.heap.size):
 ∃v' w',(Builtin.append_ #[22,22] 22 #[v,.slice (some ⟨w.heap.size,0,none⟩) 1 1]).run prog (w.alloc (.cells #[.int .u8 0] 5))=.ok v' w'/\RowF w' base v' (n+1) f/\Below base w w':=by
 obtain⟨g,cap,rfl,gD,hg,qI,x5,bK⟩:=h;obtain⟨i0,hi,hz0,hz1,hz2⟩:=info_parts info5;have hold:∀j,(w.alloc (.cells #[.int .u8 0] 5)).cell? ⟨g,j,none⟩=w.cell? ⟨g,j,none⟩:=λj=>World.cell?_alloc_lt _ _ _ hg;have eC:∀j,(w.alloc (.cells #[.int .u8 0] 5)).frozen? ⟨g,j,none⟩=w.frozen? ⟨g,j,none⟩:=λj=>World.frozen?_alloc_past _ _ _ hg;have bY:∀(j:Nat) u,[Value.int .u8 0][j]?=some u->(w.alloc (.cells #[.int .u8 0] 5)).cell? ((⟨w.heap.size,0,none⟩:Addr).add j)=some u:=λj u hj=>by
  match j,hj with
  |0,hj=>simp at hj;subst hj;simp only[Addr.add];exact(Blk.new w 5 #[.int .u8 0]).cell rfl
 have cE:Below base w (w.alloc (.cells #[.int .u8 0] 5)):=(qw _ _).alloc hb _;by_cases eJ:n+1<=cap
 ·have r6:=run_append_room_cells (P:=prog) (w.alloc (.cells #[.int .u8 0] 5)) 22 22 5 i0 underlying22 hi g 0 n cap ⟨w.heap.size,0,none⟩ 1 1 [.int .u8 0] (by rw[hz1];rfl) bY (λu hu=>by simp at hu;subst hu;rfl) eJ
   (λj hj=>by simp at hj;subst hj;rw[hz1,hold];simpa using(bK n (by omega)).1) (λj hj=>by simp at hj;subst hj;rw[hz1,eC];simpa using(bK n (by omega)).2)
  rw[hz1]at r6;simp only[Nat.zero_add,Nat.mul_one,World.setCells]at r6;refine⟨_,_,r6,⟨g,cap,rfl,gD,by simp;omega,eJ,λi hi'=>?_,λi hi'=>⟨?_,?_⟩⟩,cE.setCell gD _⟩
  ·by_cases e:i=n
   ·subst e;rw[World.cell?_setCell_same' _ ⟨g,i,none⟩ _ (by rw[hold];exact(bK i (by omega)).1),hf]
   ·rw[World.cell?_setCell_other _ _ _ _ (λh=>by cases h;exact e rfl),hold];exact x5 i (by omega)
  ·by_cases e:i=n
   ·subst e;rw[World.cell?_setCell_same' _ ⟨g,i,none⟩ _ (by rw[hold];exact(bK i (by omega)).1)];rfl
   ·rw[World.cell?_setCell_other _ _ _ _ (λh=>by cases h;exact e rfl),hold];exact(bK i hi').1
  ·rw[World.frozen?_setCell,eC];exact(bK i hi').2
 ·obtain⟨v',w',r6,q8,q9⟩:=run_append_arg_grows (P:=prog) (w.alloc (.cells #[.int .u8 0] 5)) 22 22 5 i0 (.int .u8 0) 1 1 underlying22 hi hz0 hz1 hz2 rfl (by decide) ⟨g,0,none⟩ n cap ((List.range n).map λi=>.int .u8 (f i)) (by simp) (λj u hj=>by
   rw[Addr.add_mid,Nat.zero_add,hold];have sI:j<n:=by
    rcases Nat.lt_or_ge j n with h|h
    ·exact h
    ·rw[List.getElem?_eq_none (by simp;exact h)]at hj;cases hj
   rw[x5 j sI,<-hj];simp[sI]) ⟨w.heap.size,0,none⟩ 1 1 [.int .u8 0] rfl bY (by omega) (by unfold maxLen;omega) (by omega)
  obtain⟨g',cap',rfl,hb',aT⟩:=q8.form (by omega);refine⟨_,w',r6,?_,Below.grown cE q9 (by simp;omega) (λk h=>by cases h)⟩;have aA:(w.alloc (.cells #[.int .u8 0] 5)).heap.size=w.heap.size+1:=by simp
  rcases q8.2 with⟨hv,_⟩|⟨g2,cap2,cur,hv,_,jW,h1,_,h3,_⟩
  ·cases hv
  ·cases hv
   refine⟨g',cap',rfl,by omega,aT,h1,λi hi'=>?_,λi hi'=>⟨?_,?_⟩⟩
   ·rw[World.ownsRow.cellAt q8 i (by omega)];by_cases e:i=n
    ·subst e;rw[List.getElem?_append_right (by simp)];simp[hf]
    ·rw[List.getElem?_append_left (by simp;omega)];simp[show i<n by omega]
   ·simp only[World.cell?,jW];rw[Array.getElem?_eq_getElem (by omega)];rfl
   ·simp[World.frozen?,jW]
theorem b9b {w:World}{base:Nat}{v:Value}{n:Nat}{f:Nat->Int}(h:RowF w base v n f):(convert 22 9 v).run prog w=.ok (.string (strOfNums ((List.range n).map f))) w:=by
 obtain⟨g,cap,rfl,_,_,_,x5,_⟩:=h;exact run_convert_bytes_arg (P:=prog) w 22 5 underlying22 underlying5 g 0 n cap ((List.range n).map f) (by simp) (λi hi=>by
  rw[Nat.zero_add,x5 i hi];simp[hi]) 9 underlying9
theorem RowF.below {w w':World}{base:Nat}{v:Value}{n:Nat}{f:Nat->Int}(h:RowF w base v n f)(hb:Below w.heap.size w w'):RowF w' base v n f:=by
 obtain⟨g,cap,rfl,h1,h2,h3,h4,h5⟩:=h;exact⟨g,cap,rfl,h1,Nat.lt_of_lt_of_le h2 hb.size,h3,λi hi=>(hb.cell (p:=⟨g,i,none⟩) h2).trans (h4 i hi),λi hi=>⟨by rw[hb.cell (p:=⟨g,i,none⟩) h2];exact(h5 i hi).1,by rw[hb.frozen (p:=⟨g,i,none⟩) h2];exact(h5 i hi).2⟩⟩
theorem d8k (s:BA):strOfNums ((List.range (s.size+1+zs s.size)).map (bt (s++⟨#[128]⟩)))++strOfNums (a1x a1s (lw s.size) 2)=padB s:=by
 unfold padB endB endL;rw[show(128::(List.replicate (zs s.size) 0++a1x a1s (lw s.size) 2):List Int)=(128::List.replicate (zs s.size) 0)++a1x a1s (lw s.size) 2 from rfl,a4h,<-b5p];congr 1;apply a2q
 ·rw[ByteArray.size_append,strOfNums_size,strOfNums_size];simp;omega
 ·intro i hi;rw[strOfNums_size]at hi;simp at hi;rw[a3q _ (λx hx=>by obtain⟨j,_,rfl⟩:=List.mem_map.1 hx;exact a1p _ j) i (by simp;exact hi)];simp only[List.getElem_map,List.getElem_range];rcases Nat.lt_or_ge i s.size with h|h
  ·rw[a1q _ _ _ h,a1q _ _ _ h]
  ·rw[a1o _ _ _ h,a1o _ _ _ h];have hl:∀x∈(128::List.replicate (zs s.size) 0:List Int),0<=x/\x<=255:=by
    intro x hx;rcases List.mem_cons.1 hx with rfl|hx
    ·omega
    ·rw[(List.mem_replicate.1 hx).2];omega
   have key:∀j,j<1+zs s.size->bt (⟨#[128]⟩:BA) j=bt (strOfNums (128::List.replicate (zs s.size) 0)) j:=by
    intro j hj
    cases j with
    |zero=>rw[a3q _ hl 0 (by simp)];rfl
    |succ j=>
     rw[a3q _ hl (j+1) (by simp;omega)];show bt (⟨#[128]⟩:BA) (j+1)=(List.replicate (zs s.size) (0:Int))[j]'(by simp;omega);rw[List.getElem_replicate];unfold bt;rw[dif_neg (by show ¬(j+1<1);omega)]
   exact key _ (by omega)
theorem b0j {P:Program}{ops:Array Oper}{rest:List Oper}{o:Oper}{a:Act}{w:World}{Q:Exit->Act->World->Prop}(y5:o.guard=none)(s x:Operand)(t tn:TypeId)
 (ho:o.op=.call {callee:=.builtin .append,args:=#[s,x],argTypes:=#[t,tn]})(vs vx:Value)(hs:a.eval s=vs)(hx:a.eval x=vx)
 (v':Value)(w':World)(hr:(Builtin.append_ #[t,tn] o.type #[vs,vx]).run P w=.ok v' w')(h:wpList P ops Q rest (a.put o.dst v') w'):wpList P ops Q (o::rest) a w:=
 wpList_plain y5 λK hK=>by
  unfold Oper.wp;simp[execOp,ho,resolve,invoke,builtin,hs,hx,hr,Result.andThen];exact hK _ _ h
def sliceLen:Value->Nat
 |.slice _ n _=>n
 |_=>0
theorem c8u (s:BA)(hs:s.size<=140737488354000)(w:World):
 Calls prog 186 #[.string s] w λe w'=>e=.returned (.string (padB s))/\Below w.heap.size w w':=by
 have h128:(s++(⟨#[128]⟩:BA)).size=s.size+1:=by rw[ByteArray.size_append];rfl
 have hz64:zs s.size<64:=by unfold zs;omega
 have hzm:(s.size+1+zs s.size)%64=56:=by unfold zs;omega
 obtain⟨c0,w1,aK,x9,hb1⟩:=e4f w (s++⟨#[128]⟩);have rQ:∀n,s.size+1<=n->bt (s++⟨#[128]⟩) n=0:=λn hn=>by unfold bt;rw[dif_neg (by rw[h128];omega)]
 obtain⟨f,hf⟩:∃f,bt (s++⟨#[128]⟩)=f:=⟨_,rfl⟩;have pB:=d8k s;rw[hf]at x9 rQ pB;rw[h128]at x9 aK;have HPT:Hid (strOfNums ((List.range (s.size+1+zs s.size)).map f)++strOfNums (a1x a1s (lw s.size) 2)=padB s):=pB;have HZM:Hid ((s.size+1+zs s.size)%64=56):=hzm;obtain⟨z,hz⟩:∃z,zs s.size=z:=⟨_,rfl⟩;rw[hz]at hz64;have HZ:Hid (zs s.size=z):=hz;have dN:∀n,s.size+1<=n->n<s.size+1+z->¬n%64=56:=λn h1 h2 h3=>by rw[hz]at hzm;omega
 clear hf pB hzm hz;go_enter func186,ntmps186;go_wp2_with fail;go_loopw[3] (λv wr=>∃n:Nat,s.size+1<=n/\n<=s.size+1+z/\RowF wr w.heap.size v n f/\Below w.heap.size w wr) (λv _=>s.size+1+z-sliceLen v)
 case atStart=>exact⟨s.size+1,by omega,by omega,x9,hb1⟩
 case round=>
  clear x9 hb1 aK;obtain⟨n,hn1,hn2,x9,hb⟩:=hrel;have bJ:=x9;obtain⟨g,cap,rfl,hg1,hg2,hg3,hg4,hg5⟩:=x9;clear hg4 hg5;by_cases p9:n<s.size+1+z
  ·have y6:=dN n hn1 p9;have fP:(((n:Int)%64) !=56)=true:=(by rw[bne_iff_ne];omega);obtain⟨v',w',r6,cG,hb2⟩:=d1r wr w.heap.size _ n f bJ (rQ n hn1) (by omega) hb.size;obtain⟨g',cap',rfl,h1',h2',h3',h4',h5'⟩:=cG;have cQ:RowF w' w.heap.size (.slice (some ⟨g',0,none⟩) (n+1) cap') (n+1) f:=⟨g',cap',rfl,h1',h2',h3',h4',h5'⟩;clear h4' h5' bJ;go_wp2_with(at_builtin;refine b0j rfl _ _ 22 22 rfl _ _ rfl rfl _ _ r6 ?_);refine⟨⟨n+1,by omega,by omega,cQ,hb.trans hb2⟩,?_⟩;show s.size+1+z-(n+1)<s.size+1+z-n;omega
  ·have pG:n=s.size+1+z:=(by omega);have fP:(((n:Int)%64) !=56)=false:=by
    have:=HZM.out;rw[HZ.out,<-pG]at this;rw[bne_eq_false_iff_eq];omega
   have fH:=b9b bJ;have hss:(s.size:Int)<=140737488354000:=(by omega);have ha:At (wr.alloc (.cells #[.int .u32 (8*(s.size:Int)/4294967296),.int .u32 (8*(s.size:Int)%4294967296)] 195)) (some ⟨wr.heap.size,0,none⟩) 2 (lw s.size):=by
    refine .inr ⟨wr.heap.size,0,rfl,λi hi=>?_⟩;have bS:=Blk.new wr 195 #[.int .u32 (8*(s.size:Int)/4294967296),.int .u32 (8*(s.size:Int)%4294967296)];have e:i=0\/i=1:=(by omega);rcases e with rfl|rfl
    ·refine bS.cell ?_;rw[lw,qp rfl];rfl
    ·refine bS.cell ?_;rw[lw,qn (by decide)];rfl
   have rY:∀i,i<2->0<=lw s.size i/\lw s.size i<4294967296:=by
    intro i _;unfold lw
    split<;>omega
   have hb3:Below w.heap.size w (wr.alloc (.cells #[.int .u32 (8*(s.size:Int)/4294967296),.int .u32 (8*(s.size:Int)%4294967296)] 195)):=hb.alloc hb.size _;clear fH;have HNZ:Hid (n=s.size+1+z):=pG;have hn9:n<=140737488355000:=(by omega);clear pG;go_wp2_with fail;refine(b3g _ 2 2 (lw s.size) _ (by omega) ha rY).mono ?_;rintro e w2 ⟨rfl,hb4⟩;have cE:Below wr.heap.size wr (wr.alloc (.cells #[.int .u32 (8*(s.size:Int)/4294967296),.int .u32 (8*(s.size:Int)%4294967296)] 195)):=(qw _ _).alloc (ql _) _;have fH:=b9b (bJ.below (cE.trans (hb4.mono cE.size)));have hb5:=hb3.trans (hb4.mono hb3.size);obtain⟨X,hX⟩:∃X,strOfNums ((List.range n).map f)=X:=⟨_,rfl⟩;have gQ:X.size=n:=(by rw[<-hX,strOfNums_size];simp);rw[hX]at fH;obtain⟨U,hU⟩:∃U,strOfNums (a1x a1s (lw s.size) 2)=U:=⟨_,rfl⟩;have hUs:U.size=8:=(by rw[<-hU,strOfNums_size,a1h a1s (λ_=>rfl)]);rw[hU];have HX:Hid (X++U=padB s):=by
    rw[<-hX,<-hU,HNZ.out,<-HZ.out];exact HPT.out
   have hXs1:X.size<=140737488355000:=(by omega);have hUs1:U.size<=8:=(by omega);clear hX hU ha rY hb3 hb4 cE bJ gQ hUs;go_wp2_with fail;go_ret;exact⟨by rw[<-HX.out];rfl,hb5⟩
theorem RTabs.range {w:World}(h:RTabs w):w.rangeAt 0 0 (ws 8 ini):=λj v hv=>by
 have hj:j<8:=by
  rcases Nat.lt_or_ge j 8 with h|h
  ·exact h
  ·rw[List.getElem?_eq_none (by rw[a0f];exact h)]at hv;cases hv
 rw[a0z 8 ini j hj]at hv
 cases hv
 rw[Nat.zero_add];exact h.2 j hj
theorem c8i (s:BA)(hs:s.size<=140737488354000)(w:World)(ht:RTabs w):
 Calls prog 139 #[.string s] w λe w'=>e=.returned (.string (a3p s))/\Below w.heap.size w w':=by
 have h1g:=ht.lt;have aI:=a7v;obtain⟨Z,hZ⟩:∃Z,ws 8 (λ_=>0)=Z:=⟨_,rfl⟩;rw[hZ]at aI;have cU:Z.length=8:=by rw[<-hZ,a0f]
 clear hZ;go_enter func139,ntmps139;go_wp2_with fail;refine(c8u s hs w).mono ?_;rintro e w1 ⟨rfl,hb1⟩;have ht1:=ht.below hb1 h1g;obtain⟨P,hP⟩:∃P,padB s=P:=⟨_,rfl⟩;have hPw:=c8v s;have tV:P.size<=140737488354100:=by
  rw[<-hP,b9m,b3z];unfold zs;omega
 rw[hP]at hPw⊢;have HD:Hid (a3p s=d7e (hst P (P.size/64))):=by rw[<-hP];exact rfl
 clear hP ht;obtain⟨M,hM⟩:∃M,P.size=64*M:=⟨P.size/64,by omega⟩;have HM:Hid (P.size=64*M):=hM;have hM1:64*M<=P.size:=by omega
 have hM2:P.size<=64*M:=by omega
 have fE:=ht1.range;have hN:Blk (w1.alloc (.cells Z.toArray 264)) w1.heap.size 264 Z:=by
  have:=Blk.new w1 264 Z.toArray;simpa using this
 have hI:Blk ((w1.alloc (.cells Z.toArray 264)).setRow w1.heap.size (ws 8 ini).toArray) w1.heap.size 264 (ws 8 ini):=hN.setRow;have hb2:Below w.heap.size w ((w1.alloc (.cells Z.toArray 264)).setRow w1.heap.size (ws 8 ini).toArray):=below_setRow (hb1.alloc hb1.size _) hb1.size _;have hbt:Below w1.heap.size w1 ((w1.alloc (.cells Z.toArray 264)).setRow w1.heap.size (ws 8 ini).toArray):=below_setRow ((qw _ _).alloc (ql _) _) (ql _) _;have ht2:=ht1.below hbt ht1.lt;have cV:=hb1.size;clear hPw hM hbt ht1;go_wp2_with(first|(refine wpList_load_mid rfl 264 _ rfl 0 0 rfl (ws 8 ini) _ fE underlying264 rfl (by rw[size264,a0f]) ?_)|(refine a0b rfl 264 _ _ rfl w1.heap.size Z (ws 8 ini) rfl rfl 264 hN (by rw[size264,a0f]) (by rw[cU,a0f]) (a3f _ _) ?_));generalize(w1.alloc (.cells Z.toArray 264)).setRow w1.heap.size (ws 8 ini).toArray=w2 at hI hb2 ht2⊢;obtain⟨g,y5⟩:∃g,w1.heap.size=g:=⟨_,rfl⟩;rw[y5]at hI cV⊢;clear y5 hN fE aI cU hb1;have aY:=hI.lt;go_loopw[5] (λi wr=>∃k:Nat,k<=M/\i=.int .i64 (64*(k:Int))/\Blk wr g 264 (ws 8 (hst P k))/\RTabs wr/\Below w.heap.size w wr) (λi _=>(64*(M:Int)-intOf i).toNat)
 case atStart=>exact⟨0,by omega,rfl,hI,ht2,hb2⟩
 case round=>
  clear hI ht2 hb2 aY;obtain⟨k,hk,rfl,hB,ht,hb⟩:=hrel;by_cases p9:k<M
  ·have rZ:64*(k:Int)<(P.size:Int):=(by omega);have qK:(0:Int)<=64*(k:Int):=(by omega);have hkI2:64*(k:Int)+64<=(P.size:Int):=(by omega);have hkI3:64*(k:Int)<=64*(k:Int)+64:=(by omega);have t0:(64*(k:Int)).toNat=64*k:=(by omega);have t1:(64*(k:Int)+64).toNat=64*k+64:=(by omega);have z1:IntKind.i64.wrap (64*(k:Int)+64)=64*(k:Int)+64:=IntWalk.i64_in _ ⟨by omega,by omega⟩;obtain⟨q,hq⟩:∃q,P.extract (64*k) (64*k+64)=q:=⟨_,rfl⟩;have hqs:q.size=64:=(by rw[<-hq,ByteArray.size_extract];omega);have kX:cpr (hst P k) (a0h be4 q)=hst P (k+1):=by
    rw[hst];apply b4d;intro i hi;unfold blk a0h;rw[<-hq,show(16*k+i)*4=64*k+i*4 by omega];simp only[Nat.add_assoc];rw[a2w P _ _ _ (by omega) (by omega),a2w P _ _ _ (by omega) (by omega),a2w P _ _ _ (by omega) (by omega),a2w P _ _ _ (by omega) (by omega)]
   have x8:=d5y (hst P k) (c5z P k) q hqs wr.drew ht;rw[kX]at x8;have eK:wr.drew.rangeAt g 0 (ws 8 (hst P k)):=hB.drew.range λj v hv=>(by rw[Nat.zero_add];exact hv);have y8:∀w4,Below wr.drew.heap.size wr.drew w4->Blk w4 g 264 (ws 8 (hst P k))/\Blk (w4.setRow g (ws 8 (hst P (k+1))).toArray) g 264 (ws 8 (hst P (k+1)))/\RTabs (w4.setRow g (ws 8 (hst P (k+1))).toArray)/\Below w.heap.size w (w4.setRow g (ws 8 (hst P (k+1))).toArray):=by
    intro w4 hb4;have hB4:=hB.drew.below hb4 hB.drew.lt;have ht4:RTabs w4:=RTabs.below (w:=wr.drew) ht hb4 (RTabs.lt (w:=wr.drew) ht);have hb5:Below w.heap.size w w4:=hb.drew.trans (hb4.mono hb.drew.size);have h2:Below (1+1) w4 (w4.setRow g (ws 8 (hst P (k+1))).toArray):=below_setRow (qw _ _) (by omega) _;exact⟨hB4,hB4.setRow,ht4.below h2 (by omega),below_setRow hb5 cV _⟩
   clear kX hB ht hb;obtain⟨H0,hH0⟩:∃H0,ws 8 (hst P k)=H0:=⟨_,rfl⟩;obtain⟨H1,hH1⟩:∃H1,ws 8 (hst P (k+1))=H1:=⟨_,rfl⟩;have l0:H0.length=8:=(by rw[<-hH0,a0f]);have l1:H1.length=8:=(by rw[<-hH1,a0f]);have o1:∀v∈H1,v.oneCell'=true:=(by rw[<-hH1];exact a3f _ _);rw[hH0]at x8 eK y8;rw[hH1]at x8 y8;have HH1:Hid (ws 8 (hst P (k+1))=H1):=hH1;clear hH0 hH1;go_wp2_with fail;refine wp_region_noPanic ?_;refine wp_region_held_drew (S:=λ_=>True) (by kernel_rfl) trivial (λp8=>?_);refine tkH 1 ?_;go_simp;refine tkH 2 ?_;go_simp;refine tkH 3 ?_;go_simp;refine tkH 4 ?_;go_simp;refine tkH 5 ?_;go_simp;refine rdH 0 λK hK=>?_;refine a5u rfl 264 _ rfl g 0 rfl H0 _ eK underlying264 rfl (by rw[size264,l0]) ?_;refine hK.out _ _ trivial (λp8=>?_);clear hK K;go_simp;refine rdH 6 λK hK=>?_;go_simp;go_at_call 187;refine x8.mono ?_;rintro e w4 ⟨rfl,hb4⟩;obtain⟨hB4,hB5,ht5,hb5⟩:=y8 w4 hb4;refine hK.out _ _ trivial (λp8=>?_);clear hK K;refine rdH 7 λK hK=>?_;refine a2v rfl 264 _ _ rfl g H0 H1 rfl rfl 264 hB4 (by rw[size264,l1]) (by rw[l0,l1]) o1 ?_;refine hK.out _ _ trivial (λp8=>?_);clear hK K;go_simp;refine wpAnyH_done (by kernel_rfl) ?_ _;refine NoPanic.normal ?_;clear x8 eK y8 hB4 hb4;generalize w4.setRow g H1.toArray=w5 at hB5 ht5 hb5⊢;go_wp2_with fail;go_roundw
   case rel=>exact⟨k+1,by omega,by go_num,by rw[HH1.out];exact hB5,ht5,hb5⟩
   case measure=>simp[intOf];omega
  ·have pL:k=M:=(by omega);have sM:¬(64*(k:Int)<(P.size:Int)):=(by omega);obtain⟨i0,hi,hz0,hz1,hz2⟩:=info_parts info195;obtain⟨H,hH⟩:∃H,hst P k=H:=⟨_,rfl⟩;have hHo:Ok H:=(by rw[<-hH];exact c5z P k);rw[hH]at hB;have HH:Hid (a3p s=d7e H):=by
    rw[HD.out,<-hH,pL,HM.out,Nat.mul_div_cancel_left M (by omega)];exact rfl
   have HKM:Hid (k=M):=pL;clear hH pL ht;go_wp2_with fail;go_loopw[6,7] (λv i wz=>∃q:Nat,q<=8/\i=.int .i64 q/\wz.ownsRow wr.heap.size 195 1 v q (ws q H)/\Blk wz g 264 (ws 8 H)/\Below wr.heap.size wr wz) (λ_ i _=>(8-intOf i).toNat)
   case atStart=>exact⟨0,by omega,rfl,World.ownsRow_nil _ _ _ _,hB,qw _ _⟩
   case round=>
    have dO:=hB.lt;clear hB
    rename World=>wz
    obtain⟨q,hq,rfl,q8,hB,iI⟩:=hrel;by_cases aD:q<8
    ·have hq':(q:Int)<8:=(by omega);have cq:=hB.cell (a0z 8 H q aD);go_wp2_with(at_builtin;refine wpList_append_own _ rfl _ _ 254 rfl wr.heap.size 195 i0 (.int .u32 0) 1 4 underlying254 hi hz0 hz1 hz2 rfl (by decide) _ _ _ rfl (q8.alloc _) ⟨wz.heap.size,0,none⟩ 1 1 [.int .u32 (H q)] rfl rfl ?c1 ?c2 ?c3 ?c4 ?c5 ?_)
     case c1=>
      intro j u hj
      match j,hj with
      |0,hj=>simp at hj;subst hj;simp only[Addr.add];exact(Blk.new wz 195 #[.int .u32 (H q)]).cell rfl
     case c2=>intro u hu;simp at hu;subst hu;rfl
     case c3=>unfold maxLen;omega
     case c4=>omega
     case c5=>have:=iI.size;simp;omega
     ·intro v' w6 t6 q9 _;have hb6:Below wr.heap.size wr w6:=by
       refine Below.grown (iI.alloc iI.size _) q9 ?_ ?_
       ·have:=iI.size;simp;omega
       ·intro x hx;exact(q8.lt x hx).1
      have hB6:Blk w6 g 264 (ws 8 H):=by
       have h1:=hB.alloc (.cells #[.int .u32 (H q)] 195);have hl1:=h1.lt;unfold Blk at h1⊢;rw[q9.block g hl1 (λe=>by have:=(q8.lt g e.symm).1;omega)];exact h1
      have R:w6.ownsRow wr.heap.size 195 1 v' (q+1) (ws (q+1) H):=by
       rw[show ws (q+1) H=ws q H++[.int .u32 (H q)] by unfold ws;rw[List.range_succ,List.map_append];rfl];exact t6
      clear t6 q9 q8 iI hB cq;go_wp2_with fail;go_roundw
      case rel=>exact⟨q+1,by omega,by go_num,R,hB6,hb6⟩
      case measure=>simp[intOf];omega
    ·have hq8:q=8:=(by omega);subst hq8;obtain⟨a,cap,rfl,bM⟩:=c4w q8;go_wp2_with(go_at_call 188;refine(b3g _ cap 8 H _ (by omega) bM hHo).mono ?_;rintro e w7 ⟨rfl,hb7⟩);go_ret;refine⟨by rw[HH.out];rfl,?_⟩;exact hb.trans ((iI.trans (hb7.mono iI.size)).mono hb.size)
theorem b3i (k:Nat)(hk:k<256)(s:BA)(hs:s.size<=140737488353000)(w:World)(ht:RTabs w):
 Calls prog 93 #[.int .u8 (k:Int),.string s] w λe w'=>e=.returned (.string (a3p (strOfNums [(k:Int)]++s)))/\Below w.heap.size w w':=by
 have fH:(convert 22 9 (.slice (some ⟨w.heap.size,0,none⟩) 1 1)).run prog (w.alloc (.cells #[.int .u8 (k:Int)] 5))=.ok (.string (strOfNums [(k:Int)])) (w.alloc (.cells #[.int .u8 (k:Int)] 5)):=
  run_convert_bytes_arg (P:=prog) _ 22 5 underlying22 underlying5 w.heap.size 0 1 1 [(k:Int)] rfl (λi hi=>by
   obtain rfl:i=0:=(by omega);exact(Blk.new w 5 #[.int .u8 (k:Int)]).cell rfl) 9 underlying9
 have hb0:Below w.heap.size w (w.alloc (.cells #[.int .u8 (k:Int)] 5)):=(qw _ _).alloc (ql _) _;have ht0:=ht.below hb0 ht.lt;obtain⟨B,hB⟩:∃B,strOfNums [(k:Int)]=B:=⟨_,rfl⟩;have iV:B.size=1:=by rw[<-hB,strOfNums_size];rfl
 rw[hB]at fH⊢;have hBs1:B.size<=1:=by omega
 clear hB;have hsum:=c8i (B++s) (by rw[ByteArray.size_append];omega) _ ht0;clear iV;go_enter func93,ntmps93;go_wp2_with(go_at_call 139;refine hsum.mono ?_;rintro e w1 ⟨rfl,hb1⟩);go_ret;exact⟨rfl,hb0.trans (hb1.mono hb0.size)⟩
end Go.Proofs.YtokknmkleceooaaGreatDoor
