import Derived.Test.YtokknmkleceooaaGreatDoorSlMpM
import Derived.Test.YtokknmkleceooaaGreatDoorSlPlM
namespace Go.Proofs.YtokknmkleceooaaGreatDoor
set_option linter.unusedVariables false
set_option maxRecDepth 20000
set_option maxHeartbeats 8000000
open Go.Proofs.Tryz
open Go.RowKit Go.PlainAid
def woL (o:Nat)(f:Nat->Option BA)(j:Nat):List Wr:=((ksN f).take j).map λk=>(o+k,(f k).getD noB)
theorem d6w (o:Nat)(f:Nat->Option BA)(j k:Nat)(h:(ksN f)[j]?=some k):woL o f (j+1)=woL o f j++[(o+k,(f k).getD noB)]:=by
 unfold woL;rw[List.take_add_one,h,List.map_append];rfl
theorem b5f (o:Nat)(f:Nat->Option BA):∀m,slL o f m=((List.range m).filter λk=>(f k).isSome).map λk=>(o+k,(f k).getD noB)
 |0=>rfl
 |m+1=>by
  show slL o f m++_=_;rw[b5f o f m,List.range_succ,List.filter_append,List.map_append];congr 1
  cases h:f m with
  |none=>simp[h]
  |some p=>simp[h]
theorem d0l (o:Nat)(f:Nat->Option BA):woL o f (ksN f).length=slL o f 16:=by
 unfold woL;rw[List.take_length,b5f];rfl
theorem c7f (o:Nat)(f:Nat->Option BA)(j:Nat)(h:j<=(ksN f).length):(woL o f j).length=j:=by
 unfold woL;rw[List.length_map,List.length_take];omega
theorem a5i (o:Nat)(f:Nat->Option BA):(slL o f 16).length=(ksN f).length:=by rw[<-d0l,c7f _ _ _ (ql _)]
theorem infoWr17:(prog.info? 144).map (λi=>(i.zero,i.size,i.bytes))=some (some (.agg #[.int .i64 0,.string noB]),2,24):=by kernel_rfl
theorem d2h {B:Nat}{w0 w:World}{R:Asn}{v:Value}{m:Nat}{q:List Wr}(hR:Firm R)(h:Hold B w0 w (star (rowK 144 2 v m (a1e q)) R))(hm:m<=1000)(p:Wr):
 ∃a c w',(Builtin.append_ #[85,85] 85 #[v,.slice (some ⟨w.heap.size,0,none⟩) 1 1]).run prog (w.alloc (.cells #[.int .i64 (p.1:Int),.string p.2] 144))=.ok (.slice a (m+1) c) w'/\Hold B w0 w' (star (rowK 144 2 (.slice a (m+1) c) (m+1) (a1e (q++[p]))) R):=by
 obtain⟨a,c,w',h1,h2⟩:=b2b hR 85 144 85 _ 2 24 underlying85 infoWr17 rfl (by decide) (by decide) h hm [.int .i64 (p.1:Int),.string p.2] rfl (λu hu=>by
  simp only[List.mem_cons,List.not_mem_nil,or_false]at hu;rcases hu with rfl|rfl<;>rfl)
 refine⟨a,c,w',h1,?_⟩;rw[a4f];exact h2
theorem b3x {w:World}{b o n:Nat}{f:Nat->Option BA}(h:MapW w b o n f)(hn:n<=1000000):Calls prog 80 #[.map (some b)] w λe w'=>∃v,e=.returned v/\w'.ownsRow w.heap.size 144 2 v (slL o f 16).length (a1e (slL o f 16))/\((slL o f 16).length=0->v=.slice none 0 0)/\Below w.heap.size w w':=by
 have hR:=c8e h hn;have HM:Hid (MapW w b o n f):=h;have HL:=a5n f;have HE:Hid ((slL o f 16).length=(ksN f).length/\slL o f 16=woL o f (ksN f).length):=⟨a5i o f,(d0l o f).symm⟩;have HKS:Hid (∀j:Nat,j<(ksN f).length->∃k:Nat,(ksN f)[j]?=some k/\k<16/\∃c,f k=some c):=λj hj=>by
  refine⟨(ksN f)[j],List.getElem?_eq_getElem hj,?_⟩;obtain⟨h1,h2⟩:=c3u.1 (List.getElem_mem hj);exact⟨h1,Option.ne_none_iff_exists'.1 h2⟩
 generalize hmm:(ksN f).length=m at*;clear h hn;go_enter func80,ntmps80;go_wp2_with(go_at_call 130;refine hR.mono ?_;rintro e w1 ⟨v1,rfl,x9,hb1⟩;obtain⟨a1,c1,rfl⟩:=a2a x9;have H1:Hid (Hold w.heap.size w w1 (star (rowK 144 2 (.slice none 0 0) 0 (a1e (woL o f 0))) (star (rowK 3 1 (.slice a1 m c1) m ((ksL f).map encZ)) a0i))):=((a1k w.heap.size w w (ql _) (qw _ _)).newRow a0c hb1 x9).mono λF h=>a2g h;clear x9 hb1 hR);go_loopw[3,9] (λv i wr=>∃(k c:Nat) (s:Option Addr),k<=m/\i=.int .i64 (k:Int)/\v=.slice s k c/\Hid (k=0->s=none/\c=0)/\Hid (Hold w.heap.size w wr (star (rowK 144 2 (.slice s k c) k (a1e (woL o f k))) (star (rowK 3 1 (.slice a1 m c1) m ((ksL f).map encZ)) a0i)))) (λ_ i _=>m-(intOf i).toNat)
 case atStart=>exact⟨0,0,none,Nat.zero_le _,rfl,rfl,λ_=>⟨rfl,rfl⟩,H1.out⟩
 case round=>
  clear H1;obtain⟨k,c,s,hk,rfl,rfl,aW,hh⟩:=hrel;by_cases p9:k<m
  ·have hk':(k:Int)<(m:Int):=(by omega);obtain⟨q,hq,q1,d,hd⟩:=HKS.out k p9;have hqi:((ksL f).map encZ)[k]?=some (.int .i64 (q:Int)):=by
    unfold ksL;rw[List.getElem?_map,List.getElem?_map,hq];rfl
   obtain⟨g1,hg1,x5⟩:=a2b hh.out.right.rowK hqi;subst hg1;have hM:=(HM.out.below hh.out.low).look q1 hd;have hlk:=hM.2;have HP:Hid (∃a c' w',_/\_):=d2h ((a0d _ _ _ _ _).star a0c) hh.out (by omega) (o+q,d);have HW:Hid (woL o f (k+1)=woL o f k++[(o+q,d)]):=(by rw[d6w o f k q hq,hd];rfl);obtain⟨s',c',w6,r6,h6⟩:=HP.out;have H6:Hid (Hold w.heap.size w w6 (star (rowK 144 2 (.slice s' (k+1) c') (k+1) (a1e (woL o f (k+1)))) (star (rowK 3 1 (.slice (some ⟨g1,0,none⟩) m c1) m ((ksL f).map encZ)) a0i))):=(by rw[HW.out];exact h6);clear HP h6 hM hh hqi;go_wp2_with(at_builtin;refine Lib.wpList_append_run _ rfl _ _ 85 85 rfl _ _ rfl rfl _ _ r6 ?_);go_roundw
   case rel=>exact⟨k+1,c',s',by omega,by go_num,rfl,λh=>absurd h (by omega),H6.out⟩
   case measure=>simp[intOf];omega
  ·obtain rfl:k=m:=(by omega);have hk':¬(k:Int)<(k:Int):=(by omega);go_wp2;go_ret;exact⟨_,rfl,by rw[HE.out.1,HE.out.2];exact hh.out.rowBack,λh0=>by
    have e0:=HE.out.1;rw[h0]at e0;have e1:k=0:=e0.symm;obtain⟨rfl,rfl⟩:=aW.out e1;subst e1;rfl,hh.out.low⟩
def ChgIs (w:World)(mv:Value)(f:Nat->Option BA):Prop:=(mv=.map none/\∀k,f k=none)\/∃b n,mv=.map (some b)/\MapW w b 100 n f
section
variable {w w':World}{mv:Value}{f:Nat->Option BA}
theorem ChgIs.below (h:ChgIs w mv f)(hb:Below w.heap.size w w'):ChgIs w' mv f:=by
 rcases h with h|⟨b,n,h1,h2⟩
 ·exact .inl h
 ·exact .inr ⟨b,n,h1,h2.below hb⟩
theorem ChgIs.yes (h:ChgIs w mv f){k:Nat}(hk:k<16){c:BA}(hf:f k=some c):(Instr.lookup 149 mv (.int .i64 (k:Int)) true).run prog w=.ok (.tuple #[wrW ((100+k:Nat):Int) c,.bool true]) w:=by
 rcases h with⟨h1,h2⟩|⟨b,n,rfl,h2⟩
 ·rw[h2 k]at hf;cases hf
 ·exact(h2.look hk hf).1
theorem ChgIs.no (h:ChgIs w mv f){k:Nat}(hk:k<16)(hf:f k=none):(Instr.lookup 149 mv (.int .i64 (k:Int)) true).run prog w=.ok (.tuple #[wrW 0 noB,.bool false]) w:=by
 rcases h with⟨rfl,h2⟩|⟨b,n,rfl,h2⟩
 ·exact e5a w hk
 ·exact h2.lookNone hk hf
end
theorem a8t (a:Int)(c:BA):∀v∈([.int .i64 a,.string c]:List Value),v.oneCell'=true:=λv hv=>by
 simp only[List.mem_cons,List.not_mem_nil,or_false]at hv;rcases hv with rfl|rfl<;>rfl
theorem sizeWr17:(prog.info? 144).map (·.size)=some 2:=by kernel_rfl
theorem a2d (w:World)(c c':List Value)(T:TypeId):(w.alloc (.cells c.toArray T)).setRow w.heap.size c'.toArray=w.alloc (.cells c'.toArray T):=World.setRow_alloc_new w c.toArray c'.toArray T
theorem c7t {w:World}(pv:Value)(i n:Int)(key:BA){mv:Value}{f:Nat->Option BA}(hc:ChgIs w mv f){k:Nat}(hk:k<16){c:BA}(hf:f k=some c):Calls prog 99 #[slV pv i n key,.int .i64 (k:Int),mv] w λe w'=>e=.returned (.tuple #[.string c,.int .i64 0])/\Below w.heap.size w w':=by
 have hb:Hid (Below w.heap.size w (w.alloc (.cells #[pv,.int .i64 i,.int .i64 n,.string key] 45))):=(qw _ _).alloc (ql _) _;have hlk:=(hc.below hb.out).yes hk hf;have hz:=a8s;have hz2:Hid ((prog.info? 144).map (·.size)=some 2):=sizeWr17;generalize((100+k:Nat):Int)=A at*;go_enter func99,ntmps99;generalize hw1:w.alloc (.cells #[pv,.int .i64 i,.int .i64 n,.string key] 45)=w1 at*;go_wp2_with(refine a0b rfl 144 _ _ rfl w1.heap.size [.int .i64 0,.string noB] [.int .i64 A,.string c] rfl rfl 144 (Blk.box _ _ _) hz2.out rfl (a8t _ _) ?_;rw[a2d]);go_ret2;exact⟨rfl,hb.out.alloc hb.out.size _⟩
theorem c7u {w:World}{g N:Nat}{D:Nat->Dk}{s:Nat}{p:Option Nat}(hB:Bk w g N D s p){i:Nat}(hi:i<N)(fG:140<=(D i).n)(n:Int)(key:BA){mv:Value}{f:Nat->Option BA}(hc:ChgIs w mv f){k:Nat}(hk:k<16)(hf:f k=none):
 Calls prog 99 #[slV (.pointer (some ⟨g,0,none⟩)) (i:Int) n key,.int .i64 (k:Int),mv] w λe w'=>e=.returned (.tuple #[.string (rdS p (D i) (100+k)),.int .i64 (eR p (D i))])/\Below w.heap.size w w':=by
 have hb:Hid (Below w.heap.size w (w.alloc (.cells #[.pointer (some ⟨g,0,none⟩),.int .i64 i,.int .i64 n,.string key] 45))):=(qw _ _).alloc (ql _) _;have hlk:=(hc.below hb.out).no hk hf;have hz:=a8s;have hz2:Hid ((prog.info? 144).map (·.size)=some 2):=sizeWr17;have aS:Hid (Blk _ _ _ _):=Blk.box w 45 [.pointer (some ⟨g,0,none⟩),.int .i64 i,.int .i64 n,.string key];have hp:Hid (∀z,Calls prog 73 #[.int .i64 (k:Int)] z λe w'=>e=.returned (.int .i64 ((100+k:Nat):Int))/\w'=z):=λz=>b0u k (by omega) z;have lM:Hid (∀z,Below w.heap.size w z->Calls prog 55 #[.pointer (some ⟨g,0,none⟩),.int .i64 (i:Int),.int .i64 ((100+k:Nat):Int)] z λe w'=>e=.returned (.tuple #[.string (rdS p (D i) (100+k)),.int .i64 (eR p (D i))])/\w'=z):=λz hz=>c6u (hB.below hz) hi (by omega);generalize rdS p (D i) (100+k)=T at*;generalize eR p (D i)=E at*;generalize((100+k:Nat):Int)=A at*;go_enter func99,ntmps99;generalize hw1:w.alloc (.cells #[.pointer (some ⟨g,0,none⟩),.int .i64 i,.int .i64 n,.string key] 45)=w1 at*;have cL:Hid (w.heap.size<w1.heap.size):=aS.out.lt;go_wp2_with(refine a0b rfl 144 _ _ rfl w1.heap.size [.int .i64 0,.string noB] [.int .i64 0,.string noB] rfl rfl 144 (Blk.box _ _ _) hz2.out rfl (a8t _ _) ?_;rw[a2d]);have hS:Hid (∀z,z=(w1.alloc (.cells #[.int .i64 0,.string noB] 144)).drew->z.cell? ⟨w.heap.size,0,none⟩=some (.pointer (some ⟨g,0,none⟩))/\z.cell? ⟨w.heap.size,1,none⟩=some (.int .i64 (i:Int))/\Below w.heap.size w z):=λz e=>by
  have hq:Below w1.heap.size w1 z:=by rw[e];exact((qw _ _).alloc (ql _) _).drew
  have h1:=aS.out.below hq cL.out;exact⟨h1.cell (i:=0) rfl,h1.cell (i:=1) rfl,hb.out.trans (hq.mono hb.out.size)⟩
 generalize hw2:w1.alloc (.cells [.int .i64 0,.string noB].toArray 144)=w2 at*;refine wp_region_noPanic ?_;refine wp_region_held_drew (S:=λz:World=>z.cell? ⟨w.heap.size,0,none⟩=some (.pointer (some ⟨g,0,none⟩))/\z.cell? ⟨w.heap.size,1,none⟩=some (.int .i64 (i:Int))) (by kernel_rfl) ⟨(hS.out _ rfl).1,(hS.out _ rfl).2.1⟩ (λp8=>?_);refine tkH 0 ?_;go_simp;refine tkH 1 ?_;go_simp;refine tkH 2 ?_;go_simp;refine tkH 3 ?_;go_simp;refine tkH 4 ?_;go_simp;refine rdH 5 λK hK=>?_;go_simp;go_at_call 73;refine(hp.out _).mono ?_;rintro x wa ⟨rfl,hw⟩;rw[hw];clear hw wa;refine hK.out _ _ ⟨(hS.out _ rfl).1,(hS.out _ rfl).2.1⟩ (λp8=>?_);clear hK K;refine rdH 6 λK hK=>?_;go_simp;go_at_call 55;refine(lM.out _ (hS.out _ rfl).2.2).mono ?_;rintro x wa ⟨rfl,hw⟩;rw[hw];clear hw wa;refine hK.out _ _ ⟨(hS.out _ rfl).1,(hS.out _ rfl).2.1⟩ (λp8=>?_);clear hK K;refine tkH 7 ?_;go_simp;refine tkH 8 ?_;go_simp;refine tkH 9 ?_;go_simp;refine tkH 10 ?_;go_simp;refine wpAnyH_done (by kernel_rfl) ?_ _;refine NoPanic.normal ?_;go_wp2;go_ret2;exact⟨rfl,(hS.out _ rfl).2.2⟩
theorem sizeWay17:(prog.info? 119).map (·.size)=some 3:=by kernel_rfl
theorem c1j (w:World):(zeroValue 119).run prog w=.ok (.agg #[.slice none 0 0,.slice none 0 0,.string noB]) w:=by
 obtain⟨i0,hi,hz⟩:=Option.map_eq_some_iff.1 (show(prog.info? 119).map (λi=>i.zero)=some (some (.agg #[.slice none 0 0,.slice none 0 0,.string noB])) by kernel_rfl);simp[zeroValue,typeInfo,hi,hz]
theorem a7y (a b:Option Addr)(n m c e:Nat)(t:BA):∀v∈([.slice a n c,.slice b m e,.string t]:List Value),v.oneCell'=true:=λv hv=>by
 simp only[List.mem_cons,List.not_mem_nil,or_false]at hv;rcases hv with rfl|rfl|rfl<;>rfl
theorem info9l:(prog.info? 9).map (λi=>(i.zero,i.size,i.bytes))=some (some (.string noB),1,16):=by kernel_rfl
theorem a2t {B:Nat}{w0 w:World}{R:Asn}{v:Value}{m:Nat}{f:Nat->BA}(hR:Firm R)(h:Hold B w0 w (star (rowK 9 1 v m (strs m f)) R))(hm:m<=1000)(t:BA)(ht:f m=t):
 ∃a c w',(Builtin.append_ #[23,23] 23 #[v,.slice (some ⟨w.heap.size,0,none⟩) 1 1]).run prog (w.alloc (.cells #[.string t] 9))=.ok (.slice a (m+1) c) w'/\Hold B w0 w' (star (rowK 9 1 (.slice a (m+1) c) (m+1) (strs (m+1) f)) R):=by
 obtain⟨a,c,w',h1,h2⟩:=b2b hR 23 9 23 _ 1 16 underlying23 info9l rfl (by decide) (by decide) h hm [.string t] rfl (λu hu=>by
  simp only[List.mem_cons,List.not_mem_nil,or_false]at hu;rw[hu];rfl)
 refine⟨a,c,w',h1,?_⟩;have e:strs (m+1) f=strs m f++[.string t]:=by unfold strs;rw[List.range_succ,List.map_append,<-ht];rfl
 rw[e];exact h2
def prE (p:Option Nat)(dd:Dk)(f:Nat->Option BA)(k:Nat):Int:=if(f k).isSome=true then 0 else eR p dd
theorem d1b {w:World}{g N:Nat}{D:Nat->Dk}{s:Nat}{p:Option Nat}(hB:Bk w g N D s p){i:Nat}(hi:i<N)(fG:140<=(D i).n)(n:Int)(key:BA){mv:Value}(S:Sl)(hc:ChgIs w mv S.ch){k:Nat}(hk:k<16):
 Calls prog 99 #[slV (.pointer (some ⟨g,0,none⟩)) (i:Int) n key,.int .i64 (k:Int),mv] w λe w'=>e=.returned (.tuple #[.string (slp (rdS p (D i)) S k),.int .i64 (prE p (D i) S.ch k)])/\Below w.heap.size w w':=by
 unfold slp prE
 cases hf:S.ch k with
 |none=>exact c7u hB hi fG n key hc hk hf
 |some c=>exact c7t _ _ n key hc hk hf
theorem b2e {rd:Nat->BA}{E:Int}{S:Sl}{d s k:Nat}(hE:E≠0)(hk:k<d)(hn:S.ch (nd d s k)=none):ovE rd E S d s=E:=by
 unfold ovE;rw[qn];rintro(h|h)
 ·exact hE h
 ·exact h k hk hn
theorem c3i {rd:Nat->BA}{E:Int}{S:Sl}{d s:Nat}(h:E=0\/∀k,k<d->S.ch (nd d s k)≠none):ovE rd E S d s=oE (fol d s (slk rd S d s) S.top d):=qp h
def Ld (w z:World)(pv:Value)(i n:Int)(key:BA)(v nv:Value)(d k:Nat)(q:Nat->BA)(s:Nat)(wy:List Value):Prop:=
 Hold w.heap.size w z (star (rowK 9 1 v k (strs k q)) (star (rowK 3 1 nv d (nr .i64 d (nd d s))) (star (blkA w.heap.size 45 [pv,.int .i64 i,.int .i64 n,.string key]) (star (blkA (w.heap.size+1) 119 wy) a0i))))
section
variable {w z z':World}{pv:Value}{i n:Int}{key:BA}{v nv:Value}{d k:Nat}{q:Nat->BA}{s:Nat}{wy:List Value}
theorem d3w:Firm (star (rowK 3 1 nv d (nr .i64 d (nd d s))) (star (blkA w.heap.size 45 [pv,.int .i64 i,.int .i64 n,.string key]) (star (blkA (w.heap.size+1) 119 wy) a0i))):=(a0d _ _ _ _ _).star ((a0e _ _ _).star ((a0e _ _ _).star a0c))
theorem Ld.below (h:Ld w z pv i n key v nv d k q s wy)(hb:Below z.heap.size z z'):Ld w z' pv i n key v nv d k q s wy:=Hold.below h ((a0d _ _ _ _ _).star d3w) hb
theorem Ld.low (h:Ld w z pv i n key v nv d k q s wy):Below w.heap.size w z:=Hold.low h
theorem Ld.box (h:Ld w z pv i n key v nv d k q s wy):Blk z w.heap.size 45 [pv,.int .i64 i,.int .i64 n,.string key]:=(Hold.right (Hold.right h)).blk
theorem Ld.way (h:Ld w z pv i n key v nv d k q s wy):Blk z (w.heap.size+1) 119 wy:=(Hold.right (Hold.right (Hold.right h))).blk
theorem Ld.set (h:Ld w z pv i n key v nv d k q s wy)(wy':List Value):Ld w (z.setRow (w.heap.size+1) wy'.toArray) pv i n key v nv d k q s wy':=by
 have h1:Hold w.heap.size w z (star (blkA (w.heap.size+1) 119 wy) (star (rowK 9 1 v k (strs k q)) (star (rowK 3 1 nv d (nr .i64 d (nd d s))) (star (blkA w.heap.size 45 [pv,.int .i64 i,.int .i64 n,.string key]) a0i)))):=
  ((Hold.monoR h λF h=>a0n h λF h=>a0q h).monoR λF h=>a0q h).swap
 have h2:=h1.setRowBlk ((a0d _ _ _ _ _).star ((a0d _ _ _ _ _).star ((a0e _ _ _).star a0c))) wy';exact(h2.swap.monoR λF h=>a0q h).monoR λF h=>a0n h λF h=>a0q h
end
theorem Hold.drop2 {B:Nat}{w0 w:World}{P Q R:Asn}(h:Hold B w0 w (star P (star Q R))):Hold B w0 w (star P (star Q a0i)):=by
 obtain⟨h1,h2,F,⟨G,H,h3,⟨G2,H2,h4,h5,h6,h7⟩,h8,h9⟩,h10⟩:=h;refine⟨h1,h2,λk=>G k\/G2 k,⟨G,G2,h3,⟨G2,λ_=>False,h4,λ_ h=>h,λ_ _ h=>h,λk=>by simp⟩,λk hg hg2=>h8 k hg ((h7 k).2 (.inl hg2)),λk=>Iff.rfl⟩,?_⟩;rintro k (hk|hk)
 ·exact h10 k ((h9 k).2 (.inl hk))
 ·exact h10 k ((h9 k).2 (.inr ((h7 k).2 (.inl hk))))
theorem d9e (w:World)(pv:Value)(i n:Int)(key:BA):Hold w.heap.size w ((w.alloc (.cells #[pv,.int .i64 i,.int .i64 n,.string key] 45)).alloc (.cells #[.slice none 0 0,.slice none 0 0,.string noB] 119)) (star (blkA w.heap.size 45 [pv,.int .i64 i,.int .i64 n,.string key]) (star (blkA (w.heap.size+1) 119 [.slice none 0 0,.slice none 0 0,.string noB]) a0i)):=by
 have h1:=(a1k w.heap.size w w (ql _) (qw _ _)).newBlk a0c 45 #[pv,.int .i64 i,.int .i64 n,.string key];have h2:=h1.newBlk ((a0e _ _ _).star a0c) 119 #[.slice none 0 0,.slice none 0 0,.string noB];have e:(w.alloc (.cells #[pv,.int .i64 i,.int .i64 n,.string key] 45)).heap.size=w.heap.size+1:=by simp
 rw[e]at h2;exact h2.swap
theorem b8x {w:World}{g N:Nat}{D:Nat->Dk}{sn:Nat}{p:Option Nat}(hB:Bk w g N D sn p)(ht:Tabs w){i:Nat}(hi:i<N)(fG:140<=(D i).n){d n:Nat}(hn:2^d=n)(hd:1<=d/\d<=4)(key:BA){mv:Value}(S:Sl)(hc:ChgIs w mv S.ch){s:Nat}(hs:s<n):
 Calls prog 54 #[slV (.pointer (some ⟨g,0,none⟩)) (i:Int) (n:Int) key,.string S.top,.int .i64 (s:Int),mv] w λe w'=>(∃a1 n1 c1 a2 n2 c2 lf,e=.returned (.tuple #[.agg #[.slice a1 n1 c1,.slice a2 n2 c2,.string lf],.int .i64 (ovE (rdS p (D i)) (eR p (D i)) S d s)])/\
  (ovE (rdS p (D i)) (eR p (D i)) S d s=0->n1=d/\n2=d/\fol d s (slk (rdS p (D i)) S d s) S.top d=some lf/\Hold w.heap.size w w' (star (rowK 3 1 (.slice a1 n1 c1) d (nr .i64 d (nd d s))) (star (rowK 9 1 (.slice a2 n2 c2) d (strs d (slk (rdS p (D i)) S d s))) a0i))))/\Below w.heap.size w w':=by
 have aG:okS d (s:Int):=⟨hd.1,hd.2,by omega,by omega⟩;have h16:n<=16:=by rw[<-hn];exact a1f d hd.2
 have hp:Hid (∀z,Calls prog 98 #[.int .i64 (n:Int),.int .i64 (s:Int)] z λe w'=>∃v,e=.returned (.tuple #[v,.int .i64 0])/\w'.ownsRow z.heap.size 3 1 v d (nr .i64 d (nd d s))/\Below z.heap.size z w'):=λz=>c3e d n s hn aG z;have dZ:Hid (∀z,Below w.heap.size w z->∀k:Nat,k<16->Calls prog 99 #[slV (.pointer (some ⟨g,0,none⟩)) (i:Int) (n:Int) key,.int .i64 (k:Int),mv] z λe w'=>e=.returned (.tuple #[.string (slp (rdS p (D i)) S k),.int .i64 (prE p (D i) S.ch k)])/\Below z.heap.size z w'):=λz hz k hk=>d1b (hB.below hz) hi fG n key S (hc.below hz) hk;have hnd:Hid (∀k,k<d->nd d s k<16):=λk hk=>by have:=(a2u d s k hk (by omega)).2;omega
 have HE0:Hid (∀k,prE p (D i) S.ch k=if(S.ch k).isSome=true then 0 else eR p (D i)):=λk=>rfl;have HQ:Hid (∀k,slk (rdS p (D i)) S d s k=slp (rdS p (D i)) S (nd d s k)):=λk=>rfl;have fV:Hid (∀z a c q,Below w.heap.size w z->Sa z a d q->Calls prog 100 #[.string S.top,.int .i64 (s:Int),.slice a d c] z λe w'=>e=.returned (.tuple #[.string (folS d (s:Int) q S.top),.int .i64 (folE d (s:Int) q S.top)])/\Below z.heap.size z w'):=λz a c q hz hq=>c9i S.top (s:Int) a d c (by omega) q z hq (ht.below hz ht.lt);have nW:Hid (∀q,folS d (s:Int) q S.top=(fol d s q S.top d).getD noB/\folE d (s:Int) q S.top=oE (fol d s q S.top d)):=λq=>by
  unfold folS folE;rw[qp aG,qp aG,Int.toNat_natCast];exact⟨rfl,rfl⟩
 have hz:=c1j;have hz2:Hid ((prog.info? 45).map (·.size)=some 4):=size45;have hz3:Hid ((prog.info? 119).map (·.size)=some 3):=sizeWay17;have HO1:Hid (∀k,k<d->eR p (D i)≠0->S.ch (nd d s k)=none->ovE (rdS p (D i)) (eR p (D i)) S d s=eR p (D i)):=λk hk h1 h2=>b2e h1 hk h2;have HO2:Hid ((eR p (D i)=0\/∀k,k<d->S.ch (nd d s k)≠none)->ovE (rdS p (D i)) (eR p (D i)) S d s=oE (fol d s (slk (rdS p (D i)) S d s) S.top d)):=λh=>c3i h;have H0:=d9e w (.pointer (some ⟨g,0,none⟩)) (i:Int) (n:Int) key;have hd1:=hd.1;have hd2:=hd.2;generalize nE:slk (rdS p (D i)) S d s=q at*;generalize gR:ovE (rdS p (D i)) (eR p (D i)) S d s=OV at*;generalize heR:eR p (D i)=E at*;clear nE gR heR hB hc ht fG hi aG hn;generalize jF:Value.pointer (some ⟨g,0,none⟩)=pv at*;generalize cZ:S.top=top at*;clear jF cZ;have c2:=H0.blk.cell (i:=2) rfl;go_enter func54,ntmps54;generalize hw1:(w.alloc (.cells #[pv,.int .i64 (i:Int),.int .i64 (n:Int),.string key] 45)).alloc (.cells #[.slice none 0 0,.slice none 0 0,.string noB] 119)=w1 at*;go_wp2_with(go_at_call 98;refine(hp.out _).mono ?_;rintro e w2 ⟨nv,rfl,x9,hb2⟩;obtain⟨a1,c1,rfl⟩:=a2a x9;have H2:Hid (Ld w w2 pv (i:Int) (n:Int) key (.slice none 0 0) (.slice a1 d c1) d 0 q s [.slice none 0 0,.slice none 0 0,.string noB]):=(H0.newRow ((a0e _ _ _).star ((a0e _ _ _).star a0c)) hb2 x9).mono λF h=>a2g h;clear x9 hb2 hp H0 c2);go_loopw[12,28] (λv j wr=>∃(k c:Nat) (a:Option Addr),k<=d/\j=.int .i64 (k:Int)/\v=.slice a k c/\Hid (E=0\/∀k',k'<k->S.ch (nd d s k')≠none)/\Hid (Ld w wr pv (i:Int) (n:Int) key (.slice a k c) (.slice a1 d c1) d k q s [.slice none 0 0,.slice none 0 0,.string noB])) (λ_ j _=>d-(intOf j).toNat)
 case atStart=>exact⟨0,0,none,Nat.zero_le _,rfl,rfl,.inr λk hk=>by omega,H2.out⟩
 case round=>
  clear H2;obtain⟨k,c,a,hk,rfl,rfl,aR,hh⟩:=hrel;by_cases p9:k<d
  ·have hk':(k:Int)<(d:Int):=(by omega);have hqi:=a3c .i64 d (nd d s) k p9;obtain⟨g1,hg1,x5⟩:=a2b (Hold.rowK (Hold.right hh.out)) hqi;subst hg1;have dP:Hid (Blk wr w.heap.size 45 [pv,.int .i64 (i:Int),.int .i64 (n:Int),.string key]):=hh.out.box;have aL:=dZ.out wr hh.out.low (nd d s k) (hnd.out k p9);rw[<-HQ.out k]at aL;by_cases hE:prE p (D i) S.ch (nd d s k)=0
   ·rw[hE]at aL;have HA:Hid (E=0\/∀k',k'<k+1->S.ch (nd d s k')≠none):=by
     rw[HE0.out]at hE
     cases hs:S.ch (nd d s k)with
     |none=>
      rw[hs]at hE;exact .inl hE
     |some x=>
      rcases aR.out with h|h
      ·exact .inl h
      ·refine .inr λk' hk'=>?_;by_cases e:k'=k
       ·rw[e,hs];exact λh=>by cases h
       ·exact h k' (by omega)
    have HPU:Hid (∀z,Ld w z pv (i:Int) (n:Int) key (.slice a k c) (.slice (some ⟨g1,0,none⟩) d c1) d k q s [.slice none 0 0,.slice none 0 0,.string noB]->_):=λz h=>a2t d3w h (by omega) (q k) rfl;generalize q k=t at*;clear aR hE;go_wp2_with(first
     |(refine a0a rfl 45 _ rfl w.heap.size rfl 45 [pv,.int .i64 (i:Int),.int .i64 (n:Int),.string key] _ dP.out underlying45 rfl hz2.out ?_)
     |(go_at_call 99;refine aL.mono ?_;rintro e w3 ⟨rfl,hb3⟩;have h3:=hh.out.below hb3;obtain⟨a',c',w4,r6,h4⟩:=HPU.out _ h3;have H4:Hid (Ld w w4 pv (i:Int) (n:Int) key (.slice a' (k+1) c') (.slice (some ⟨g1,0,none⟩) d c1) d (k+1) q s [.slice none 0 0,.slice none 0 0,.string noB]):=h4;clear hb3 h3 h4 hh aL HPU)
     |(at_builtin;refine Lib.wpList_append_run _ rfl _ _ 23 23 rfl _ _ rfl rfl _ _ r6 ?_))
    go_roundw
    case rel=>exact⟨k+1,c',a',by omega,by go_num,rfl,HA.out,H4.out⟩
    case measure=>simp[intOf];omega
   ·have fK:Hid (OV=prE p (D i) S.ch (nd d s k)/\¬OV=0):=by
     have e0:=HE0.out (nd d s k)
     cases hs:S.ch (nd d s k)with
     |none=>
      rw[hs]at e0;have e1:prE p (D i) S.ch (nd d s k)=E:=e0;rw[e1]at hE;have:=HO1.out k p9 hE hs;rw[e1,this];exact⟨rfl,hE⟩
     |some x=>rw[hs]at e0;exact absurd e0 hE
    generalize prE p (D i) S.ch (nd d s k)=E' at*;have hE':(E' !=0)=true:=(by simpa using hE);clear aR;go_wp2_with(first
     |(refine a0a rfl 45 _ rfl w.heap.size rfl 45 [pv,.int .i64 (i:Int),.int .i64 (n:Int),.string key] _ dP.out underlying45 rfl hz2.out ?_)
     |(go_at_call 99;refine aL.mono ?_;rintro e w3 ⟨rfl,hb3⟩;have H3:Hid (Ld w w3 pv (i:Int) (n:Int) key (.slice a k c) (.slice (some ⟨g1,0,none⟩) d c1) d k q s [.slice none 0 0,.slice none 0 0,.string noB]):=hh.out.below hb3;clear hb3 hh aL)
     |(refine a0b rfl 119 _ _ rfl (w.heap.size+1) [.slice none 0 0,.slice none 0 0,.string noB] [.slice none 0 0,.slice none 0 0,.string noB] rfl rfl 119 H3.out.way hz3.out rfl (a7y _ _ _ _ _ _ _) ?_))
    have H4:Hid (Ld w _ pv (i:Int) (n:Int) key (.slice a k c) (.slice (some ⟨g1,0,none⟩) d c1) d k q s [.slice none 0 0,.slice none 0 0,.string noB]):=H3.out.set [.slice none 0 0,.slice none 0 0,.string noB];have HR:Hid ((loadVar 119 ⟨w.heap.size+1,0,none⟩).run prog (w3.setRow (w.heap.size+1) #[.slice none 0 0,.slice none 0 0,.string noB])=.ok (.agg #[.slice none 0 0,.slice none 0 0,.string noB]) (w3.setRow (w.heap.size+1) #[.slice none 0 0,.slice none 0 0,.string noB])):=run_loadVar_row _ (w.heap.size+1) 119 119 #[.slice none 0 0,.slice none 0 0,.string noB] (0,0) _ H4.out.way underlying119 rfl hz3.out;refine bodyPost_ret_by (v:=.tuple #[.agg #[.slice none 0 0,.slice none 0 0,.string noB],.int .i64 E']) (results_cell_tmp 8 9 119 ⟨w.heap.size+1,0,none⟩ results54 rfl HR.out rfl) rfl ⟨⟨none,0,0,none,0,0,noB,by rw[fK.out.1],λh0=>absurd h0 fK.out.2⟩,H4.out.low⟩
  ·obtain rfl:k=d:=(by omega);have hk':¬(k:Int)<(k:Int):=(by omega);have fK:Hid (OV=oE (fol k s q top k)):=HO2.out aR.out;have pX:Hid (Sa wr a k q):=by
    obtain⟨a',c',e1,e2⟩:=Sa.owns (Hold.rowK hh.out)
    cases e1;exact e2
   have aL:=fV.out wr a c q hh.out.low pX.out;rw[(nW.out q).1,(nW.out q).2]at aL;clear aR HO1 HO2 fV pX
   cases mD:fol k s q top k with
   |none=>
    rw[mD]at aL fK;go_wp2_with(first
     |(go_at_call 100;refine aL.mono ?_;rintro e w3 ⟨rfl,hb3⟩;have H3:Hid (Ld w w3 pv (i:Int) (n:Int) key (.slice a k c) (.slice a1 k c1) k k q s [.slice none 0 0,.slice none 0 0,.string noB]):=hh.out.below hb3;clear hb3 hh aL)
     |(refine a0b rfl 119 _ _ rfl (w.heap.size+1) [.slice none 0 0,.slice none 0 0,.string noB] [.slice none 0 0,.slice none 0 0,.string noB] rfl rfl 119 H3.out.way hz3.out rfl (a7y _ _ _ _ _ _ _) ?_))
    have H4:Hid (Ld w _ pv (i:Int) (n:Int) key (.slice a k c) (.slice a1 k c1) k k q s [.slice none 0 0,.slice none 0 0,.string noB]):=H3.out.set [.slice none 0 0,.slice none 0 0,.string noB];have HR:Hid ((loadVar 119 ⟨w.heap.size+1,0,none⟩).run prog (w3.setRow (w.heap.size+1) #[.slice none 0 0,.slice none 0 0,.string noB])=.ok (.agg #[.slice none 0 0,.slice none 0 0,.string noB]) (w3.setRow (w.heap.size+1) #[.slice none 0 0,.slice none 0 0,.string noB])):=run_loadVar_row _ (w.heap.size+1) 119 119 #[.slice none 0 0,.slice none 0 0,.string noB] (0,0) _ H4.out.way underlying119 rfl hz3.out;refine bodyPost_ret_by (v:=.tuple #[.agg #[.slice none 0 0,.slice none 0 0,.string noB],.int .i64 22]) (results_cell_tmp 8 9 119 ⟨w.heap.size+1,0,none⟩ results54 rfl HR.out rfl) rfl ⟨⟨none,0,0,none,0,0,noB,by rw[fK.out];rfl,λh0=>by rw[fK.out]at h0;cases h0⟩,H4.out.low⟩
   |some lf=>
    rw[mD]at aL fK;have HF:Hid (fol k s q top k=some lf):=mD;clear mD;go_wp2_with(first
     |(go_at_call 100;refine aL.mono ?_;rintro e w3 ⟨rfl,hb3⟩;have H3:Hid (Ld w w3 pv (i:Int) (n:Int) key (.slice a k c) (.slice a1 k c1) k k q s [.slice none 0 0,.slice none 0 0,.string noB]):=hh.out.below hb3;clear hb3 hh aL)
     |(refine a0b rfl 119 _ _ rfl (w.heap.size+1) [.slice none 0 0,.slice none 0 0,.string noB] [.slice a1 k c1,.slice a k c,.string lf] rfl rfl 119 H3.out.way hz3.out rfl (a7y _ _ _ _ _ _ _) ?_))
    have H4:Hid (Ld w _ pv (i:Int) (n:Int) key (.slice a k c) (.slice a1 k c1) k k q s [.slice a1 k c1,.slice a k c,.string lf]):=H3.out.set [.slice a1 k c1,.slice a k c,.string lf];have HR:Hid ((loadVar 119 ⟨w.heap.size+1,0,none⟩).run prog (w3.setRow (w.heap.size+1) #[.slice a1 k c1,.slice a k c,.string lf])=.ok (.agg #[.slice a1 k c1,.slice a k c,.string lf]) (w3.setRow (w.heap.size+1) #[.slice a1 k c1,.slice a k c,.string lf])):=run_loadVar_row _ (w.heap.size+1) 119 119 #[.slice a1 k c1,.slice a k c,.string lf] (0,0) _ H4.out.way underlying119 rfl hz3.out;refine bodyPost_ret_by (v:=.tuple #[.agg #[.slice a1 k c1,.slice a k c,.string lf],.int .i64 0]) (results_cell_tmp 8 9 119 ⟨w.heap.size+1,0,none⟩ results54 rfl HR.out rfl) rfl ⟨⟨a1,k,c1,a,k,c,lf,by rw[fK.out];rfl,λ_=>⟨rfl,rfl,HF.out,?_⟩⟩,H4.out.low⟩;exact(Hold.swap H4.out).drop2
theorem b3s {c:BA}(h:c.size=0):c=noB:=by
 apply ByteArray.ext;exact Array.eq_empty_of_size_eq_zero h
theorem b7q (q:BA):q.toList.isEmpty=decide (q.size=0):=by
 rw[ByteArray.toList_eq]
 cases h:q.data.toList with
 |nil=>
  have:q.size=0:=by show q.data.size=0;rw[<-Array.length_toList,h];rfl
  rw[this];rfl
 |cons a l=>
  have:q.size≠0:=by show q.data.size≠0;rw[<-Array.length_toList,h];simp
  rw[decide_eq_false this];rfl
theorem c8y {key a c:BA}(h0:c.size≠0)(h:c.size<28):opT key a c=noB/\opE key a c=3:=
 ⟨by unfold opT;rw[qn h0,qp h],by unfold opE;rw[qn h0,qp h]⟩
theorem c5k {key a c:BA}(h:¬c.size<28)(hq:opQ key a c):opT key a c=crB key (c.extract 0 12) ((c.extract 12 c.size).extract 0 (c.size-28))/\opE key a c=0:=by
 have h0:c.size≠0:=by omega
 exact⟨by unfold opT;rw[qn h0,qn h,qp hq],by unfold opE;rw[qn h0,qn h,qp hq]⟩
theorem d8o {key a c:BA}(h:¬c.size<28)(hq:¬opQ key a c):opT key a c=noB/\opE key a c=23:=by
 have h0:c.size≠0:=by omega
 exact⟨by unfold opT;rw[qn h0,qn h,qn hq],by unfold opE;rw[qn h0,qn h,qn hq]⟩
theorem d0a {key a c:BA}(hk:key.size=32)(ha:a.size=16)(h12:12<=c.size)(hc:c.size<=2048)(z:World):Calls prog 105 #[.string key,.string (c.extract 0 12),.string a,.string (c.extract 12 c.size)] z λe w'=>e=.returned (.tuple #[.string (opT key a c),.int .i64 (opE key a c)])/\Below z.heap.size z w':=by
 obtain⟨h1,h2⟩:=e9j c h12;by_cases h3:c.size<28
 ·have h:=c1f key (c.extract 0 12) a (c.extract 12 c.size) hk h2 (by omega) z;rw[(c8y (by omega) h3).1,(c8y (by omega) h3).2];exact h
 ·have h:=d0c key (c.extract 0 12) a (c.extract 12 c.size) (c.size-28) hk h2 (by omega) (by omega) (by omega) z;by_cases hq:opQ key a c
  ·rw[(c5k h3 hq).1,(c5k h3 hq).2];unfold opQ at hq;rw[qp hq]at h;exact h
  ·rw[(d8o h3 hq).1,(d8o h3 hq).2];unfold opQ at hq;rw[qn hq]at h;exact h
theorem c8d {key a c:BA}(hk:key.size=32)(ha:a.size=16)(h12:12<=c.size)(hc:c.size<=2048)(z:World):Calls prog 95 #[.string key,.string (c.extract 0 12),.string a,.string (c.extract 12 c.size)] z λe w'=>e=.returned (.tuple #[.string (opT key a c),.int .i64 (opE key a c)])/\Below z.heap.size z w':=by
 obtain⟨h1,h2⟩:=e9j c h12;by_cases h3:c.size<28
 ·have h:=b6p key (c.extract 0 12) a (c.extract 12 c.size) hk h2 (by omega) z;rw[(c8y (by omega) h3).1,(c8y (by omega) h3).2];exact h
 ·have h:=c2p key (c.extract 0 12) a (c.extract 12 c.size) (c.size-28) hk h2 (by omega) (by omega) (by omega) z;by_cases hq:opQ key a c
  ·rw[(c5k h3 hq).1,(c5k h3 hq).2];unfold opQ at hq;rw[qp hq]at h;exact h
  ·rw[(d8o h3 hq).1,(d8o h3 hq).2];unfold opQ at hq;rw[qn hq]at h;exact h
theorem d1c {w:World}(pv:Value){i k:Nat}(n:Int){key c:BA}(hi:i<=1000)(hk:k<=1000)(jR:key.size=32)(hc:c.size<=2048):Calls prog 58 #[slV pv (i:Int) n key,.int .i64 (k:Int),.string c] w λe w'=>e=.returned (.tuple #[.string (opT key (plc i k) c),.int .i64 (opE key (plc i k) c)])/\Below w.heap.size w w':=by
 have hb:Hid (Below w.heap.size w (w.alloc (.cells #[pv,.int .i64 (i:Int),.int .i64 n,.string key] 45))):=(qw _ _).alloc (ql _) _;by_cases h0:c.size=0
 ·obtain rfl:c=noB:=b3s h0;rw[(b6y key (plc i k)).1,(b6y key (plc i k)).2];have hr:Hid (∀z,Calls prog 104 #[.string ⟨#[0]⟩,.int .i64 32] z λe w'=>e=.returned (.string (zB 32))/\Below z.heap.size z w'):=λz=>a5x 32 z (by decide);generalize zB 32=Z at*;go_enter func58,ntmps58;go_wp2_with(go_at_call 104;refine(hr.out _).mono ?_;rintro e w1 ⟨rfl,hb1⟩;have L1:Hid (Below w.heap.size w w1):=hb.out.trans (hb1.mono hb.out.size);clear hb1);go_ret2;exact⟨rfl,L1.out⟩
 have y6:c.toList.isEmpty=false:=by rw[b7q];exact decide_eq_false h0
 by_cases h12:c.size<12
 ·have e1:opT key (plc i k) c=noB/\opE key (plc i k) c=3:=c8y h0 (by omega);rw[e1.1,e1.2];have h12':(c.size:Int)<12:=by omega
  go_enter func58,ntmps58;go_wp2;go_ret2;exact⟨rfl,hb.out⟩
 have h12':¬(c.size:Int)<12:=by omega
 have hp:Hid (∀z,Calls prog 75 #[slV pv (i:Int) n key,.int .i64 (k:Int)] z λe w'=>e=.returned (.string (plc i k))/\Below z.heap.size z w'):=λz=>b9l pv i k n key hi hk z;have ho:Hid (∀z,Calls prog 105 #[.string key,.string (c.extract 0 12),.string (plc i k),.string (c.extract 12 c.size)] z λe w'=>e=.returned (.tuple #[.string (opT key (plc i k) c),.int .i64 (opE key (plc i k) c)])/\Below z.heap.size z w'):=λz=>d0a jR (b6u i k) (by omega) hc z;have aS:Hid (Blk _ _ _ _):=Blk.box w 45 [pv,.int .i64 (i:Int),.int .i64 n,.string key];generalize opT key (plc i k) c=T at*;generalize opE key (plc i k) c=E at*;generalize plc i k=A at*;have eH:(12:Int)<=(c.size:Int):=by omega
 clear hc jR h0 h12;go_enter func58,ntmps58;generalize hw1:w.alloc (.cells #[pv,.int .i64 (i:Int),.int .i64 n,.string key] 45)=w1 at*;go_wp2;have hS:Hid (∀z,Below w1.heap.size w1 z->(z.cell? ⟨w.heap.size,0,none⟩=some pv/\z.cell? ⟨w.heap.size,1,none⟩=some (.int .i64 (i:Int))/\z.cell? ⟨w.heap.size,2,none⟩=some (.int .i64 n)/\z.cell? ⟨w.heap.size,3,none⟩=some (.string key))/\Blk z w.heap.size 45 [pv,.int .i64 (i:Int),.int .i64 n,.string key]):=λz hz=>by
  have h1:=aS.out.below hz aS.out.lt;exact⟨⟨h1.cell (i:=0) rfl,h1.cell (i:=1) rfl,h1.cell (i:=2) rfl,h1.cell (i:=3) rfl⟩,h1⟩
 have L1:Hid (Below w1.heap.size w1 w1.drew):=(qw _ _).drew;refine wp_region_noPanic ?_;refine wp_region_held_drew (S:=λz:World=>z.cell? ⟨w.heap.size,0,none⟩=some pv/\z.cell? ⟨w.heap.size,1,none⟩=some (.int .i64 (i:Int))/\z.cell? ⟨w.heap.size,2,none⟩=some (.int .i64 n)/\z.cell? ⟨w.heap.size,3,none⟩=some (.string key)) (by kernel_rfl) (hS.out _ L1.out).1 (λp8=>?_);refine tkH 0 ?_;go_simp;refine tkH 1 ?_;go_simp;refine tkH 2 ?_;go_simp;refine tkH 3 ?_;go_simp;refine tkH 4 ?_;go_simp;refine tkH 5 ?_;go_simp;refine tkH 7 ?_;go_simp;refine tkH 8 ?_;go_simp;refine rdH 6 λK hK=>?_;go_simp;go_at_call 75;refine(hp.out _).mono ?_;rintro x wa ⟨rfl,cE⟩;have L2:Hid (Below w1.heap.size w1 wa):=L1.out.trans (cE.mono L1.out.size);clear cE;refine hK.out _ _ (hS.out _ L2.out).1 (λp8=>?_);clear hK K;refine rdH 9 λK hK=>?_;go_simp;go_at_call 105;refine(ho.out _).mono ?_;rintro x wb ⟨rfl,dJ⟩;have L3:Hid (Below w1.heap.size w1 wb):=L2.out.trans (dJ.mono L2.out.size);clear dJ;refine hK.out _ _ (hS.out _ L3.out).1 (λp8=>?_);clear hK K;refine tkH 10 ?_;go_simp;refine tkH 11 ?_;go_simp;refine tkH 12 ?_;go_simp;refine tkH 13 ?_;go_simp;refine wpAnyH_done (by kernel_rfl) ?_ _;refine NoPanic.normal ?_;go_wp2;go_ret2;exact⟨rfl,hb.out.trans (L3.out.mono hb.out.size)⟩
def b4o (w:World)(sv:Value)(k:Int)(E:Int):Prop:=∀z,Below w.heap.size w z->Calls prog 53 #[sv,.int .i64 k] z λe w'=>e=.returned (.int .i64 E)/\Below z.heap.size z w'
section
variable {w:World}{pv:Value}{i n:Int}{key:BA}
theorem a8o (hg:GoodIs w (slV pv i n key) true)(k:Int):b4o w (slV pv i n key) k (slE17 n k):=λz hz=>c0l (hg.below hz) k
end
theorem d7o {w:World}{pv:Value}{n:Int}{key:BA}{i k:Nat}(hi:i<=1000)(hk:k<=1000)(jR:key.size=32)(hf:b4o w (slV pv (i:Int) n key) (k:Int) 0){nonce plain:BA}(h1:nonce.size=12)(h2:plain.size=32):
 Calls prog 35 #[slV pv (i:Int) n key,.int .i64 (k:Int),.string nonce,.string plain] w λe w'=>e=.returned (.tuple #[.string (clB17 key nonce (plc i k) plain),.int .i64 0])/\Below w.heap.size w w':=by
 have hb:Hid (Below w.heap.size w (w.alloc (.cells #[pv,.int .i64 (i:Int),.int .i64 n,.string key] 45))):=(qw _ _).alloc (ql _) _;have hB:Hid (Blk _ _ _ _):=Blk.box w 45 [pv,.int .i64 (i:Int),.int .i64 n,.string key];have hc:Hid (Calls _ _ _ _ _):=hf _ hb.out;have hz:Hid ((prog.info? 45).map (·.size)=some 4):=size45;have h1':(nonce.size:Int)=12:=by omega
 have h2':(plain.size:Int)=32:=by omega
 have hp:Hid (∀z,Calls prog 75 #[slV pv (i:Int) n key,.int .i64 (k:Int)] z λe w'=>e=.returned (.string (plc i k))/\Below z.heap.size z w'):=λz=>b9l pv i k n key hi hk z;have ho:Hid (∀z,Calls prog 74 #[.string key,.string nonce,.string (plc i k),.string plain] z λe w'=>e=.returned (.tuple #[.string (slB key nonce (plc i k) plain),.int .i64 0])/\Below z.heap.size z w'):=λz=>d6n key nonce (plc i k) plain jR h1 (by rw[b6u];decide) (by omega) z;have aA:=b2a key nonce (plc i k) plain;have HC:Hid (clB17 key nonce (plc i k) plain=nonce++slB key nonce (plc i k) plain):=rfl;generalize clB17 key nonce (plc i k) plain=C at*;generalize slB key nonce (plc i k) plain=T at*;generalize plc i k=A at*;have hsz':T.size=48:=by omega
 clear aA jR;go_enter func35,ntmps35;generalize hw0:w.alloc (.cells #[pv,.int .i64 (i:Int),.int .i64 n,.string key] 45)=w0 at*;go_wp2_with(first
  |(refine a0a rfl 45 _ rfl w.heap.size rfl 45 [pv,.int .i64 (i:Int),.int .i64 n,.string key] _ hB.out underlying45 rfl hz.out ?_)
  |(go_at_call 53;refine hc.out.mono ?_;rintro e w1 ⟨rfl,hw⟩;have LL:Hid (Below w0.heap.size w0 w1):=hw;clear hw))
 have hS:Hid (∀z,Below w0.heap.size w0 z->(z.cell? ⟨w.heap.size,0,none⟩=some pv/\z.cell? ⟨w.heap.size,1,none⟩=some (.int .i64 (i:Int))/\z.cell? ⟨w.heap.size,2,none⟩=some (.int .i64 n)/\z.cell? ⟨w.heap.size,3,none⟩=some (.string key))):=λz hz=>by
  have h1:=hB.out.below hz hB.out.lt;exact⟨h1.cell (i:=0) rfl,h1.cell (i:=1) rfl,h1.cell (i:=2) rfl,h1.cell (i:=3) rfl⟩
 have L1:Hid (Below w0.heap.size w0 w1.drew):=LL.out.drew;refine wp_region_noPanic ?_;refine wp_region_held_drew (S:=λz:World=>z.cell? ⟨w.heap.size,0,none⟩=some pv/\z.cell? ⟨w.heap.size,1,none⟩=some (.int .i64 (i:Int))/\z.cell? ⟨w.heap.size,2,none⟩=some (.int .i64 n)/\z.cell? ⟨w.heap.size,3,none⟩=some (.string key)) (by kernel_rfl) (hS.out _ L1.out) (λp8=>?_);refine tkH 0 ?_;go_simp;refine tkH 1 ?_;go_simp;refine tkH 2 ?_;go_simp;refine tkH 3 ?_;go_simp;refine tkH 4 ?_;go_simp;refine tkH 6 ?_;go_simp;refine rdH 5 λK hK=>?_;go_simp;go_at_call 75;refine(hp.out _).mono ?_;rintro x wa ⟨rfl,cE⟩;have L2:Hid (Below w0.heap.size w0 wa):=L1.out.trans (cE.mono L1.out.size);clear cE;refine hK.out _ _ (hS.out _ L2.out) (λp8=>?_);clear hK K;refine rdH 7 λK hK=>?_;go_simp;go_at_call 74;refine(ho.out _).mono ?_;rintro x wb ⟨rfl,dJ⟩;have L3:Hid (Below w0.heap.size w0 wb):=L2.out.trans (dJ.mono L2.out.size);clear dJ;refine hK.out _ _ (hS.out _ L3.out) (λp8=>?_);clear hK K;refine tkH 8 ?_;go_simp;refine tkH 9 ?_;go_simp;refine tkH 10 ?_;go_simp;refine tkH 11 ?_;go_simp;refine tkH 12 ?_;go_simp;refine wpAnyH_done (by kernel_rfl) ?_ _;refine NoPanic.normal ?_;go_wp2;go_ret2;exact⟨by rw[HC.out];rfl,hb.out.trans (L3.out.mono hb.out.size)⟩
theorem d7r {w:World}{pv:Value}{i n:Int}{key:BA}{k E:Int}(hf:b4o w (slV pv i n key) k E)(hE:E≠0)(top:BA):Calls prog 23 #[slV pv i n key,.string top,.int .i64 k] w λe w'=>e=.returned (.tuple #[.string noB,.int .i64 E])/\Below w.heap.size w w':=by
 have hb:Hid (Below w.heap.size w (w.alloc (.cells #[pv,.int .i64 i,.int .i64 n,.string key] 45))):=(qw _ _).alloc (ql _) _;have hB:Hid (Blk _ _ _ _):=Blk.box w 45 [pv,.int .i64 i,.int .i64 n,.string key];have hc:Hid (Calls _ _ _ _ _):=hf _ hb.out;have hz:Hid ((prog.info? 45).map (·.size)=some 4):=size45;have hE':(E !=0)=true:=by simpa using hE
 go_enter func23,ntmps23;go_wp2_with(first
  |(refine a0a rfl 45 _ rfl w.heap.size rfl 45 [pv,.int .i64 i,.int .i64 n,.string key] _ hB.out underlying45 rfl hz.out ?_)
  |(go_at_call 53;refine hc.out.mono ?_;rintro e w1 ⟨rfl,hw⟩;have L1:Hid (Below w.heap.size w w1):=hb.out.trans (hw.mono hb.out.size);clear hw))
 go_ret2;exact⟨rfl,L1.out⟩
theorem d1g {rd:Nat->BA}{E:Int}{d s:Nat}{top:BA}(hd:1<=d){op:BA->Int}{ot:BA->BA}(h:ovE rd E (sl0 top) d s≠0):slGE rd E d s top op=ovE rd E (sl0 top) d s/\slGT rd E d s top ot=noB:=by
 by_cases hE:E=0
 ·have e:=c3i (rd:=rd) (E:=E) (S:=sl0 top) (d:=d) (s:=s) (.inl hE);rw[e]at h⊢;unfold slGE slGT;rw[qp hE];have e0:(sl0 top).top=top:=rfl;have e1:slk rd (sl0 top) d s=λk=>rd (100+nd d s k):=rfl;rw[e0,e1]at h⊢
  cases hf:fol d s (λk=>rd (100+nd d s k)) top d with
  |none=>
   rw[qn (λh=>by cases h),qn (λh=>by cases h.2)];exact⟨rfl,rfl⟩
  |some x=>rw[hf]at h;exact absurd rfl h
 ·have e:=b2e (rd:=rd) (S:=sl0 top) (d:=d) (s:=s) (k:=0) hE (by omega) rfl;rw[e];unfold slGE slGT;rw[qn hE,qn (λh=>hE h.1)];exact⟨rfl,rfl⟩
theorem c5j {rd:Nat->BA}{E:Int}{d s:Nat}{top:BA}(hd:1<=d)(h:ovE rd E (sl0 top) d s=0):E=0:=by
 by_cases hE:E=0
 ·exact hE
 ·rw[b2e (rd:=rd) (S:=sl0 top) (d:=d) (s:=s) (k:=0) hE (by omega) rfl]at h;exact h
theorem d1f {rd:Nat->BA}{d s:Nat}{top lf:BA}{op:BA->Int}{ot:BA->BA}(h:fol d s (slk rd (sl0 top) d s) top d=some lf)(y6:lH (rd (120+s))≠lf):slGE rd 0 d s top op=22/\slGT rd 0 d s top ot=noB:=by
 have h':fol d s (λk=>rd (100+nd d s k)) top d=some lf:=h;unfold slGE slGT;rw[qp rfl,h',qn (λe=>y6 (Option.some.inj e).symm),qn (λe=>y6 (Option.some.inj e.2).symm)];exact⟨rfl,rfl⟩
theorem e2a {rd:Nat->BA}{d s:Nat}{top:BA}{op:BA->Int}{ot:BA->BA}(h:fol d s (slk rd (sl0 top) d s) top d=some (lH (rd (120+s)))):slGE rd 0 d s top op=op (rd (120+s))/\slGT rd 0 d s top ot=ot (rd (120+s)):=by
 have h':fol d s (λk=>rd (100+nd d s k)) top d=some (lH (rd (120+s))):=h;unfold slGE slGT;rw[qp rfl,qp h',qp ⟨rfl,h'⟩];exact⟨rfl,rfl⟩
end Go.Proofs.YtokknmkleceooaaGreatDoor
