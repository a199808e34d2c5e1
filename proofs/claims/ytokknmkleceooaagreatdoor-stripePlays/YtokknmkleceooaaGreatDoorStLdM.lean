import Derived.Test.YtokknmkleceooaaGreatDoorRsM
import Derived.Test.YtokknmkleceooaaGreatDoorStFM
namespace Go.Proofs.YtokknmkleceooaaGreatDoor
set_option linter.unusedVariables false
set_option maxRecDepth 20000
set_option maxHeartbeats 8000000
open Go.Proofs.Tryz
open Go.RowKit Go.PlainAid
theorem size47:(prog.info? 47).map (·.size)=some 6:=by kernel_rfl
theorem d0f (w:World):(zeroValue 47).run prog w=.ok (.agg #[.pointer none,.int .i64 0,.int .i64 0,.string noB,.string noB,.bool false]) w:=by
 obtain⟨i0,hi,hz⟩:=Option.map_eq_some_iff.1 (show(prog.info? 47).map (λi=>i.zero)=some (some (.agg #[.pointer none,.int .i64 0,.int .i64 0,.string noB,.string noB,.bool false])) by kernel_rfl);simp[zeroValue,typeInfo,hi,hz]
theorem c4d (n:Int)(g:Bool)(hg:g=true↔(2<=n/\n<=8))(w:World):Calls prog 26 #[.int .i64 n] w λe w'=>e=.returned (.bool g)/\w'=w:=by
 by_cases h1:2<=n
 ·by_cases h2:n<=8
  ·obtain rfl:g=true:=hg.2 ⟨h1,h2⟩;clear hg;go_enter func26,ntmps26;go_wp2;go_ret;exact⟨rfl,rfl⟩
  ·obtain rfl:g=false:=by
    cases g with
    |false=>rfl
    |true=>exact absurd (hg.1 rfl).2 h2
   clear hg;go_enter func26,ntmps26;go_wp2;go_ret;exact⟨rfl,rfl⟩
 ·obtain rfl:g=false:=by
   cases g with
   |false=>rfl
   |true=>exact absurd (hg.1 rfl).1 h1
  clear hg;go_enter func26,ntmps26;go_wp2;go_ret;exact⟨rfl,rfl⟩
theorem b1e (a:Option Addr)(n c:Nat)(g:Bool)(hg:g=true↔(4<=n/\n<=10))(hn:n<=9223372036854775807)(w:World):Calls prog 43 #[.slice a n c] w λe w'=>e=.returned (.bool g)/\w'=w:=by
 have h:=λz=>c4d ((n:Int)-2) g (by rw[hg];omega) z;clear hg;go_enter func43,ntmps43;go_wp2_with(go_at_call 26;refine(h _).mono ?_;rintro e w1 ⟨rfl,rfl⟩);go_ret;exact⟨rfl,rfl⟩
def GetIs (w:World)(g:Nat)(i n:Int)(key top:BA)(t:Int)(T:BA)(E:Int):Prop:=∀z,Below w.heap.size w z->Calls prog 23 #[slV (.pointer (some ⟨g,0,none⟩)) i n key,.string top,.int .i64 t] z λe w'=>e=.returned (.tuple #[.string T,.int .i64 E])/\Below z.heap.size z w'
def FetchIs (w:World)(g:Nat)(i n:Int)(key top:BA)(u:Bool)(t:Int)(T:BA)(E:Int):Prop:=∀z,Below w.heap.size w z->Calls prog 49 #[.agg #[.pointer (some ⟨g,0,none⟩),.int .i64 i,.int .i64 n,.string key,.string top,.bool u],.int .i64 t] z λe w'=>e=.returned (.tuple #[.string T,.int .i64 E])/\Below z.heap.size z w'
theorem d5a {w:World}{g:Nat}{i n:Int}{key top:BA}{t:Int}{T:BA}{E:Int}(h:GetIs w g i n key top t T E):FetchIs w g i n key top true t T E:=λz hz=>by
 have hb:Hid (Below z.heap.size z (z.alloc (.cells #[.pointer (some ⟨g,0,none⟩),.int .i64 i,.int .i64 n,.string key,.string top,.bool true] 47))):=(qw _ _).alloc (ql _) _;have hc:Hid (Calls _ _ _ _ _):=h _ (hz.trans (hb.out.mono hz.size));have hB:Hid (Blk _ _ _ _):=Blk.box z 47 [.pointer (some ⟨g,0,none⟩),.int .i64 i,.int .i64 n,.string key,.string top,.bool true];have hz4:Hid ((prog.info? 45).map (·.size)=some 4):=size45;have hR:Hid (World.rangeAt (z.alloc (.cells #[.pointer (some ⟨g,0,none⟩),.int .i64 i,.int .i64 n,.string key,.string top,.bool true] 47)) z.heap.size 0 [.pointer (some ⟨g,0,none⟩),.int .i64 i,.int .i64 n,.string key]):=λj v hv=>by
  match j,hv with
  |0,hv=>cases hv;exact hB.out.cell (i:=0) rfl
  |1,hv=>cases hv;exact hB.out.cell (i:=1) rfl
  |2,hv=>cases hv;exact hB.out.cell (i:=2) rfl
  |3,hv=>cases hv;exact hB.out.cell (i:=3) rfl
  |j+4,hv=>simp at hv
 have d4:=hB.out.cell (i:=4) rfl;have d5:=hB.out.cell (i:=5) rfl;go_enter func49,ntmps49;go_wp2_with(first
  |(refine wpList_load_mid rfl 45 _ rfl z.heap.size 0 rfl [.pointer (some ⟨g,0,none⟩),.int .i64 i,.int .i64 n,.string key] _ hR.out underlying45 rfl hz4.out ?_)
  |(go_at_call 23;refine hc.out.mono ?_;rintro e w1 ⟨rfl,hw⟩;have L1:Hid (Below z.heap.size z w1):=hb.out.trans (hw.mono hb.out.size);clear hw))
 go_ret2;exact⟨rfl,L1.out⟩
theorem e0f (w:World)(g:Nat)(i n:Int)(key top:BA)(t:Int):FetchIs w g i n key top false t noB 11:=λz hz=>by
 have hb:Hid (Below z.heap.size z (z.alloc (.cells #[.pointer (some ⟨g,0,none⟩),.int .i64 i,.int .i64 n,.string key,.string top,.bool false] 47))):=(qw _ _).alloc (ql _) _;have hB:Hid (Blk _ _ _ _):=Blk.box z 47 [.pointer (some ⟨g,0,none⟩),.int .i64 i,.int .i64 n,.string key,.string top,.bool false];have d5:=hB.out.cell (i:=5) rfl;go_enter func49,ntmps49;go_wp2_with fail;go_ret2;exact⟨rfl,hb.out⟩
theorem FetchIs.below {w w':World}{g:Nat}{i n:Int}{key top:BA}{u:Bool}{t:Int}{T:BA}{E:Int}(h:FetchIs w g i n key top u t T E)(hb:Below w.heap.size w w'):FetchIs w' g i n key top u t T E:=λz hz=>h z (hb.trans (hz.mono hb.size))
theorem d9j (a:Option Addr)(n c:Nat)(T:Nat->Bool)(w:World)(hn:n<=1000)(ha:Vals w a n λi=>.bool (T i)):Calls prog 97 #[.slice a n c,.bool false] w λe w'=>(∃z:Int,e=.returned (.int .i64 z)/\(0<=z↔∃i,i<n/\T i=false))/\w'=w:=by
 have HA:=ha.at;clear ha;go_enter func97,ntmps97;go_wp2_with fail;go_loop [8] (λi=>∃k:Nat,k<=n/\i=.int .i64 k/\Hid (∀j,j<k->T j=true)) (λi=>(n:Nat)-(intOf i).toNat)
 case atStart=>exact⟨0,Nat.zero_le _,rfl,λj hj=>by omega⟩
 case round=>
  obtain⟨k,hk,rfl,y7⟩:=hrel;by_cases p9:k<n
  ·obtain⟨b,o,rfl,e1⟩:=HA.out w (qw _ _) k p9;have kn:(k:Int)<(n:Int):=by omega
   cases hT:T k with
   |true=>
    rw[hT]at e1;go_wp2_with fail;go_round
    case rel=>exact⟨k+1,by omega,by go_num,λj hj=>by
     by_cases e:j=k
     ·rw[e];exact hT
     ·exact y7.out j (by omega)⟩
    case measure=>simp[intOf];omega
   |false=>
    rw[hT]at e1;go_wp2_with fail;go_ret;exact⟨⟨(k:Int),rfl,⟨λ_=>⟨k,p9,hT⟩,λ_=>by omega⟩⟩,rfl⟩
  ·have aM:k=n:=(by omega);subst aM;go_wp2_with fail;go_ret;exact⟨⟨-1,rfl,⟨λh=>by omega,λ⟨i,hi,h⟩=>by rw[y7.out i hi]at h;cases h⟩⟩,rfl⟩
theorem c0u (a:Option Addr)(n c:Nat)(T:Nat->Bool)(w:World)(hn:n<=1000)(ha:Vals w a n λi=>.bool (T i))(g:Bool)(hg:g=true↔∃i,i<n/\T i=false):Calls prog 50 #[.slice a n c,.bool false] w λe w'=>e=.returned (.bool g)/\w'=w:=by
 go_enter func50,ntmps50;go_wp2_with fail;go_at_call 97;refine(d9j a n c T w hn ha).mono ?_;rintro e w' ⟨⟨z,rfl,hz⟩,rfl⟩;have HZ:Hid (0<=z↔g=true):=by rw[hg];exact hz
 clear hz hg;go_wp2_with fail;go_ret;refine⟨congrArg (λb=>Ending.returned (.bool b)) ?_,rfl⟩;rw[Bool.eq_iff_iff];simpa using HZ.out
def misL (T:Nat->Bool)(n:Nat):List Nat:=(List.range n).filter λi=>!T i
theorem a6p (T:Nat->Bool)(n:Nat):misL T (n+1)=misL T n++if T n then []else [n]:=by
 unfold misL;rw[List.range_succ,List.filter_append]
 cases h:T n<;>simp[h]
def nmsL (l:List Nat):List Value:=l.map λ(i:Nat)=>.int .i64 (i:Int)
theorem c3p (T:Nat->Bool)(n:Nat):(misL T n).length<=n:=by
 have:=List.length_filter_le (λi=>!T i) (List.range n)
 rwa[List.length_range]at this
theorem b7c (T:Nat->Bool)(n:Nat):(misL T n).length+cnt T n=n:=by
 induction n with
 |zero=>rfl
 |succ n ih=>
  rw[a6p,List.length_append]
  cases h:T n<;>simp[cnt,h]<;>omega
theorem c3o (a:Option Addr)(n c:Nat)(T:Nat->Bool)(w:World)(hn:n<=1000)(ha:Vals w a n λi=>.bool (T i)):Calls prog 46 #[.slice a n c] w λe w'=>∃v,e=.returned v/\w'.ownsRow w.heap.size 3 1 v (misL T n).length (nmsL (misL T n))/\Below w.heap.size w w':=by
 obtain⟨i0,hi,hz0,hz1,hz2⟩:=info_parts (show(prog.info? 3).map (λi=>(i.zero,i.size,i.bytes))=some (some (.int .i64 0),1,8) by kernel_rfl);have HA:=ha.at;clear ha;go_enter func46,ntmps46;go_wp2_with fail;go_loopw[3,8] (λo i wr=>∃k:Nat,k<=n/\i=.int .i64 k/\Below w.heap.size w wr/\wr.ownsRow w.heap.size 3 1 o (misL T k).length (nmsL (misL T k))) (λ_ i _=>(n:Nat)-(intOf i).toNat)
 case atStart=>exact⟨0,Nat.zero_le _,rfl,qw _ _,World.ownsRow_nil _ _ _ _⟩
 case round=>
  obtain⟨k,hk,rfl,aS,q8⟩:=hrel;by_cases p9:k<n
  ·obtain⟨b,o',rfl,e1⟩:=HA.out wr aS k p9;have kn:(k:Int)<(n:Int):=(by omega);have lN:=c3p T k
   cases hT:T k with
   |true=>
    rw[hT]at e1;have HM:Hid (misL T (k+1)=misL T k):=(by show misL T (k+1)=_;rw[a6p,hT];simp);clear hT;go_wp2_with fail;go_roundw
    case rel=>exact⟨k+1,by omega,by go_num,aS,by rw[HM.out];exact q8⟩
    case measure=>simp[intOf];omega
   |false=>
    rw[hT]at e1;have HM:Hid (misL T (k+1)=misL T k++[k]):=(by show misL T (k+1)=_;rw[a6p,hT];simp);clear hT;have h1:Below wr.heap.size wr (wr.alloc (.cells #[.int .i64 (k:Int)] 3)):=(qw _ _).alloc (ql _) _;have aB:(wr.alloc (.cells #[.int .i64 (k:Int)] 3)).ownsRow w.heap.size 3 1 _ (misL T k).length (nmsL (misL T k)):=a0g q8 h1;have y9:∀j u,[Value.int .i64 (k:Int)][j]?=some u->(wr.alloc (.cells #[.int .i64 (k:Int)] 3)).cell? ((⟨wr.heap.size,0,none⟩:Addr).add j)=some u:=λj u hu=>by
     match j,hu with
     |0,hu=>simp at hu;subst hu;simp only[Addr.add];exact(Blk.new wr 3 #[.int .i64 (k:Int)]).cell rfl
    have HO:Hid _:=aB;have HNW:Hid _:=y9;clear q8 aB y9;go_wp2_with(at_builtin;refine wpList_append_own _ rfl _ _ 55 rfl w.heap.size 3 i0 (.int .i64 0) 1 8 underlying55 hi hz0 hz1 hz2 rfl (by decide) _ (misL T k).length _ rfl HO.out ⟨wr.heap.size,0,none⟩ 1 1 [.int .i64 (k:Int)] rfl rfl ?h1 ?h2 ?h3 ?h4 ?h5 ?_)
    case h1=>exact HNW.out
    case h2=>intro u hu;simp at hu;rw[hu];rfl
    case h3=>unfold maxLen;omega
    case h4=>omega
    case h5=>exact Nat.le_trans aS.size h1.size
    intro v' w3 aU q9 _;have hb3:Below w.heap.size w w3:=(aS.trans (h1.mono aS.size)).grown q9 (Nat.le_trans aS.size h1.size) (λb hb=>(World.ownsRow.lt HO.out b hb).1);go_wp2_with fail;go_roundw
    case rel=>exact⟨k+1,by omega,by go_num,hb3,by rw[HM.out];unfold nmsL;rw[List.map_append,List.length_append];exact aU⟩
    case measure=>simp[intOf];omega
  ·have aM:n=k:=(by omega);subst aM;go_wp2_with fail;go_ret;exact⟨_,rfl,q8,aS⟩
def b0g (w:World)(s:Sh)(t:Int)(T:BA)(E:Int):Prop:=FetchIs w s.g s.i s.n s.key s.top s.u t T E
def bolL (n:Nat)(f:Nat->Bool):List Value:=(List.range n).map λi=>.bool (f i)
theorem c4q (n:Nat)(f:Nat->Bool):(bolL n f).length=n:=by simp[bolL]
theorem d5x (n:Nat)(f:Nat->Bool)(i:Nat)(h:i<n):(bolL n f)[i]?=some (.bool (f i)):=by simp[bolL,h]
theorem c9v (n:Nat)(f f':Nat->Bool)(h:∀i,i<n->f i=f' i):bolL n f=bolL n f':=by
 unfold bolL;exact List.map_congr_left λi hi=>by rw[h i (List.mem_range.1 hi)]
theorem e0y (n:Nat)(f:Nat->Bool)(k:Nat)(s:Bool):(bolL n f).set k (.bool s)=bolL n (λj=>if j=k then s else f j):=by
 apply List.ext_getElem
 ·simp[bolL]
 ·intro i h1 h2;rw[List.getElem_set];simp only[bolL,List.getElem_map,List.getElem_range];by_cases e:k=i
  ·rw[qp e,qp e.symm]
  ·rw[qn e,qn (λh=>e h.symm)]
theorem d3n (n:Nat)(h:n<=512)(w:World):(Instr.makeSlice 107 (.int .i64 (n:Int)) (.int .i64 (n:Int))).run prog w=.ok (.slice (some ⟨w.heap.size,0,none⟩) n n) (w.alloc (.cells (bolL n λ_=>false).toArray 4)):=by
 obtain⟨i0,hi,hz0,hz1,hz2⟩:=info_parts (show(prog.info? 4).map (λi=>(i.zero,i.size,i.bytes))=some (some (.bool false),1,1) by kernel_rfl);have hr:=run_make (P:=prog) w 107 4 i0 (.bool false) underlying107 hi hz0 .i64 .i64 n n (by omega) (by omega) (by rw[hz2];omega) (by omega);rw[hz1,Int.toNat_natCast,show madeCells (Value.bool false).cells (n*1)=(bolL n λ_=>false).toArray from by
  apply Array.ext
  ·simp[madeCells,bolL]
  ·intro i h1 h2;simp[madeCells,bolL,Value.cells,Nat.mod_one]]at hr
 exact hr
def Tb (w z:World)(g1 g2 n:Nat)(f:Nat->BA)(q:Nat->Bool):Prop:=Hold w.heap.size w z (star (blkA g1 9 (strs n f)) (star (blkA g2 4 (bolL n q)) a0i))
section
variable {w z z':World}{g1 g2 n:Nat}{f:Nat->BA}{q:Nat->Bool}
theorem e3t:Firm (star (blkA g1 9 (strs n f)) (star (blkA g2 4 (bolL n q)) a0i)):=(a0e _ _ _).star ((a0e _ _ _).star a0c)
theorem Tb.below (h:Tb w z g1 g2 n f q)(hb:Below z.heap.size z z'):Tb w z' g1 g2 n f q:=Hold.below h e3t hb
theorem Tb.low (h:Tb w z g1 g2 n f q):Below w.heap.size w z:=Hold.low h
theorem Tb.b1 (h:Tb w z g1 g2 n f q):Blk z g1 9 (strs n f):=Hold.blk h
theorem Tb.b2 (h:Tb w z g1 g2 n f q):Blk z g2 4 (bolL n q):=Hold.blk (Hold.right h)
theorem Tb.set1 (h:Tb w z g1 g2 n f q)(k:Nat)(s:BA):Tb w (z.setCell ⟨g1,k,none⟩ (.string s)) g1 g2 n (upd f (k,s)) q:=by
 have:=Hold.setBlk ((a0e _ _ _).star a0c) h k (.string s);rw[a2y]at this;exact this
theorem Tb.set2 (h:Tb w z g1 g2 n f q)(k:Nat)(s:Bool):Tb w (z.setCell ⟨g2,k,none⟩ (.bool s)) g1 g2 n f (λj=>if j=k then s else q j):=by
 have:=Hold.setBlk ((a0e _ _ _).star a0c) (Hold.swap h) k (.bool s);rw[e0y]at this;exact this.swap
theorem Tb.congr (h:Tb w z g1 g2 n f q){f':Nat->BA}{q':Nat->Bool}(e1:∀i,i<n->f i=f' i)(e2:∀i,i<n->q i=q' i):Tb w z g1 g2 n f' q':=by
 unfold Tb at h;rw[a1d n f f' e1,c9v n q q' e2]at h;exact h
theorem tb_a (w:World)(n:Nat)(f:Nat->BA)(q:Nat->Bool):Tb w ((w.alloc (.cells (strs n f).toArray 9)).alloc (.cells (bolL n q).toArray 4)) w.heap.size (w.heap.size+1) n f q:=by
 have h0:=a1k w.heap.size w w (ql _) (qw _ _);have h1:=h0.newBlk a0c 9 (strs n f).toArray;have h2:=h1.newBlk ((a0e _ _ _).star a0c) 4 (bolL n q).toArray;rw[List.toList_toArray,List.toList_toArray]at h2;rw[show(w.alloc (.cells (strs n f).toArray 9)).heap.size=w.heap.size+1 by simp]at h2;exact(h2.swap:Hold _ _ _ _)
theorem tb_b (w:World)(n:Nat)(f:Nat->BA)(q:Nat->Bool):Tb w ((w.alloc (.cells (bolL n q).toArray 4)).alloc (.cells (strs n f).toArray 9)) (w.heap.size+1) w.heap.size n f q:=by
 have h0:=a1k w.heap.size w w (ql _) (qw _ _);have h1:=h0.newBlk a0c 4 (bolL n q).toArray;have h2:=h1.newBlk ((a0e _ _ _).star a0c) 9 (strs n f).toArray;rw[List.toList_toArray,List.toList_toArray]at h2;rw[show(w.alloc (.cells (bolL n q).toArray 4)).heap.size=w.heap.size+1 by simp]at h2;exact h2
end
def gaT (T:Nat->BA)(k:Nat)(i:Nat):BA:=if i<k then T i else noB
def gaB (E:Nat->Int)(k:Nat)(i:Nat):Bool:=if i<k then decide (E i=0)else false
theorem d9y (T:Nat->BA)(k:Nat)(s:BA)(hs:T k=s):upd (gaT T k) (k,s)=gaT T (k+1):=by
 funext j;unfold upd gaT;show(if j=k then s else _)=_;by_cases e:j=k
 ·rw[qp e,qp (by omega),e,hs]
 ·rw[qn e];by_cases h:j<k
  ·rw[qp h,qp (by omega)]
  ·rw[qn h,qn (by omega)]
theorem d9z (E:Nat->Int)(k:Nat)(s:Bool)(hs:decide (E k=0)=s):(λj=>if j=k then s else gaB E k j)=gaB E (k+1):=by
 funext j;unfold gaB;by_cases e:j=k
 ·rw[qp e,qp (by omega),e,hs]
 ·rw[qn e];by_cases h:j<k
  ·rw[qp h,qp (by omega)]
  ·rw[qn h,qn (by omega)]
theorem b5s (h c n:Nat)(t:Int)(w:World)(hn:n<=512)(S:Nat->Sh)(T:Nat->BA)(E:Nat->Int)(hS:ShAt w h n S)(hF:∀i,i<n->b0g w (S i) t (T i) (E i)):
 Calls prog 44 #[.slice (some ⟨h,0,none⟩) n c,.int .i64 t] w λe w'=>Below w.heap.size w w'/\((∃i,i<n/\E i=21)/\e=.returned (.tuple #[.slice none 0 0,.slice none 0 0,.int .i64 21])\/
  (∀i,i<n->E i≠21)/\∃g1 g2,e=.returned (.tuple #[.slice (some ⟨g1,0,none⟩) n n,.slice (some ⟨g2,0,none⟩) n n,.int .i64 0])/\Blk w' g1 9 (strs n T)/\Blk w' g2 4 (bolL n λi=>decide (E i=0))):=by
 have hm1:=a9q n hn;have hm2:=d3n n hn;have HS:Hid (ShAt w h n S):=hS;have HF:Hid (∀i,i<n->b0g w (S i) t (T i) (E i)):=hF;have HA:Hid (Tb w _ _ _ n (λ_=>noB) (λ_=>false)):=(tb_a w n (λ_=>noB) (λ_=>false)).below (qw _ _).drew;have HB:Hid (Tb w _ _ _ n (λ_=>noB) (λ_=>false)):=(tb_b w n (λ_=>noB) (λ_=>false)).below (qw _ _).drew;have HZ:Hid ((prog.info? 47).map (·.size)=some 6):=size47;have hzw:=d0f;clear hS hF;go_enter func44,ntmps44;go_upto_region 1 with fail
 go_cut[7,8]from 21 (λx y wc=>∃g1 g2,x=.slice (some ⟨g1,0,none⟩) n n/\y=.slice (some ⟨g2,0,none⟩) n n/\Tb w wc g1 g2 n (λ_=>noB) (λ_=>false))
 case first=>
  go_region
  all_goals(go_wp2_with fail;go_meet;first|exact⟨_,_,rfl,rfl,HA.out⟩|exact⟨_,_,rfl,rfl,HB.out⟩)
 case rest=>
  obtain⟨g1,g2,rfl,rfl,hX⟩:=hcut;clear HA HB hm1 hm2;have hX0:Tb w wc g1 g2 n (gaT T 0) (gaB E 0):=hX.congr (λi hi=>by unfold gaT;rw[qn (by omega)]) (λi hi=>by unfold gaB;rw[qn (by omega)]);clear hX;go_wp2_with fail;go_loopw[21] (λi wr=>∃k:Nat,k<=n/\i=.int .i64 k/\Hid (∀j,j<k->E j≠21)/\Hid (Tb w wr g1 g2 n (gaT T k) (gaB E k))) (λi _=>(n:Nat)-(intOf i).toNat)
  case atStart=>exact⟨0,Nat.zero_le _,rfl,λj hj=>by omega,hX0⟩
  case round=>
   clear hX0;obtain⟨k,hk,rfl,aW,HT⟩:=hrel;by_cases p9:k<n
   ·have hs:=λz hz=>HS.out z hz k p9;have hf:=HF.out k p9;have hT:Hid (∀s,T k=s->upd (gaT T k) (k,s)=gaT T (k+1)):=λs hs=>d9y T k s hs;have hE:Hid (∀s,decide (E k=0)=s->(λj=>if j=k then s else gaB E k j)=gaB E (k+1)):=λs hs=>d9z E k s hs;unfold b0g at hf;simp only[Sh.L]at hs;generalize(S k).g=sg at hs hf;generalize(S k).i=si at hs hf;generalize(S k).n=sn at hs hf;generalize(S k).key=sk at hs hf;generalize(S k).top=sp at hs hf;generalize(S k).u=su at hs hf;have kn:(k:Int)<(n:Int):=(by omega);have HR:Hid (World.rangeAt wr h (k*6) _):=hs wr HT.out.low;have L1:Hid (Below wr.heap.size wr (wr.alloc (.cells [.pointer (some ⟨sg,0,none⟩),.int .i64 si,.int .i64 sn,.string sk,.string sp,.bool su].toArray 47))):=(qw _ _).alloc (ql _) _;have HT1:=HT.out.below L1.out;have HTa:Hid (Tb w _ g1 g2 n (gaT T k) (gaB E k)):=HT1;have HC:Hid (Calls _ _ _ _ _):=hf _ HT1.low;have HBx:Hid (Blk _ _ _ _):=Blk.box wr 47 [.pointer (some ⟨sg,0,none⟩),.int .i64 si,.int .i64 sn,.string sk,.string sp,.bool su];have hw2:=a2d wr [.pointer none,.int .i64 0,.int .i64 0,.string noB,.string noB,.bool false] [.pointer (some ⟨sg,0,none⟩),.int .i64 si,.int .i64 sn,.string sk,.string sp,.bool su] 47;obtain⟨Tk,cT⟩:∃x,T k=x:=⟨_,rfl⟩;obtain⟨Ek,eZ⟩:∃x,E k=x:=⟨_,rfl⟩;rw[cT,eZ]at HC;have dQ:Hid (T k=Tk/\E k=Ek):=⟨cT,eZ⟩;clear hs hf cT eZ HT1;go_upto_region 6 with(first
     |(refine wpList_load_mid rfl 47 _ rfl h (k*6) rfl _ _ HR.out underlying47 rfl HZ.out ?_)
     |(refine a0b rfl 47 _ _ rfl wr.heap.size [.pointer none,.int .i64 0,.int .i64 0,.string noB,.string noB,.bool false] [.pointer (some ⟨sg,0,none⟩),.int .i64 si,.int .i64 sn,.string sk,.string sp,.bool su] rfl rfl 47 (Blk.box _ _ _) HZ.out rfl (b2z _ _ _ _ _ _) ?_;rw[hw2];clear hw2)
     |(refine a0a rfl 47 _ rfl wr.heap.size rfl 47 [.pointer (some ⟨sg,0,none⟩),.int .i64 si,.int .i64 sn,.string sk,.string sp,.bool su] _ HBx.out underlying47 rfl HZ.out ?_)
     |(go_at_call 49;refine HC.out.mono ?_;rintro e w3 ⟨rfl,hb3⟩;have H3:Hid (Tb w w3 g1 g2 n (gaT T k) (gaB E k)):=HTa.out.below hb3;clear hb3 HTa HC HBx))
    clear HS HF HR L1;by_cases h21:Ek=21
    ·subst h21;go_wp2_with fail;go_ret3;exact⟨H3.out.low,.inl ⟨⟨k,p9,dQ.out.2⟩,rfl⟩⟩
    ·obtain⟨v1,c1⟩:=H3.out.b1.hasCell k (by rw[a0o];exact p9);have f1:=H3.out.b1.frozen k;have H4:Hid (Tb w (w3.setCell ⟨g1,k,none⟩ (.string Tk)) g1 g2 n (gaT T (k+1)) (gaB E k)):=by
      show Tb _ _ _ _ _ _ _;rw[<-hT.out Tk dQ.out.1];exact H3.out.set1 k Tk
     obtain⟨v2,c2⟩:=H4.out.b2.hasCell k (by rw[c4q];exact p9);have f2:=H4.out.b2.frozen k;have H5:Hid (Tb w ((w3.setCell ⟨g1,k,none⟩ (.string Tk)).setCell ⟨g2,k,none⟩ (.bool (decide (Ek=0)))) g1 g2 n (gaT T (k+1)) (gaB E (k+1))):=by
      show Tb _ _ _ _ _ _ _;rw[<-hE.out (decide (Ek=0)) (by rw[dQ.out.2])];exact H4.out.set2 k _
     go_wp2_with fail;go_roundw
     case rel=>exact⟨k+1,by omega,by go_num,λj hj=>by
      by_cases e:j=k
      ·rw[e,dQ.out.2];exact h21
      ·exact aW.out j (by omega),H5.out⟩
     case measure=>simp[intOf];omega
   ·obtain rfl:n=k:=(by omega);have H3:Tb w wr g1 g2 n T (λi=>decide (E i=0)):=HT.out.congr (λi hi=>by unfold gaT;rw[qp hi]) (λi hi=>by unfold gaB;rw[qp hi]);have H4:Hid _:=H3;clear H3 HS HF;go_wp2_with fail;go_ret3;exact⟨Tb.low H4.out,.inr ⟨aW.out,g1,g2,rfl,Tb.b1 H4.out,Tb.b2 H4.out⟩⟩
def DecR (n:Nat)(T:Nat->BA)(U:Nat->Bool)(er:Int)(F:Nat->BA):Prop:=
 (cnt U n<n-2/\er=24)\/
 (n-2<=cnt U n/\meaE (cnt U n) (λr=>(T (kidx U n r)).size)≠0/\er=meaE (cnt U n) (λr=>(T (kidx U n r)).size))\/
 (n-2<=cnt U n/\meaE (cnt U n) (λr=>(T (kidx U n r)).size)=0/\er=0/\∃D,Fits (n-2) U (T (kidx U n 0)).size (λi=>teE (T i)) D/\F=λi=>strE (T (kidx U n 0)).size (St (n-2) D i))
theorem DecR.one {n:Nat}{T:Nat->BA}{U:Nat->Bool}{er er':Int}{F F':Nat->BA}(hn:4<=n/\n<=10)(h:DecR n T U er F)(h':DecR n T U er' F'):er=er'/\(er=0->F=F'):=by
 rcases h with⟨a1,rfl⟩|⟨a1,a2,rfl⟩|⟨a1,a2,rfl,D,a3,a4⟩<;>rcases h' with⟨b1,rfl⟩|⟨b1,b2,rfl⟩|⟨b1,b2,rfl,D',b3,b4⟩
 ·exact⟨rfl,λh=>by cases h⟩
 ·omega
 ·omega
 ·omega
 ·exact⟨rfl,λh=>absurd h a2⟩
 ·exact absurd b2 a2
 ·omega
 ·exact absurd a2 b2
 ·refine⟨rfl,λ_=>?_⟩;rw[a4,b4];funext i;exact a1j λc hc=>c6f (by omega) (by rw[show n-2+2=n by omega];exact a1) a3 b3 i c hc
def LdR (n:Nat)(T:Nat->BA)(E:Nat->Int)(er:Int)(F:Nat->BA):Prop:=
 (¬(4<=n/\n<=10)/\er=2)\/((4<=n/\n<=10)/\(∃i,i<n/\E i=21)/\er=21)\/((4<=n/\n<=10)/\(∀i,i<n->E i≠21)/\DecR n T (λi=>decide (E i=0)) er F)
theorem LdR.one {n:Nat}{T:Nat->BA}{E:Nat->Int}{er er':Int}{F F':Nat->BA}(h:LdR n T E er F)(h':LdR n T E er' F'):er=er'/\(er=0->F=F'):=by
 rcases h with⟨a1,rfl⟩|⟨a1,⟨i,ai,a2⟩,rfl⟩|⟨a1,a2,a3⟩<;>rcases h' with⟨b1,rfl⟩|⟨b1,⟨j,bi,b2⟩,rfl⟩|⟨b1,b2,b3⟩
 ·exact⟨rfl,λh=>by cases h⟩
 ·exact absurd b1 a1
 ·exact absurd b1 a1
 ·exact absurd a1 b1
 ·exact⟨rfl,λh=>by cases h⟩
 ·exact absurd a2 (b2 i ai)
 ·exact absurd a1 b1
 ·exact absurd b2 (a2 j bi)
 ·exact a3.one a1 b3
def OnR (n:Nat)(T:Nat->BA)(E:Nat->Int)(ch:Int)(s:BA)(er:Int):Prop:=
 (¬((4<=n/\n<=10)/\0<=ch/\ch<(n:Int))/\s=noB/\er=2)\/
 (∃k:Nat,ch=(k:Int)/\(4<=n/\n<=10)/\k<n/\((E k=0\/E k=21)/\s=T k/\er=E k\/¬(E k=0\/E k=21)/\∃F,LdR n T E er F/\s=if er=0 then F k else noB))
theorem OnR.one {n:Nat}{T:Nat->BA}{E:Nat->Int}{ch er er':Int}{s s':BA}(h:OnR n T E ch s er)(h':OnR n T E ch s' er'):er=er'/\s=s':=by
 rcases h with⟨a1,rfl,rfl⟩|⟨k,rfl,a1,ak,a2⟩<;>rcases h' with⟨b1,rfl,rfl⟩|⟨j,e,b1,bj,b2⟩
 ·exact⟨rfl,rfl⟩
 ·exact absurd ⟨b1,by omega,by omega⟩ a1
 ·exact absurd ⟨a1,by omega,by omega⟩ b1
 ·obtain rfl:k=j:=by omega
  rcases a2 with⟨a3,rfl,rfl⟩|⟨a3,F,a4,rfl⟩<;>rcases b2 with⟨b3,rfl,rfl⟩|⟨b3,F',b4,rfl⟩
  ·exact⟨rfl,rfl⟩
  ·exact absurd a3 b3
  ·exact absurd b3 a3
  ·obtain⟨e1,e2⟩:=a4.one b4;subst e1;refine⟨rfl,?_⟩;by_cases h0:er=0
   ·rw[qp h0,qp h0,e2 h0]
   ·rw[qn h0,qn h0]
def whB (n:Nat)(T:Nat->BA)(E:Nat->Int):Bool:=decide ((4<=n/\n<=10)/\(∀i,i<n->E i=0)/\chkB n (λi=>(T i).size) (λi=>teE (T i))=true)
theorem d0s {w:World}{g n:Nat}{T:Nat->BA}(h:Blk w g 9 (strs n T))(hs:∀i,i<n->(T i).size<=9223372036854775807):TxtAt w (some ⟨g,0,none⟩) n (λi=>(T i).size) (λi=>teE (T i)):=
 ⟨.inr ⟨g,0,rfl,λi hi=>by rw[Nat.zero_add];show _=some (Value.string (strE (T i).size (teE (T i))));rw[b0n];exact h.cell (a0s n T i hi)⟩,hs⟩
theorem b1z {w:World}{g n:Nat}{U:Nat->Bool}(h:Blk w g 4 (bolL n U)):Vals w (some ⟨g,0,none⟩) n λi=>.bool (U i):=
 .inr ⟨g,0,rfl,λi hi=>by rw[Nat.zero_add];exact h.cell (d5x n U i hi)⟩
theorem c9m {w:World}{g1 g2 n:Nat}{T:Nat->BA}{U:Nat->Bool}(h1:Blk w g1 9 (strs n T))(h2:Blk w g2 4 (bolL n U))(hs:∀i,i<n->(T i).size<=9223372036854775807)(hn:4<=n/\n<=10):
 Calls prog 45 #[.slice (some ⟨g1,0,none⟩) n n,.slice (some ⟨g2,0,none⟩) n n] w λe w'=>Below w.heap.size w w'/\∃v er F,e=.returned (.tuple #[v,.int .i64 er])/\DecR n T U er F/\(er≠0->v=.slice none 0 0)/\(er=0->w'.ownsRow w.heap.size 9 1 v n (strs n F)):=by
 refine(c9n _ _ n n n n _ _ U w (by omega) (by omega) (d0s h1 hs) (b1z h2)).mono ?_;rintro e w' ⟨hb,v,er,rfl,⟨a1,rfl,rfl⟩|⟨-,a2,rfl,rfl⟩|⟨-,a2,a3,rfl,rfl⟩|⟨-,a2,a3,rfl,D,a4,a5⟩⟩
 ·exact absurd ⟨by omega,by omega,rfl⟩ a1
 ·exact⟨hb,_,_,λ_=>noB,rfl,.inl ⟨a2,rfl⟩,λ_=>rfl,λh=>by cases h⟩
 ·exact⟨hb,_,_,λ_=>noB,rfl,.inr (.inl ⟨a2,a3,rfl⟩),λ_=>rfl,λh=>absurd h a3⟩
 ·exact⟨hb,_,_,_,rfl,.inr (.inr ⟨a2,a3,rfl,D,a4,rfl⟩),λh=>absurd rfl h,λ_=>a5⟩
theorem b7g (h c n:Nat)(t:Int)(w:World)(hn:n<=512)(S:Nat->Sh)(T:Nat->BA)(E:Nat->Int)(hS:ShAt w h n S)(hF:∀i,i<n->b0g w (S i) t (T i) (E i))(hs:∀i,i<n->(T i).size<=9223372036854775807):
 Calls prog 17 #[.slice (some ⟨h,0,none⟩) n c,.int .i64 t] w λe w'=>Below w.heap.size w w'/\∃v1 v2 er F,e=.returned (.tuple #[v1,v2,.int .i64 er])/\LdR n T E er F/\(er≠0->v1=.slice none 0 0/\v2=.slice none 0 0)/\
  (er=0->w'.ownsRow w.heap.size 9 1 v1 n (strs n F)/\w'.ownsRow w.heap.size 3 1 v2 (misL (λi=>decide (E i=0)) n).length (nmsL (misL (λi=>decide (E i=0)) n))):=by
 by_cases aG:4<=n/\n<=10
 ·have ha:=λz=>b1e (some ⟨h,0,none⟩) n c true (by simp[aG]) (by omega) z;have hg:=b5s h c n t w hn S T E hS hF;have HK:Hid (4<=n/\n<=10):=aG;have gH:Hid (∀i,i<n->(T i).size<=9223372036854775807):=hs;clear aG hS hF hs;go_enter func17,ntmps17;go_wp2_with(go_at_call 43;refine(ha _).mono ?_;rintro e wa ⟨rfl,aP⟩;rw[aP];clear aP wa);go_at_call 44;refine hg.mono ?_;rintro e w1 ⟨hb1,⟨h21,rfl⟩|⟨aW,g1,g2,rfl,B1,B2⟩⟩
  ·have H21:Hid (∃i,i<n/\E i=21):=h21;clear hg h21;go_wp2_with fail;go_ret3;exact⟨hb1,_,_,_,λ_=>noB,rfl,.inr (.inl ⟨HK.out,H21.out,rfl⟩),λ_=>⟨rfl,rfl⟩,λh=>by cases h⟩
  ·have HB1:Hid (Below w.heap.size w w1):=hb1;have HNO:Hid (∀i,i<n->E i≠21):=aW;have HB2:Hid (Blk w1 g2 4 (bolL n λi=>decide (E i=0))):=B2;have hd:=c9m B1 B2 gH.out HK.out;clear hg hb1 aW B1 B2 ha;go_wp2_with fail;go_at_call 45;refine hd.mono ?_;rintro e w2 ⟨hb2,v,er,F,rfl,hD,hv0,hv1⟩;have HB3:Hid (Below w1.heap.size w1 w2):=hb2;have HL:Hid (LdR n T E er F):=.inr (.inr ⟨HK.out,HNO.out,hD⟩);have HV1:Hid (er=0->w2.ownsRow w1.heap.size 9 1 v n (strs n F)):=hv1;clear hd hb2 hD hv1 hv0;by_cases cI:er=0
   ·subst cI;have hm:=c3o (some ⟨g2,0,none⟩) n n (λi=>decide (E i=0)) w2 (by have:=HK.out;omega) (b1z (HB2.out.below HB3.out HB2.out.lt));have HM:Hid (Calls _ _ _ _ _):=hm;clear hm;go_wp2_with(go_at_call 46;refine HM.out.mono ?_;rintro e w3 ⟨v2,rfl,hr3,hb3⟩;have HR3:Hid (w3.ownsRow w2.heap.size 3 1 v2 _ _):=hr3;have HB4:Hid (Below w2.heap.size w2 w3):=hb3;clear hr3 hb3 HM);go_ret3;have hb12:=HB1.out.trans (HB3.out.mono HB1.out.size);exact⟨hb12.trans (HB4.out.mono hb12.size),_,_,_,F,rfl,HL.out,λh=>absurd rfl h,λ_=>⟨a7g (a0g (HV1.out (by trivial)) HB4.out) HB1.out.size,a7g HR3.out hb12.size⟩⟩
   ·go_wp2_with fail;go_ret3;exact⟨HB1.out.trans (HB3.out.mono HB1.out.size),_,_,_,F,rfl,HL.out,λ_=>⟨rfl,rfl⟩,λh=>absurd h cI⟩
 ·have ha:=λz=>b1e (some ⟨h,0,none⟩) n c false (by simp;omega) (by omega) z;have HK:Hid (¬(4<=n/\n<=10)):=aG;clear aG hS hF hs;go_enter func17,ntmps17;go_wp2_with(go_at_call 43;refine(ha _).mono ?_;rintro e wa ⟨rfl,aP⟩;rw[aP];clear aP wa);go_ret3;exact⟨qw _ _,_,_,_,λ_=>noB,rfl,.inl ⟨HK.out,rfl⟩,λ_=>⟨rfl,rfl⟩,λh=>by cases h⟩
theorem e4v (h c n:Nat)(t ch:Int)(w:World)(hn:n<=512)(S:Nat->Sh)(T:Nat->BA)(E:Nat->Int)(hS:ShAt w h n S)(hF:∀i,i<n->b0g w (S i) t (T i) (E i))(hs:∀i,i<n->(T i).size<=9223372036854775807):
 Calls prog 19 #[.slice (some ⟨h,0,none⟩) n c,.int .i64 t,.int .i64 ch] w λe w'=>Below w.heap.size w w'/\∃s er,e=.returned (.tuple #[.string s,.int .i64 er])/\OnR n T E ch s er:=by
 by_cases aG:4<=n/\n<=10
 ·have ha:=λz=>b1e (some ⟨h,0,none⟩) n c true (by simp[aG]) (by omega) z;by_cases hc:0<=ch/\ch<(n:Int)
  ·obtain⟨k,rfl⟩:∃k:Nat,ch=(k:Int):=⟨ch.toNat,by omega⟩;have p9:k<n:=(by omega);have hr:=hS w (qw _ _) k p9;have hf:=hF k p9;have hl:=λz (hz:Below w.heap.size w z)=>b7g h c n t z hn S T E (hS.below hz) (λi hi=>(hF i hi).below hz) hs;have HK:Hid (4<=n/\n<=10):=aG;have HZ:Hid ((prog.info? 47).map (·.size)=some 6):=size47;unfold b0g at hf;simp only[Sh.L]at hr;generalize(S k).g=sg at hr hf;generalize(S k).i=si at hr hf;generalize(S k).n=sn at hr hf;generalize(S k).key=sk at hr hf;generalize(S k).top=sp at hr hf;generalize(S k).u=su at hr hf;have HR:Hid (World.rangeAt w h (k*6) _):=hr;have HC:Hid (Calls _ _ _ _ _):=hf w (qw _ _);have HL:Hid (∀z,Below w.heap.size w z->Calls _ _ _ z _):=hl;obtain⟨Tk,cT⟩:∃x,T k=x:=⟨_,rfl⟩;obtain⟨Ek,eZ⟩:∃x,E k=x:=⟨_,rfl⟩;rw[cT,eZ]at HC;have dQ:Hid (T k=Tk/\E k=Ek):=⟨cT,eZ⟩;have c1:¬(k:Int)<0:=(by omega);have c2:¬(n:Int)<=(k:Int):=(by omega);have c3:(k:Int)<(n:Int):=(by omega);have fC:Hid (k<n):=p9;clear aG hc hS hF hs hr hf hl cT eZ p9;go_enter func19,ntmps19;go_upto_region 4 with(first
    |(go_at_call 43;refine(ha _).mono ?_;rintro e wa ⟨rfl,aP⟩;rw[aP];clear aP wa)
    |(refine wpList_load_mid rfl 47 _ rfl h (k*6) rfl _ _ HR.out underlying47 rfl HZ.out ?_)
    |(go_at_call 49;refine HC.out.mono ?_;rintro e w1 ⟨rfl,hb1⟩;have HB1:Hid (Below w.heap.size w w1):=hb1;clear hb1 HC))
   by_cases h0:Ek=0
   ·subst h0;go_wp2_with fail;go_ret2;exact⟨HB1.out,_,_,rfl,.inr ⟨k,rfl,HK.out,fC.out,.inl ⟨.inl dQ.out.2,dQ.out.1.symm,dQ.out.2.symm⟩⟩⟩
   ·by_cases h21:Ek=21
    ·subst h21;go_wp2_with fail;go_ret2;exact⟨HB1.out,_,_,rfl,.inr ⟨k,rfl,HK.out,fC.out,.inl ⟨.inr dQ.out.2,dQ.out.1.symm,dQ.out.2.symm⟩⟩⟩
    ·have e0:(Ek==0)=false:=(by simpa using h0);have e21:(Ek==21)=false:=(by simpa using h21);go_wp2_with fail;go_at_call 17;refine(HL.out _ HB1.out).mono ?_;rintro e w2 ⟨hb2,v1,v2,er,F,rfl,hD,hv0,hv1⟩;have HB2:Hid (Below w.heap.size w w2):=HB1.out.trans (hb2.mono HB1.out.size);have HD:Hid (OnR n T E (k:Int) (if er=0 then F k else noB) er):=.inr ⟨k,rfl,HK.out,fC.out,.inr ⟨by rw[dQ.out.2];omega,F,hD,rfl⟩⟩;by_cases cI:er=0
     ·subst cI;obtain⟨hv1,-⟩:=hv1 rfl;obtain⟨a1,d1,rfl⟩:=a2a hv1;obtain⟨o1,c4⟩:∃o1,a1=some ⟨o1,0,none⟩/\w2.cell? ⟨o1,k,none⟩=some (.string (F k)):=by
       rcases hv1.2 with⟨e0,_⟩|⟨g,cap,cur,e0,_⟩
       ·cases e0;have:=HK.out;omega
       ·cases e0
        refine⟨g,rfl,?_⟩;have:=hv1.cellAt k (by have:=fC.out;omega);rw[this];exact a0s n F k fC.out
      obtain⟨rfl,c5⟩:=c4;rw[qp rfl]at HD;clear hb2 hD hv0 hv1;go_wp2_with fail;go_ret2;exact⟨HB2.out,_,_,rfl,HD.out⟩
     ·rw[qn cI]at HD;clear hb2 hD hv0 hv1;go_wp2_with fail;go_ret2;exact⟨HB2.out,_,_,rfl,HD.out⟩
  ·have HN:Hid (¬((4<=n/\n<=10)/\0<=ch/\ch<(n:Int))):=λh=>hc h.2;clear hS hF hs aG;by_cases h1:ch<0
   ·clear hc;go_enter func19,ntmps19;go_wp2_with(go_at_call 43;refine(ha _).mono ?_;rintro e wa ⟨rfl,aP⟩;rw[aP];clear aP wa);go_ret2;exact⟨qw _ _,_,_,rfl,.inl ⟨HN.out,rfl,rfl⟩⟩
   ·have h2:(n:Int)<=ch:=(by omega);clear hc;go_enter func19,ntmps19;go_wp2_with(go_at_call 43;refine(ha _).mono ?_;rintro e wa ⟨rfl,aP⟩;rw[aP];clear aP wa);go_ret2;exact⟨qw _ _,_,_,rfl,.inl ⟨HN.out,rfl,rfl⟩⟩
 ·have ha:=λz=>b1e (some ⟨h,0,none⟩) n c false (by simp;omega) (by omega) z;have HN:Hid (¬((4<=n/\n<=10)/\0<=ch/\ch<(n:Int))):=λh=>aG h.1;clear aG hS hF hs;go_enter func19,ntmps19;go_wp2_with(go_at_call 43;refine(ha _).mono ?_;rintro e wa ⟨rfl,aP⟩;rw[aP];clear aP wa);go_ret2;exact⟨qw _ _,_,_,rfl,.inl ⟨HN.out,rfl,rfl⟩⟩
theorem b8o {n:Nat}{T:Nat->BA}{E:Nat->Int}(h:¬((4<=n/\n<=10)/\∀i,i<n->E i=0)):whB n T E=false:=decide_eq_false λh'=>h ⟨h'.1,h'.2.1⟩
theorem d0n (h c n:Nat)(t:Int)(w:World)(hn:n<=512)(S:Nat->Sh)(T:Nat->BA)(E:Nat->Int)(hS:ShAt w h n S)(hF:∀i,i<n->b0g w (S i) t (T i) (E i))(hs:∀i,i<n->(T i).size<=9223372036854775807):
 Calls prog 21 #[.slice (some ⟨h,0,none⟩) n c,.int .i64 t] w λe w'=>Below w.heap.size w w'/\e=.returned (.bool (whB n T E)):=by
 by_cases aG:4<=n/\n<=10
 ·have ha:=λz=>b1e (some ⟨h,0,none⟩) n c true (by simp[aG]) (by omega) z;have hg:=b5s h c n t w hn S T E hS hF;have HK:Hid (4<=n/\n<=10):=aG;have gH:Hid (∀i,i<n->(T i).size<=9223372036854775807):=hs;clear aG hS hF hs;go_enter func21,ntmps21;go_wp2_with(go_at_call 43;refine(ha _).mono ?_;rintro e wa ⟨rfl,aP⟩;rw[aP];clear aP wa);go_at_call 44;refine hg.mono ?_;rintro e w1 ⟨hb1,⟨⟨i,hi,h21⟩,rfl⟩|⟨aW,g1,g2,rfl,B1,B2⟩⟩
  ·have HW:Hid (whB n T E=false):=b8o λh'=>(by have:=h'.2 i hi;omega);clear hg h21 hi;go_wp2_with fail;go_ret;rw[HW.out];exact⟨hb1,rfl⟩
  ·have HB1:Hid (Below w.heap.size w w1):=hb1;have n12:n<=1000:=(by have:=HK.out;omega);by_cases hz:∀i,i<n->E i=0
   ·have nZ:=c0u (some ⟨g2,0,none⟩) n n (λi=>decide (E i=0)) w1 n12 (b1z B2) false (Iff.intro (λh=>by cases h) (λ⟨i,hi,h⟩=>by simp[hz i hi]at h));have fI:=d5m (some ⟨g1,0,none⟩) n n _ _ w1 (ql _) (by omega) (d0s B1 gH.out);have HW:Hid (whB n T E=chkB n (λi=>(T i).size) (λi=>teE (T i))):=by
     show _=_;unfold whB
     cases h:chkB n (λi=>(T i).size) (λi=>teE (T i))with
     |true=>exact decide_eq_true ⟨HK.out,hz,rfl⟩
     |false=>exact decide_eq_false λh'=>by cases h'.2.2
    have mU:Hid (Calls _ _ _ _ _):=fI;have HCB:Hid (Calls _ _ _ _ _):=nZ;clear hg aW B1 B2 hz nZ fI hb1;generalize chkB n (λi=>(T i).size) (λi=>teE (T i))=q at*;go_wp2_with(first
     |(go_at_call 50;refine HCB.out.mono ?_;rintro e wa ⟨rfl,aP⟩;rw[aP];clear aP wa)
     |(go_at_call 51;refine mU.out.mono ?_;rintro e w2 ⟨hb2,rfl⟩;have HB2:Hid (Below w.heap.size w w2):=HB1.out.trans (hb2.mono HB1.out.size);clear hb2))
    go_ret;rw[HW.out];exact⟨HB2.out,rfl⟩
   ·have nZ:=c0u (some ⟨g2,0,none⟩) n n (λi=>decide (E i=0)) w1 n12 (b1z B2) true (Iff.intro (λ_=>by
     apply Classical.byContradiction;intro h';exact hz λi hi=>by
      apply Classical.byContradiction;intro h2;exact h' ⟨i,hi,decide_eq_false h2⟩) (λ_=>rfl))
    have HW:Hid (whB n T E=false):=b8o λh'=>hz h'.2;have HCB:Hid (Calls _ _ _ _ _):=nZ;clear hg aW B1 B2 hz nZ hb1;go_wp2_with(go_at_call 50;refine HCB.out.mono ?_;rintro e wa ⟨rfl,aP⟩;rw[aP];clear aP wa);go_ret;rw[HW.out];exact⟨HB1.out,rfl⟩
 ·have ha:=λz=>b1e (some ⟨h,0,none⟩) n c false (by simp;omega) (by omega) z;have HW:Hid (whB n T E=false):=b8o λh'=>aG h'.1;clear aG hS hF hs;go_enter func21,ntmps21;go_wp2_with(go_at_call 43;refine(ha _).mono ?_;rintro e wa ⟨rfl,aP⟩;rw[aP];clear aP wa);go_ret;rw[HW.out];exact⟨qw _ _,rfl⟩
end Go.Proofs.YtokknmkleceooaaGreatDoor
