import Derived.Test.YtokknmkleceooaaGreatDoorSlGaM
namespace Go.Proofs.YtokknmkleceooaaGreatDoor
set_option linter.unusedVariables false
set_option maxRecDepth 20000
set_option maxHeartbeats 8000000
open Go.Proofs.Tryz
open Go.RowKit Go.PlainAid
theorem info3l:(prog.info? 3).map (λi=>(i.zero,i.size,i.bytes))=some (some (.int .i64 0),1,8):=by kernel_rfl
theorem c8r {B:Nat}{w0 w:World}{R:Asn}{v:Value}{m:Nat}{xs:List Value}(hR:Firm R)(h:Hold B w0 w (star (rowK 3 1 v m xs) R))(hm:m<=1000)(t:Int):
 ∃a c w',(Builtin.append_ #[55,55] 55 #[v,.slice (some ⟨w.heap.size,0,none⟩) 1 1]).run prog (w.alloc (.cells #[.int .i64 t] 3))=.ok (.slice a (m+1) c) w'/\Hold B w0 w' (star (rowK 3 1 (.slice a (m+1) c) (m+1) (xs++[.int .i64 t])) R):=
 b2b hR 55 3 55 _ 1 8 underlying55 info3l rfl (by decide) (by decide) h hm [.int .i64 t] rfl (λu hu=>by
  simp only[List.mem_cons,List.not_mem_nil,or_false]at hu;rw[hu];rfl)
def Cg (w:World)(T:TypeId)(a:Option Addr)(l:List (Int×BA)):Prop:=l=[]\/∃b o,a=some ⟨b,o,none⟩/\b<w.heap.size/\∀i p,l[i]?=some p->w.rangeAt b (o+i*2) [.int .i64 p.1,.string p.2]
theorem Cg.below {w w':World}{T:TypeId}{a:Option Addr}{l:List (Int×BA)}(h:Cg w T a l)(hb:Below w.heap.size w w'):Cg w' T a l:=by
 rcases h with h|⟨b,o,h1,h2,h3⟩
 ·exact .inl h
 ·exact .inr ⟨b,o,h1,Nat.lt_of_lt_of_le h2 hb.size,λi p hp=>a9g (h3 i p hp) hb h2⟩
theorem Cg.at {w w':World}{T:TypeId}{a:Option Addr}{l:List (Int×BA)}(h:Cg w T a l)(hb:Below w.heap.size w w'){k:Nat}{p:Int×BA}(hp:l[k]?=some p):∃b o,a=some ⟨b,o,none⟩/\w'.rangeAt b (o+k*2) [.int .i64 p.1,.string p.2]:=by
 rcases h with h|⟨b,o,h1,h2,h3⟩
 ·rw[h]at hp;cases hp
 ·exact⟨b,o,h1,a9g (h3 k p hp) hb h2⟩
def rfE (n:Int):List (Int×BA)->Int
 |[]=>0
 |p::r=>if slE17 n p.1=0 then(if 2032<p.2.size then 5 else rfE n r)else slE17 n p.1
theorem sizeChg17:(prog.info? 92).map (·.size)=some 2:=by kernel_rfl
theorem d0h (w:World):(zeroValue 92).run prog w=.ok (.agg #[.int .i64 0,.string noB]) w:=by
 obtain⟨i0,hi,hz⟩:=Option.map_eq_some_iff.1 (show(prog.info? 92).map (λi=>i.zero)=some (some (.agg #[.int .i64 0,.string noB])) by kernel_rfl);simp[zeroValue,typeInfo,hi,hz]
theorem c2c {w:World}{pv:Value}{i n:Int}{key:BA}(hg:GoodIs w (slV pv i n key) true){a:Option Addr}{c:Nat}{l:List (Int×BA)}(hl:Cg w 92 a l)(hm:l.length<=1000):
 Calls prog 78 #[slV pv i n key,.slice a l.length c] w λe w'=>e=.returned (.int .i64 (rfE n l))/\Below w.heap.size w w':=by
 have hb:Hid (Below w.heap.size w (w.alloc (.cells #[pv,.int .i64 i,.int .i64 n,.string key] 45))):=(qw _ _).alloc (ql _) _;have hB:Hid (Blk _ _ _ _):=Blk.box w 45 [pv,.int .i64 i,.int .i64 n,.string key];have hc:Hid (Calls _ _ _ _ _):=hg _ hb.out;have hz:Hid ((prog.info? 45).map (·.size)=some 4):=size45;have hz2:Hid ((prog.info? 92).map (·.size)=some 2):=sizeChg17;have hzw:=d0h;have HC:Hid (Cg w 92 a l):=hl;have lF:Hid (∀z,Below w.heap.size w z->∀k,Calls prog 53 #[slV pv i n key,.int .i64 k] z λe w'=>e=.returned (.int .i64 (slE17 n k))/\Below z.heap.size z w'):=λz hz k=>c0l (hg.below hz) k;obtain⟨X,hX⟩:∃X,rfE n l=X:=⟨_,rfl⟩;rw[hX];have fD:Hid (rfE n l=X):=hX;have Hq:Hid (∀(k:Nat) p,l[k]?=some p->l.drop k=p::l.drop (k+1)):=λk p hk=>by
  obtain⟨h1,h2⟩:=List.getElem?_eq_some_iff.1 hk;rw[List.drop_eq_getElem_cons h1,h2]
 generalize jE:l.length=m at*;have oJ:Hid (l.length=m):=jE;clear hX hl hg jE;go_enter func78,ntmps78;go_wp2_with(first
  |(refine a0a rfl 45 _ rfl w.heap.size rfl 45 [pv,.int .i64 i,.int .i64 n,.string key] _ hB.out underlying45 rfl hz.out ?_)
  |(go_at_call 70;refine hc.out.mono ?_;rintro e w1 ⟨rfl,hw⟩;have H1:Hid (Below w.heap.size w w1/\Blk w1 w.heap.size 45 [pv,.int .i64 i,.int .i64 n,.string key]):=⟨hb.out.trans (hw.mono hb.out.size),hB.out.below hw hB.out.lt⟩;clear hw))
 go_loopw[13] (λj wr=>∃k:Nat,k<=m/\j=.int .i64 (k:Int)/\Hid (rfE n (l.drop k)=X)/\Hid (Below w.heap.size w wr/\Blk wr w.heap.size 45 [pv,.int .i64 i,.int .i64 n,.string key])) (λj _=>m-(intOf j).toNat)
 case atStart=>exact⟨0,Nat.zero_le _,rfl,fD.out,H1.out⟩
 case round=>
  clear H1 fD hc hB;obtain⟨k,hk,rfl,bG,hh⟩:=hrel;by_cases p9:k<m
  ·have hk':(k:Int)<(m:Int):=(by omega);obtain⟨p,hp⟩:∃p,l[k]?=some p:=⟨_,List.getElem?_eq_getElem (by have:=oJ.out;omega)⟩;obtain⟨bq,oq,sL,fE⟩:=HC.out.at hh.out.1 hp;subst sL;have lD:Hid (wr.rangeAt bq (oq+k*2) [.int .i64 p.1,.string p.2]):=fE;have hb2:Hid (Below w.heap.size w (wr.alloc (.cells [.int .i64 p.1,.string p.2].toArray 92))):=hh.out.1.alloc hh.out.1.size _;have hB2:Hid (Blk (wr.alloc (.cells [.int .i64 p.1,.string p.2].toArray 92)) w.heap.size 45 [pv,.int .i64 i,.int .i64 n,.string key]):=hh.out.2.alloc _;have hN2:Hid (Blk (wr.alloc (.cells [.int .i64 p.1,.string p.2].toArray 92)) wr.heap.size 92 [.int .i64 p.1,.string p.2]):=Blk.box _ _ _;have gV:=lF.out _ hb2.out p.1;have bL:rfE n (l.drop k)=rfE n (p::l.drop (k+1)):=(by rw[Hq.out k p hp]);have bU:rfE n (p::l.drop (k+1))=X:=(by rw[<-bL];exact bG.out);have dE:rfE n (p::l.drop (k+1))=if slE17 n p.1=0 then(if 2032<p.2.size then 5 else rfE n (l.drop (k+1)))else slE17 n p.1:=rfl;rw[bU]at dE;by_cases hE:slE17 n p.1=0
   ·rw[qp hE]at dE;rw[hE]at gV;by_cases hs:2032<p.2.size
    ·rw[qp hs]at dE;have HX:Hid (X=5):=dE;have hs':(2032:Int)<(p.2.size:Int):=(by omega);clear dE bU bL bG hE fE;go_wp2_with(first
      |(refine wpList_load_mid rfl 92 _ rfl bq (oq+k*2) rfl [.int .i64 p.1,.string p.2] _ lD.out underlying92 rfl hz2.out ?_)
      |(refine a0b rfl 92 _ _ rfl wr.heap.size [.int .i64 0,.string noB] [.int .i64 p.1,.string p.2] rfl rfl 92 (Blk.box _ _ _) hz2.out rfl (a8t _ _) ?_;rw[a2d])
      |(refine a0a rfl 45 _ rfl w.heap.size rfl 45 [pv,.int .i64 i,.int .i64 n,.string key] _ hB2.out underlying45 rfl hz.out ?_)
      |(go_at_call 53;refine gV.mono ?_;rintro e w3 ⟨rfl,h3⟩;have L3:Hid (Below w.heap.size w w3):=hb2.out.trans (h3.mono hb2.out.size);have d1:=(hN2.out.below h3 hN2.out.lt).cell (i:=1) rfl;clear h3 gV))
     go_ret;exact⟨by rw[HX.out];rfl,L3.out⟩
    ·rw[qn hs]at dE;have HX:Hid (rfE n (l.drop (k+1))=X):=dE.symm;have hs':¬(2032:Int)<(p.2.size:Int):=(by omega);clear dE bU bL bG hE fE;go_wp2_with(first
      |(refine wpList_load_mid rfl 92 _ rfl bq (oq+k*2) rfl [.int .i64 p.1,.string p.2] _ lD.out underlying92 rfl hz2.out ?_)
      |(refine a0b rfl 92 _ _ rfl wr.heap.size [.int .i64 0,.string noB] [.int .i64 p.1,.string p.2] rfl rfl 92 (Blk.box _ _ _) hz2.out rfl (a8t _ _) ?_;rw[a2d])
      |(refine a0a rfl 45 _ rfl w.heap.size rfl 45 [pv,.int .i64 i,.int .i64 n,.string key] _ hB2.out underlying45 rfl hz.out ?_)
      |(go_at_call 53;refine gV.mono ?_;rintro e w3 ⟨rfl,h3⟩;have L3:Hid (Below w.heap.size w w3/\Blk w3 w.heap.size 45 [pv,.int .i64 i,.int .i64 n,.string key]):=⟨hb2.out.trans (h3.mono hb2.out.size),hB2.out.below h3 hB2.out.lt⟩;have d1:=(hN2.out.below h3 hN2.out.lt).cell (i:=1) rfl;clear h3 gV))
     go_roundw
     case rel=>exact⟨k+1,by omega,by go_num,HX.out,L3.out⟩
     case measure=>simp[intOf];omega
   ·rw[qn hE]at dE;have HX:Hid (X=slE17 n p.1):=dE;generalize slE17 n p.1=E at*;have hE':(E !=0)=true:=(by simpa using hE);clear dE bU bL bG fE;go_wp2_with(first
     |(refine wpList_load_mid rfl 92 _ rfl bq (oq+k*2) rfl [.int .i64 p.1,.string p.2] _ lD.out underlying92 rfl hz2.out ?_)
     |(refine a0b rfl 92 _ _ rfl wr.heap.size [.int .i64 0,.string noB] [.int .i64 p.1,.string p.2] rfl rfl 92 (Blk.box _ _ _) hz2.out rfl (a8t _ _) ?_;rw[a2d])
     |(refine a0a rfl 45 _ rfl w.heap.size rfl 45 [pv,.int .i64 i,.int .i64 n,.string key] _ hB2.out underlying45 rfl hz.out ?_)
     |(go_at_call 53;refine gV.mono ?_;rintro e w3 ⟨rfl,h3⟩;have L3:Hid (Below w.heap.size w w3):=hb2.out.trans (h3.mono hb2.out.size);clear h3 gV))
    go_ret;exact⟨by rw[HX.out];rfl,L3.out⟩
  ·obtain rfl:k=m:=(by omega);have hk':¬(k:Int)<(k:Int):=(by omega);have HX:Hid (X=0):=by
    show _=_;rw[<-bG.out,List.drop_eq_nil_of_le (by have:=oJ.out;omega)];rfl
   go_wp2;go_ret;exact⟨by rw[HX.out];rfl,hh.out.1⟩
end Go.Proofs.YtokknmkleceooaaGreatDoor
