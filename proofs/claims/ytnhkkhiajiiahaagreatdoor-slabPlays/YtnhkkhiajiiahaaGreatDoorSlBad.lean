import Derived.Test.YtnhkkhiajiiahaaGreatDoorSlGaM
namespace Go.Proofs.YtnhkkhiajiiahaaGreatDoor
open Go.RowKit Go.PlainAid
set_option linter.unusedVariables false
set_option maxRecDepth 20000
def bdN (E:Nat→Int)(m:Nat):List Nat:=(List.range m).filter fun s=>decide (E s≠0)
def bdV (E:Nat→Int)(m:Nat):List Value:=(bdN E m).map fun(s:Nat)=>.int .i64 (s:Int)
theorem bdV_yes {E:Nat→Int}{m:Nat}(h:E m≠0):bdV E (m+1)=bdV E m++[.int .i64 (m:Int)]∧(bdN E (m+1)).length=(bdN E m).length+1:=by
 have e:bdN E (m+1)=bdN E m++[m]:=by unfold bdN;rw[List.range_succ,List.filter_append];simp[h]
 unfold bdV
 rw[e,List.map_append,List.length_append]
 exact⟨rfl,rfl⟩
theorem bdV_no {E:Nat→Int}{m:Nat}(h:E m=0):bdV E (m+1)=bdV E m∧(bdN E (m+1)).length=(bdN E m).length:=by
 have e:bdN E (m+1)=bdN E m:=by unfold bdN;rw[List.range_succ,List.filter_append];simp[h]
 unfold bdV
 rw[e]
 exact⟨rfl,rfl⟩
theorem bdN_length (E:Nat→Int)(m:Nat):(bdN E m).length≤m:=by
 have:=List.length_filter_le (fun s=>decide (E s≠0)) (List.range m)
 rw[List.length_range]at this
 exact this
theorem Tryz.info3l:(Tryz.prog.info? 3).map (fun i=>(i.zero,i.size,i.bytes))=some (some (.int .i64 0),1,8):=by kernel_rfl
theorem push_int17 {B:Nat}{w0 w:World}{R:Asn}{v:Value}{m:Nat}{xs:List Value}(hR:Firm R)(h:Hold B w0 w (star (rowK 3 1 v m xs) R))(hm:m≤1000)(t:Int):
 ∃a c w',(Builtin.append_ #[55,55] 55 #[v,.slice (some ⟨w.heap.size,0,none⟩) 1 1]).run Tryz.prog (w.alloc (.cells #[.int .i64 t] 3))=.ok (.slice a (m+1) c) w'∧Hold B w0 w' (star (rowK 3 1 (.slice a (m+1) c) (m+1) (xs++[.int .i64 t])) R):=
 push_one hR 55 3 55 _ 1 8 Tryz.underlying55 Tryz.info3l rfl (by decide) (by decide) h hm [.int .i64 t] rfl (fun u hu=>by
  simp only[List.mem_cons,List.not_mem_nil,or_false]at hu
  rw[hu];rfl)
set_option maxHeartbeats 1000000 in
theorem sbad_form {w:World}{pv:Value}{i n:Int}{key:ByteArray}(hg:GoodIs w (slV pv i n key) false)(top:ByteArray):Calls Tryz.prog 16 #[slV pv i n key,.string top] w fun e w'=>e=.returned (.slice none 0 0)∧Below w.heap.size w w':=by
 have hb:Hid (Below w.heap.size w (w.alloc (.cells #[pv,.int .i64 i,.int .i64 n,.string key] 41))):=(Below.refl _ _).alloc (Nat.le_refl _) _
 have hB:Hid (Blk _ _ _ _):=Blk.box w 41 [pv,.int .i64 i,.int .i64 n,.string key]
 have hc:Hid (Calls _ _ _ _ _):=hg _ hb.out
 have hz:Hid ((Tryz.prog.info? 41).map (·.size)=some 4):=Tryz.size41
 go_enter Tryz.func16,Tryz.ntmps16
 go_wp2_with(first
  |(refine wpList_load_blk rfl 41 _ rfl w.heap.size rfl 41 [pv,.int .i64 i,.int .i64 n,.string key] _ hB.out Tryz.underlying41 rfl hz.out ?_)
  |(go_at_call 48;refine hc.out.mono ?_;rintro e w1 ⟨rfl,hw⟩;have L1:Hid (Below w.heap.size w w1):=hb.out.trans (hw.mono hb.out.size);clear hw))
 go_ret
 exact⟨rfl,L1.out⟩
set_option maxHeartbeats 1000000 in
theorem sbad_any {w:World}{pv:Value}{i:Int}{n:Nat}{key:ByteArray}(hg:GoodIs w (slV pv i (n:Int) key) true)(hn:n≤16)(top:ByteArray)(T:Nat→ByteArray)(E:Nat→Int)(hget:∀z,Below w.heap.size w z→∀s:Nat,s<n→Calls Tryz.prog 15 #[slV pv i (n:Int) key,.string top,.int .i64 (s:Int)] z fun e w'=>e=.returned (.tuple #[.string (T s),.int .i64 (E s)])∧Below z.heap.size z w'):
 Calls Tryz.prog 16 #[slV pv i (n:Int) key,.string top] w fun e w'=>∃v,e=.returned v∧w'.ownsRow w.heap.size 3 1 v (bdN E n).length (bdV E n)∧Below w.heap.size w w':=by
 have hb:Hid (Below w.heap.size w (w.alloc (.cells #[pv,.int .i64 i,.int .i64 (n:Int),.string key] 41))):=(Below.refl _ _).alloc (Nat.le_refl _) _
 have hB:Hid (Blk _ _ _ _):=Blk.box w 41 [pv,.int .i64 i,.int .i64 (n:Int),.string key]
 have hc:Hid (Calls _ _ _ _ _):=hg _ hb.out
 have hz:Hid ((Tryz.prog.info? 41).map (·.size)=some 4):=Tryz.size41
 have hG:Hid (∀z,Below w.heap.size w z→∀s:Nat,s<n→Calls Tryz.prog 15 #[slV pv i (n:Int) key,.string top,.int .i64 (s:Int)] z fun e w'=>e=.returned (.tuple #[.string (T s),.int .i64 (E s)])∧Below z.heap.size z w'):=hget
 have H0:=(hold_nought w.heap.size w w (Nat.le_refl _) (Below.refl _ _)).newBlk firm_nought 41 #[pv,.int .i64 i,.int .i64 (n:Int),.string key]
 clear hget hg
 go_enter Tryz.func16,Tryz.ntmps16
 go_wp2_with(first
  |(refine wpList_load_blk rfl 41 _ rfl w.heap.size rfl 41 [pv,.int .i64 i,.int .i64 (n:Int),.string key] _ hB.out Tryz.underlying41 rfl hz.out ?_)
  |(go_at_call 48;refine hc.out.mono ?_;rintro e w1 ⟨rfl,hw⟩;have h1:=H0.below ((firm_blk _ _ _).star firm_nought) hw;have c2:=h1.blk.cell (i:=2) rfl;have H1:Hid (Hold w.heap.size w w1 (star (rowK 3 1 (.slice none 0 0) 0 []) (star (blkA w.heap.size 41 [pv,.int .i64 i,.int .i64 (n:Int),.string key]) nought))):=h1.mono fun F h=>star_nil17 h;clear hw h1))
 go_loopw[5,14] (fun v j wr=>∃(k m c:Nat) (a:Option Addr),k≤n∧j=.int .i64 (k:Int)∧v=.slice a m c∧Hid (m=(bdN E k).length)∧Hid (Hold w.heap.size w wr (star (rowK 3 1 (.slice a m c) m (bdV E k)) (star (blkA w.heap.size 41 [pv,.int .i64 i,.int .i64 (n:Int),.string key]) nought)))) (fun _ j _=>n-(intOf j).toNat)
 case atStart=>exact⟨0,0,0,none,Nat.zero_le _,rfl,rfl,rfl,H1.out⟩
 case round=>
  clear H1 H0 c2 hc hB
  obtain⟨k,m,c,a,hk,rfl,rfl,hm,hh⟩:=hrel
  by_cases hlt:k<n
  ·have hk':(k:Int)<(n:Int):=by omega
   have hbx:Hid (Blk wr w.heap.size 41 [pv,.int .i64 i,.int .i64 (n:Int),.string key]):=hh.out.right.blk
   have hcl:=hG.out wr hh.out.low k hlt
   have hm1:m≤16:=by have:=hm.out;have:=bdN_length E k;omega
   by_cases hE:E k=0
   ·have HN:Hid (m=(bdN E (k+1)).length∧bdV E k=bdV E (k+1)):=⟨by rw[(bdV_no hE).2];exact hm.out,(bdV_no hE).1.symm⟩
    rw[hE]at hcl
    go_wp2_with(first
     |(refine wpList_load_blk rfl 41 _ rfl w.heap.size rfl 41 [pv,.int .i64 i,.int .i64 (n:Int),.string key] _ hbx.out Tryz.underlying41 rfl hz.out ?_)
     |(go_at_call 15;refine hcl.mono ?_;rintro e w3 ⟨rfl,hb3⟩;have H3:Hid (Hold w.heap.size w w3 (star (rowK 3 1 (.slice a m c) m (bdV E k)) (star (blkA w.heap.size 41 [pv,.int .i64 i,.int .i64 (n:Int),.string key]) nought))):=hh.out.below ((firm_rowK _ _ _ _ _).star ((firm_blk _ _ _).star firm_nought)) hb3;clear hb3 hcl hh))
    go_roundw
    case rel=>exact⟨k+1,m,c,a,by omega,by go_num,rfl,HN.out.1,by rw[←HN.out.2];exact H3.out⟩
    case measure=>simp[intOf];omega
   have HN:Hid (m+1=(bdN E (k+1)).length∧bdV E k++[.int .i64 (k:Int)]=bdV E (k+1)):=⟨by rw[(bdV_yes hE).2,←hm.out],(bdV_yes hE).1.symm⟩
   have HPU:Hid (∀z,Hold w.heap.size w z (star (rowK 3 1 (.slice a m c) m (bdV E k)) (star (blkA w.heap.size 41 [pv,.int .i64 i,.int .i64 (n:Int),.string key]) nought))→_):=fun z h=>push_int17 ((firm_blk _ _ _).star firm_nought) h (by omega) (k:Int)
   generalize E k=Ek at*
   have hE':(Ek !=0)=true:=by simpa using hE
   go_wp2_with(first
    |(refine wpList_load_blk rfl 41 _ rfl w.heap.size rfl 41 [pv,.int .i64 i,.int .i64 (n:Int),.string key] _ hbx.out Tryz.underlying41 rfl hz.out ?_)
    |(go_at_call 15;refine hcl.mono ?_;rintro e w3 ⟨rfl,hb3⟩;obtain⟨a',c',w4,hrun,h4⟩:=HPU.out _ (hh.out.below ((firm_rowK _ _ _ _ _).star ((firm_blk _ _ _).star firm_nought)) hb3);have H4:Hid (Hold w.heap.size w w4 (star (rowK 3 1 (.slice a' (m+1) c') (m+1) (bdV E k++[.int .i64 (k:Int)])) (star (blkA w.heap.size 41 [pv,.int .i64 i,.int .i64 (n:Int),.string key]) nought))):=h4;clear hb3 hcl hh h4 HPU)
    |(at_builtin;refine Lib.wpList_append_run _ rfl _ _ 55 55 rfl _ _ rfl rfl _ _ hrun ?_))
   go_roundw
   case rel=>exact⟨k+1,m+1,c',a',by omega,by go_num,rfl,HN.out.1,by rw[←HN.out.2];exact H4.out⟩
   case measure=>simp[intOf];omega
  obtain rfl:k=n:=by omega
  have hk':¬(k:Int)<(k:Int):=by omega
  go_wp2
  go_ret
  exact⟨_,rfl,by rw[←hm.out];exact hh.out.rowBack,hh.out.low⟩
def Cg (w:World)(T:TypeId)(a:Option Addr)(l:List (Int×ByteArray)):Prop:=l=[]∨∃b o,a=some ⟨b,o,none⟩∧b<w.heap.size∧∀i p,l[i]?=some p→w.rangeAt b (o+i*2) [.int .i64 p.1,.string p.2]
theorem Cg.below {w w':World}{T:TypeId}{a:Option Addr}{l:List (Int×ByteArray)}(h:Cg w T a l)(hb:Below w.heap.size w w'):Cg w' T a l:=by
 rcases h with h|⟨b,o,h1,h2,h3⟩
 ·exact .inl h
 exact .inr ⟨b,o,h1,Nat.lt_of_lt_of_le h2 hb.size,fun i p hp=>rangeAt_below (h3 i p hp) hb h2⟩
theorem Cg.at {w w':World}{T:TypeId}{a:Option Addr}{l:List (Int×ByteArray)}(h:Cg w T a l)(hb:Below w.heap.size w w'){k:Nat}{p:Int×ByteArray}(hp:l[k]?=some p):∃b o,a=some ⟨b,o,none⟩∧w'.rangeAt b (o+k*2) [.int .i64 p.1,.string p.2]:=by
 rcases h with h|⟨b,o,h1,h2,h3⟩
 ·rw[h]at hp;cases hp
 exact⟨b,o,h1,rangeAt_below (h3 k p hp) hb h2⟩
def rfE (n:Int):List (Int×ByteArray)→Int
 |[]=>0
 |p::r=>if slE17 n p.1=0 then(if 2032<p.2.size then 5 else rfE n r)else slE17 n p.1
theorem Tryz.sizeChg17:(Tryz.prog.info? 49).map (·.size)=some 2:=by kernel_rfl
theorem zeroChg (w:World):(zeroValue 49).run Tryz.prog w=.ok (.agg #[.int .i64 0,.string noB]) w:=by
 obtain⟨i0,hi,hz⟩:=Option.map_eq_some_iff.1 (show(Tryz.prog.info? 49).map (fun i=>i.zero)=some (some (.agg #[.int .i64 0,.string noB])) by kernel_rfl)
 simp[zeroValue,typeInfo,hi,hz]
set_option maxHeartbeats 1000000 in
theorem srefuse_form {w:World}{pv:Value}{i n:Int}{key:ByteArray}(hg:GoodIs w (slV pv i n key) false)(v:Value):Calls Tryz.prog 41 #[slV pv i n key,v] w fun e w'=>e=.returned (.int .i64 4)∧Below w.heap.size w w':=by
 have hb:Hid (Below w.heap.size w (w.alloc (.cells #[pv,.int .i64 i,.int .i64 n,.string key] 41))):=(Below.refl _ _).alloc (Nat.le_refl _) _
 have hB:Hid (Blk _ _ _ _):=Blk.box w 41 [pv,.int .i64 i,.int .i64 n,.string key]
 have hc:Hid (Calls _ _ _ _ _):=hg _ hb.out
 have hz:Hid ((Tryz.prog.info? 41).map (·.size)=some 4):=Tryz.size41
 go_enter Tryz.func41,Tryz.ntmps41
 go_wp2_with(first
  |(refine wpList_load_blk rfl 41 _ rfl w.heap.size rfl 41 [pv,.int .i64 i,.int .i64 n,.string key] _ hB.out Tryz.underlying41 rfl hz.out ?_)
  |(go_at_call 48;refine hc.out.mono ?_;rintro e w1 ⟨rfl,hw⟩;have L1:Hid (Below w.heap.size w w1):=hb.out.trans (hw.mono hb.out.size);clear hw))
 go_ret
 exact⟨rfl,L1.out⟩
set_option maxHeartbeats 1000000 in
theorem srefuse_any {w:World}{pv:Value}{i n:Int}{key:ByteArray}(hg:GoodIs w (slV pv i n key) true){a:Option Addr}{c:Nat}{l:List (Int×ByteArray)}(hl:Cg w 49 a l)(hm:l.length≤1000):
 Calls Tryz.prog 41 #[slV pv i n key,.slice a l.length c] w fun e w'=>e=.returned (.int .i64 (rfE n l))∧Below w.heap.size w w':=by
 have hb:Hid (Below w.heap.size w (w.alloc (.cells #[pv,.int .i64 i,.int .i64 n,.string key] 41))):=(Below.refl _ _).alloc (Nat.le_refl _) _
 have hB:Hid (Blk _ _ _ _):=Blk.box w 41 [pv,.int .i64 i,.int .i64 n,.string key]
 have hc:Hid (Calls _ _ _ _ _):=hg _ hb.out
 have hz:Hid ((Tryz.prog.info? 41).map (·.size)=some 4):=Tryz.size41
 have hz2:Hid ((Tryz.prog.info? 49).map (·.size)=some 2):=Tryz.sizeChg17
 have hzw:=zeroChg
 have HC:Hid (Cg w 49 a l):=hl
 have HFA:Hid (∀z,Below w.heap.size w z→∀k,Calls Tryz.prog 38 #[slV pv i n key,.int .i64 k] z fun e w'=>e=.returned (.int .i64 (slE17 n k))∧Below z.heap.size z w'):=fun z hz k=>fault_any (hg.below hz) k
 obtain⟨X,hX⟩:∃X,rfE n l=X:=⟨_,rfl⟩
 rw[hX]
 have HAP:Hid (rfE n l=X):=hX
 have Hq:Hid (∀(k:Nat) p,l[k]?=some p→l.drop k=p::l.drop (k+1)):=fun k p hk=>by
  obtain⟨h1,h2⟩:=List.getElem?_eq_some_iff.1 hk
  rw[List.drop_eq_getElem_cons h1,h2]
 generalize hql:l.length=m at*
 have HQL:Hid (l.length=m):=hql
 clear hX hl hg hql
 go_enter Tryz.func41,Tryz.ntmps41
 go_wp2_with(first
  |(refine wpList_load_blk rfl 41 _ rfl w.heap.size rfl 41 [pv,.int .i64 i,.int .i64 n,.string key] _ hB.out Tryz.underlying41 rfl hz.out ?_)
  |(go_at_call 48;refine hc.out.mono ?_;rintro e w1 ⟨rfl,hw⟩;have H1:Hid (Below w.heap.size w w1∧Blk w1 w.heap.size 41 [pv,.int .i64 i,.int .i64 n,.string key]):=⟨hb.out.trans (hw.mono hb.out.size),hB.out.below hw hB.out.lt⟩;clear hw))
 go_loopw[13] (fun j wr=>∃k:Nat,k≤m∧j=.int .i64 (k:Int)∧Hid (rfE n (l.drop k)=X)∧Hid (Below w.heap.size w wr∧Blk wr w.heap.size 41 [pv,.int .i64 i,.int .i64 n,.string key])) (fun j _=>m-(intOf j).toNat)
 case atStart=>exact⟨0,Nat.zero_le _,rfl,HAP.out,H1.out⟩
 case round=>
  clear H1 HAP hc hB
  obtain⟨k,hk,rfl,hap,hh⟩:=hrel
  by_cases hlt:k<m
  ·have hk':(k:Int)<(m:Int):=by omega
   obtain⟨p,hp⟩:∃p,l[k]?=some p:=⟨_,List.getElem?_eq_getElem (by have:=HQL.out;omega)⟩
   obtain⟨bq,oq,hgq,hrg⟩:=HC.out.at hh.out.1 hp
   subst hgq
   have HRG:Hid (wr.rangeAt bq (oq+k*2) [.int .i64 p.1,.string p.2]):=hrg
   have hb2:Hid (Below w.heap.size w (wr.alloc (.cells [.int .i64 p.1,.string p.2].toArray 49))):=hh.out.1.alloc hh.out.1.size _
   have hB2:Hid (Blk (wr.alloc (.cells [.int .i64 p.1,.string p.2].toArray 49)) w.heap.size 41 [pv,.int .i64 i,.int .i64 n,.string key]):=hh.out.2.alloc _
   have hN2:Hid (Blk (wr.alloc (.cells [.int .i64 p.1,.string p.2].toArray 49)) wr.heap.size 49 [.int .i64 p.1,.string p.2]):=Blk.box _ _ _
   have hwr:=HFA.out _ hb2.out p.1
   have hcons:rfE n (l.drop k)=rfE n (p::l.drop (k+1)):=by rw[Hq.out k p hp]
   have hap1:rfE n (p::l.drop (k+1))=X:=by rw[←hcons];exact hap.out
   have hdef:rfE n (p::l.drop (k+1))=if slE17 n p.1=0 then(if 2032<p.2.size then 5 else rfE n (l.drop (k+1)))else slE17 n p.1:=rfl
   rw[hap1]at hdef
   by_cases hE:slE17 n p.1=0
   ·rw[if_pos hE]at hdef
    rw[hE]at hwr
    by_cases hs:2032<p.2.size
    ·rw[if_pos hs]at hdef
     have HX:Hid (X=5):=hdef
     have hs':(2032:Int)<(p.2.size:Int):=by omega
     clear hdef hap1 hcons hap hE hrg
     go_wp2_with(first
      |(refine wpList_load_mid rfl 49 _ rfl bq (oq+k*2) rfl [.int .i64 p.1,.string p.2] _ HRG.out Tryz.underlying49 rfl hz2.out ?_)
      |(refine wpList_store_blk rfl 49 _ _ rfl wr.heap.size [.int .i64 0,.string noB] [.int .i64 p.1,.string p.2] rfl rfl 49 (Blk.box _ _ _) hz2.out rfl (wrow17 _ _) ?_;rw[set_over])
      |(refine wpList_load_blk rfl 41 _ rfl w.heap.size rfl 41 [pv,.int .i64 i,.int .i64 n,.string key] _ hB2.out Tryz.underlying41 rfl hz.out ?_)
      |(go_at_call 38;refine hwr.mono ?_;rintro e w3 ⟨rfl,h3⟩;have L3:Hid (Below w.heap.size w w3):=hb2.out.trans (h3.mono hb2.out.size);have d1:=(hN2.out.below h3 hN2.out.lt).cell (i:=1) rfl;clear h3 hwr))
     go_ret
     exact⟨by rw[HX.out];rfl,L3.out⟩
    rw[if_neg hs]at hdef
    have HX:Hid (rfE n (l.drop (k+1))=X):=hdef.symm
    have hs':¬(2032:Int)<(p.2.size:Int):=by omega
    clear hdef hap1 hcons hap hE hrg
    go_wp2_with(first
     |(refine wpList_load_mid rfl 49 _ rfl bq (oq+k*2) rfl [.int .i64 p.1,.string p.2] _ HRG.out Tryz.underlying49 rfl hz2.out ?_)
     |(refine wpList_store_blk rfl 49 _ _ rfl wr.heap.size [.int .i64 0,.string noB] [.int .i64 p.1,.string p.2] rfl rfl 49 (Blk.box _ _ _) hz2.out rfl (wrow17 _ _) ?_;rw[set_over])
     |(refine wpList_load_blk rfl 41 _ rfl w.heap.size rfl 41 [pv,.int .i64 i,.int .i64 n,.string key] _ hB2.out Tryz.underlying41 rfl hz.out ?_)
     |(go_at_call 38;refine hwr.mono ?_;rintro e w3 ⟨rfl,h3⟩;have L3:Hid (Below w.heap.size w w3∧Blk w3 w.heap.size 41 [pv,.int .i64 i,.int .i64 n,.string key]):=⟨hb2.out.trans (h3.mono hb2.out.size),hB2.out.below h3 hB2.out.lt⟩;have d1:=(hN2.out.below h3 hN2.out.lt).cell (i:=1) rfl;clear h3 hwr))
    go_roundw
    case rel=>exact⟨k+1,by omega,by go_num,HX.out,L3.out⟩
    case measure=>simp[intOf];omega
   rw[if_neg hE]at hdef
   have HX:Hid (X=slE17 n p.1):=hdef
   generalize slE17 n p.1=E at*
   have hE':(E !=0)=true:=by simpa using hE
   clear hdef hap1 hcons hap hrg
   go_wp2_with(first
    |(refine wpList_load_mid rfl 49 _ rfl bq (oq+k*2) rfl [.int .i64 p.1,.string p.2] _ HRG.out Tryz.underlying49 rfl hz2.out ?_)
    |(refine wpList_store_blk rfl 49 _ _ rfl wr.heap.size [.int .i64 0,.string noB] [.int .i64 p.1,.string p.2] rfl rfl 49 (Blk.box _ _ _) hz2.out rfl (wrow17 _ _) ?_;rw[set_over])
    |(refine wpList_load_blk rfl 41 _ rfl w.heap.size rfl 41 [pv,.int .i64 i,.int .i64 n,.string key] _ hB2.out Tryz.underlying41 rfl hz.out ?_)
    |(go_at_call 38;refine hwr.mono ?_;rintro e w3 ⟨rfl,h3⟩;have L3:Hid (Below w.heap.size w w3):=hb2.out.trans (h3.mono hb2.out.size);clear h3 hwr))
   go_ret
   exact⟨by rw[HX.out];rfl,L3.out⟩
  obtain rfl:k=m:=by omega
  have hk':¬(k:Int)<(k:Int):=by omega
  have HX:Hid (X=0):=by
   show _=_
   rw[←hap.out,List.drop_eq_nil_of_le (by have:=HQL.out;omega)];rfl
  go_wp2
  go_ret
  exact⟨by rw[HX.out];rfl,hh.out.1⟩
end Go.Proofs.YtnhkkhiajiiahaaGreatDoor
