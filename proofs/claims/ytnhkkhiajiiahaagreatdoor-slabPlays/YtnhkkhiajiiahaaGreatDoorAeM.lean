import Derived.Test.YtnhkkhiajiiahaaGreatDoorChM
import Derived.Test.YtnhkkhiajiiahaaGreatDoorPoM
import Derived.Test.YtnhkkhiajiiahaaGreatDoorBaseM
import Derived.Lib.ConvBytes
import Derived.ArgAppend
import Derived.Deep.AppendLies
import Derived.Test.YtnhkkhiajiiahaaGreatDoorShaM
namespace Go.Proofs.YtnhkkhiajiiahaaGreatDoor
set_option maxRecDepth 20000
open Go.RowKit Go.PlainAid
set_option linter.unusedVariables false
def upN (n:Nat):Nat:=(16-n%16)%16
theorem upN_lt (n:Nat):upN n<16:=by unfold upN;omega
theorem upN_mod (n:Nat):(n+upN n)%16=0:=by unfold upN;omega
def zt (n:Nat):ByteArray:=strOfNums (List.replicate n 0)
theorem zt_size (n:Nat):(zt n).size=n:=by unfold zt;rw[strOfNums_size,List.length_replicate]
theorem bt_zt (n i:Nat):bt (zt n) i=0:=by
 by_cases h:i<n
 ·unfold zt
  rw[bt_str _ (fun x hx=>by rw[(List.mem_replicate.1 hx).2];omega) i (by simpa using h),List.getElem_replicate]
 exact bt_out _ _ (by rw[zt_size];omega)
def pdB (s:ByteArray):ByteArray:=s++zt (upN s.size)
theorem pdB_size (s:ByteArray):(pdB s).size=s.size+upN s.size:=by unfold pdB;rw[ByteArray.size_append,zt_size]
theorem bt_pdB (s:ByteArray)(i:Nat):bt (pdB s) i=bt s i:=by
 unfold pdB
 by_cases h:i<s.size
 ·rw[bt_left _ _ _ h]
 rw[bt_right _ _ _ (by omega),bt_zt,bt_out _ _ (by omega)]
def lnB (a b:Nat):ByteArray:=leB a 8++leB b 8
theorem lnB_size (a b:Nat):(lnB a b).size=16:=by unfold lnB;rw[ByteArray.size_append,leB_size,leB_size]
def mcB (a c:ByteArray):ByteArray:=pdB a++pdB c++lnB a.size c.size
theorem mcB_size (a c:ByteArray):(mcB a c).size=a.size+upN a.size+(c.size+upN c.size)+16:=by
 unfold mcB;rw[ByteArray.size_append,ByteArray.size_append,pdB_size,pdB_size,lnB_size]
def kyB (key nonce:ByteArray):ByteArray:=(blkB (stI key nonce 0)).extract 0 32
theorem kyB_size (key nonce:ByteArray):(kyB key nonce).size=32:=by unfold kyB;rw[ByteArray.size_extract,blkB_size];rfl
def crB (key nonce p:ByteArray):ByteArray:=cryB (ks key nonce 1) p
theorem crB_size (key nonce p:ByteArray):(crB key nonce p).size=p.size:=cryB_size _ _
theorem crB_twice (key nonce p:ByteArray):crB key nonce (crB key nonce p)=p:=cryB_twice _ (ks_range key nonce 1) p
theorem cut_left (a b:ByteArray)(n:Nat)(h:a.size=n):(a++b).extract 0 n=a:=by
 apply bt_ext
 ·rw[ByteArray.size_extract,ByteArray.size_append];omega
 intro i hi
 rw[ByteArray.size_extract,ByteArray.size_append]at hi
 rw[bt_cut _ 0 n i (by rw[ByteArray.size_append];omega) (by omega),Nat.zero_add,bt_left _ _ _ (by omega)]
theorem cut_right (a b:ByteArray)(n m:Nat)(h:a.size=n)(hm:m=n+b.size):(a++b).extract n m=b:=by
 apply bt_ext
 ·rw[ByteArray.size_extract,ByteArray.size_append];omega
 intro i hi
 rw[ByteArray.size_extract,ByteArray.size_append]at hi
 rw[bt_cut _ n m i (by rw[ByteArray.size_append];omega) (by omega),bt_right _ _ _ (by omega)]
 congr 1;omega
theorem strN_append (a b:List Int):strOfNums (a++b)=strOfNums a++strOfNums b:=by
 apply ByteArray.ext
 rw[ByteArray.data_append]
 unfold strOfNums
 simp
def lw4 (a b:Nat)(i:Nat):Int:=((if i<2 then dg 32 a i else dg 32 b (i-2):Nat):Int)
theorem lw4_lo (a b i:Nat):0≤lw4 a b i∧lw4 a b i<4294967296:=by
 unfold lw4
 have h1:=dg_lt 32 a i
 have h2:=dg_lt 32 b (i-2)
 rw[show(2:Nat)^32=4294967296 from rfl]at h1 h2
 split<;>omega
theorem lw4_text (a b:Nat):strOfNums (joinF four (lw4 a b) 4)=lnB a b:=by
 have ha:=join_dg a 2
 have hb:=join_dg b 2
 rw[joinF_succ,joinF_succ]at ha hb
 rw[joinF_succ,joinF_succ,joinF_succ,joinF_succ,List.append_assoc,List.append_assoc]
 have e0:joinF four (lw4 a b) 0=[]:=rfl
 unfold lnB leB
 rw[←strN_append,←ha,←hb]
 rfl
def RowG (w:World)(base:Nat)(v:Value)(n:Nat)(f:Nat→Int):Prop:=
 ∃g cap,v=.slice (some ⟨g,0,none⟩) n cap∧base≤g∧g<w.heap.size∧n≤cap∧(∀i,i<n→w.cell? ⟨g,i,none⟩=some (.int .u8 (f i)))∧(∀i,i<cap→(w.cell? ⟨g,i,none⟩).isSome=true∧w.frozen? ⟨g,i,none⟩=false)
theorem rowG_of (w:World)(s:ByteArray):∃c w',(convert 9 35 (.string s)).run Tryz.prog w=.ok (.slice (some ⟨w.heap.size,0,none⟩) s.size c) w'∧RowG w' w.heap.size (.slice (some ⟨w.heap.size,0,none⟩) s.size c) s.size (bt s)∧Below w.heap.size w w':=by
 have hr:=Lib.run_convert_string_bytes (P:=Tryz.prog) w 9 35 5 s Tryz.underlying9 Tryz.underlying35 Tryz.underlying5
 have hs:=Lib.bytesWorld_size w 5 s
 have hn:=Lib.bytesWorld_at_new w 5 s
 have hge:=grownCap_ge w s.size 0 5
 have hcs:(Lib.bytesCells w 5 s).size=grownCap w s.size 0 5:=by
  unfold Lib.bytesCells
  have hd:s.data.size=s.size:=rfl
  rw[Array.size_append,Array.size_map,Array.size_replicate,hd]
  omega
 refine⟨_,_,hr,⟨w.heap.size,_,rfl,Nat.le_refl _,by omega,hge,fun i hi=>?_,fun i hi=>⟨?_,?_⟩⟩,⟨rfl,rfl,rfl,by omega,fun j hj=>Lib.bytesWorld_at_old w 5 s j hj⟩⟩
 ·rw[Lib.bytesWorld_cell w 5 s i hi]
  congr 2
  unfold bt
  rw[dif_pos hi,List.getD_eq_getElem?_getD]
  have hd:i<s.data.toList.length:=by rw[Array.length_toList];exact hi
  rw[List.getElem?_eq_getElem hd,Option.getD_some]
  simp
  rfl
 ·simp only[World.cell?,hn]
  rw[Array.getElem?_eq_getElem (by rw[hcs];exact hi)]
  rfl
 simp only[World.frozen?,hn]
 simp
 omega
theorem rowG_push (x:Int)(w:World)(base:Nat)(v:Value)(n:Nat)(f:Nat→Int)(h:RowG w base v n f)(hf:f n=x)(hn:n≤1000000000)(hb:base≤w.heap.size):
 ∃v' w',(Builtin.append_ #[35,35] 35 #[v,.slice (some ⟨w.heap.size,0,none⟩) 1 1]).run Tryz.prog (w.alloc (.cells #[.int .u8 x] 5))=.ok v' w'∧RowG w' base v' (n+1) f∧Below base w w':=by
 obtain⟨g,cap,rfl,hbg,hg,hnc,hcell,hfree⟩:=h
 obtain⟨i0,hi,hz0,hz1,hz2⟩:=info_parts Tryz.info5
 have hold:∀j,(w.alloc (.cells #[.int .u8 x] 5)).cell? ⟨g,j,none⟩=w.cell? ⟨g,j,none⟩:=fun j=>World.cell?_alloc_lt _ _ _ hg
 have hfr:∀j,(w.alloc (.cells #[.int .u8 x] 5)).frozen? ⟨g,j,none⟩=w.frozen? ⟨g,j,none⟩:=fun j=>World.frozen?_alloc_past _ _ _ hg
 have hnews:∀(j:Nat) u,[Value.int .u8 x][j]?=some u→(w.alloc (.cells #[.int .u8 x] 5)).cell? ((⟨w.heap.size,0,none⟩:Addr).add j)=some u:=fun j u hj=>by
  match j,hj with
  |0,hj=>simp at hj;subst hj;simp only[Addr.add];exact(Blk.new w 5 #[.int .u8 x]).cell rfl
 have hba:Below base w (w.alloc (.cells #[.int .u8 x] 5)):=(Below.refl _ _).alloc hb _
 by_cases hroom:n+1≤cap
 ·have hrun:=run_append_room_cells (P:=Tryz.prog) (w.alloc (.cells #[.int .u8 x] 5)) 35 35 5 i0 Tryz.underlying35 hi g 0 n cap ⟨w.heap.size,0,none⟩ 1 1 [.int .u8 x] (by rw[hz1];rfl) hnews (fun u hu=>by simp at hu;subst hu;rfl) hroom
   (fun j hj=>by simp at hj;subst hj;rw[hz1,hold];simpa using(hfree n (by omega)).1) (fun j hj=>by simp at hj;subst hj;rw[hz1,hfr];simpa using(hfree n (by omega)).2)
  rw[hz1]at hrun
  simp only[Nat.zero_add,Nat.mul_one,World.setCells]at hrun
  refine⟨_,_,hrun,⟨g,cap,rfl,hbg,by simp;omega,hroom,fun i hi'=>?_,fun i hi'=>⟨?_,?_⟩⟩,hba.setCell hbg _⟩
  ·by_cases e:i=n
   ·subst e
    rw[World.cell?_setCell_same' _ ⟨g,i,none⟩ _ (by rw[hold];exact(hfree i (by omega)).1),hf]
   rw[World.cell?_setCell_other _ _ _ _ (fun h=>by cases h;exact e rfl),hold]
   exact hcell i (by omega)
  ·by_cases e:i=n
   ·subst e
    rw[World.cell?_setCell_same' _ ⟨g,i,none⟩ _ (by rw[hold];exact(hfree i (by omega)).1)];rfl
   rw[World.cell?_setCell_other _ _ _ _ (fun h=>by cases h;exact e rfl),hold]
   exact(hfree i hi').1
  rw[World.frozen?_setCell,hfr];exact(hfree i hi').2
 obtain⟨v',w',hrun,hown,hgrow⟩:=run_append_arg_grows (P:=Tryz.prog) (w.alloc (.cells #[.int .u8 x] 5)) 35 35 5 i0 (.int .u8 0) 1 1 Tryz.underlying35 hi hz0 hz1 hz2 rfl (by decide) ⟨g,0,none⟩ n cap ((List.range n).map fun i=>.int .u8 (f i)) (by simp) (fun j u hj=>by
  rw[Addr.add_mid,Nat.zero_add,hold]
  have hjn:j<n:=by
   rcases Nat.lt_or_ge j n with h|h
   ·exact h
   rw[List.getElem?_eq_none (by simp;exact h)]at hj;cases hj
  rw[hcell j hjn,←hj]
  simp[hjn]) ⟨w.heap.size,0,none⟩ 1 1 [.int .u8 x] rfl hnews (by omega) (by unfold maxLen;omega) (by omega)
 obtain⟨g',cap',rfl,hb',hlt'⟩:=hown.form (by omega)
 refine⟨_,w',hrun,?_,Below.grown hba hgrow (by simp;omega) (fun k h=>by cases h)⟩
 have hsz:(w.alloc (.cells #[.int .u8 x] 5)).heap.size=w.heap.size+1:=by simp
 rcases hown.2 with⟨hv,_⟩|⟨g2,cap2,cur,hv,_,hcur,h1,_,h3,_⟩
 ·cases hv
 cases hv
 refine⟨g',cap',rfl,by omega,hlt',h1,fun i hi'=>?_,fun i hi'=>⟨?_,?_⟩⟩
 ·rw[World.ownsRow.cellAt hown i (by omega)]
  by_cases e:i=n
  ·subst e
   rw[List.getElem?_append_right (by simp)]
   simp[hf]
  rw[List.getElem?_append_left (by simp;omega)]
  simp[show i<n by omega]
 ·simp only[World.cell?,hcur]
  rw[Array.getElem?_eq_getElem (by omega)];rfl
 simp[World.frozen?,hcur]
theorem rowG_text {w:World}{base:Nat}{v:Value}{n:Nat}{f:Nat→Int}(h:RowG w base v n f):(convert 35 9 v).run Tryz.prog w=.ok (.string (strOfNums ((List.range n).map f))) w:=by
 obtain⟨g,cap,rfl,_,_,_,hcell,_⟩:=h
 exact run_convert_bytes_arg (P:=Tryz.prog) w 35 5 Tryz.underlying35 Tryz.underlying5 g 0 n cap ((List.range n).map f) (by simp) (fun i hi=>by
  rw[Nat.zero_add,hcell i hi]
  simp[hi]) 9 Tryz.underlying9
theorem RowG.below {w w':World}{base:Nat}{v:Value}{n:Nat}{f:Nat→Int}(h:RowG w base v n f)(hb:Below w.heap.size w w'):RowG w' base v n f:=by
 obtain⟨g,cap,rfl,h1,h2,h3,h4,h5⟩:=h
 exact⟨g,cap,rfl,h1,Nat.lt_of_lt_of_le h2 hb.size,h3,fun i hi=>(hb.cell (p:=⟨g,i,none⟩) h2).trans (h4 i hi),fun i hi=>⟨by rw[hb.cell (p:=⟨g,i,none⟩) h2];exact(h5 i hi).1,by rw[hb.frozen (p:=⟨g,i,none⟩) h2];exact(h5 i hi).2⟩⟩
theorem wpList_append_litG {P:Program}{ops:Array Oper}{rest:List Oper}{o:Oper}{a:Act}{w:World}{Q:Exit→Act→World→Prop}(hgd:o.guard=none)(s x:Operand)(t tn:TypeId)
 (ho:o.op=.call {callee:=.builtin .append,args:=#[s,x],argTypes:=#[t,tn]})(vs vx:Value)(hs:a.eval s=vs)(hx:a.eval x=vx)
 (v':Value)(w':World)(hr:(Builtin.append_ #[t,tn] o.type #[vs,vx]).run P w=.ok v' w')(h:wpList P ops Q rest (a.put o.dst v') w'):wpList P ops Q (o::rest) a w:=
 wpList_plain hgd fun K hK=>by
  unfold Oper.wp
  simp[execOp,ho,resolve,invoke,builtin,hs,hx,hr,Result.andThen]
  exact hK _ _ h
def sliceLenG:Value→Nat
 |.slice _ n _=>n
 |_=>0
theorem RowG.congr {w:World}{base:Nat}{v:Value}{n:Nat}{f f':Nat→Int}(h:RowG w base v n f)(e:∀i,i<n→f i=f' i):RowG w base v n f':=by
 obtain⟨g,cap,rfl,h1,h2,h3,h4,h5⟩:=h
 exact⟨g,cap,rfl,h1,h2,h3,fun i hi=>by rw[←e i hi];exact h4 i hi,h5⟩
set_option maxHeartbeats 1000000 in
theorem refFill_any (f:Nat→Int)(base n m:Nat)(v:Value)(w:World)(hnm:n≤m)(hm:m<n+16)(h16:m%16=0)(hbig:m≤1000000)(hz:∀i,n≤i→i<m→f i=0)(hrow:RowG w base v n f)(hbase:base≤w.heap.size):
 Calls Tryz.prog 151 #[v] w fun e w'=>∃v',e=.returned v'∧RowG w' base v' m f∧Below base w w':=by
 have hlo:∀k,n≤k→k<m→¬k%16=0:=fun k h1 h2 h3=>by omega
 have H16:Hid (m%16=0):=h16
 clear h16
 go_enter Tryz.func151,Tryz.ntmps151
 go_wp2_with fail
 go_loopw[0] (fun v wr=>∃k:Nat,n≤k∧k≤m∧RowG wr base v k f∧Below base w wr∧base≤wr.heap.size) (fun v _=>m-sliceLenG v)
 case atStart=>exact⟨n,by omega,by omega,hrow,Below.refl _ _,hbase⟩
 case round=>
  clear hrow hbase
  obtain⟨k,hk1,hk2,hrow,hb,hbase⟩:=hrel
  have hrow':=hrow
  obtain⟨g,cap,rfl,hg1,hg2,hg3,hg4,hg5⟩:=hrow
  clear hg4 hg5
  by_cases hlt:k<m
  ·have hne:=hlo k hk1 hlt
   have hne':(((k:Int)%16) !=0)=true:=by rw[bne_iff_ne];omega
   obtain⟨v',w',hrun,hrow2,hb2⟩:=rowG_push 0 wr base _ k f hrow' (hz k hk1 hlt) (by omega) hbase
   obtain⟨g',cap',rfl,h1',h2',h3',h4',h5'⟩:=hrow2
   have hrow3:RowG w' base (.slice (some ⟨g',0,none⟩) (k+1) cap') (k+1) f:=⟨g',cap',rfl,h1',h2',h3',h4',h5'⟩
   clear h4' h5' hrow'
   go_wp2_with(at_builtin;refine wpList_append_litG rfl _ _ 35 35 rfl _ _ rfl rfl _ _ hrun ?_)
   refine⟨⟨k+1,by omega,by omega,hrow3,hb.trans hb2,by omega⟩,?_⟩
   show m-(k+1)<m-k
   omega
  have hkm:k=m:=by omega
  have hne':(((k:Int)%16) !=0)=false:=by
   have:=H16.out
   rw[←hkm]at this
   rw[bne_eq_false_iff_eq];omega
  go_wp2_with fail
  go_ret
  exact⟨_,rfl,hkm▸hrow',hb⟩
set_option maxHeartbeats 1000000 in
theorem refSize_any (f:Nat→Int)(base n N:Nat)(v:Value)(w:World)(hbig:n≤1000000)(hN:N≤1000000000)(hz:∀i,i<8→f (n+i)=((dg 8 N i:Nat):Int))(hrow:RowG w base v n f)(hbase:base≤w.heap.size):
 Calls Tryz.prog 152 #[v,.int .i64 (N:Int)] w fun e w'=>∃v',e=.returned v'∧RowG w' base v' (n+8) f∧Below base w w':=by
 go_enter Tryz.func152,Tryz.ntmps152
 go_wp2_with fail
 go_loopw[0,1,5] (fun v x i wr=>∃k M:Nat,k≤8∧i=.int .i64 k∧x=.int .i64 (M:Int)∧M≤1000000000∧M=N/2^(8*k)∧RowG wr base v (n+k) f∧Below base w wr∧base≤wr.heap.size) (fun _ _ i _=>8-(intOf i).toNat)
 case atStart=>exact⟨0,N,by omega,rfl,rfl,hN,by simp,hrow,Below.refl _ _,hbase⟩
 case round=>
  clear hrow hbase
  obtain⟨k,M,hk,rfl,rfl,hM,hMk,hrow,hb,hbase⟩:=hrel
  have HM:Hid (M=N/2^(8*k)):=hMk
  clear hMk
  have hrow':=hrow
  obtain⟨g,cap,rfl,hg1,hg2,hg3,hg4,hg5⟩:=hrow
  clear hg4 hg5
  by_cases hlt:k<8
  ·have hx:f (n+k)=(M:Int)%256:=by
    rw[hz k hlt];unfold dg;rw[←HM.out];omega
   obtain⟨v',w',hrun,hrow2,hb2⟩:=rowG_push ((M:Int)%256) wr base _ (n+k) f hrow' hx (by omega) hbase
   obtain⟨g',cap',rfl,h1',h2',h3',h4',h5'⟩:=hrow2
   have hrow3:RowG w' base (.slice (some ⟨g',0,none⟩) (n+k+1) cap') (n+(k+1)) f:=⟨g',cap',rfl,h1',h2',h3',h4',h5'⟩
   have HM2:Hid (M/256=N/2^(8*(k+1))):=by
    have e:M/256=N/2^(8*(k+1)):=by
     rw[HM.out,Nat.div_div_eq_div_mul,show 8*(k+1)=8*k+8 by omega,Nat.pow_add]
    exact e
   clear h4' h5' hrow' hx
   go_wp2_with(at_builtin;refine wpList_append_litG rfl _ _ 35 35 rfl _ _ rfl rfl _ _ hrun ?_)
   refine⟨⟨k+1,M/256,by omega,by go_num,by go_num,by omega,HM2.out,hrow3,hb.trans hb2,by omega⟩,?_⟩
   simp[intOf];omega
  have hkm:k=8:=by omega
  subst hkm
  go_wp2_with fail
  go_ret
  exact⟨_,rfl,hrow',hb⟩
set_option maxHeartbeats 1000000 in
theorem aeLengths_any (a b:ByteArray)(g:Nat)(w:World)(ha:a.size≤1000000)(hb:b.size≤1000000)(h0:w.cell? ⟨g,0,none⟩=some (.string a))(h1:w.cell? ⟨g,1,none⟩=some (.string b))(hg:g<w.heap.size):
 Calls Tryz.prog 128 #[.slice (some ⟨g,0,none⟩) 2 2] w fun e w'=>e=.returned (.string (lnB a.size b.size))∧Below w.heap.size w w':=by
 obtain⟨i0,hi,hz0,hz1,hz2⟩:=info_parts Tryz.info150
 obtain⟨S,hS⟩:∃S:Nat→ByteArray,S=fun k=>if k=0 then a else b:=⟨_,rfl⟩
 have hSc:∀k,k<2→w.cell? ⟨g,k,none⟩=some (.string (S k)):=fun k hk=>by
  have e:k=0∨k=1:=by omega
  rcases e with rfl|rfl
  ·rw[hS];exact h0
  rw[hS];exact h1
 have hSs:∀k,(S k).size≤1000000:=fun k=>by rw[hS];show(if k=0 then a else b).size≤_;split<;>assumption
 have hSl:∀k,k<2→lw4 a.size b.size (2*k)=((S k).size:Int)∧lw4 a.size b.size (2*k+1)=0:=fun k hk=>by
  have e:k=0∨k=1:=by omega
  rcases e with rfl|rfl
  ·rw[hS];unfold lw4 dg;simp;omega
  rw[hS];unfold lw4 dg;simp;omega
 have HL:Hid (strOfNums (joinF four (lw4 a.size b.size) 4)=lnB a.size b.size):=lw4_text _ _
 have hlo:=fun i=>lw4_lo a.size b.size i
 generalize lnB a.size b.size=X at HL⊢
 generalize lw4 a.size b.size=L at HL hSl hlo
 clear hS h0 h1 ha hb
 go_enter Tryz.func128,Tryz.ntmps128
 go_wp2_with fail
 go_loopw[3,9] (fun v i wr=>∃k:Nat,k≤2∧i=.int .i64 k∧wr.ownsRow w.heap.size 150 1 v (2*k) ((List.range (2*k)).map fun i=>.int .u32 (L i))∧Below w.heap.size w wr) (fun _ i _=>2-(intOf i).toNat)
 case atStart=>exact⟨0,by omega,rfl,World.ownsRow_nil _ _ _ _,Below.refl _ _⟩
 case round=>
  obtain⟨k,hk,rfl,hown,hbel⟩:=hrel
  by_cases hlt:k<2
  ·have hc:wr.cell? ⟨g,k,none⟩=some (.string (S k)):=(hbel.cell (p:=⟨g,k,none⟩) hg).trans (hSc k hlt)
   have hss:=hSs k
   obtain⟨l0,l1⟩:=hSl k hlt
   have hI:(k:Int)<2:=by omega
   generalize S k=s at hc hss l0
   go_wp2_with(at_builtin;refine wpList_append_own _ rfl _ _ 211 rfl w.heap.size 150 i0 (.int .u32 0) 1 4 Tryz.underlying211 hi hz0 hz1 hz2 rfl (by decide) _ _ _ rfl (hown.alloc _) ⟨wr.heap.size,0,none⟩ 2 2 [.int .u32 (s.size:Int),.int .u32 0] rfl rfl ?c1 ?c2 ?c3 ?c4 ?c5 ?_)
   case c1=>
    intro j u hj
    match j,hj with
    |0,hj=>simp at hj;subst hj;simp[Addr.add]
    |1,hj=>simp at hj;subst hj;simp[Addr.add];omega
    |j+2,hj=>simp at hj
   case c2=>intro u hu;simp at hu;rcases hu with rfl|rfl<;>rfl
   case c3=>unfold maxLen;omega
   case c4=>omega
   case c5=>have:=hbel.size;simp;omega
   intro v' w1 hown' hgrow _
   have hbel':Below w.heap.size w w1:=by
    refine Below.grown (hbel.alloc hbel.size _) hgrow ?_ ?_
    ·have:=hbel.size;simp;omega
    intro g hg;exact(hown.lt g hg).1
   have R:w1.ownsRow w.heap.size 150 1 v' (2*(k+1)) ((List.range (2*(k+1))).map fun i=>.int .u32 (L i)):=by
    rw[show 2*(k+1)=2*k+1+1 by omega,List.range_succ,List.range_succ,List.map_append,List.map_append,List.append_assoc,List.map_singleton,List.map_singleton,l0,l1]
    exact hown'
   clear hown' hgrow hown hbel
   go_wp2
   go_roundw
   case rel=>exact⟨k+1,by omega,by go_num,R,hbel'⟩
   case measure=>simp[intOf];omega
  have hkn:k=2:=by omega
  subst hkn
  obtain⟨A,cap,rfl,hAt⟩:=At_owns hown
  go_wp2_with fail
  refine(fromLittle_any A cap 4 L wr (by omega) hAt (fun i _=>hlo i)).mono ?_
  rintro e w2 ⟨rfl,hb2⟩
  rw[HL.out]
  go_wp2_with fail
  go_ret
  exact⟨rfl,hbel.trans (hb2.mono hbel.size)⟩
def atg (key nonce a c:ByteArray):ByteArray:=tagB (kyB key nonce) (mcB a c)
theorem atg_size (key nonce a c:ByteArray):(atg key nonce a c).size=16:=by unfold atg tagB;rw[leB_size]
def slB (key nonce a p:ByteArray):ByteArray:=crB key nonce p++atg key nonce a (crB key nonce p)
theorem slB_size (key nonce a p:ByteArray):(slB key nonce a p).size=p.size+16:=by unfold slB;rw[ByteArray.size_append,crB_size,atg_size]
theorem slB_bare (key nonce a p:ByteArray):(slB key nonce a p).extract 0 p.size=crB key nonce p:=cut_left _ _ _ (crB_size _ _ _)
theorem slB_last (key nonce a p:ByteArray):(slB key nonce a p).extract p.size (p.size+16)=atg key nonce a (crB key nonce p):=cut_right _ _ _ _ (crB_size _ _ _) (by rw[atg_size])
set_option maxHeartbeats 1000000 in
theorem aeFilled_any (s:ByteArray)(hs:s.size≤1000000)(w:World):
 Calls Tryz.prog 127 #[.string s] w fun e w'=>e=.returned (.string (pdB s))∧Below w.heap.size w w':=by
 have c1:=fun w=>repeat_zero (upN s.size) w (by have:=upN_lt s.size;omega)
 have hn:(16-((s.size:Nat):Int)%16)%16=((upN s.size:Nat):Int):=by unfold upN;omega
 have hu:upN s.size<16:=upN_lt _
 have HP:Hid (s++zt (upN s.size)=pdB s):=rfl
 rw[show strOfNums (List.replicate (upN s.size) 0)=zt (upN s.size)from rfl]at c1
 have hzs:=zt_size (upN s.size)
 generalize pdB s=X at HP⊢
 generalize zt (upN s.size)=Z at HP c1 hzs
 generalize upN s.size=u at c1 hn hu hzs
 have hZw:(9223372036854775807<s.size+Z.size)=False:=by simp;omega
 have HZ:Hid (Z.size=u):=hzs
 clear hzs
 go_enter Tryz.func127,Tryz.ntmps127
 go_wp2_with fail
 refine(c1 w).mono ?_
 rintro e w1 ⟨rfl,hb1⟩
 go_wp2_with fail
 go_ret
 exact⟨by rw[←HP.out];rfl,hb1⟩
set_option maxHeartbeats 2000000 in
theorem aeTag_any (key nonce a c:ByteArray)(hk:key.size=32)(hn:nonce.size=12)(ha:a.size≤16384)(hc:c.size≤16384)(w:World):
 Calls Tryz.prog 79 #[.string key,.string nonce,.string a,.string c] w fun e w'=>e=.returned (.string (atg key nonce a c))∧Below w.heap.size w w':=by
 have c0:=fun w=>block_ok key nonce 0 hk hn ⟨by decide,by decide⟩ w
 have c1:=fun w=>aeFilled_any a (by omega) w
 have c2:=fun w=>aeFilled_any c (by omega) w
 have c3:=fun g w=>aeLengths_any a c g w (by omega) (by omega)
 have hms:(mcB a c).size≤65536:=by
  have h1:=upN_lt a.size
  have h2:=upN_lt c.size
  rw[mcB_size];omega
 have c4:=fun w=>sum_ok (kyB key nonce) (mcB a c) (kyB_size _ _) hms w
 rw[show mcB a c=pdB a++pdB c++lnB a.size c.size from rfl]at c4 hms
 have hXK:(blkB (stI key nonce 0)).extract 0 32=kyB key nonce:=rfl
 have hXs:(blkB (stI key nonce 0)).size=64:=blkB_size _
 have HT:Hid (tagB (kyB key nonce) (pdB a++pdB c++lnB a.size c.size)=atg key nonce a c):=rfl
 have hLs:=lnB_size a.size c.size
 generalize atg key nonce a c=T at HT⊢
 generalize blkB (stI key nonce 0)=X at c0 hXK hXs
 generalize kyB key nonce=Y at c4 hXK HT
 generalize pdB a=A at c1 c4 HT hms
 generalize pdB c=C at c2 c4 HT hms
 generalize lnB a.size c.size=L at c3 c4 HT hLs hms
 rw[HT.out]at c4
 have hms':=hms
 rw[ByteArray.size_append,ByteArray.size_append]at hms'
 have hw1:(9223372036854775807<A.size+C.size)=False:=by simp;omega
 have hw2:(9223372036854775807<(A++C).size+L.size)=False:=by rw[ByteArray.size_append];simp;omega
 have hw2':(9223372036854775807<A.size+C.size+L.size)=False:=by simp;omega
 have hX32:((32:Int)≤((X.size:Nat):Int))=True:=by simp;omega
 have HXs:Hid (X.size=64):=hXs
 clear HT hms hms' hLs hXs hk hn
 go_enter Tryz.func79,Tryz.ntmps79
 go_wp2_with fail
 refine(c0 w).mono ?_
 rintro e w0 ⟨rfl,hb0⟩
 clear c0
 go_wp2_with fail
 refine wp_region_noPanic ?_
 refine wp_region_held_drew (S:=fun _=>True) (by kernel_rfl) trivial (fun hHeld=>?_)
 refine tkH 0 ?_;go_simp
 refine tkH 1 ?_;go_simp
 refine tkH 2 ?_;go_simp
 refine tkH 4 ?_;go_simp
 refine tkH 7 ?_;go_simp
 refine tkH 8 ?_;go_simp
 have hbw0:Below w.heap.size w w0.drew:=hb0.drew
 generalize w0.drew=wd at hbw0 hHeld⊢
 have hbwd:=hbw0
 refine wpAnyH_ready (rs:=[3,9]) (by kernel_rfl) (by simp) (AllReadyH.cons rfl (fun K hK=>?_) (AllReadyH.cons rfl (fun K hK=>?_) AllReadyH.nil))
 ·skip
  go_simp
  go_at_call 127
  refine(c1 _).mono ?_
  rintro e wa ⟨rfl,bwa⟩
  have hbwa:Below w.heap.size w wa:=hbwd.trans (bwa.mono hbwd.size)
  refine hK.out _ _ trivial (fun hHeld=>?_)
  clear hK K
  refine wpAnyH_ready (rs:=[5,9]) (by kernel_rfl) (by simp) (AllReadyH.cons rfl (fun K hK=>?_) (AllReadyH.cons rfl (fun K hK=>?_) AllReadyH.nil))
  ·skip
   go_simp
   go_at_call 127
   refine(c2 _).mono ?_
   rintro e wb ⟨rfl,bwb⟩
   have hbwb:Below w.heap.size w wb:=hbwa.trans (bwb.mono hbwa.size)
   refine hK.out _ _ trivial (fun hHeld=>?_)
   clear hK K
   refine tkH 6 ?_;go_simp
   refine rdH 9 fun K hK=>?_
   go_simp
   have hBwc':Blk (wb.alloc (.cells #[.string a,.string c] 9)) wb.heap.size 9 [.string a,.string c]:=Blk.box wb 9 [.string a,.string c]
   have hbwc':Below w.heap.size w (wb.alloc (.cells #[.string a,.string c] 9)):=hbwb.alloc hbwb.size _
   refine hK.out _ _ trivial (fun hHeld=>?_)
   clear hK K
   generalize wb.alloc (.cells #[.string a,.string c] 9)=wc at hBwc' hbwc'⊢
   generalize wb.heap.size=g at hBwc'⊢
   have hBwc:=hBwc'
   have hbwc:=hbwc'
   refine rdH 10 fun K hK=>?_
   go_simp
   go_at_call 128
   refine(c3 _ _ (hBwc.cell rfl) (hBwc.cell rfl) hBwc.lt).mono ?_
   rintro e wl ⟨rfl,bwl⟩
   have hbwl:Below w.heap.size w wl:=hbwc.trans (bwl.mono hbwc.size)
   refine hK.out _ _ trivial (fun hHeld=>?_)
   clear hK K
   refine tkH 11 ?_;go_simp
   refine rdH 12 fun K hK=>?_
   go_simp
   go_at_call 126
   refine(c4 _).mono ?_
   rintro e ws ⟨rfl,bws⟩
   have hbws:Below w.heap.size w ws:=hbwl.trans (bws.mono hbwl.size)
   refine hK.out _ _ trivial (fun hHeld=>?_)
   clear hK K
   refine tkH 13 ?_;go_simp
   refine tkH 14 ?_;go_simp
   refine tkH 15 ?_;go_simp
   refine tkH 16 ?_;go_simp
   refine tkH 17 ?_;go_simp
   refine wpAnyH_done (by kernel_rfl) ?_ _
   refine NoPanic.normal ?_
   go_wp2_with fail
   go_ret
   exact⟨rfl,hbws⟩
  skip
  go_simp
  have hBwb':Blk (wa.alloc (.cells #[.string a,.string c] 9)) wa.heap.size 9 [.string a,.string c]:=Blk.box wa 9 [.string a,.string c]
  have hbwb':Below w.heap.size w (wa.alloc (.cells #[.string a,.string c] 9)):=hbwa.alloc hbwa.size _
  refine hK.out _ _ trivial (fun hHeld=>?_)
  clear hK K
  generalize wa.alloc (.cells #[.string a,.string c] 9)=wb at hBwb' hbwb'⊢
  generalize wa.heap.size=g at hBwb'⊢
  have hBwb:=hBwb'
  have hbwb:=hbwb'
  refine rdH 5 fun K hK=>?_
  go_simp
  go_at_call 127
  refine(c2 _).mono ?_
  rintro e wc ⟨rfl,bwc⟩
  have hbwc:Below w.heap.size w wc:=hbwb.trans (bwc.mono hbwb.size)
  have hBwc:Blk wc _ 9 [.string a,.string c]:=hBwb.below bwc hBwb.lt
  refine hK.out _ _ trivial (fun hHeld=>?_)
  clear hK K
  refine tkH 6 ?_;go_simp
  refine rdH 10 fun K hK=>?_
  go_simp
  go_at_call 128
  refine(c3 _ _ (hBwc.cell rfl) (hBwc.cell rfl) hBwc.lt).mono ?_
  rintro e wl ⟨rfl,bwl⟩
  have hbwl:Below w.heap.size w wl:=hbwc.trans (bwl.mono hbwc.size)
  refine hK.out _ _ trivial (fun hHeld=>?_)
  clear hK K
  refine tkH 11 ?_;go_simp
  refine rdH 12 fun K hK=>?_
  go_simp
  go_at_call 126
  refine(c4 _).mono ?_
  rintro e ws ⟨rfl,bws⟩
  have hbws:Below w.heap.size w ws:=hbwl.trans (bws.mono hbwl.size)
  refine hK.out _ _ trivial (fun hHeld=>?_)
  clear hK K
  refine tkH 13 ?_;go_simp
  refine tkH 14 ?_;go_simp
  refine tkH 15 ?_;go_simp
  refine tkH 16 ?_;go_simp
  refine tkH 17 ?_;go_simp
  refine wpAnyH_done (by kernel_rfl) ?_ _
  refine NoPanic.normal ?_
  go_wp2_with fail
  go_ret
  exact⟨rfl,hbws⟩
 skip
 go_simp
 have hBwa':Blk (wd.alloc (.cells #[.string a,.string c] 9)) wd.heap.size 9 [.string a,.string c]:=Blk.box wd 9 [.string a,.string c]
 have hbwa':Below w.heap.size w (wd.alloc (.cells #[.string a,.string c] 9)):=hbwd.alloc hbwd.size _
 refine hK.out _ _ trivial (fun hHeld=>?_)
 clear hK K
 generalize wd.alloc (.cells #[.string a,.string c] 9)=wa at hBwa' hbwa'⊢
 generalize wd.heap.size=g at hBwa'⊢
 have hBwa:=hBwa'
 have hbwa:=hbwa'
 refine rdH 3 fun K hK=>?_
 go_simp
 go_at_call 127
 refine(c1 _).mono ?_
 rintro e wb ⟨rfl,bwb⟩
 have hbwb:Below w.heap.size w wb:=hbwa.trans (bwb.mono hbwa.size)
 have hBwb:Blk wb _ 9 [.string a,.string c]:=hBwa.below bwb hBwa.lt
 refine hK.out _ _ trivial (fun hHeld=>?_)
 clear hK K
 refine rdH 5 fun K hK=>?_
 go_simp
 go_at_call 127
 refine(c2 _).mono ?_
 rintro e wc ⟨rfl,bwc⟩
 have hbwc:Below w.heap.size w wc:=hbwb.trans (bwc.mono hbwb.size)
 have hBwc:Blk wc _ 9 [.string a,.string c]:=hBwb.below bwc hBwb.lt
 refine hK.out _ _ trivial (fun hHeld=>?_)
 clear hK K
 refine tkH 6 ?_;go_simp
 refine rdH 10 fun K hK=>?_
 go_simp
 go_at_call 128
 refine(c3 _ _ (hBwc.cell rfl) (hBwc.cell rfl) hBwc.lt).mono ?_
 rintro e wl ⟨rfl,bwl⟩
 have hbwl:Below w.heap.size w wl:=hbwc.trans (bwl.mono hbwc.size)
 refine hK.out _ _ trivial (fun hHeld=>?_)
 clear hK K
 refine tkH 11 ?_;go_simp
 refine rdH 12 fun K hK=>?_
 go_simp
 go_at_call 126
 refine(c4 _).mono ?_
 rintro e ws ⟨rfl,bws⟩
 have hbws:Below w.heap.size w ws:=hbwl.trans (bws.mono hbwl.size)
 refine hK.out _ _ trivial (fun hHeld=>?_)
 clear hK K
 refine tkH 13 ?_;go_simp
 refine tkH 14 ?_;go_simp
 refine tkH 15 ?_;go_simp
 refine tkH 16 ?_;go_simp
 refine tkH 17 ?_;go_simp
 refine wpAnyH_done (by kernel_rfl) ?_ _
 refine NoPanic.normal ?_
 go_wp2_with fail
 go_ret
 exact⟨rfl,hbws⟩
theorem aeShaped_ok (key nonce:ByteArray)(hk:key.size=32)(hn:nonce.size=12)(w:World):
 Calls Tryz.prog 76 #[.string key,.string nonce] w fun e w'=>e=.returned (.bool true)∧w'=w:=by
 have h1:(((key.size:Nat):Int)==32)=true:=by simp;omega
 have h2:(((nonce.size:Nat):Int)==12)=true:=by simp;omega
 clear hk hn
 go_enter Tryz.func76,Tryz.ntmps76
 go_wp2_with fail
 go_ret
 exact⟨rfl,rfl⟩
theorem aeLong_ok (a b:ByteArray)(ha:a.size≤16384)(hb:b.size≤16384)(w:World):
 Calls Tryz.prog 77 #[.string a,.string b] w fun e w'=>e=.returned (.bool false)∧w'=w:=by
 have h1:¬((16384:Int)<((a.size:Nat):Int)):=by omega
 have h2:¬((16384:Int)<((b.size:Nat):Int)):=by omega
 go_enter Tryz.func77,Tryz.ntmps77
 go_wp2_with fail
 go_ret
 exact⟨rfl,rfl⟩
set_option maxHeartbeats 1000000 in
theorem aeSeal_ok (key nonce a p:ByteArray)(hk:key.size=32)(hn:nonce.size=12)(ha:a.size≤16384)(hp:p.size≤16384)(w:World):
 Calls Tryz.prog 39 #[.string key,.string nonce,.string a,.string p] w fun e w'=>e=.returned (.tuple #[.string (slB key nonce a p),.int .i64 0])∧Below w.heap.size w w':=by
 have c1:=aeShaped_ok key nonce hk hn w
 have c2:=aeLong_ok a p ha hp w
 have c3:=fun w=>crypt_ok key nonce p 1 hk hn ⟨by decide,by decide⟩ (by omega) w
 rw[show cryB (ks key nonce 1) p=crB key nonce p from rfl]at c3
 have hCs:=crB_size key nonce p
 have c4:=fun w=>aeTag_any key nonce a (crB key nonce p) hk hn ha (by omega) w
 have hTs:=atg_size key nonce a (crB key nonce p)
 have HS:Hid (crB key nonce p++atg key nonce a (crB key nonce p)=slB key nonce a p):=rfl
 generalize slB key nonce a p=S at HS⊢
 generalize crB key nonce p=C at c3 c4 hCs hTs HS
 generalize atg key nonce a C=T at c4 hTs HS
 have hw:(9223372036854775807<C.size+T.size)=False:=by simp;omega
 clear hk hn ha hp hCs hTs
 go_enter Tryz.func39,Tryz.ntmps39
 go_wp2_with fail
 refine c1.mono ?_
 rintro e w1 ⟨rfl,hw1⟩
 rw[hw1]
 go_wp2_with fail
 refine c2.mono ?_
 rintro e w2 ⟨rfl,hw2⟩
 rw[hw2]
 clear c1 c2
 go_wp2_with fail
 refine(c3 w).mono ?_
 rintro e w3 ⟨rfl,hb3⟩
 go_wp2_with fail
 refine(c4 w3).mono ?_
 rintro e w4 ⟨rfl,hb4⟩
 have hb5:=hb3.trans (hb4.mono hb3.size)
 clear c3 c4 hb3 hb4
 go_wp2_with fail
 go_ret2
 exact⟨by rw[←HS.out];rfl,hb5⟩
set_option maxHeartbeats 1000000 in
theorem aeOpen_short (key nonce a s:ByteArray)(hk:key.size=32)(hn:nonce.size=12)(h:s.size<16)(w:World):
 Calls Tryz.prog 100 #[.string key,.string nonce,.string a,.string s] w fun e w'=>e=.returned (.tuple #[.string ⟨#[]⟩,.int .i64 3])∧Below w.heap.size w w':=by
 have c1:=aeShaped_ok key nonce hk hn w
 have h1:((s.size:Nat):Int)<16:=by omega
 clear hk hn
 go_enter Tryz.func100,Tryz.ntmps100
 go_wp2_with fail
 refine c1.mono ?_
 rintro e w1 ⟨rfl,hw1⟩
 rw[hw1]
 go_wp2_with fail
 go_ret2
 exact⟨rfl,Below.refl _ _⟩
set_option maxHeartbeats 1000000 in
theorem aeOpen_any (key nonce a s:ByteArray)(n:Nat)(hk:key.size=32)(hn:nonce.size=12)(hs:s.size=n+16)(ha:a.size≤16384)(h:n≤16384)(w:World):
 Calls Tryz.prog 100 #[.string key,.string nonce,.string a,.string s] w fun e w'=>e=.returned (if s.extract n s.size=atg key nonce a (s.extract 0 n)then .tuple #[.string (crB key nonce (s.extract 0 n)),.int .i64 0]else .tuple #[.string ⟨#[]⟩,.int .i64 23])∧Below w.heap.size w w':=by
 have c1:=aeShaped_ok key nonce hk hn w
 obtain⟨B,hB⟩:∃B,s.extract 0 n=B:=⟨_,rfl⟩
 obtain⟨D,hD⟩:∃D,s.extract n s.size=D:=⟨_,rfl⟩
 have hBs:B.size=n:=by rw[←hB,ByteArray.size_extract];omega
 have hDs:D.size=16:=by rw[←hD,ByteArray.size_extract];omega
 have c2:=fun w=>aeLong_ok a B ha (by omega) w
 have c3:=fun w=>aeTag_any key nonce a B hk hn ha (by omega) w
 have c4:=fun w=>equal_any D (atg key nonce a B) (by omega) (by rw[atg_size];omega) w
 have c5:=fun w=>crypt_ok key nonce B 1 hk hn ⟨by decide,by decide⟩ (by omega) w
 rw[show cryB (ks key nonce 1) B=crB key nonce B from rfl]at c5
 rw[hB,hD]
 generalize crB key nonce B=C at c5⊢
 generalize atg key nonce a B=T at c3 c4⊢
 obtain⟨R,hR⟩:∃R,(if D=T then(.tuple #[.string C,.int .i64 0]:Value)else .tuple #[.string ⟨#[]⟩,.int .i64 23])=R:=⟨_,rfl⟩
 rw[hR]
 have HR:Hid ((if D=T then(.tuple #[.string C,.int .i64 0]:Value)else .tuple #[.string ⟨#[]⟩,.int .i64 23])=R):=hR
 clear hR
 have hsI:((s.size:Nat):Int)=(n:Int)+16:=by omega
 have h1:¬((n:Int)+16<16):=by omega
 have h2:((n:Int)≤(n:Int)+16):=by omega
 have h0:(0:Int)≤(n:Int):=by omega
 have hn2:n≤s.size:=by omega
 have hn3:(n:Int)≤16384:=by omega
 clear hk hn ha hBs hDs hs
 go_enter Tryz.func100,Tryz.ntmps100
 go_wp2_with fail
 refine c1.mono ?_
 rintro e w1 ⟨rfl,hw1⟩
 rw[hw1]
 clear c1
 go_wp2_with fail
 go_quiet(fail)
 have hl:Below w.heap.size w (w.drewN nq):=⟨rfl,rfl,rfl,Nat.le_refl _,fun _ _=>rfl⟩
 generalize w.drewN nq=w2 at hl⊢
 go_wp2_with fail
 refine(c2 w2).mono ?_
 rintro e w3 ⟨rfl,hw3⟩
 rw[hw3]
 go_wp2_with fail
 refine(c3 w2).mono ?_
 rintro e w4 ⟨rfl,hb4⟩
 have hl4:=hl.trans (hb4.mono hl.size)
 clear c3 hb4 hl hB hD c2
 go_wp2_with fail
 refine(c4 w4).mono ?_
 rintro e w5 ⟨rfl,hb5⟩
 have hl5:=hl4.trans (hb5.mono hl4.size)
 clear c4 hb5 hl4
 by_cases hDT:D=T
 ·rw[decide_eq_true hDT]
  have HR2:Hid (R=.tuple #[.string C,.int .i64 0]):=HR.out.symm.trans (if_pos hDT)
  clear hDT HR
  go_wp2_with fail
  refine(c5 w5).mono ?_
  rintro e w6 ⟨rfl,hb6⟩
  have hl6:=hl5.trans (hb6.mono hl5.size)
  go_wp2_with fail
  go_ret2
  exact⟨by rw[HR2.out];rfl,hl6⟩
 rw[decide_eq_false hDT]
 have HR2:Hid (R=.tuple #[.string ⟨#[]⟩,.int .i64 23]):=HR.out.symm.trans (if_neg hDT)
 clear hDT HR
 go_wp2_with fail
 go_ret2
 exact⟨by rw[HR2.out];rfl,hl5⟩
section
variable(a c:ByteArray)
theorem mc_a (i:Nat)(h:i<a.size+upN a.size):bt (mcB a c) i=bt a i:=by
 unfold mcB
 rw[bt_left _ _ _ (by rw[ByteArray.size_append,pdB_size];omega),bt_left _ _ _ (by rw[pdB_size];omega),bt_pdB]
theorem mc_c (i:Nat)(h:i<c.size+upN c.size):bt (mcB a c) (a.size+upN a.size+i)=bt c i:=by
 unfold mcB
 rw[bt_left _ _ _ (by rw[ByteArray.size_append,pdB_size,pdB_size];omega),bt_right _ _ _ (by rw[pdB_size];omega),bt_pdB,pdB_size]
 congr 1;omega
theorem mc_l (i:Nat)(h:i<8):bt (mcB a c) (a.size+upN a.size+(c.size+upN c.size)+i)=((dg 8 a.size i:Nat):Int):=by
 unfold mcB lnB
 rw[bt_right _ _ _ (by rw[ByteArray.size_append,pdB_size,pdB_size];omega),ByteArray.size_append,pdB_size,pdB_size,show a.size+upN a.size+(c.size+upN c.size)+i-(a.size+upN a.size+(c.size+upN c.size))=i by omega,bt_left _ _ _ (by rw[leB_size];exact h),bt_leB _ _ _ h]
theorem mc_m (i:Nat)(h:i<8):bt (mcB a c) (a.size+upN a.size+(c.size+upN c.size)+8+i)=((dg 8 c.size i:Nat):Int):=by
 unfold mcB lnB
 rw[bt_right _ _ _ (by rw[ByteArray.size_append,pdB_size,pdB_size];omega),ByteArray.size_append,pdB_size,pdB_size,show a.size+upN a.size+(c.size+upN c.size)+8+i-(a.size+upN a.size+(c.size+upN c.size))=8+i by omega,bt_right _ _ _ (by rw[leB_size];omega),leB_size,show 8+i-8=i by omega,bt_leB _ _ _ h]
end
set_option maxHeartbeats 2000000 in
theorem aeRefTag_any (key nonce a c:ByteArray)(hk:key.size=32)(hn:nonce.size=12)(ha:a.size≤16384)(hc:c.size≤16384)(w:World):
 Calls Tryz.prog 118 #[.string key,.string nonce,.string a,.string c] w fun e w'=>e=.returned (.string (atg key nonce a c))∧Below w.heap.size w w':=by
 have c0:=fun w=>refBlock_ok key nonce 0 hk hn ⟨by decide,by decide⟩ w
 have hu1:=upN_lt a.size
 have hu2:=upN_lt c.size
 have hv1:=upN_mod a.size
 have hv2:=upN_mod c.size
 have f1:=mc_a a c
 have f2:=mc_c a c
 have f3:=mc_l a c
 have f4:=mc_m a c
 have hms:(mcB a c).size≤65536:=by rw[mcB_size];omega
 have c4:=fun w=>refSum_ok (kyB key nonce) (mcB a c) (kyB_size _ _) hms w
 have hXK:(blkB (stI key nonce 0)).extract 0 32=kyB key nonce:=rfl
 have hXs:(blkB (stI key nonce 0)).size=64:=blkB_size _
 have HT:Hid (tagB (kyB key nonce) (mcB a c)=atg key nonce a c):=rfl
 have hMt:=str_bts (mcB a c)
 rw[mcB_size]at hMt
 generalize atg key nonce a c=T at HT⊢
 generalize blkB (stI key nonce 0)=X at c0 hXK hXs
 generalize kyB key nonce=Y at c4 hXK HT
 obtain⟨f,hf⟩:∃f,bt (mcB a c)=f:=⟨_,rfl⟩
 rw[hf]at f1 f2 f3 f4 hMt
 generalize mcB a c=M at c4 HT hMt
 rw[HT.out]at c4
 have hX32:((32:Int)≤((X.size:Nat):Int))=True:=by simp;omega
 have HXs:Hid (X.size=64):=hXs
 obtain⟨m1,hm1⟩:∃m,a.size+upN a.size=m:=⟨_,rfl⟩
 obtain⟨m2,hm2⟩:∃m,m1+(c.size+upN c.size)=m:=⟨_,rfl⟩
 rw[hm1]at f1 f2 f3 f4 hMt hv1
 rw[hm2]at f3 f4 hMt
 have HMt:Hid (strOfNums ((List.range (m2+8+8)).map f)=M):=hMt
 --facts for the parts
 have Ha1:Hid (∀i,i<a.size→bt a i=f i):=fun i hi=>(f1 i (by omega)).symm
 have Ha2:Hid (∀i,a.size≤i→i<m1→f i=0):=fun i h1 h2=>by rw[f1 i h2,bt_out _ _ h1]
 have Hc1:Hid (∀i,i<c.size→f (m1+i)=bt c i):=fun i hi=>f2 i (by omega)
 have Hc2:Hid (∀i,m1+c.size≤i→i<m2→f i=0):=fun i h1 h2=>by
  have:=f2 (i-m1) (by omega)
  rw[show m1+(i-m1)=i by omega]at this
  rw[this,bt_out _ _ (by omega)]
 have Hl1:Hid (∀i,i<8→f (m2+i)=((dg 8 a.size i:Nat):Int)):=f3
 have Hl2:Hid (∀i,i<8→f (m2+8+i)=((dg 8 c.size i:Nat):Int)):=f4
 have N1:Hid (a.size≤m1∧m1<a.size+16∧m1%16=0∧m1≤1000000):=⟨by omega,by omega,by omega,by omega⟩
 have N2:Hid (m1+c.size≤m2∧m2<m1+c.size+16∧m2%16=0∧m2≤900000):=⟨by omega,by omega,by omega,by omega⟩
 clear HT hMt hms hXs hf f1 f2 f3 f4 hu1 hu2 hv1 hv2 hm1 hm2 hk hn
 go_enter Tryz.func118,Tryz.ntmps118
 go_wp2_with fail
 refine(c0 w).mono ?_
 rintro e w0 ⟨rfl,hb0⟩
 clear c0
 obtain⟨cap0,w1,hconv,hrow0,hb1⟩:=rowG_of w0 a
 have hrow1:=hrow0.congr Ha1.out
 have hl1:Below w.heap.size w w1:=hb0.trans (hb1.mono hb0.size)
 have hBs:w.heap.size≤w0.heap.size:=hb0.size
 have hs1:w0.heap.size≤w1.heap.size:=hb1.size
 clear hrow0 hb1 hb0
 generalize w0.heap.size=B at hconv hrow1 hBs hs1
 go_wp2_with fail
 refine(refFill_any f B a.size m1 _ w1 N1.out.1 N1.out.2.1 N1.out.2.2.1 N1.out.2.2.2 Ha2.out hrow1 hs1).mono ?_
 rintro e w2 ⟨v2,rfl,hrow2,hb2⟩
 have hl2:Below w.heap.size w w2:=hl1.trans (hb2.mono hBs)
 have hs2:B≤w2.heap.size:=by have:=hb2.size;omega
 clear hrow1 hl1 hb2 hconv Ha1 Ha2
 go_wp2_with fail
 go_loopw[11,12] (fun v i wr=>∃k:Nat,k≤c.size∧i=.int .i64 k∧RowG wr B v (m1+k) f∧Below w.heap.size w wr∧B≤wr.heap.size) (fun _ i _=>c.size-(intOf i).toNat)
 case atStart=>exact⟨0,by omega,rfl,hrow2,hl2,hs2⟩
 case round=>
  clear hrow2 hl2 hs2
  obtain⟨k,hk,rfl,hrow,hl,hs⟩:=hrel
  by_cases hlt:k<c.size
  ·have hI:(k:Int)<((c.size:Nat):Int):=by omega
   have hix:=fun w=>str_index c k hlt w
   obtain⟨v',w',hrun,hrow2,hb2⟩:=rowG_push ((bn c k:Nat):Int) wr B _ (m1+k) f hrow (by rw[Hc1.out k hlt,bn_int]) (by have:=N1.out.2.2.2;omega) hs
   have hl':Below w.heap.size w w':=hl.trans (hb2.mono hBs)
   have hs':B≤w'.heap.size:=by have:=hb2.size;omega
   generalize bn c k=x at hix hrun
   obtain⟨g,cap,rfl,hg1,hg2,hg3,hg4,hg5⟩:=hrow
   clear hg1 hg2 hg3 hg4 hg5 hl hb2
   go_wp2_with(at_builtin;refine wpList_append_litG rfl _ _ 35 35 rfl _ _ rfl rfl _ _ hrun ?_)
   refine⟨⟨k+1,by omega,by go_num,hrow2,hl',hs'⟩,?_⟩
   simp[intOf];omega
  have hkm:k=c.size:=by omega
  subst hkm
  clear hlt hk
  have hI:¬(((c.size:Nat):Int)<((c.size:Nat):Int)):=by omega
  go_wp2_with fail
  refine(refFill_any f B (m1+c.size) m2 _ wr N2.out.1 N2.out.2.1 N2.out.2.2.1 (by have:=N2.out.2.2.2;omega) Hc2.out hrow hs).mono ?_
  rintro e w3 ⟨v3,rfl,hrow3,hb3⟩
  have hl3:Below w.heap.size w w3:=hl.trans (hb3.mono hBs)
  have hs3:B≤w3.heap.size:=by have:=hb3.size;omega
  clear hrow hl hb3 hs Hc1 Hc2
  go_wp2_with fail
  refine(refSize_any f B m2 a.size _ w3 (by have:=N2.out.2.2.2;omega) (by omega) Hl1.out hrow3 hs3).mono ?_
  rintro e w4 ⟨v4,rfl,hrow4,hb4⟩
  have hl4:Below w.heap.size w w4:=hl3.trans (hb4.mono hBs)
  have hs4:B≤w4.heap.size:=by have:=hb4.size;omega
  clear hrow3 hl3 hb4 hs3
  go_wp2_with fail
  refine(refSize_any f B (m2+8) c.size _ w4 (by have:=N2.out.2.2.2;have:=N1.out.2.2.2;omega) (by omega) Hl2.out hrow4 hs4).mono ?_
  rintro e w5 ⟨v5,rfl,hrow5,hb5⟩
  have hl5:Below w.heap.size w w5:=hl4.trans (hb5.mono hBs)
  clear hrow4 hl4 hb5 hs4
  have HC:Hid (∀z:World,RowG z B v5 (m2+8+8) f→(convert 35 9 v5).run Tryz.prog z=.ok (.string M) z):=fun z h=>by
   have:=rowG_text h
   rw[HMt.out]at this;exact this
  have hS0:(fun z:World=>RowG z B v5 (m2+8+8) f) w5.drew:=hrow5
  have hld:Below w.heap.size w w5.drew:=hl5.drew
  clear hrow5 hl5
  go_wp2_with fail
  refine wp_region_noPanic ?_
  refine wp_region_held_drew (S:=fun z:World=>RowG z B v5 (m2+8+8) f) (by kernel_rfl) hS0 (fun hHeld=>?_)
  refine tkH 0 ?_;go_simp
  refine tkH 1 ?_;go_simp
  refine tkH 2 ?_;go_simp
  refine wpAnyH_take (i:=3) (v:=?_) rfl (by kernel_rfl) (by kernel_rfl) (by kernel_rfl) (fun _ _ _ h=>h) (Or.inl ⟨by rfl,?_⟩) (by assumption) ?_
  rotate_left
  ·intro z hSw;have hcz:=HC.out z hSw;go_simp;try with_reducible rfl
  go_simp
  refine rdH 4 fun K hK=>?_
  go_simp
  go_at_call 153
  refine(c4 _).mono ?_
  rintro e w6 ⟨rfl,hb6⟩
  have hS6:RowG w6 B v5 (m2+8+8) f:=RowG.below hS0 hb6
  have hl6:Below w.heap.size w w6:=hld.trans (hb6.mono hld.size)
  refine hK.out _ _ hS6 (fun hHeld=>?_)
  clear hK K
  refine tkH 5 ?_;go_simp
  refine tkH 6 ?_;go_simp
  refine tkH 7 ?_;go_simp
  refine tkH 8 ?_;go_simp
  refine tkH 9 ?_;go_simp
  refine wpAnyH_done (by kernel_rfl) ?_ _
  refine NoPanic.normal ?_
  go_wp2_with fail
  go_ret
  exact⟨rfl,hl6⟩
set_option maxHeartbeats 1000000 in
theorem refSeal_ok (key nonce a p:ByteArray)(hk:key.size=32)(hn:nonce.size=12)(ha:a.size≤3000)(hp:p.size≤3000)(w:World):
 Calls Tryz.prog 75 #[.string key,.string nonce,.string a,.string p] w fun e w'=>e=.returned (.tuple #[.string (slB key nonce a p),.int .i64 0])∧Below w.heap.size w w':=by
 have c3:=fun w=>refCrypt_ok key nonce p 1 hk hn ⟨by decide,by decide⟩ (by omega) w
 rw[show cryB (ks key nonce 1) p=crB key nonce p from rfl]at c3
 have hCs:=crB_size key nonce p
 have c4:=fun w=>aeRefTag_any key nonce a (crB key nonce p) hk hn (by omega) (by omega) w
 have hTs:=atg_size key nonce a (crB key nonce p)
 have HS:Hid (crB key nonce p++atg key nonce a (crB key nonce p)=slB key nonce a p):=rfl
 generalize slB key nonce a p=S at HS⊢
 generalize crB key nonce p=C at c3 c4 hCs hTs HS
 generalize atg key nonce a C=T at c4 hTs HS
 have hw:(9223372036854775807<C.size+T.size)=False:=by simp;omega
 have h1:(((key.size:Nat):Int) !=32)=false:=by simp;omega
 have h2:(((nonce.size:Nat):Int) !=12)=false:=by simp;omega
 have h3:¬((16384:Int)<((a.size:Nat):Int)):=by omega
 have h4:¬((16384:Int)<((p.size:Nat):Int)):=by omega
 clear hk hn hCs hTs
 go_enter Tryz.func75,Tryz.ntmps75
 go_wp2_with fail
 refine(c3 w).mono ?_
 rintro e w3 ⟨rfl,hb3⟩
 go_wp2_with fail
 refine(c4 w3).mono ?_
 rintro e w4 ⟨rfl,hb4⟩
 have hb5:=hb3.trans (hb4.mono hb3.size)
 clear c3 c4 hb3 hb4
 go_wp2_with fail
 go_ret2
 exact⟨by rw[←HS.out];rfl,hb5⟩
set_option maxHeartbeats 1000000 in
theorem refOpen_short (key nonce a s:ByteArray)(hk:key.size=32)(hn:nonce.size=12)(h:s.size<16)(w:World):
 Calls Tryz.prog 74 #[.string key,.string nonce,.string a,.string s] w fun e w'=>e=.returned (.tuple #[.string ⟨#[]⟩,.int .i64 3])∧Below w.heap.size w w':=by
 have h1:(((key.size:Nat):Int) !=32)=false:=by simp;omega
 have h2:(((nonce.size:Nat):Int) !=12)=false:=by simp;omega
 have h3:((s.size:Nat):Int)<16:=by omega
 clear hk hn
 go_enter Tryz.func74,Tryz.ntmps74
 go_wp2_with fail
 go_ret2
 exact⟨rfl,Below.refl _ _⟩
set_option maxHeartbeats 1000000 in
theorem refOpen_any (key nonce a s:ByteArray)(n:Nat)(hk:key.size=32)(hn:nonce.size=12)(hs:s.size=n+16)(ha:a.size≤3000)(h:n≤3000)(w:World):
 Calls Tryz.prog 74 #[.string key,.string nonce,.string a,.string s] w fun e w'=>e=.returned (if s.extract n s.size=atg key nonce a (s.extract 0 n)then .tuple #[.string (crB key nonce (s.extract 0 n)),.int .i64 0]else .tuple #[.string ⟨#[]⟩,.int .i64 23])∧Below w.heap.size w w':=by
 have h5:(((key.size:Nat):Int) !=32)=false:=by simp;omega
 have h6:(((nonce.size:Nat):Int) !=12)=false:=by simp;omega
 obtain⟨B,hB⟩:∃B,s.extract 0 n=B:=⟨_,rfl⟩
 obtain⟨D,hD⟩:∃D,s.extract n s.size=D:=⟨_,rfl⟩
 have hBs:B.size=n:=by rw[←hB,ByteArray.size_extract];omega
 have c3:=fun w=>aeRefTag_any key nonce a B hk hn (by omega) (by omega) w
 have c5:=fun w=>refCrypt_ok key nonce B 1 hk hn ⟨by decide,by decide⟩ (by omega) w
 rw[show cryB (ks key nonce 1) B=crB key nonce B from rfl]at c5
 rw[hB,hD]
 generalize crB key nonce B=C at c5⊢
 generalize atg key nonce a B=T at c3⊢
 obtain⟨R,hR⟩:∃R,(if D=T then(.tuple #[.string C,.int .i64 0]:Value)else .tuple #[.string ⟨#[]⟩,.int .i64 23])=R:=⟨_,rfl⟩
 rw[hR]
 have HR:Hid ((if D=T then(.tuple #[.string C,.int .i64 0]:Value)else .tuple #[.string ⟨#[]⟩,.int .i64 23])=R):=hR
 clear hR
 have hq:=toList_eq T D
 have hsI:((s.size:Nat):Int)=(n:Int)+16:=by omega
 have h1:¬((n:Int)+16<16):=by omega
 have h2:((n:Int)≤(n:Int)+16):=by omega
 have h0:(0:Int)≤(n:Int):=by omega
 have hn2:n≤s.size:=by omega
 have hn3:¬((16384:Int)<(n:Int)):=by omega
 have ha3:¬((16384:Int)<((a.size:Nat):Int)):=by omega
 clear hk hn hBs hs
 go_enter Tryz.func74,Tryz.ntmps74
 go_wp2_with fail
 refine(c3 w).mono ?_
 rintro e w4 ⟨rfl,hl4⟩
 clear c3
 by_cases hDT:D=T
 ·rw[decide_eq_true hDT.symm]at hq
  have HR2:Hid (R=.tuple #[.string C,.int .i64 0]):=HR.out.symm.trans (if_pos hDT)
  clear hDT HR
  go_wp2_with fail
  refine(c5 w4).mono ?_
  rintro e w6 ⟨rfl,hb6⟩
  have hl6:=hl4.trans (hb6.mono hl4.size)
  go_wp2_with fail
  go_ret2
  exact⟨by rw[HR2.out];rfl,hl6⟩
 rw[decide_eq_false (fun e=>hDT e.symm)]at hq
 have HR2:Hid (R=.tuple #[.string ⟨#[]⟩,.int .i64 23]):=HR.out.symm.trans (if_neg hDT)
 clear hDT HR
 go_wp2_with fail
 go_ret2
 exact⟨by rw[HR2.out];rfl,hl4⟩
end Go.Proofs.YtnhkkhiajiiahaaGreatDoor
