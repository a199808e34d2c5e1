import Derived.Test.YtnhkkhiajiiahaaGreatDoorSlAc0
namespace Go.Proofs.YtnhkkhiajiiahaaGreatDoor
open Go.RowKit Go.PlainAid
set_option linter.unusedVariables false
set_option maxRecDepth 20000
section
variable {B:Nat}{w0 z z':World}{gx g gr ga:Nat}{b b':Bs}{i n:Int}{key top:ByteArray}{R:Asn}{d s a t:Int}{ca:Option Addr}{cl cc:Nat}{p:ByteArray}
theorem Bth.push1 {v:Value}{m:Nat}{q:List (Int×ByteArray)}(hR:Firm R)(h:Bth B w0 z gx g gr 2 b b' i n key top (star (rowK 49 2 v m (prZ q)) R))(hm:m≤1000)(c:Int×ByteArray):
 ∃a c' w',(Builtin.append_ #[36,36] 36 #[v,.slice (some ⟨z.heap.size,0,none⟩) 1 1]).run Tryz.prog (z.alloc (.cells #[.int .i64 c.1,.string c.2] 49))=.ok (.slice a (m+1) c') w'∧Bth B w0 w' gx g gr 2 b b' i n key top (star (rowK 49 2 (.slice a (m+1) c') (m+1) (prZ (q++[c]))) R):=by
 obtain⟨a,c',w',h1,h2⟩:=push_z ((firm_blk _ _ _).star ((firm_bnk _ _ _ _ _).star ((firm_rbk _ _ _ _ _).star hR))) (Hold.pull4 h) hm c
 exact⟨a,c',w',h1,h2.back4⟩
theorem Bth.push2 {v:Value}{m:Nat}{q:List (Int×ByteArray)}(hR:Firm R)(h:Bth B w0 z gx g gr 2 b b' i n key top (star (rowK 77 2 v m (prZ q)) R))(hm:m≤1000)(c:Int×ByteArray):
 ∃a c' w',(Builtin.append_ #[76,76] 76 #[v,.slice (some ⟨z.heap.size,0,none⟩) 1 1]).run Tryz.prog (z.alloc (.cells #[.int .i64 c.1,.string c.2] 77))=.ok (.slice a (m+1) c') w'∧Bth B w0 w' gx g gr 2 b b' i n key top (star (rowK 77 2 (.slice a (m+1) c') (m+1) (prZ (q++[c]))) R):=by
 obtain⟨a,c',w',h1,h2⟩:=push_rz ((firm_blk _ _ _).star ((firm_bnk _ _ _ _ _).star ((firm_rbk _ _ _ _ _).star hR))) (Hold.pull4 h) hm c
 exact⟨a,c',w',h1,h2.back4⟩
end
section
variable {B:Nat}{w0 z z':World}{gx g gr ga:Nat}{b b':Bs}{i n:Int}{key top:ByteArray}{R:Asn}{d s a t:Int}{ca:Option Addr}{cl cc:Nat}{p:ByteArray}
set_option maxHeartbeats 8000000 in
theorem act_cells1 (hR:Firm R)(h:Bth B w0 z gx g gr 2 b b' i n key top R)(hS:Sm 2 b b')(hO:Oks b){m:Nat}(hf:Few17 2 b m)(hm:m≤40000)(ht:∀z,Below B w0 z→Tabs z∧RTabs z)(hcl:cl≤cc∧cc≤maxLen){sx:Nat→ByteArray}(htx:∀z,Below B w0 z→∀k,k<cl→∃bb o,ca=some ⟨bb,o,none⟩∧z.cell? ⟨bb,o+k,none⟩=some (.string (sx k)))(hd:d.tmod 8=1∨d.tmod 8=-1):
 Calls Tryz.prog 11 #[.pointer (some ⟨gx,0,none⟩),.agg #[.int .i64 d,.int .i64 s,.int .i64 a,.int .u8 t,.slice ca cl cc,.string p]] z fun e w'=>e=.returned (.bool true)∧Py B w0 w' gx g gr i n key (m+50) R:=by
 rcases hd with hd|hd
 all_goals
  have HR:Hid (Firm R):=hR
  have HFA:Hid (∀ga,Firm (star (blkA ga 32 [.int .i64 d,.int .i64 s,.int .i64 a,.int .u8 t,.slice ca cl cc,.string p]) R)):=fun ga=>(firm_blk _ _ _).star hR
  have HT:Hid (∀z,Below B w0 z→Tabs z∧RTabs z):=ht
  have HS:Hid (Sm 2 b b'):=hS
  have HO:Hid (Oks b):=hO
  have HF:Hid (Few17 2 b m):=hf
  have HM:Hid (m≤40000):=hm
  have X0:Hid (Bth B w0 (z.alloc (.cells #[.int .i64 d,.int .i64 s,.int .i64 a,.int .u8 t,.slice ca cl cc,.string p] 32)) gx g gr 2 b b' i n key top (star (blkA z.heap.size 32 [.int .i64 d,.int .i64 s,.int .i64 a,.int .u8 t,.slice ca cl cc,.string p]) R)):=h.box hR
  clear hR hS hO hf hm ht
  obtain⟨N,hN1,hN2,hN3⟩:∃q:Nat,(if(6:Int)<(cl:Int)then(6:Int)else(cl:Int))=(q:Int)∧q≤cl∧q≤6:=⟨min cl 6,by split<;>omega,by omega,by omega⟩
  have hN1':min (cl:Int) 6=(N:Int):=by rw[←hN1];split<;>omega
  have hNc:N≤cc:=Nat.le_trans hN2 hcl.1
  have hNi:(N:Int)≤(cl:Int):=by omega
  obtain⟨hcl1,hcl2⟩:=hcl
  unfold maxLen at hcl2
  have HTX:Hid (∀z,Below B w0 z→∀k,k<N→∃bb o,ca=some ⟨bb,o,none⟩∧z.cell? ⟨bb,o+k,none⟩=some (.string (sx k))):=fun z hz k hk=>htx z hz k (by omega)
  have HCH:Hid (∀ga y (q:List (Int×ByteArray)) a1 c1 a2 c2,q.length≤6→Bth B w0 y gx g gr 2 b b' i n key top (star (rowK 77 2 (.slice a2 q.length c2) q.length (prZ q)) (star (rowK 49 2 (.slice a1 q.length c1) q.length (prZ q)) (star (blkA ga 32 [.int .i64 d,.int .i64 s,.int .i64 a,.int .u8 t,.slice ca cl cc,.string p]) R)))→Calls Tryz.prog 29 #[.pointer (some ⟨gx,0,none⟩),.slice a1 q.length c1,.slice a2 q.length c2] y fun e w'=>e=.returned (.bool true)∧Py B w0 w' gx g gr i n key (m+50) R):=fun ga y q a1 c1 a2 c2 hq hy=>
   (change_any ((firm_rowK _ _ _ _ _).star ((firm_rowK _ _ _ _ _).star (HFA.out ga))) hy HS.out HO.out HF.out (by have:=HM.out;omega) HT.out (by omega) (Cg.ofZ (Hold.rowK (Hold.right (Hold.right (Hold.right (Hold.right hy)))))) (Cg.ofZ (Hold.rowK (Hold.right (Hold.right (Hold.right hy)))))).mono fun e w' ⟨h1,h2⟩=>⟨h1,(h2.drop.drop.drop).up (by omega)⟩
  clear htx
  obtain⟨ga,hga⟩:∃ga,z.heap.size=ga:=⟨_,rfl⟩
  rw[hga]at X0
  clear h
  obtain⟨⟨d0,d1,d2,d3,d4,d5,d6,d7,d8⟩,⟨c0,c1,c2,c3,c4,c5⟩⟩:=And.intro X0.out.cells9 X0.out.acell
  go_enter Tryz.func11,Tryz.ntmps11
  go_wp2_with fail
  clear d0 d1 d2 d3 d4 d5 d6 d7 d8 c0 c1 c2 c3 c4 c5
  generalize z.alloc (.cells #[.int .i64 d,.int .i64 s,.int .i64 a,.int .u8 t,.slice ca cl cc,.string p] 32)=y1 at X0⊢
  have X1:Hid (Bth B w0 y1 gx g gr 2 b b' i n key top (star (rowK 77 2 (.slice none 0 0) 0 (prZ [])) (star (rowK 49 2 (.slice none 0 0) 0 (prZ [])) (star (blkA ga 32 [.int .i64 d,.int .i64 s,.int .i64 a,.int .u8 t,.slice ca cl cc,.string p]) R)))):=X0.out.mono fun F h=>star_monoR h fun F h=>star_monoR h fun F h=>star_monoR h fun F h=>star_nil17 (star_nil17 h)
  clear X0 HT HM
  go_loopw[6,7,62] (fun v v' j wr=>∃(k c1 c2:Nat) (a1 a2:Option Addr) (q:List (Int×ByteArray)),k≤N∧j=.int .i64 (k:Int)∧v=.slice a1 k c1∧v'=.slice a2 k c2∧Hid (q.length=k∧Bth B w0 wr gx g gr 2 b b' i n key top (star (rowK 77 2 (.slice a2 k c2) k (prZ q)) (star (rowK 49 2 (.slice a1 k c1) k (prZ q)) (star (blkA ga 32 [.int .i64 d,.int .i64 s,.int .i64 a,.int .u8 t,.slice ca cl cc,.string p]) R))))) (fun _ _ j _=>N-(intOf j).toNat)
  case atStart=>exact⟨0,0,0,none,none,[],Nat.zero_le _,rfl,rfl,rfl,rfl,X1.out⟩
  case round=>
   clear X1
   obtain⟨k,c1,c2,a1,a2,q,hk,rfl,rfl,rfl,HX⟩:=hrel
   by_cases hlt:k<N
   ·have hk':(k:Int)<(N:Int):=by omega
    obtain⟨bb,oo,hca,hce⟩:=HTX.out wr HX.out.2.low k hlt
    subst hca
    obtain⟨-,k1,-⟩:=(HX.out.2.dropR.dropR.acell)
    obtain⟨xx,hxx⟩:∃xx,bits BinOp.xor IntKind.i64 s (k:Int)=xx:=⟨_,rfl⟩
    obtain⟨a3,c3,w3,hrun3,h3⟩:=Bth.push1 ((firm_rowK _ _ _ _ _).star (HFA.out _)) HX.out.2.swapR (by omega) (xx,sx k)
    obtain⟨a4,c4,w4,hrun4,h4⟩:=Bth.push2 ((firm_rowK _ _ _ _ _).star (HFA.out _)) h3.swapR (by omega) (xx,sx k)
    have HX4:Hid ((q++[(xx,sx k)]).length=k+1∧Bth B w0 w4 gx g gr 2 b b' i n key top (star (rowK 77 2 (.slice a4 (k+1) c4) (k+1) (prZ (q++[(xx,sx k)]))) (star (rowK 49 2 (.slice a3 (k+1) c3) (k+1) (prZ (q++[(xx,sx k)]))) (star (blkA ga 32 [.int .i64 d,.int .i64 s,.int .i64 a,.int .u8 t,.slice (some ⟨bb,oo,none⟩) cl cc,.string p]) R)))):=⟨by rw[List.length_append,HX.out.1];rfl,h4⟩
    clear h3 h4 HX
    go_wp2_with(first
     |(at_builtin;refine Lib.wpList_append_run _ rfl _ _ 36 36 rfl _ _ rfl rfl _ _ hrun3 ?_)
     |(at_builtin;refine Lib.wpList_append_run _ rfl _ _ 76 76 rfl _ _ rfl rfl _ _ hrun4 ?_))
    go_roundw
    case rel=>exact⟨k+1,c3,c4,a3,a4,_,by omega,by go_num,rfl,rfl,HX4.out⟩
    case measure=>simp[intOf];omega
   obtain rfl:k=N:=by omega
   have hk':¬(k:Int)<(k:Int):=by omega
   obtain⟨hql,hX⟩:=HX.out
   have HC2:Hid (Calls Tryz.prog 29 #[.pointer (some ⟨gx,0,none⟩),.slice a1 k c1,.slice a2 k c2] wr fun e w'=>e=.returned (.bool true)∧Py B w0 w' gx g gr i n key (m+50) R):=by
    subst hql
    exact HCH.out _ wr q a1 c1 a2 c2 hN3 hX
   clear hql hX HX HCH
   go_wp2_with(go_at_call 29;refine HC2.out.mono ?_;rintro x w5 ⟨rfl,h5⟩;have H5:Hid (Py B w0 w5 gx g gr i n key (m+50) R):=h5;clear h5 HC2)
   go_ret
   exact⟨rfl,H5.out⟩
end
end Go.Proofs.YtnhkkhiajiiahaaGreatDoor
