import Derived.Test.YtnhkkhiajiiahaaGreatDoorSlAct
import Derived.Test.YtnhkkhiajiiahaaGreatDoorSlKpM
import Derived.Deep.DeepCutAuto
import Derived.BigQuiet
namespace Go.Proofs.YtnhkkhiajiiahaaGreatDoor
open Go.RowKit Go.PlainAid
set_option linter.unusedVariables false
set_option maxRecDepth 20000
theorem Py.two {B:Nat}{w0 z:World}{gx g gr:Nat}{i n:Int}{key:ByteArray}{m hx hk:Nat}{L:List Value}{x0 x1:Int}(h:Py B w0 z gx g gr i n key m (star (blkA hk 23 L) (star (blkA hx 22 [.int .i64 x0,.int .i64 x1]) nought))):
 (z.cell? ⟨hx,0,none⟩=some (.int .i64 x0)∧z.cell? ⟨hx,1,none⟩=some (.int .i64 x1))∧Blk z hk 23 L:=by
 obtain⟨b,b',top,h1,_⟩:=h
 have h2:=Hold.right (Hold.right (Hold.right h1))
 exact⟨⟨h2.right.blk.cell (i:=0) rfl,h2.right.blk.cell (i:=1) rfl⟩,h2.blk⟩
set_option maxHeartbeats 4000000 in
theorem slabPlays_law (x0 x1:Int)(f:Nat→Nat)(s:Option Addr)(len cap:Nat)(W:World)(hs:Acs2 W s len cap)(ht:Tabs W)(hr:RTabs W):Calls Tryz.prog 3 #[.agg #[.int .i64 x0,.int .i64 x1],.agg (nr .u8 32 f).toArray,.slice s len cap] W fun e w'=>e=.returned (.bool true)∧Below W.heap.size W w':=by
 have hl1:=hs.1
 have hl2:=hs.2.1
 have HA:Hid (Acs2 W s len cap):=hs
 have HT:Hid (∀z,Below W.heap.size W z→Tabs z∧RTabs z):=fun z hz=>⟨ht.below hz ht.lt,hr.below hz hr.lt⟩
 have HW:Hid (∀z,Below W.heap.size W z→Calls Tryz.prog 10 #[] z fun e w'=>e=.returned (.bool true)∧Below z.heap.size z w'):=fun z hz=>wakes17_any (ht.below hz ht.lt) (hr.below hz hr.lt)
 have hzA:Hid (∀w:World,_):=zeroAct
 have HS32:Hid ((Tryz.prog.info? 23).map (·.size)=some (nr .u8 32 f).length):=by rw[show(nr .u8 32 f).length=32 by simp[nr]];exact(by kernel_rfl:(Tryz.prog.info? 23).map (·.size)=some 32)
 have HS6:Hid ((Tryz.prog.info? 32).map (·.size)=some 6):=(by kernel_rfl:(Tryz.prog.info? 32).map (·.size)=some 6)
 obtain⟨N,hN⟩:=sized_any x0
 have HN:Hid (∀w,Calls Tryz.prog 9 #[.int .i64 x0] w fun e w'=>e=.returned (.int .i64 N)∧w'=w):=hN
 have h0:=((hold_nought W.heap.size W W (Nat.le_refl _) (Below.refl _ _)).newBlk firm_nought 22 #[.int .i64 x0,.int .i64 x1]).newBlk ((firm_blk _ _ _).star firm_nought) 23 (nr .u8 32 f).toArray
 rw[List.toList_toArray]at h0
 simp only[World.size_alloc]at h0
 have HF2:Hid (Firm (star (blkA (W.heap.size+1) 23 (nr .u8 32 f)) (star (blkA W.heap.size 22 [.int .i64 x0,.int .i64 x1]) nought))):=(firm_blk _ _ _).star ((firm_blk _ _ _).star firm_nought)
 have H0:Hid (Hold W.heap.size W ((W.alloc (.cells #[.int .i64 x0,.int .i64 x1] 22)).alloc (.cells (nr .u8 32 f).toArray 23)).drew (star (blkA (W.heap.size+1) 23 (nr .u8 32 f)) (star (blkA W.heap.size 22 [.int .i64 x0,.int .i64 x1]) nought))):=h0.below HF2.out (Below.refl _ _).drew
 have HS0:Hid ((fun z:World=>(z.cell? ⟨W.heap.size,0,none⟩=some (.int .i64 x0)∧z.cell? ⟨W.heap.size,1,none⟩=some (.int .i64 x1))∧Blk z (W.heap.size+1) 23 (nr .u8 32 f)) ((W.alloc (.cells #[.int .i64 x0,.int .i64 x1] 22)).alloc (.cells (nr .u8 32 f).toArray 23)).drew):=⟨⟨H0.out.right.blk.cell (i:=0) rfl,H0.out.right.blk.cell (i:=1) rfl⟩,H0.out.blk⟩
 obtain⟨C,hC1,hC2,hC3⟩:∃C:Nat,(if(40:Int)<(len:Int)then(40:Int)else(len:Int))=(C:Int)∧C≤40∧C≤len:=⟨min len 40,by split<;>omega,by omega,by omega⟩
 have hC4:C≤cap:=by omega
 have hC5:min (len:Int) 40=(C:Int):=by omega
 have hC6:(C:Int)≤(len:Int):=by omega
 unfold maxLen at hl2
 clear ht hr hs h0 hN
 go_enter Tryz.func3,Tryz.ntmps3
 go_upto_region 1 with fail
 refine wp_region_noPanic ?_
 refine wp_region_held_drew (S:=fun z:World=>(z.cell? ⟨W.heap.size,0,none⟩=some (.int .i64 x0)∧z.cell? ⟨W.heap.size,1,none⟩=some (.int .i64 x1))∧Blk z (W.heap.size+1) 23 (nr .u8 32 f)) (by kernel_rfl) HS0.out (fun hHeld=>?_)
 have hs0:=HS0.out
 refine wpAnyH_take (i:=5) (v:=.agg (nr .u8 32 f).toArray) rfl (by kernel_rfl) (by kernel_rfl) (by kernel_rfl) (fun _ _ _ h=>h) (yields_row rfl 23 _ rfl (W.heap.size+1) rfl 23 (nr .u8 32 f) _ (fun _ h=>h.2) Tryz.underlying23 rfl HS32.out) (by assumption) ?_
 go_simp
 refine tkH 0 ?_;go_simp
 refine tkH 1 ?_;go_simp
 refine tkH 3 ?_;go_simp
 refine tkH 4 ?_;go_simp
 refine rdH 2 fun K hK=>?_
 go_simp
 go_at_call 9
 refine(HN.out _).mono ?_
 rintro x w0 ⟨rfl,hw⟩
 rw[hw]
 clear hw w0
 refine hK.out _ _ HS0.out (fun hHeld=>?_)
 clear hK K
 refine rdH 6 fun K hK=>?_
 go_simp
 go_at_call 8
 refine(py_begin HF2.out H0.out HT.out x1 N f).mono ?_
 rintro x w1 ⟨gx,g,gr,rfl,h1⟩
 have H1:Hid (Py W.heap.size W w1 gx g gr x1 N (tx 32 f) 100 (star (blkA (W.heap.size+1) 23 (nr .u8 32 f)) (star (blkA W.heap.size 22 [.int .i64 x0,.int .i64 x1]) nought))):=h1
 clear h1 hs0
 refine hK.out _ _ H1.out.two (fun hHeld=>?_)
 clear hK K
 have hs1:=H1.out.two
 refine tkH 7 ?_;go_simp
 refine tkH 8 ?_;go_simp
 refine tkH 9 ?_;go_simp
 refine tkH 10 ?_;go_simp
 refine tkH 11 ?_;go_simp
 refine wpAnyH_done (by kernel_rfl) ?_ _
 refine NoPanic.normal ?_
 clear hs1
 have H2:Hid (Py W.heap.size W w1 gx g gr x1 N (tx 32 f) 100 nought):=H1.out.drop.drop
 clear H1 H0 HS0 HF2 HN HS32
 generalize tx 32 f=key at*
 go_wp2_with(go_at_call 10;refine(HW.out _ H2.out.low).mono ?_;rintro x w2 ⟨rfl,h2⟩;have H3:Hid (Py W.heap.size W w2 gx g gr x1 N key 100 nought):=H2.out.below firm_nought h2;clear h2 H2 HW)
 go_loopw[33] (fun j wr=>∃k:Nat,k≤C∧j=.int .i64 (k:Int)∧Hid (Py W.heap.size W wr gx g gr x1 N key (100+50*k) nought)) (fun j _=>C-(intOf j).toNat)
 case atStart=>exact⟨0,Nat.zero_le _,rfl,H3.out⟩
 case round=>
  clear H3
  obtain⟨k,hk,rfl,hrr⟩:=hrel
  by_cases hlt:k<C
  ·have hk':(k:Int)<(C:Int):=by omega
   obtain⟨sb,so,A,hsa,hA,hrow⟩:=acs2_at HA.out hrr.out.low k (by omega)
   subst hsa
   have HAct:Hid (∀z,Py W.heap.size W z gx g gr x1 N key (100+50*k) nought→Calls Tryz.prog 11 #[.pointer (some ⟨gx,0,none⟩),.agg #[.int .i64 A.d,.int .i64 A.s,.int .i64 A.a,.int .u8 A.t,.slice A.ca A.cl A.cc,.string A.p]] z fun e w'=>e=.returned (.bool true)∧Py W.heap.size W w' gx g gr x1 N key (100+50*k+50) nought):=fun z hz=>act_any firm_nought hz (by omega) HT.out A hA
   obtain⟨ad,kk,aa,at_,ca,cl,cc,ap⟩:=A
   simp only at HAct
   have HROW:Hid (wr.rangeAt sb (so+k*6) [.int .i64 ad,.int .i64 kk,.int .i64 aa,.int .u8 at_,.slice ca cl cc,.string ap]):=hrow
   have HX:Hid (Py W.heap.size W (wr.alloc (.cells #[.int .i64 ad,.int .i64 kk,.int .i64 aa,.int .u8 at_,.slice ca cl cc,.string ap] 32)) gx g gr x1 N key (100+50*k) nought):=hrr.out.below firm_nought ((Below.refl _ _).alloc (Nat.le_refl _) _)
   have HBX:Hid (Blk (wr.alloc (.cells #[.int .i64 ad,.int .i64 kk,.int .i64 aa,.int .u8 at_,.slice ca cl cc,.string ap] 32)) wr.heap.size 32 [.int .i64 ad,.int .i64 kk,.int .i64 aa,.int .u8 at_,.slice ca cl cc,.string ap]):=Blk.box wr 32 [.int .i64 ad,.int .i64 kk,.int .i64 aa,.int .u8 at_,.slice ca cl cc,.string ap]
   have hz:=hzA.out
   clear hA hrow hrr
   go_upto_region 7 with(first
    |(refine wpList_load_mid rfl 32 _ rfl sb (so+k*6) rfl [.int .i64 ad,.int .i64 kk,.int .i64 aa,.int .u8 at_,.slice ca cl cc,.string ap] _ HROW.out Tryz.underlying32 rfl HS6.out ?_))
   generalize hwb:wr.alloc (.cells #[.int .i64 ad,.int .i64 kk,.int .i64 aa,.int .u8 at_,.slice ca cl cc,.string ap] 32)=wb at*
   generalize hga:wr.heap.size=ga at*
   clear hwb hga hz HROW
   go_wp2_with(first
    |(refine wpList_load_blk rfl 32 _ rfl ga rfl 32 [.int .i64 ad,.int .i64 kk,.int .i64 aa,.int .u8 at_,.slice ca cl cc,.string ap] _ HBX.out Tryz.underlying32 rfl HS6.out ?_)
    |(go_at_call 11;refine(HAct.out _ HX.out).mono ?_;rintro x w5 ⟨rfl,h5⟩;have H5:Hid (Py W.heap.size W w5 gx g gr x1 N key (100+50*k+50) nought):=h5;clear h5 HX HBX HAct))
   go_roundw
   case rel=>exact⟨k+1,by omega,by go_num,H5.out⟩
   case measure=>simp[intOf];omega
  obtain rfl:k=C:=by omega
  have hk':¬(k:Int)<(k:Int):=by omega
  go_wp2
  go_ret
  exact⟨rfl,hrr.out.low⟩
end Go.Proofs.YtnhkkhiajiiahaaGreatDoor
