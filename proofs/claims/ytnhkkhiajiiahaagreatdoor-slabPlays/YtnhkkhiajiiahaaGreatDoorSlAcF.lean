import Derived.Test.YtnhkkhiajiiahaaGreatDoorSlAc0
namespace Go.Proofs.YtnhkkhiajiiahaaGreatDoor
open Go.RowKit Go.PlainAid
set_option linter.unusedVariables false
set_option maxRecDepth 20000
section
variable {B:Nat}{w0 z z':World}{gx g gr ga:Nat}{b b':Bs}{i n:Int}{key top:ByteArray}{R:Asn}{d s a t:Int}{ca:Option Addr}{cl cc:Nat}{p:ByteArray}
set_option maxHeartbeats 8000000 in
theorem act_tout4 (hR:Firm R)(h:Bth B w0 z gx g gr 2 b b' i n key top R)(hS:Sm 2 b b')(hO:Oks b){m:Nat}(hf:Few17 2 b m)(hm:m≤40000)(ht:∀z,Below B w0 z→Tabs z∧RTabs z)(hp:p.size≤maxLen)(hi:i<0∨(2:Int)≤i)(hd:d.tmod 8=4∨d.tmod 8=-4):
 Calls Tryz.prog 11 #[.pointer (some ⟨gx,0,none⟩),.agg #[.int .i64 d,.int .i64 s,.int .i64 a,.int .u8 t,.slice ca cl cc,.string p]] z fun e w'=>e=.returned (.bool true)∧Py B w0 w' gx g gr i n key (m+50) R:=by
 rcases hd with hd|hd
 all_goals
  have HR:Hid (Firm R):=hR
  have HFA:Hid (∀ga,Firm (star (blkA ga 32 [.int .i64 d,.int .i64 s,.int .i64 a,.int .u8 t,.slice ca cl cc,.string p]) R)):=fun ga=>(firm_blk _ _ _).star hR
  have HT:Hid (∀z,Below B w0 z→Tabs z∧RTabs z):=ht
  have HS:Hid (Sm 2 b b'):=hS
  have HO:Hid (Oks b):=hO
  have HF:Hid (Few17 2 b m):=hf
  have HM:Hid (m≤40000):=hm
  have X0:Hid (Bth B w0 (z.alloc (.cells #[.int .i64 d,.int .i64 s,.int .i64 a,.int .u8 t,.slice ca cl cc,.string p] 32)) gx g gr 2 b b' i n key top (star (blkA z.heap.size 32 [.int .i64 d,.int .i64 s,.int .i64 a,.int .u8 t,.slice ca cl cc,.string p]) R)):=h.box hR
  clear hR hS hO hf hm ht
  obtain⟨M,hM1,hM2,hM3⟩:∃q:Nat,(if(100:Int)<(p.size:Int)then(100:Int)else(p.size:Int))=(q:Int)∧q≤p.size∧q≤100:=⟨min p.size 100,by split<;>omega,by omega,by omega⟩
  have hM1':min (p.size:Int) 100=(M:Int):=by rw[←hM1];split<;>omega
  have hMi:(M:Int)≤(p.size:Int):=by omega
  have HD:Hid (∀ga y,Bth B w0 y gx g gr 2 b b' i n key top (star (blkA ga 32 [.int .i64 d,.int .i64 s,.int .i64 a,.int .u8 t,.slice ca cl cc,.string p]) R)→Calls Tryz.prog 17 #[.pointer (some ⟨g,0,none⟩),.int .i64 i] y fun e w'=>e=.returned (.pointer none)∧w'=y):=fun ga y hy=>bdisk_out (Hold.right hy) i hi
  unfold maxLen at hp
  clear hi
  obtain⟨ga,hga⟩:∃ga,z.heap.size=ga:=⟨_,rfl⟩
  rw[hga]at X0
  clear h
  obtain⟨⟨d0,d1,d2,d3,d4,d5,d6,d7,d8⟩,⟨c0,c1,c2,c3,c4,c5⟩⟩:=And.intro X0.out.cells9 X0.out.acell
  go_enter Tryz.func11,Tryz.ntmps11
  go_wp2_with fail
  clear d0 d1 d2 d3 d4 d5 d6 d7 d8 c0 c1 c2 c3 c4 c5
  generalize z.alloc (.cells #[.int .i64 d,.int .i64 s,.int .i64 a,.int .u8 t,.slice ca cl cc,.string p] 32)=y1 at X0⊢
  have X1:Hid (Bth B w0 y1.drew gx g gr 2 b b' i n key top (star (blkA ga 32 [.int .i64 d,.int .i64 s,.int .i64 a,.int .u8 t,.slice ca cl cc,.string p]) R)):=X0.out.below (HFA.out _) (Below.refl _ _).drew
  clear X0
  refine wp_region_noPanic ?_
  refine wp_region_held_drew (S:=fun z:World=>z.cell? ⟨gx,0,none⟩=some (.pointer (some ⟨g,0,none⟩))∧z.cell? ⟨gx,1,none⟩=some (.int .i64 i)∧z.cell? ⟨gx,2,none⟩=some (.int .i64 n)∧z.cell? ⟨gx,3,none⟩=some (.string key)∧z.cell? ⟨gx,4,none⟩=some (.pointer (some ⟨gr,0,none⟩))∧z.cell? ⟨gx,5,none⟩=some (.int .i64 i)∧z.cell? ⟨gx,6,none⟩=some (.int .i64 n)∧z.cell? ⟨gx,7,none⟩=some (.string key)∧z.cell? ⟨gx,8,none⟩=some (.string top)∧z.cell? ⟨ga,0,none⟩=some (.int .i64 d)∧z.cell? ⟨ga,1,none⟩=some (.int .i64 s)∧z.cell? ⟨ga,2,none⟩=some (.int .i64 a)∧z.cell? ⟨ga,3,none⟩=some (.int .u8 t)∧z.cell? ⟨ga,4,none⟩=some (.slice ca cl cc)∧z.cell? ⟨ga,5,none⟩=some (.string p)) (by kernel_rfl) X1.out.cells15 (fun hHeld=>?_)
  refine tkH 0 ?_;go_simp
  refine tkH 1 ?_;go_simp
  refine tkH 2 ?_;go_simp
  refine tkH 3 ?_;go_simp
  refine tkH 4 ?_;go_simp
  refine tkH 5 ?_;go_simp
  refine tkH 6 ?_;go_simp
  refine tkH 7 ?_;go_simp
  refine tkH 8 ?_;go_simp
  refine tkH 9 ?_;go_simp
  refine rdH 10 fun K hK=>?_
  go_simp
  go_at_call 17
  refine(HD.out _ _ X1.out).mono ?_
  rintro x w1 ⟨rfl,hw⟩
  rw[hw]
  clear hw w1
  refine hK.out _ _ X1.out.cells15 (fun hHeld=>?_)
  clear hK K
  refine tkH 11 ?_;go_simp
  refine wpAnyH_done (by kernel_rfl) ?_ _
  refine NoPanic.normal ?_
  go_wp2_with fail
  go_ret
  exact⟨rfl,_,_,_,X1.out.dropR,HS.out,HO.out,HF.out.up (by omega)⟩
end
end Go.Proofs.YtnhkkhiajiiahaaGreatDoor
