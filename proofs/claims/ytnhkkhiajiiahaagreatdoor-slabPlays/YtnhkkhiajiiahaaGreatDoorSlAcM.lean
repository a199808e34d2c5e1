import Derived.Test.YtnhkkhiajiiahaaGreatDoorSlAc0
namespace Go.Proofs.YtnhkkhiajiiahaaGreatDoor
open Go.RowKit Go.PlainAid
set_option linter.unusedVariables false
set_option maxRecDepth 20000
section
variable {B:Nat}{w0 z z':World}{gx g gr ga:Nat}{b b':Bs}{i n:Int}{key top:ByteArray}{R:Asn}{d s a t:Int}{ca:Option Addr}{cl cc:Nat}{p:ByteArray}
set_option maxHeartbeats 8000000 in
theorem act_cut5 (hR:Firm R)(h:Bth B w0 z gx g gr 2 b b' i n key top R)(hS:Sm 2 b b')(hO:Oks b){m:Nat}(hf:Few17 2 b m)(hm:m≤40000)(ht:∀z,Below B w0 z→Tabs z∧RTabs z)(ha:a≤9223372036854775807)(hd:d.tmod 8=5∨d.tmod 8=-5):
 Calls Tryz.prog 11 #[.pointer (some ⟨gx,0,none⟩),.agg #[.int .i64 d,.int .i64 s,.int .i64 a,.int .u8 t,.slice ca cl cc,.string p]] z fun e w'=>e=.returned (.bool true)∧Py B w0 w' gx g gr i n key (m+50) R:=by
 rcases hd with hd|hd
 all_goals
  have HR:Hid (Firm R):=hR
  have HFA:Hid (∀ga,Firm (star (blkA ga 32 [.int .i64 d,.int .i64 s,.int .i64 a,.int .u8 t,.slice ca cl cc,.string p]) R)):=fun ga=>(firm_blk _ _ _).star hR
  have HT:Hid (∀z,Below B w0 z→Tabs z∧RTabs z):=ht
  have HS:Hid (Sm 2 b b'):=hS
  have HO:Hid (Oks b):=hO
  have HF:Hid (Few17 2 b m):=hf
  have HM:Hid (m≤40000):=hm
  have X0:Hid (Bth B w0 (z.alloc (.cells #[.int .i64 d,.int .i64 s,.int .i64 a,.int .u8 t,.slice ca cl cc,.string p] 32)) gx g gr 2 b b' i n key top (star (blkA z.heap.size 32 [.int .i64 d,.int .i64 s,.int .i64 a,.int .u8 t,.slice ca cl cc,.string p]) R)):=h.box hR
  have HA:Hid (a≤9223372036854775807):=ha
  clear ha
  clear hR hS hO hf hm ht
  obtain⟨ga,hga⟩:∃ga,z.heap.size=ga:=⟨_,rfl⟩
  rw[hga]at X0
  clear h
  obtain⟨⟨d0,d1,d2,d3,d4,d5,d6,d7,d8⟩,⟨c0,c1,c2,c3,c4,c5⟩⟩:=And.intro X0.out.cells9 X0.out.acell
  go_enter Tryz.func11,Tryz.ntmps11
  go_wp2_with fail
  clear d0 d1 d2 d3 d4 d5 d6 d7 d8 c0 c1 c2 c3 c4 c5
  generalize z.alloc (.cells #[.int .i64 d,.int .i64 s,.int .i64 a,.int .u8 t,.slice ca cl cc,.string p] 32)=y1 at X0⊢
  have X1:Hid (Bth B w0 y1.drew gx g gr 2 b b' i n key top (star (blkA ga 32 [.int .i64 d,.int .i64 s,.int .i64 a,.int .u8 t,.slice ca cl cc,.string p]) R)):=X0.out.below (HFA.out _) (Below.refl _ _).drew
  clear X0
  refine wp_region_noPanic ?_
  refine wp_region_held_drew (S:=fun z:World=>z.cell? ⟨gx,0,none⟩=some (.pointer (some ⟨g,0,none⟩))∧z.cell? ⟨gx,1,none⟩=some (.int .i64 i)∧z.cell? ⟨gx,2,none⟩=some (.int .i64 n)∧z.cell? ⟨gx,3,none⟩=some (.string key)∧z.cell? ⟨gx,4,none⟩=some (.pointer (some ⟨gr,0,none⟩))∧z.cell? ⟨gx,5,none⟩=some (.int .i64 i)∧z.cell? ⟨gx,6,none⟩=some (.int .i64 n)∧z.cell? ⟨gx,7,none⟩=some (.string key)∧z.cell? ⟨gx,8,none⟩=some (.string top)∧z.cell? ⟨ga,0,none⟩=some (.int .i64 d)∧z.cell? ⟨ga,1,none⟩=some (.int .i64 s)∧z.cell? ⟨ga,2,none⟩=some (.int .i64 a)∧z.cell? ⟨ga,3,none⟩=some (.int .u8 t)∧z.cell? ⟨ga,4,none⟩=some (.slice ca cl cc)∧z.cell? ⟨ga,5,none⟩=some (.string p)) (by kernel_rfl) X1.out.cells15 (fun hHeld=>?_)
  refine tkH 0 ?_;go_simp
  refine tkH 1 ?_;go_simp
  refine tkH 2 ?_;go_simp
  refine tkH 3 ?_;go_simp
  refine tkH 4 ?_;go_simp
  refine tkH 5 ?_;go_simp
  refine tkH 6 ?_;go_simp
  refine rdH 7 fun K hK=>?_
  go_simp
  go_at_call 32
  refine(Bth.cut (HFA.out _) X1.out a HA.out).mono ?_
  rintro x w1 ⟨rfl,h1⟩
  have X2:Hid (Bth B w0 w1 gx g gr 2 (cuB b a) b' i n key top (star (blkA ga 32 [.int .i64 d,.int .i64 s,.int .i64 a,.int .u8 t,.slice ca cl cc,.string p]) R)):=h1
  clear h1 X1
  refine hK.out _ _ X2.out.cells15 (fun hHeld=>?_)
  clear hK K
  refine wpAnyH_done (by kernel_rfl) ?_ _
  refine NoPanic.normal ?_
  go_wp2_with fail
  have X3:Hid (Bth B w0 w1.drew gx g gr 2 (cuB b a) b' i n key top (star (blkA ga 32 [.int .i64 d,.int .i64 s,.int .i64 a,.int .u8 t,.slice ca cl cc,.string p]) R)):=X2.out.below (HFA.out _) (Below.refl _ _).drew
  clear X2
  refine wp_region_noPanic ?_
  refine wp_region_held_drew (S:=fun z:World=>z.cell? ⟨gx,0,none⟩=some (.pointer (some ⟨g,0,none⟩))∧z.cell? ⟨gx,1,none⟩=some (.int .i64 i)∧z.cell? ⟨gx,2,none⟩=some (.int .i64 n)∧z.cell? ⟨gx,3,none⟩=some (.string key)∧z.cell? ⟨gx,4,none⟩=some (.pointer (some ⟨gr,0,none⟩))∧z.cell? ⟨gx,5,none⟩=some (.int .i64 i)∧z.cell? ⟨gx,6,none⟩=some (.int .i64 n)∧z.cell? ⟨gx,7,none⟩=some (.string key)∧z.cell? ⟨gx,8,none⟩=some (.string top)∧z.cell? ⟨ga,0,none⟩=some (.int .i64 d)∧z.cell? ⟨ga,1,none⟩=some (.int .i64 s)∧z.cell? ⟨ga,2,none⟩=some (.int .i64 a)∧z.cell? ⟨ga,3,none⟩=some (.int .u8 t)∧z.cell? ⟨ga,4,none⟩=some (.slice ca cl cc)∧z.cell? ⟨ga,5,none⟩=some (.string p)) (by kernel_rfl) X3.out.cells15 (fun hHeld=>?_)
  refine tkH 0 ?_;go_simp
  refine tkH 1 ?_;go_simp
  refine tkH 2 ?_;go_simp
  refine tkH 3 ?_;go_simp
  refine tkH 4 ?_;go_simp
  refine tkH 5 ?_;go_simp
  refine tkH 6 ?_;go_simp
  refine rdH 7 fun K hK=>?_
  go_simp
  go_at_call 33
  refine(Bth.rcut (HFA.out _) X3.out a HA.out).mono ?_
  rintro x w2 ⟨rfl,h1⟩
  have X4:Hid (Bth B w0 w2 gx g gr 2 (cuB b a) (cuB b' a) i n key top (star (blkA ga 32 [.int .i64 d,.int .i64 s,.int .i64 a,.int .u8 t,.slice ca cl cc,.string p]) R)):=h1
  clear h1 X3
  refine hK.out _ _ X4.out.cells15 (fun hHeld=>?_)
  clear hK K
  refine wpAnyH_done (by kernel_rfl) ?_ _
  refine NoPanic.normal ?_
  go_wp2_with fail
  go_ret
  exact⟨rfl,_,_,_,X4.out.dropR,HS.out.c a,HO.out.c a,HF.out.up (by omega)⟩
end
section
variable {B:Nat}{w0 z z':World}{gx g gr ga:Nat}{b b':Bs}{i n:Int}{key top:ByteArray}{R:Asn}{d s a t:Int}{ca:Option Addr}{cl cc:Nat}{p:ByteArray}
set_option maxHeartbeats 8000000 in
theorem act_crash6 (hR:Firm R)(h:Bth B w0 z gx g gr 2 b b' i n key top R)(hS:Sm 2 b b')(hO:Oks b){m:Nat}(hf:Few17 2 b m)(hm:m≤40000)(ht:∀z,Below B w0 z→Tabs z∧RTabs z)(hd:d.tmod 8=6∨d.tmod 8=-6):
 Calls Tryz.prog 11 #[.pointer (some ⟨gx,0,none⟩),.agg #[.int .i64 d,.int .i64 s,.int .i64 a,.int .u8 t,.slice ca cl cc,.string p]] z fun e w'=>e=.returned (.bool true)∧Py B w0 w' gx g gr i n key (m+50) R:=by
 rcases hd with hd|hd
 all_goals
  have HR:Hid (Firm R):=hR
  have HFA:Hid (∀ga,Firm (star (blkA ga 32 [.int .i64 d,.int .i64 s,.int .i64 a,.int .u8 t,.slice ca cl cc,.string p]) R)):=fun ga=>(firm_blk _ _ _).star hR
  have HT:Hid (∀z,Below B w0 z→Tabs z∧RTabs z):=ht
  have HS:Hid (Sm 2 b b'):=hS
  have HO:Hid (Oks b):=hO
  have HF:Hid (Few17 2 b m):=hf
  have HM:Hid (m≤40000):=hm
  have X0:Hid (Bth B w0 (z.alloc (.cells #[.int .i64 d,.int .i64 s,.int .i64 a,.int .u8 t,.slice ca cl cc,.string p] 32)) gx g gr 2 b b' i n key top (star (blkA z.heap.size 32 [.int .i64 d,.int .i64 s,.int .i64 a,.int .u8 t,.slice ca cl cc,.string p]) R)):=h.box hR
  clear hR hS hO hf hm ht
  obtain⟨ga,hga⟩:∃ga,z.heap.size=ga:=⟨_,rfl⟩
  rw[hga]at X0
  clear h
  obtain⟨⟨d0,d1,d2,d3,d4,d5,d6,d7,d8⟩,⟨c0,c1,c2,c3,c4,c5⟩⟩:=And.intro X0.out.cells9 X0.out.acell
  go_enter Tryz.func11,Tryz.ntmps11
  have HQ:Hid (∀j,j<2→(b.D j).q.length≤1000000):=HF.out.q HM.out
  have HQ':Hid (∀j,j<2→(b'.D j).q.length≤1000000):=(HF.out.sm HS.out).q HM.out
  go_wp2_with(first
   |(go_at_call 34;refine(Bth.crash (HFA.out _) X0.out HQ.out).mono ?_;rintro x w1 ⟨rfl,h1⟩;have X2:Hid (Bth B w0 w1 gx g gr 2 (crB17 b) b' i n key top (star (blkA ga 32 [.int .i64 d,.int .i64 s,.int .i64 a,.int .u8 t,.slice ca cl cc,.string p]) R)):=h1;clear h1;clear d0 d1 d2 d3 d4 d5 d6 d7 d8 c0 c1 c2 c3 c4 c5;obtain⟨d0,d1,d2,d3,d4,d5,d6,d7,d8⟩:=X2.out.cells9)
   |(go_at_call 35;refine(Bth.rcrash (HFA.out _) X2.out HQ'.out).mono ?_;rintro x w2 ⟨rfl,h1⟩;have X4:Hid (Bth B w0 w2 gx g gr 2 (crB17 b) (crB17 b') i n key top (star (blkA ga 32 [.int .i64 d,.int .i64 s,.int .i64 a,.int .u8 t,.slice ca cl cc,.string p]) R)):=h1;clear h1 X2 d0 d1 d2 d3 d4 d5 d6 d7 d8))
  go_ret
  exact⟨rfl,_,_,_,X4.out.dropR,HS.out.k,HO.out.k,HF.out.k.up (by omega)⟩
end
section
variable {B:Nat}{w0 z z':World}{gx g gr ga:Nat}{b b':Bs}{i n:Int}{key top:ByteArray}{R:Asn}{d s a t:Int}{ca:Option Addr}{cl cc:Nat}{p:ByteArray}
set_option maxHeartbeats 8000000 in
theorem act_get2 (hR:Firm R)(h:Bth B w0 z gx g gr 2 b b' i n key top R)(hS:Sm 2 b b')(hO:Oks b){m:Nat}(hf:Few17 2 b m)(hm:m≤40000)(ht:∀z,Below B w0 z→Tabs z∧RTabs z)(hd:d.tmod 8=2∨d.tmod 8=-2):
 Calls Tryz.prog 11 #[.pointer (some ⟨gx,0,none⟩),.agg #[.int .i64 d,.int .i64 s,.int .i64 a,.int .u8 t,.slice ca cl cc,.string p]] z fun e w'=>e=.returned (.bool true)∧Py B w0 w' gx g gr i n key (m+50) R:=by
 rcases hd with hd|hd
 all_goals
  have HR:Hid (Firm R):=hR
  have HFA:Hid (∀ga,Firm (star (blkA ga 32 [.int .i64 d,.int .i64 s,.int .i64 a,.int .u8 t,.slice ca cl cc,.string p]) R)):=fun ga=>(firm_blk _ _ _).star hR
  have HT:Hid (∀z,Below B w0 z→Tabs z∧RTabs z):=ht
  have HS:Hid (Sm 2 b b'):=hS
  have HO:Hid (Oks b):=hO
  have HF:Hid (Few17 2 b m):=hf
  have HM:Hid (m≤40000):=hm
  have X0:Hid (Bth B w0 (z.alloc (.cells #[.int .i64 d,.int .i64 s,.int .i64 a,.int .u8 t,.slice ca cl cc,.string p] 32)) gx g gr 2 b b' i n key top (star (blkA z.heap.size 32 [.int .i64 d,.int .i64 s,.int .i64 a,.int .u8 t,.slice ca cl cc,.string p]) R)):=h.box hR
  clear hR hS hO hf hm ht
  obtain⟨T,E,hP,hQ⟩:=p_get (g:=g) (gr:=gr) (i:=i) (n:=n) (key:=key) HO.out HS.out HF.out (by have:=HM.out;omega) top s
  have HP:Hid _:=hP
  have HQ:Hid _:=hQ
  clear hP hQ
  obtain⟨ga,hga⟩:∃ga,z.heap.size=ga:=⟨_,rfl⟩
  rw[hga]at X0
  clear h
  obtain⟨⟨d0,d1,d2,d3,d4,d5,d6,d7,d8⟩,⟨c0,c1,c2,c3,c4,c5⟩⟩:=And.intro X0.out.cells9 X0.out.acell
  go_enter Tryz.func11,Tryz.ntmps11
  go_wp2_with fail
  clear d0 d1 d2 d3 d4 d5 d6 d7 d8 c0 c1 c2 c3 c4 c5
  generalize z.alloc (.cells #[.int .i64 d,.int .i64 s,.int .i64 a,.int .u8 t,.slice ca cl cc,.string p] 32)=y1 at X0⊢
  have X1:Hid (Bth B w0 y1.drew gx g gr 2 b b' i n key top (star (blkA ga 32 [.int .i64 d,.int .i64 s,.int .i64 a,.int .u8 t,.slice ca cl cc,.string p]) R)):=X0.out.below (HFA.out _) (Below.refl _ _).drew
  clear X0
  refine wp_region_noPanic ?_
  refine wp_region_held_drew (S:=fun z:World=>z.cell? ⟨gx,0,none⟩=some (.pointer (some ⟨g,0,none⟩))∧z.cell? ⟨gx,1,none⟩=some (.int .i64 i)∧z.cell? ⟨gx,2,none⟩=some (.int .i64 n)∧z.cell? ⟨gx,3,none⟩=some (.string key)∧z.cell? ⟨gx,4,none⟩=some (.pointer (some ⟨gr,0,none⟩))∧z.cell? ⟨gx,5,none⟩=some (.int .i64 i)∧z.cell? ⟨gx,6,none⟩=some (.int .i64 n)∧z.cell? ⟨gx,7,none⟩=some (.string key)∧z.cell? ⟨gx,8,none⟩=some (.string top)∧z.cell? ⟨ga,0,none⟩=some (.int .i64 d)∧z.cell? ⟨ga,1,none⟩=some (.int .i64 s)∧z.cell? ⟨ga,2,none⟩=some (.int .i64 a)∧z.cell? ⟨ga,3,none⟩=some (.int .u8 t)∧z.cell? ⟨ga,4,none⟩=some (.slice ca cl cc)∧z.cell? ⟨ga,5,none⟩=some (.string p)) (by kernel_rfl) X1.out.cells15 (fun hHeld=>?_)
  refine tkH 0 ?_;go_simp
  refine tkH 1 ?_;go_simp
  refine tkH 2 ?_;go_simp
  refine tkH 3 ?_;go_simp
  refine tkH 4 ?_;go_simp
  refine tkH 5 ?_;go_simp
  refine tkH 6 ?_;go_simp
  refine rdH 7 fun K hK=>?_
  go_simp
  go_at_call 15
  refine(HP.out _ X1.out.bk (HT.out _ X1.out.low).1).mono ?_
  rintro x w1 ⟨rfl,h1⟩
  have X2:Hid (Bth B w0 w1 gx g gr 2 b b' i n key top (star (blkA ga 32 [.int .i64 d,.int .i64 s,.int .i64 a,.int .u8 t,.slice ca cl cc,.string p]) R)):=X1.out.below (HFA.out _) h1
  clear h1 X1
  refine hK.out _ _ X2.out.cells15 (fun hHeld=>?_)
  clear hK K
  have hsc1:=X2.out.cells15
  refine tkH 8 ?_;go_simp
  refine tkH 9 ?_;go_simp
  refine tkH 10 ?_;go_simp
  refine tkH 11 ?_;go_simp
  refine tkH 12 ?_;go_simp
  refine wpAnyH_done (by kernel_rfl) ?_ _
  refine NoPanic.normal ?_
  clear hsc1
  go_wp2_with fail
  have X3:Hid (Bth B w0 w1.drew gx g gr 2 b b' i n key top (star (blkA ga 32 [.int .i64 d,.int .i64 s,.int .i64 a,.int .u8 t,.slice ca cl cc,.string p]) R)):=X2.out.below (HFA.out _) (Below.refl _ _).drew
  clear X2
  refine wp_region_noPanic ?_
  refine wp_region_held_drew (S:=fun z:World=>z.cell? ⟨gx,0,none⟩=some (.pointer (some ⟨g,0,none⟩))∧z.cell? ⟨gx,1,none⟩=some (.int .i64 i)∧z.cell? ⟨gx,2,none⟩=some (.int .i64 n)∧z.cell? ⟨gx,3,none⟩=some (.string key)∧z.cell? ⟨gx,4,none⟩=some (.pointer (some ⟨gr,0,none⟩))∧z.cell? ⟨gx,5,none⟩=some (.int .i64 i)∧z.cell? ⟨gx,6,none⟩=some (.int .i64 n)∧z.cell? ⟨gx,7,none⟩=some (.string key)∧z.cell? ⟨gx,8,none⟩=some (.string top)∧z.cell? ⟨ga,0,none⟩=some (.int .i64 d)∧z.cell? ⟨ga,1,none⟩=some (.int .i64 s)∧z.cell? ⟨ga,2,none⟩=some (.int .i64 a)∧z.cell? ⟨ga,3,none⟩=some (.int .u8 t)∧z.cell? ⟨ga,4,none⟩=some (.slice ca cl cc)∧z.cell? ⟨ga,5,none⟩=some (.string p)) (by kernel_rfl) X3.out.cells15 (fun hHeld=>?_)
  refine tkH 0 ?_;go_simp
  refine tkH 1 ?_;go_simp
  refine tkH 2 ?_;go_simp
  refine tkH 3 ?_;go_simp
  refine tkH 4 ?_;go_simp
  refine tkH 5 ?_;go_simp
  refine tkH 6 ?_;go_simp
  refine rdH 7 fun K hK=>?_
  go_simp
  go_at_call 36
  refine(HQ.out _ X3.out.rk (HT.out _ X3.out.low).2).mono ?_
  rintro x w2 ⟨rfl,h1⟩
  have X4:Hid (Bth B w0 w2 gx g gr 2 b b' i n key top (star (blkA ga 32 [.int .i64 d,.int .i64 s,.int .i64 a,.int .u8 t,.slice ca cl cc,.string p]) R)):=X3.out.below (HFA.out _) h1
  clear h1 X3
  refine hK.out _ _ X4.out.cells15 (fun hHeld=>?_)
  clear hK K
  have hsc3:=X4.out.cells15
  refine tkH 8 ?_;go_simp
  refine tkH 9 ?_;go_simp
  refine tkH 10 ?_;go_simp
  refine tkH 11 ?_;go_simp
  refine tkH 12 ?_;go_simp
  refine wpAnyH_done (by kernel_rfl) ?_ _
  refine NoPanic.normal ?_
  clear hsc3
  go_wp2_with fail
  go_ret
  exact⟨rfl,_,_,_,X4.out.dropR,HS.out,HO.out,HF.out.up (by omega)⟩
end
section
variable {B:Nat}{w0 z z':World}{gx g gr ga:Nat}{b b':Bs}{i n:Int}{key top:ByteArray}{R:Asn}{d s a t:Int}{ca:Option Addr}{cl cc:Nat}{p:ByteArray}
set_option maxHeartbeats 8000000 in
theorem act_get7 (hR:Firm R)(h:Bth B w0 z gx g gr 2 b b' i n key top R)(hS:Sm 2 b b')(hO:Oks b){m:Nat}(hf:Few17 2 b m)(hm:m≤40000)(ht:∀z,Below B w0 z→Tabs z∧RTabs z)(hd:d.tmod 8=7∨d.tmod 8=-7):
 Calls Tryz.prog 11 #[.pointer (some ⟨gx,0,none⟩),.agg #[.int .i64 d,.int .i64 s,.int .i64 a,.int .u8 t,.slice ca cl cc,.string p]] z fun e w'=>e=.returned (.bool true)∧Py B w0 w' gx g gr i n key (m+50) R:=by
 rcases hd with hd|hd
 all_goals
  have HR:Hid (Firm R):=hR
  have HFA:Hid (∀ga,Firm (star (blkA ga 32 [.int .i64 d,.int .i64 s,.int .i64 a,.int .u8 t,.slice ca cl cc,.string p]) R)):=fun ga=>(firm_blk _ _ _).star hR
  have HT:Hid (∀z,Below B w0 z→Tabs z∧RTabs z):=ht
  have HS:Hid (Sm 2 b b'):=hS
  have HO:Hid (Oks b):=hO
  have HF:Hid (Few17 2 b m):=hf
  have HM:Hid (m≤40000):=hm
  have X0:Hid (Bth B w0 (z.alloc (.cells #[.int .i64 d,.int .i64 s,.int .i64 a,.int .u8 t,.slice ca cl cc,.string p] 32)) gx g gr 2 b b' i n key top (star (blkA z.heap.size 32 [.int .i64 d,.int .i64 s,.int .i64 a,.int .u8 t,.slice ca cl cc,.string p]) R)):=h.box hR
  clear hR hS hO hf hm ht
  obtain⟨T,E,hP,hQ⟩:=p_get (g:=g) (gr:=gr) (i:=i) (n:=n) (key:=key) HO.out HS.out HF.out (by have:=HM.out;omega) p s
  have HP:Hid _:=hP
  have HQ:Hid _:=hQ
  clear hP hQ
  obtain⟨ga,hga⟩:∃ga,z.heap.size=ga:=⟨_,rfl⟩
  rw[hga]at X0
  clear h
  obtain⟨⟨d0,d1,d2,d3,d4,d5,d6,d7,d8⟩,⟨c0,c1,c2,c3,c4,c5⟩⟩:=And.intro X0.out.cells9 X0.out.acell
  go_enter Tryz.func11,Tryz.ntmps11
  go_wp2_with fail
  clear d0 d1 d2 d3 d4 d5 d6 d7 d8 c0 c1 c2 c3 c4 c5
  generalize z.alloc (.cells #[.int .i64 d,.int .i64 s,.int .i64 a,.int .u8 t,.slice ca cl cc,.string p] 32)=y1 at X0⊢
  have X1:Hid (Bth B w0 y1.drew gx g gr 2 b b' i n key top (star (blkA ga 32 [.int .i64 d,.int .i64 s,.int .i64 a,.int .u8 t,.slice ca cl cc,.string p]) R)):=X0.out.below (HFA.out _) (Below.refl _ _).drew
  clear X0
  refine wp_region_noPanic ?_
  refine wp_region_held_drew (S:=fun z:World=>z.cell? ⟨gx,0,none⟩=some (.pointer (some ⟨g,0,none⟩))∧z.cell? ⟨gx,1,none⟩=some (.int .i64 i)∧z.cell? ⟨gx,2,none⟩=some (.int .i64 n)∧z.cell? ⟨gx,3,none⟩=some (.string key)∧z.cell? ⟨gx,4,none⟩=some (.pointer (some ⟨gr,0,none⟩))∧z.cell? ⟨gx,5,none⟩=some (.int .i64 i)∧z.cell? ⟨gx,6,none⟩=some (.int .i64 n)∧z.cell? ⟨gx,7,none⟩=some (.string key)∧z.cell? ⟨gx,8,none⟩=some (.string top)∧z.cell? ⟨ga,0,none⟩=some (.int .i64 d)∧z.cell? ⟨ga,1,none⟩=some (.int .i64 s)∧z.cell? ⟨ga,2,none⟩=some (.int .i64 a)∧z.cell? ⟨ga,3,none⟩=some (.int .u8 t)∧z.cell? ⟨ga,4,none⟩=some (.slice ca cl cc)∧z.cell? ⟨ga,5,none⟩=some (.string p)) (by kernel_rfl) X1.out.cells15 (fun hHeld=>?_)
  refine tkH 0 ?_;go_simp
  refine tkH 1 ?_;go_simp
  refine tkH 2 ?_;go_simp
  refine tkH 3 ?_;go_simp
  refine tkH 4 ?_;go_simp
  refine tkH 5 ?_;go_simp
  refine tkH 6 ?_;go_simp
  refine rdH 7 fun K hK=>?_
  go_simp
  go_at_call 15
  refine(HP.out _ X1.out.bk (HT.out _ X1.out.low).1).mono ?_
  rintro x w1 ⟨rfl,h1⟩
  have X2:Hid (Bth B w0 w1 gx g gr 2 b b' i n key top (star (blkA ga 32 [.int .i64 d,.int .i64 s,.int .i64 a,.int .u8 t,.slice ca cl cc,.string p]) R)):=X1.out.below (HFA.out _) h1
  clear h1 X1
  refine hK.out _ _ X2.out.cells15 (fun hHeld=>?_)
  clear hK K
  have hsc1:=X2.out.cells15
  refine tkH 8 ?_;go_simp
  refine tkH 9 ?_;go_simp
  refine tkH 10 ?_;go_simp
  refine tkH 11 ?_;go_simp
  refine tkH 12 ?_;go_simp
  refine wpAnyH_done (by kernel_rfl) ?_ _
  refine NoPanic.normal ?_
  clear hsc1
  go_wp2_with fail
  have X3:Hid (Bth B w0 w1.drew gx g gr 2 b b' i n key top (star (blkA ga 32 [.int .i64 d,.int .i64 s,.int .i64 a,.int .u8 t,.slice ca cl cc,.string p]) R)):=X2.out.below (HFA.out _) (Below.refl _ _).drew
  clear X2
  refine wp_region_noPanic ?_
  refine wp_region_held_drew (S:=fun z:World=>z.cell? ⟨gx,0,none⟩=some (.pointer (some ⟨g,0,none⟩))∧z.cell? ⟨gx,1,none⟩=some (.int .i64 i)∧z.cell? ⟨gx,2,none⟩=some (.int .i64 n)∧z.cell? ⟨gx,3,none⟩=some (.string key)∧z.cell? ⟨gx,4,none⟩=some (.pointer (some ⟨gr,0,none⟩))∧z.cell? ⟨gx,5,none⟩=some (.int .i64 i)∧z.cell? ⟨gx,6,none⟩=some (.int .i64 n)∧z.cell? ⟨gx,7,none⟩=some (.string key)∧z.cell? ⟨gx,8,none⟩=some (.string top)∧z.cell? ⟨ga,0,none⟩=some (.int .i64 d)∧z.cell? ⟨ga,1,none⟩=some (.int .i64 s)∧z.cell? ⟨ga,2,none⟩=some (.int .i64 a)∧z.cell? ⟨ga,3,none⟩=some (.int .u8 t)∧z.cell? ⟨ga,4,none⟩=some (.slice ca cl cc)∧z.cell? ⟨ga,5,none⟩=some (.string p)) (by kernel_rfl) X3.out.cells15 (fun hHeld=>?_)
  refine tkH 0 ?_;go_simp
  refine tkH 1 ?_;go_simp
  refine tkH 2 ?_;go_simp
  refine tkH 3 ?_;go_simp
  refine tkH 4 ?_;go_simp
  refine tkH 5 ?_;go_simp
  refine tkH 6 ?_;go_simp
  refine rdH 7 fun K hK=>?_
  go_simp
  go_at_call 36
  refine(HQ.out _ X3.out.rk (HT.out _ X3.out.low).2).mono ?_
  rintro x w2 ⟨rfl,h1⟩
  have X4:Hid (Bth B w0 w2 gx g gr 2 b b' i n key top (star (blkA ga 32 [.int .i64 d,.int .i64 s,.int .i64 a,.int .u8 t,.slice ca cl cc,.string p]) R)):=X3.out.below (HFA.out _) h1
  clear h1 X3
  refine hK.out _ _ X4.out.cells15 (fun hHeld=>?_)
  clear hK K
  have hsc3:=X4.out.cells15
  refine tkH 8 ?_;go_simp
  refine tkH 9 ?_;go_simp
  refine tkH 10 ?_;go_simp
  refine tkH 11 ?_;go_simp
  refine tkH 12 ?_;go_simp
  refine wpAnyH_done (by kernel_rfl) ?_ _
  refine NoPanic.normal ?_
  clear hsc3
  go_wp2_with fail
  go_ret
  exact⟨rfl,_,_,_,X4.out.dropR,HS.out,HO.out,HF.out.up (by omega)⟩
end
end Go.Proofs.YtnhkkhiajiiahaaGreatDoor
