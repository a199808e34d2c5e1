import Derived.Test.YtnhkkhiajiiahaaGreatDoorSlAc0
namespace Go.Proofs.YtnhkkhiajiiahaaGreatDoor
open Go.RowKit Go.PlainAid
set_option linter.unusedVariables false
set_option maxRecDepth 20000
section
variable {B:Nat}{w0 z z':World}{gx g gr ga:Nat}{b b':Bs}{i n:Int}{key top:ByteArray}{R:Asn}{d s a t:Int}{ca:Option Addr}{cl cc:Nat}{p:ByteArray}
set_option maxHeartbeats 8000000 in
theorem act_bad3 (hR:Firm R)(h:Bth B w0 z gx g gr 2 b b' i n key top R)(hS:Sm 2 b b')(hO:Oks b){m:Nat}(hf:Few17 2 b m)(hm:m≤40000)(ht:∀z,Below B w0 z→Tabs z∧RTabs z)(hd:d.tmod 8=3∨d.tmod 8=-3):
 Calls Tryz.prog 11 #[.pointer (some ⟨gx,0,none⟩),.agg #[.int .i64 d,.int .i64 s,.int .i64 a,.int .u8 t,.slice ca cl cc,.string p]] z fun e w'=>e=.returned (.bool true)∧Py B w0 w' gx g gr i n key (m+50) R:=by
 rcases hd with hd|hd
 all_goals
  have HR:Hid (Firm R):=hR
  have HFA:Hid (∀ga,Firm (star (blkA ga 32 [.int .i64 d,.int .i64 s,.int .i64 a,.int .u8 t,.slice ca cl cc,.string p]) R)):=fun ga=>(firm_blk _ _ _).star hR
  have HT:Hid (∀z,Below B w0 z→Tabs z∧RTabs z):=ht
  have HS:Hid (Sm 2 b b'):=hS
  have HO:Hid (Oks b):=hO
  have HF:Hid (Few17 2 b m):=hf
  have HM:Hid (m≤40000):=hm
  have X0:Hid (Bth B w0 (z.alloc (.cells #[.int .i64 d,.int .i64 s,.int .i64 a,.int .u8 t,.slice ca cl cc,.string p] 32)) gx g gr 2 b b' i n key top (star (blkA z.heap.size 32 [.int .i64 d,.int .i64 s,.int .i64 a,.int .u8 t,.slice ca cl cc,.string p]) R)):=h.box hR
  clear hR hS hO hf hm ht
  obtain⟨L,hL,hP,hQ⟩:=p_bad (g:=g) (gr:=gr) (i:=i) (n:=n) (key:=key) HO.out HS.out HF.out (by have:=HM.out;omega) top
  have HP:Hid _:=hP
  have HQ:Hid _:=hQ
  clear hP hQ
  obtain⟨ga,hga⟩:∃ga,z.heap.size=ga:=⟨_,rfl⟩
  rw[hga]at X0
  clear h
  obtain⟨⟨d0,d1,d2,d3,d4,d5,d6,d7,d8⟩,⟨c0,c1,c2,c3,c4,c5⟩⟩:=And.intro X0.out.cells9 X0.out.acell
  go_enter Tryz.func11,Tryz.ntmps11
  go_wp2_with fail
  clear d0 d1 d2 d3 d4 d5 d6 d7 d8 c0 c1 c2 c3 c4 c5
  generalize z.alloc (.cells #[.int .i64 d,.int .i64 s,.int .i64 a,.int .u8 t,.slice ca cl cc,.string p] 32)=y1 at X0⊢
  have X1:Hid (Bth B w0 y1.drew gx g gr 2 b b' i n key top (star (blkA ga 32 [.int .i64 d,.int .i64 s,.int .i64 a,.int .u8 t,.slice ca cl cc,.string p]) R)):=X0.out.below (HFA.out _) (Below.refl _ _).drew
  clear X0
  refine wp_region_noPanic ?_
  refine wp_region_held_drew (S:=fun z:World=>z.cell? ⟨gx,0,none⟩=some (.pointer (some ⟨g,0,none⟩))∧z.cell? ⟨gx,1,none⟩=some (.int .i64 i)∧z.cell? ⟨gx,2,none⟩=some (.int .i64 n)∧z.cell? ⟨gx,3,none⟩=some (.string key)∧z.cell? ⟨gx,4,none⟩=some (.pointer (some ⟨gr,0,none⟩))∧z.cell? ⟨gx,5,none⟩=some (.int .i64 i)∧z.cell? ⟨gx,6,none⟩=some (.int .i64 n)∧z.cell? ⟨gx,7,none⟩=some (.string key)∧z.cell? ⟨gx,8,none⟩=some (.string top)∧z.cell? ⟨ga,0,none⟩=some (.int .i64 d)∧z.cell? ⟨ga,1,none⟩=some (.int .i64 s)∧z.cell? ⟨ga,2,none⟩=some (.int .i64 a)∧z.cell? ⟨ga,3,none⟩=some (.int .u8 t)∧z.cell? ⟨ga,4,none⟩=some (.slice ca cl cc)∧z.cell? ⟨ga,5,none⟩=some (.string p)) (by kernel_rfl) X1.out.cells15 (fun hHeld=>?_)
  refine tkH 0 ?_;go_simp
  refine tkH 1 ?_;go_simp
  refine tkH 2 ?_;go_simp
  refine tkH 3 ?_;go_simp
  refine tkH 4 ?_;go_simp
  refine tkH 6 ?_;go_simp
  refine tkH 7 ?_;go_simp
  refine tkH 8 ?_;go_simp
  refine tkH 9 ?_;go_simp
  refine tkH 10 ?_;go_simp
  refine rdH 5 fun K hK=>?_
  go_simp
  go_at_call 16
  refine(HP.out _ X1.out.bk (HT.out _ X1.out.low).1).mono ?_
  rintro x w1 ⟨v1,rfl,hr1,hb1⟩
  have X2:Hid (Bth B w0 w1 gx g gr 2 b b' i n key top (star (rowK 3 1 v1 L.length (L.map fun(s:Nat)=>.int .i64 (s:Int))) (star (blkA ga 32 [.int .i64 d,.int .i64 s,.int .i64 a,.int .u8 t,.slice ca cl cc,.string p]) R))):=(Hold.newRow (bth_firm (HFA.out _)) X1.out hb1 hr1).back4
  clear hr1 hb1 X1
  refine hK.out _ _ X2.out.dropR.cells15 (fun hHeld=>?_)
  clear hK K
  refine rdH 11 fun K hK=>?_
  go_simp
  go_at_call 30
  refine(HQ.out _ X2.out.rk (HT.out _ X2.out.low).2).mono ?_
  rintro x w2 ⟨v2,rfl,hr2,hb2⟩
  have X4:Hid (Bth B w0 w2 gx g gr 2 b b' i n key top (star (rowK 3 1 v2 L.length (L.map fun(s:Nat)=>.int .i64 (s:Int))) (star (rowK 3 1 v1 L.length (L.map fun(s:Nat)=>.int .i64 (s:Int))) (star (blkA ga 32 [.int .i64 d,.int .i64 s,.int .i64 a,.int .u8 t,.slice ca cl cc,.string p]) R)))):=(Hold.newRow (bth_firm ((firm_rowK _ _ _ _ _).star (HFA.out _))) X2.out hb2 hr2).back4
  clear hr2 hb2 X2
  refine hK.out _ _ X4.out.dropR.dropR.cells15 (fun hHeld=>?_)
  clear hK K
  have hsc4:=X4.out.dropR.dropR.cells15
  refine tkH 12 ?_;go_simp
  refine tkH 13 ?_;go_simp
  refine wpAnyH_done (by kernel_rfl) ?_ _
  refine NoPanic.normal ?_
  clear hsc4
  obtain⟨a1,c1,hv1⟩:=owns_form (Hold.rowK (Hold.right (Hold.right (Hold.right (Hold.right X4.out)))))
  obtain⟨a2,c2,hv2⟩:=owns_form (Hold.rowK (Hold.right (Hold.right (Hold.right X4.out))))
  subst hv1 hv2
  have HLN:Hid ((L.map fun(s:Nat)=>(.int .i64 (s:Int):Value)).length=L.length):=List.length_map ..
  obtain⟨m0,hm0⟩:∃m0,L.length=m0:=⟨_,rfl⟩
  have HAT:Hid (∀k,k<m0→∃s:Nat,(L.map fun(s:Nat)=>(.int .i64 (s:Int):Value))[k]?=some (.int .i64 (s:Int))):=fun k hk=>⟨_,by rw[List.getElem?_map,List.getElem?_eq_getElem (by omega)];rfl⟩
  rw[hm0]at X4 hL
  rw[hm0]
  generalize(L.map fun(s:Nat)=>(.int .i64 (s:Int):Value))=Lv at*
  clear hm0 HP HQ HLN
  go_wp2_with fail
  go_loopw[107] (fun j wr=>∃k:Nat,k≤m0∧j=.int .i64 (k:Int)∧Hid (Bth B w0 wr gx g gr 2 b b' i n key top (star (rowK 3 1 (.slice a2 m0 c2) m0 Lv) (star (rowK 3 1 (.slice a1 m0 c1) m0 Lv) (star (blkA ga 32 [.int .i64 d,.int .i64 s,.int .i64 a,.int .u8 t,.slice ca cl cc,.string p]) R))))) (fun j _=>m0-(intOf j).toNat)
  case atStart=>exact⟨0,Nat.zero_le _,rfl,X4.out⟩
  case round=>
   obtain⟨k,hk,rfl,X6⟩:=hrel
   clear X4
   by_cases hlt:k<m0
   ·have hk':(k:Int)<(m0:Int):=by omega
    obtain⟨s',hs'⟩:=HAT.out k hlt
    obtain⟨g1,e1,f1⟩:=owns_cell (Hold.rowK (Hold.right (Hold.right (Hold.right (Hold.right X6.out))))) hs'
    obtain⟨g2,e2,f2⟩:=owns_cell (Hold.rowK (Hold.right (Hold.right (Hold.right X6.out)))) hs'
    subst e1 e2
    clear hs'
    go_wp2_with fail
    go_quiet(fail)
    go_wp2_with fail
    go_roundw
    case rel=>exact⟨k+1,by omega,by go_num,X6.out.below ((firm_rowK _ _ _ _ _).star ((firm_rowK _ _ _ _ _).star (HFA.out _))) (below_drewN (Below.refl _ _) _)⟩
    case measure=>simp[intOf];omega
   obtain rfl:k=m0:=by omega
   have hk':¬(k:Int)<(k:Int):=by omega
   go_wp2_with fail
   go_ret
   exact⟨rfl,_,_,_,X6.out.dropR.dropR.dropR,HS.out,HO.out,HF.out.up (by omega)⟩
end
end Go.Proofs.YtnhkkhiajiiahaaGreatDoor
