import Derived.Test.YtnhkkhiajiiahaaGreatDoorSlAc0
namespace Go.Proofs.YtnhkkhiajiiahaaGreatDoor
open Go.RowKit Go.PlainAid
set_option linter.unusedVariables false
set_option maxRecDepth 20000
def rbkF (g N:Nat)(D:Nat→Dk)(s:Nat)(p:Option Nat)(i gd cap:Nat):Asn:=fun w F=>Fit N p∧star (blkA g 84 [.slice (some ⟨gd,0,none⟩) N cap,.int .i64 (s:Int),.int .i64 (pr p)]) (star (rowA 81 (.slice (some ⟨gd,0,none⟩) N cap) N (ptrs N D)) (each (fun j=>j<N∧j≠i) fun i=>rdk (D i))) w F
theorem firm_rbkF (g N:Nat)(D:Nat→Dk)(s:Nat)(p:Option Nat)(i gd cap:Nat):Firm (rbkF g N D s p i gd cap):=
 ⟨fun⟨hN,h⟩ hk hd=>⟨hN,((firm_blk _ _ _).star ((firm_row _ _ _ _).star (firm_each fun _=>firm_rdk _))).kept h hk hd⟩,fun⟨hN,h⟩=>((firm_blk _ _ _).star ((firm_row _ _ _ _).star (firm_each fun _=>firm_rdk _))).bound h⟩
theorem openRF {B:Nat}{w0 w:World}{g N:Nat}{D:Nat→Dk}{s:Nat}{p:Option Nat}{R:Asn}(h:Hold B w0 w (star (rbk g N D s p) R))(i:Nat)(hi:i<N):∃gd cap,Hold B w0 w (star (rdk (D i)) (star (rbkF g N D s p i gd cap) R)):=by
 obtain⟨x1,x2,F,⟨G,H,⟨hN,gd,cap,h3⟩,h4⟩,h7⟩:=h
 have h1:=star_monoR h3 (fun F h=>star_monoR h (fun F h=>each_take (S:=fun j=>j<N) (P:=fun i=>rdk (D i)) i hi h))
 obtain⟨G1,H1,g1,g2,g3⟩:=star_swap (star_monoR h1 (fun F h=>star_swap h))
 have h5:Hold B w0 w (star (star (rdk (D i)) (rbkF g N D s p i gd cap)) R):=⟨x1,x2,F,⟨G,H,⟨G1,H1,g1,⟨hN,g2⟩,g3⟩,h4⟩,h7⟩
 exact⟨gd,cap,h5.assoc⟩
theorem cellsRF {B:Nat}{w0 w:World}{g N:Nat}{D:Nat→Dk}{s:Nat}{p:Option Nat}{P R:Asn}{i gd cap:Nat}(h:Hold B w0 w (star P (star (rbkF g N D s p i gd cap) R)))(j:Nat)(hj:j<N):w.cell? ⟨g,0,none⟩=some (.slice (some ⟨gd,0,none⟩) N cap)∧w.cell? ⟨gd,j,none⟩=some (.pointer (some ⟨(D j).g,0,none⟩)):=by
 obtain⟨x1,x2,F,⟨G,H,⟨hN,h3⟩,h4⟩,h7⟩:=h.right
 obtain⟨G0,k0,_⟩:=star_left h3
 obtain⟨G1,k1,_⟩:=star_right h3
 obtain⟨G2,k2,_⟩:=star_left k1
 exact⟨k0.1.cell (i:=0) rfl,by rw[World.ownsRow.cellAt k2.1 j (by omega),ptrs_at N _ j hj]⟩
theorem shutRF {B:Nat}{w0 w:World}{g N:Nat}{D:Nat→Dk}{s:Nat}{p:Option Nat}{R:Asn}{i gd cap:Nat}(hi:i<N)(d:Dk)(hg:d.g=(D i).g)(h:Hold B w0 w (star (rdk d) (star (rbkF g N D s p i gd cap) R))):Hold B w0 w (star (rbk g N (updD D i d) s p) R):=
 Hold.shutR i hi d hg (h.monoR fun F h=>star_monoL h fun F h=>⟨h.1,gd,cap,h.2⟩)
section
variable {B:Nat}{w0 z z':World}{gx g gr ga:Nat}{b b':Bs}{i n:Int}{key top:ByteArray}{R:Asn}{d s a t:Int}{ca:Option Addr}{cl cc:Nat}{p:ByteArray}
theorem Bth.rtamper2 (hR:Firm R)(h:Bth B w0 z gx g gr 2 b b' i n key top R){j:Nat}(hj:j<2)(at_:Int)(s:ByteArray)(hq:(b'.D j).q.length≤1000000){gd cp:Nat}(k1:z.cell? ⟨gr,0,none⟩=some (.slice (some ⟨gd,0,none⟩) 2 cp)):
 Calls Tryz.prog 31 #[.pointer (some ⟨(b'.D j).g,0,none⟩),.int .i64 at_,.string s] z fun e w'=>e=.returned (.bool (tampB (b'.D j).dead (b'.D j).n at_ s))∧Bth B w0 w' gx g gr 2 b (tpB b' j at_ s) i n key top R∧w'.cell? ⟨gr,0,none⟩=some (.slice (some ⟨gd,0,none⟩) 2 cp)∧w'.cell? ⟨gd,j,none⟩=some (.pointer (some ⟨(b'.D j).g,0,none⟩)):=by
 have h1:Hold B w0 z (star (rkA gr 2 b') (star (blkA gx 46 (btL g gr i n key top)) (star (bkA g 2 b) R))):=Hold.pull3 h
 obtain⟨gd',cap',h2⟩:=openRF h1 j hj
 have h3:=(cellsRF h2 j hj).1
 rw[k1]at h3
 cases h3
 refine(h_rtamper ((firm_rbkF _ _ _ _ _ _ _ _).star ((firm_blk _ _ _).star ((firm_bnk _ _ _ _ _).star hR))) h2 at_ s hq).mono ?_
 rintro e w' ⟨rfl,h4⟩
 exact⟨rfl,Hold.back3 (shutRF hj (tampD (b'.D j) at_ s) rfl h4),cellsRF h4 j hj⟩
end
section
variable {B:Nat}{w0 z z':World}{gx g gr ga:Nat}{b b':Bs}{i n:Int}{key top:ByteArray}{R:Asn}{d s a t:Int}{ca:Option Addr}{cl cc:Nat}{p:ByteArray}
set_option maxHeartbeats 8000000 in
theorem act_tamp4 {j:Nat}(hj:j<2)(hR:Firm R)(h:Bth B w0 z gx g gr 2 b b' (j:Int) n key top R)(hS:Sm 2 b b')(hO:Oks b){m:Nat}(hf:Few17 2 b m)(hm:m≤40000)(ht:∀z,Below B w0 z→Tabs z∧RTabs z)(hp:p.size≤maxLen)(hd:d.tmod 8=4∨d.tmod 8=-4):
 Calls Tryz.prog 11 #[.pointer (some ⟨gx,0,none⟩),.agg #[.int .i64 d,.int .i64 s,.int .i64 a,.int .u8 t,.slice ca cl cc,.string p]] z fun e w'=>e=.returned (.bool true)∧Py B w0 w' gx g gr (j:Int) n key (m+50) R:=by
 rcases hd with hd|hd
 all_goals
  have HR:Hid (Firm R):=hR
  have HFA:Hid (∀ga,Firm (star (blkA ga 32 [.int .i64 d,.int .i64 s,.int .i64 a,.int .u8 t,.slice ca cl cc,.string p]) R)):=fun ga=>(firm_blk _ _ _).star hR
  have HT:Hid (∀z,Below B w0 z→Tabs z∧RTabs z):=ht
  have HS:Hid (Sm 2 b b'):=hS
  have HO:Hid (Oks b):=hO
  have HF:Hid (Few17 2 b m):=hf
  have HM:Hid (m≤40000):=hm
  have X0:Hid (Bth B w0 (z.alloc (.cells #[.int .i64 d,.int .i64 s,.int .i64 a,.int .u8 t,.slice ca cl cc,.string p] 32)) gx g gr 2 b b' (j:Int) n key top (star (blkA z.heap.size 32 [.int .i64 d,.int .i64 s,.int .i64 a,.int .u8 t,.slice ca cl cc,.string p]) R)):=h.box hR
  clear hR hS hO hf hm ht
  obtain⟨M,hM1,hM2,hM3⟩:∃q:Nat,(if(100:Int)<(p.size:Int)then(100:Int)else(p.size:Int))=(q:Int)∧q≤p.size∧q≤100:=⟨min p.size 100,by split<;>omega,by omega,by omega⟩
  have hM1':min (p.size:Int) 100=(M:Int):=by rw[←hM1];split<;>omega
  have hMi:(M:Int)≤(p.size:Int):=by omega
  have HQ:Hid (∀q,q<2→(b.D q).q.length≤1000000):=HF.out.q HM.out
  have HQ':Hid (∀q,q<2→(b'.D q).q.length≤1000000):=(HF.out.sm HS.out).q HM.out
  have HD:Hid (∀ga y,Bth B w0 y gx g gr 2 b b' (j:Int) n key top (star (blkA ga 32 [.int .i64 d,.int .i64 s,.int .i64 a,.int .u8 t,.slice ca cl cc,.string p]) R)→Calls Tryz.prog 17 #[.pointer (some ⟨g,0,none⟩),.int .i64 (j:Int)] y fun e w'=>e=.returned (.pointer (some ⟨(b.D j).g,0,none⟩))∧w'=y):=fun ga y hy=>bdisk_in (Hold.right hy) j hj
  have HT1:Hid (∀ga y,Bth B w0 y gx g gr 2 b b' (j:Int) n key top (star (blkA ga 32 [.int .i64 d,.int .i64 s,.int .i64 a,.int .u8 t,.slice ca cl cc,.string p]) R)→_):=fun ga y hy=>Bth.tamper2 (HFA.out ga) hy hj a (p.extract 0 M) (HQ.out j hj)
  have HT2:Hid (∀ga y gd cp,Bth B w0 y gx g gr 2 (tpB b j a (p.extract 0 M)) b' (j:Int) n key top (star (blkA ga 32 [.int .i64 d,.int .i64 s,.int .i64 a,.int .u8 t,.slice ca cl cc,.string p]) R)→y.cell? ⟨gr,0,none⟩=some (.slice (some ⟨gd,0,none⟩) 2 cp)→Calls Tryz.prog 31 #[.pointer (some ⟨(b'.D j).g,0,none⟩),.int .i64 a,.string (p.extract 0 M)] y fun e w'=>e=.returned (.bool (tampB (b.D j).dead (b.D j).n a (p.extract 0 M)))∧Bth B w0 w' gx g gr 2 (tpB b j a (p.extract 0 M)) (tpB b' j a (p.extract 0 M)) (j:Int) n key top (star (blkA ga 32 [.int .i64 d,.int .i64 s,.int .i64 a,.int .u8 t,.slice ca cl cc,.string p]) R)∧w'.cell? ⟨gr,0,none⟩=some (.slice (some ⟨gd,0,none⟩) 2 cp)∧w'.cell? ⟨gd,j,none⟩=some (.pointer (some ⟨(b'.D j).g,0,none⟩))):=fun ga y gd cp hy k1=>by
   have h:=Bth.rtamper2 (HFA.out ga) hy hj a (p.extract 0 M) (HQ'.out j hj) k1
   obtain⟨e1,e2,e3,e4⟩:=HS.out.2.2 j hj
   rw[←e4,←e1]at h
   exact h
  have hj':(j:Int)<2:=by omega
  unfold maxLen at hp
  obtain⟨ga,hga⟩:∃ga,z.heap.size=ga:=⟨_,rfl⟩
  rw[hga]at X0
  clear h
  obtain⟨⟨d0,d1,d2,d3,d4,d5,d6,d7,d8⟩,⟨c0,c1,c2,c3,c4,c5⟩⟩:=And.intro X0.out.cells9 X0.out.acell
  go_enter Tryz.func11,Tryz.ntmps11
  go_wp2_with fail
  clear d0 d1 d2 d3 d4 d5 d6 d7 d8 c0 c1 c2 c3 c4 c5
  generalize z.alloc (.cells #[.int .i64 d,.int .i64 s,.int .i64 a,.int .u8 t,.slice ca cl cc,.string p] 32)=y1 at X0⊢
  have X1:Hid (Bth B w0 y1.drew gx g gr 2 b b' (j:Int) n key top (star (blkA ga 32 [.int .i64 d,.int .i64 s,.int .i64 a,.int .u8 t,.slice ca cl cc,.string p]) R)):=X0.out.below (HFA.out _) (Below.refl _ _).drew
  clear X0
  refine wp_region_noPanic ?_
  refine wp_region_held_drew (S:=fun z:World=>z.cell? ⟨gx,0,none⟩=some (.pointer (some ⟨g,0,none⟩))∧z.cell? ⟨gx,1,none⟩=some (.int .i64 (j:Int))∧z.cell? ⟨gx,2,none⟩=some (.int .i64 n)∧z.cell? ⟨gx,3,none⟩=some (.string key)∧z.cell? ⟨gx,4,none⟩=some (.pointer (some ⟨gr,0,none⟩))∧z.cell? ⟨gx,5,none⟩=some (.int .i64 (j:Int))∧z.cell? ⟨gx,6,none⟩=some (.int .i64 n)∧z.cell? ⟨gx,7,none⟩=some (.string key)∧z.cell? ⟨gx,8,none⟩=some (.string top)∧z.cell? ⟨ga,0,none⟩=some (.int .i64 d)∧z.cell? ⟨ga,1,none⟩=some (.int .i64 s)∧z.cell? ⟨ga,2,none⟩=some (.int .i64 a)∧z.cell? ⟨ga,3,none⟩=some (.int .u8 t)∧z.cell? ⟨ga,4,none⟩=some (.slice ca cl cc)∧z.cell? ⟨ga,5,none⟩=some (.string p)) (by kernel_rfl) X1.out.cells15 (fun hHeld=>?_)
  refine tkH 0 ?_;go_simp
  refine tkH 1 ?_;go_simp
  refine tkH 2 ?_;go_simp
  refine tkH 3 ?_;go_simp
  refine tkH 4 ?_;go_simp
  refine tkH 5 ?_;go_simp
  refine tkH 6 ?_;go_simp
  refine tkH 7 ?_;go_simp
  refine tkH 8 ?_;go_simp
  refine tkH 9 ?_;go_simp
  refine rdH 10 fun K hK=>?_
  go_simp
  go_at_call 17
  refine(HD.out _ _ X1.out).mono ?_
  rintro x w1 ⟨rfl,hw⟩
  rw[hw]
  clear hw w1
  refine hK.out _ _ X1.out.cells15 (fun hHeld=>?_)
  clear hK K
  refine tkH 11 ?_;go_simp
  refine wpAnyH_done (by kernel_rfl) ?_ _
  refine NoPanic.normal ?_
  go_wp2_with fail
  generalize y1.drew=y2 at*
  have X2:Hid (Bth B w0 y2.drew gx g gr 2 b b' (j:Int) n key top (star (blkA ga 32 [.int .i64 d,.int .i64 s,.int .i64 a,.int .u8 t,.slice ca cl cc,.string p]) R)):=X1.out.below (HFA.out _) (Below.refl _ _).drew
  clear X1
  obtain⟨gd,cp,⟨hg1,hg2⟩,hcall⟩:=HT1.out _ _ X2.out
  have HCL:Hid (Calls Tryz.prog 19 #[.pointer (some ⟨(b.D j).g,0,none⟩),.int .i64 a,.string (p.extract 0 M)] y2.drew fun e w'=>e=.returned (.bool (tampB (b.D j).dead (b.D j).n a (p.extract 0 M)))∧Bth B w0 w' gx g gr 2 (tpB b j a (p.extract 0 M)) b' (j:Int) n key top (star (blkA ga 32 [.int .i64 d,.int .i64 s,.int .i64 a,.int .u8 t,.slice ca cl cc,.string p]) R)∧w'.cell? ⟨gr,0,none⟩=some (.slice (some ⟨gd,0,none⟩) 2 cp)∧w'.cell? ⟨gd,j,none⟩=some (.pointer (some ⟨(b'.D j).g,0,none⟩))):=hcall
  clear hcall
  refine wp_region_noPanic ?_
  refine wp_region_held_drew (S:=fun z:World=>(z.cell? ⟨gx,0,none⟩=some (.pointer (some ⟨g,0,none⟩))∧z.cell? ⟨gx,1,none⟩=some (.int .i64 (j:Int))∧z.cell? ⟨gx,2,none⟩=some (.int .i64 n)∧z.cell? ⟨gx,3,none⟩=some (.string key)∧z.cell? ⟨gx,4,none⟩=some (.pointer (some ⟨gr,0,none⟩))∧z.cell? ⟨gx,5,none⟩=some (.int .i64 (j:Int))∧z.cell? ⟨gx,6,none⟩=some (.int .i64 n)∧z.cell? ⟨gx,7,none⟩=some (.string key)∧z.cell? ⟨gx,8,none⟩=some (.string top)∧z.cell? ⟨ga,0,none⟩=some (.int .i64 d)∧z.cell? ⟨ga,1,none⟩=some (.int .i64 s)∧z.cell? ⟨ga,2,none⟩=some (.int .i64 a)∧z.cell? ⟨ga,3,none⟩=some (.int .u8 t)∧z.cell? ⟨ga,4,none⟩=some (.slice ca cl cc)∧z.cell? ⟨ga,5,none⟩=some (.string p))∧z.cell? ⟨gr,0,none⟩=some (.slice (some ⟨gd,0,none⟩) 2 cp)∧z.cell? ⟨gd,j,none⟩=some (.pointer (some ⟨(b'.D j).g,0,none⟩))) (by kernel_rfl) ⟨X2.out.cells15,hg1,hg2⟩ (fun hHeld=>?_)
  clear hg1 hg2
  refine tkH 0 ?_;go_simp
  refine tkH 1 ?_;go_simp
  refine tkH 2 ?_;go_simp
  refine tkH 3 ?_;go_simp
  refine tkH 5 ?_;go_simp
  refine tkH 6 ?_;go_simp
  refine tkH 7 ?_;go_simp
  refine tkH 8 ?_;go_simp
  refine tkH 9 ?_;go_simp
  refine tkH 10 ?_;go_simp
  refine tkH 11 ?_;go_simp
  refine tkH 12 ?_;go_simp
  refine tkH 13 ?_;go_simp
  refine tkH 14 ?_;go_simp
  refine tkH 15 ?_;go_simp
  refine tkH 16 ?_;go_simp
  refine tkH 17 ?_;go_simp
  refine tkH 18 ?_;go_simp
  refine tkH 19 ?_;go_simp
  refine tkH 20 ?_;go_simp
  refine tkH 21 ?_;go_simp
  refine tkH 22 ?_;go_simp
  refine rdH 4 fun K hK=>?_
  go_simp
  go_at_call 19
  refine HCL.out.mono ?_
  rintro x w3 ⟨rfl,h3,k1,k2⟩
  have X3:Hid (Bth B w0 w3 gx g gr 2 (tpB b j a (p.extract 0 M)) b' (j:Int) n key top (star (blkA ga 32 [.int .i64 d,.int .i64 s,.int .i64 a,.int .u8 t,.slice ca cl cc,.string p]) R)):=h3
  clear h3 X2
  refine hK.out _ _ ⟨X3.out.cells15,k1,k2⟩ (fun hHeld=>?_)
  clear hK K
  have hk12:=And.intro k1 k2
  clear k1 k2
  refine rdH 23 fun K hK=>?_
  go_simp
  go_at_call 31
  refine(HT2.out _ _ _ _ X3.out hk12.1).mono ?_
  rintro x w4 ⟨rfl,h4,k1,k2⟩
  have X4:Hid (Bth B w0 w4 gx g gr 2 (tpB b j a (p.extract 0 M)) (tpB b' j a (p.extract 0 M)) (j:Int) n key top (star (blkA ga 32 [.int .i64 d,.int .i64 s,.int .i64 a,.int .u8 t,.slice ca cl cc,.string p]) R)):=h4
  clear h4 X3 hk12
  refine hK.out _ _ ⟨X4.out.cells15,k1,k2⟩ (fun hHeld=>?_)
  clear hK K
  have hk12:=And.intro k1 k2
  clear k1 k2
  refine tkH 24 ?_;go_simp
  refine tkH 25 ?_;go_simp
  refine wpAnyH_done (by kernel_rfl) ?_ _
  refine NoPanic.normal ?_
  clear hk12
  go_wp2_with fail
  go_ret
  exact⟨by simp,_,_,_,X4.out.dropR,HS.out.t hj a (p.extract 0 M),HO.out.t j a (p.extract 0 M),(HF.out.t j a (p.extract 0 M)).up (by omega)⟩
end
end Go.Proofs.YtnhkkhiajiiahaaGreatDoor
