import Derived.Test.YtnhkkhiajiiahaaGreatDoorSlBegin
import Derived.Test.YtnhkkhiajiiahaaGreatDoorSlPy0
namespace Go.Proofs.YtnhkkhiajiiahaaGreatDoor
open Go.RowKit Go.PlainAid
set_option linter.unusedVariables false
set_option maxRecDepth 20000
set_option maxHeartbeats 2000000 in
theorem py_begin_ok {B:Nat}{w0 w:World}{R:Asn}(hR:Firm R)(h:Hold B w0 w R)(ht:∀z,Below B w0 z→Tabs z∧RTabs z){i d n:Nat}(hi:i<2)(hn:2^d=n)(hd:1≤d∧d≤4)(f:Nat→Nat):
 Calls Tryz.prog 8 #[.int .i64 (n:Int),.int .i64 (i:Int),.agg (nr .u8 32 f).toArray] w fun e w'=>∃gx g gr b b' l,e=.returned (.tuple #[.pointer (some ⟨gx,0,none⟩),.bool true])∧Bth B w0 w' gx g gr 2 b b' (i:Int) (n:Int) (tx 32 f) (tdg eL n 1) R∧Liv 2 i b l∧InT l d (sl0 (tdg eL n 1)) (fun _=>noB)∧Few17 2 b 100∧Sm 2 b b'∧Oks b:=by
 have h16:n≤16:=by rw[←hn];exact pow_le16 d hd.2
 have hbl:(blW n).length≤31:=by rw[blW_length];omega
 have HR:Hid (Firm R):=hR
 have HT:Hid (∀z,Below B w0 z→Tabs z∧RTabs z):=ht
 have h0:=h.newBlk hR 23 (nr .u8 32 f).toArray
 rw[List.toList_toArray]at h0
 have HK0:Hid (Firm (star (blkA w.heap.size 23 (nr .u8 32 f)) R)):=(firm_blk _ _ _).star hR
 have hn1:Hid (Calls _ _ _ _ _):=bnew_any HK0.out h0 2 140
 have hn2:Hid (∀z g D,Hold B w0 z (star (bnk g 2 D 0 none) (star (blkA w.heap.size 23 (nr .u8 32 f)) R))→Calls Tryz.prog 25 #[.int .i64 2,.int .i64 140] z fun e w'=>∃g',e=.returned (.pointer (some ⟨g',0,none⟩))∧∃D',(∀i,i<2→Fresh (D' i) 140)∧Hold B w0 w' (star (rbk g' 2 D' 0 none) (star (bnk g 2 D 0 none) (star (blkA w.heap.size 23 (nr .u8 32 f)) R)))):=fun z g D hz=>rnew_any ((firm_bnk _ _ _ _ _).star HK0.out) hz 2 140
 rw[newB2]at hn1
 have hz:=zeroBoth
 have hz2:Hid ((Tryz.prog.info? 41).map (·.size)=some 4):=Tryz.size41
 have hz3:Hid ((Tryz.prog.info? 44).map (·.size)=some 4):=Tryz.size44
 have hks:(tx 32 f).size=32:=tx_size 32 f
 have HBL:Hid (∀z g (b:Bs),Below B w0 z→Bk z g 2 b.D b.s b.p→Calls Tryz.prog 22 #[slV (.pointer (some ⟨g,0,none⟩)) (i:Int) (n:Int) (tx 32 f)] z fun e w'=>∃v,e=.returned (.tuple #[v,.string (tdg eL n 1),.int .i64 0])∧w'.ownsRow z.heap.size 104 2 v (blW n).length (pairs (blW n))∧Below z.heap.size z w'):=fun z g b hz hb=>sblank_any (good_yes hb hi hn hd hks) (ht z hz).1 hn hd
 have HRL:Hid (∀z g (b:Bs),Below B w0 z→Rk z g 2 b.D b.s b.p→Calls Tryz.prog 26 #[slV (.pointer (some ⟨g,0,none⟩)) (i:Int) (n:Int) (tx 32 f)] z fun e w'=>∃v,e=.returned (.tuple #[v,.string (tdg eL n 1),.int .i64 0])∧w'.ownsRow z.heap.size 130 2 v (blW n).length (pairs (blW n))∧Below z.heap.size z w'):=fun z g b hz hb=>rblank_any (rgood_yes hb hi hn hd hks) (ht z hz).2 hn hd
 have HGY:Hid (∀z g (b:Bs),Bk z g 2 b.D b.s b.p→GoodIs z (slV (.pointer (some ⟨g,0,none⟩)) (i:Int) (n:Int) (tx 32 f)) true):=fun z g b hb=>good_yes hb hi hn hd hks
 have HRY:Hid (∀z g (b:Bs),Rk z g 2 b.D b.s b.p→RGoodIs z (slV (.pointer (some ⟨g,0,none⟩)) (i:Int) (n:Int) (tx 32 f)) true):=fun z g b hb=>rgood_yes hb hi hn hd hks
 have HF:Hid (∀D D':Nat→Dk,(∀i,i<2→Fresh (D i) 140)→(∀i,i<2→Fresh (D' i) 140)→Few17 2 ⟨D,0,none⟩ 0∧Sm 2 ⟨D,0,none⟩ ⟨D',0,none⟩∧Liv 2 i ⟨D,0,none⟩ (fun _=>noB)∧Oks ⟨D,0,none⟩):=fun D D' h1 h2=>by
  refine⟨⟨Nat.le_refl _,fun j hj=>by show(D j).q.length≤0;rw[(h1 j hj).2.2.1];exact Nat.le_refl _⟩,⟨rfl,rfl,fun j hj=>?_⟩,⟨rfl,(h1 i hi).2.2.2,by show(D i).n=140;rw[(h1 i hi).1];exact newN140,(h1 i hi).2.2.1,(h1 i hi).2.1,fun _=>by show noB.size≤_;decide⟩,fun j hj=>⟨by show(D j).n=140;rw[(h1 j hj).1];exact newN140,fun a=>by show((D j).l a).size≤2048;rw[(h1 j hj).2.1];show noB.size≤2048;decide,fun w hw=>by rw[show(⟨D,0,none⟩:Bs).D j=D j from rfl,(h1 j hj).2.2.1]at hw;cases hw⟩⟩
  obtain⟨a1,a2,a3,a4⟩:=h1 j hj
  obtain⟨c1,c2,c3,c4⟩:=h2 j hj
  exact⟨by rw[show(⟨D,0,none⟩:Bs).D j=D j from rfl,a1];exact c1.symm,by show(D j).l=(D' j).l;rw[a2,c2],by show(D j).q=(D' j).q;rw[a3,c3],by show(D j).dead=(D' j).dead;rw[a4,c4]⟩
 have HW:Hid (Wok (blW n)∧InT (app (fun _=>noB) (blW n)) d (sl0 (tdg eL n 1)) (fun _=>noB)):=⟨bl_wok hn hd.2,inT_begin hn hd _⟩
 generalize tdg eL n 1=top at*
 generalize hky:tx 32 f=key at*
 clear h h0 hR ht hn hd
 go_enter Tryz.func8,Tryz.ntmps8
 go_wp2_with(first
  |(go_at_call 24;refine hn1.out.mono ?_;rintro e w1 ⟨g,rfl,D,hD,h1⟩;have H1:Hid (Hold B w0 w1 (star (bnk g 2 D 0 none) (star (blkA w.heap.size 23 (nr .u8 32 f)) R))):=h1;have HD:Hid (∀i,i<2→Fresh (D i) 140):=hD;clear h1 hD hn1)
  |(go_at_call 25;refine(hn2.out _ _ _ H1.out).mono ?_;rintro e w2 ⟨gr,rfl,D',hD',h2⟩;have H2:Hid (Hold B w0 w2 (star (rbk gr 2 D' 0 none) (star (bnk g 2 D 0 none) (star (blkA w.heap.size 23 (nr .u8 32 f)) R)))):=h2;have HD':Hid (∀i,i<2→Fresh (D' i) 140):=hD';clear h2 hD' hn2 H1))
 obtain⟨fw,sm,lv,ok⟩:=HF.out D D' HD.out HD'.out
 have HOK:Hid (Oks ⟨D,0,none⟩):=ok
 have HFW:Hid (Few17 2 ⟨D,0,none⟩ 0):=fw
 have HSM:Hid (Sm 2 ⟨D,0,none⟩ ⟨D',0,none⟩):=sm
 have HLV:Hid (Liv 2 i ⟨D,0,none⟩ (fun _=>noB)):=lv
 clear fw sm lv ok HF HD HD'
 have H2d:Hid (Hold B w0 w2.drew (star (rbk gr 2 D' 0 none) (star (bnk g 2 D 0 none) (star (blkA w.heap.size 23 (nr .u8 32 f)) R)))):=H2.out.below ((firm_rbk _ _ _ _ _).star ((firm_bnk _ _ _ _ _).star HK0.out)) (Below.refl _ _).drew
 have LB:Hid (∀z,Blk z w.heap.size 23 (nr .u8 32 f)→(convert 35 9 (.slice (some ⟨w.heap.size,0,none⟩) 32 32)).run Tryz.prog z=.ok (.string key) z):=fun z hz=>by rw[←hky];exact lenB (n:=0) hz
 have hcv0:Hid ((convert 35 9 (.slice (some ⟨w.heap.size,0,none⟩) 32 32)).run Tryz.prog w2.drew=.ok (.string key) w2.drew):=LB.out _ (Hold.blk (Hold.right (Hold.right H2d.out)))
 have h3:=Hold.newBlk ((firm_rbk _ _ _ _ _).star ((firm_bnk _ _ _ _ _).star HK0.out)) H2d.out 46 (btL g gr (i:Int) (n:Int) key noB).toArray
 rw[List.toList_toArray]at h3
 have H3:Hid (Bth B w0 (w2.drew.alloc (.cells #[.pointer (some ⟨g,0,none⟩),.int .i64 (i:Int),.int .i64 (n:Int),.string key,.pointer (some ⟨gr,0,none⟩),.int .i64 (i:Int),.int .i64 (n:Int),.string key,.string noB] 46)) w2.heap.size g gr 2 ⟨D,0,none⟩ ⟨D',0,none⟩ (i:Int) (n:Int) key noB (star (blkA w.heap.size 23 (nr .u8 32 f)) R)):=h3.monoR fun F h=>star_swap h
 have hcv1:Hid ((convert 35 9 (.slice (some ⟨w.heap.size,0,none⟩) 32 32)).run Tryz.prog (w2.drew.alloc (.cells #[.pointer (some ⟨g,0,none⟩),.int .i64 (i:Int),.int .i64 (n:Int),.string key,.pointer (some ⟨gr,0,none⟩),.int .i64 (i:Int),.int .i64 (n:Int),.string key,.string noB] 46))=.ok (.string key) (w2.drew.alloc (.cells #[.pointer (some ⟨g,0,none⟩),.int .i64 (i:Int),.int .i64 (n:Int),.string key,.pointer (some ⟨gr,0,none⟩),.int .i64 (i:Int),.int .i64 (n:Int),.string key,.string noB] 46))):=LB.out _ (Hold.blk (Hold.right (Hold.right (Hold.right h3))))
 clear h3 H2 H2d
 refine wp_region_noPanic ?_
 refine wp_region_held_drew (S:=fun z:World=>(convert 35 9 (.slice (some ⟨w.heap.size,0,none⟩) 32 32)).run Tryz.prog z=.ok (.string key) z) (by kernel_rfl) hcv0.out (fun hHeld=>?_)
 refine tkH 0 ?_;go_simp
 refine tkH 1 ?_;go_simp
 refine tkH 2 ?_;go_simp
 refine tkH 3 ?_;go_simp
 refine tkH 4 ?_;go_simp
 refine tkH 5 ?_;go_simp
 refine tkH 6 ?_;go_simp
 refine tkH 7 ?_;go_simp
 refine tkH 8 ?_;go_simp
 refine tkH 9 ?_;go_simp
 refine tkH 10 ?_;go_simp
 refine tkH 11 ?_;go_simp
 refine tkH 12 ?_;go_simp
 refine rdH 13 fun K hK=>?_
 go_simp
 refine hK.out _ _ hcv1.out (fun hHeld=>?_)
 clear hK K
 refine tkH 14 ?_;go_simp
 refine wpAnyH_done (by kernel_rfl) ?_ _
 refine NoPanic.normal ?_
 have HRK:Hid (Firm (star (blkA w.heap.size 23 (nr .u8 32 f)) R)):=HK0.out
 have H4:Hid (Bth B w0 (w2.alloc (.cells #[.pointer (some ⟨g,0,none⟩),.int .i64 (i:Int),.int .i64 (n:Int),.string key,.pointer (some ⟨gr,0,none⟩),.int .i64 (i:Int),.int .i64 (n:Int),.string key,.string noB] 46)).drew w2.heap.size g gr 2 ⟨D,0,none⟩ ⟨D',0,none⟩ (i:Int) (n:Int) key noB R):=H3.out.dropR
 clear H3 hcv0 hcv1 LB HK0 HRK hky hks
 generalize hw3:(w2.alloc (.cells #[.pointer (some ⟨g,0,none⟩),.int .i64 (i:Int),.int .i64 (n:Int),.string key,.pointer (some ⟨gr,0,none⟩),.int .i64 (i:Int),.int .i64 (n:Int),.string key,.string noB] 46)).drew=w3 at*
 generalize hgx:w2.heap.size=gx at*
 clear hw3 hgx
 generalize hb0:(⟨D,0,none⟩:Bs)=b at*
 generalize hb1:(⟨D',0,none⟩:Bs)=b' at*
 clear hb0 hb1
 have HA4:Hid (w3.rangeAt gx 0 [.pointer (some ⟨g,0,none⟩),.int .i64 (i:Int),.int .i64 (n:Int),.string key]):=H4.out.a
 have hb4:=HBL.out w3 g b H4.out.low H4.out.bk
 clear HBL
 go_wp2_with(first
  |(refine wpList_load_mid rfl 41 _ rfl gx 0 rfl [.pointer (some ⟨g,0,none⟩),.int .i64 (i:Int),.int .i64 (n:Int),.string key] _ HA4.out Tryz.underlying41 rfl hz2.out ?_)
  |(go_at_call 22;refine hb4.mono ?_;rintro e w5 ⟨v1,rfl,hr5,hb5⟩;obtain⟨a1,c1,rfl⟩:=owns_form hr5;have H5:Hid (Bth B w0 w5 gx g gr 2 b b' (i:Int) (n:Int) key noB (star (rowK 104 2 (.slice a1 (blW n).length c1) (blW n).length (pairs (blW n))) R)):=(Hold.newRow (bth_firm HR.out) H4.out hb5 hr5).back4;have HA5:Hid (w5.rangeAt gx 4 [.pointer (some ⟨gr,0,none⟩),.int .i64 (i:Int),.int .i64 (n:Int),.string key]):=H5.out.r;have hb6:=HRL.out w5 gr b' H5.out.low H5.out.rk;clear hr5 hb5 hb4 HRL H4 HA4)
  |(refine wpList_load_mid rfl 44 _ rfl gx 4 rfl [.pointer (some ⟨gr,0,none⟩),.int .i64 (i:Int),.int .i64 (n:Int),.string key] _ HA5.out Tryz.underlying44 rfl hz3.out ?_)
  |(go_at_call 26;refine hb6.mono ?_;rintro e w6 ⟨v2,rfl,hr6,hb7⟩;obtain⟨a2,c2,rfl⟩:=owns_form hr6;have H6:Hid (Bth B w0 w6 gx g gr 2 b b' (i:Int) (n:Int) key noB (star (rowK 130 2 (.slice a2 (blW n).length c2) (blW n).length (pairs (blW n))) (star (rowK 104 2 (.slice a1 (blW n).length c1) (blW n).length (pairs (blW n))) R))):=(Hold.newRow (bth_firm ((firm_rowK _ _ _ _ _).star HR.out)) H5.out hb7 hr6).back4;clear hr6 hb7 hb6 H5 HA5))
 obtain⟨ha1,ha2⟩:=HLV.out.apply hi HW.out.1
 obtain⟨hs1,hs2⟩:=Sm.r hi (blW n) HSM.out
 have HZ:Hid ((apR 2 i b (blW n)).1=0∧(apR 2 i b' (blW n)).1=0):=⟨ha1,by rw[←hs1];exact ha1⟩
 have HLV2:Hid (Liv 2 i (apR 2 i b (blW n)).2 (app (fun _=>noB) (blW n))):=ha2
 have HSM2:Hid (Sm 2 (apR 2 i b (blW n)).2 (apR 2 i b' (blW n)).2):=hs2
 have HFW2:Hid (Few17 2 (apR 2 i b (blW n)).2 100):=by
  have:=few_r hi (blW n) HFW.out
  exact⟨Nat.le_trans this.1 (by omega),fun j hj=>Nat.le_trans (this.2 j hj) (by omega)⟩
 have HOK2:Hid (Oks (apR 2 i b (blW n)).2):=Oks.r hi (blW n) HOK.out
 have HFR:Hid (Few17 2 b' 0):=HFW.out.sm HSM.out
 have HAP:Hid (∀z,Bth B w0 z gx g gr 2 b b' (i:Int) (n:Int) key noB (star (rowK 130 2 (.slice a2 (blW n).length c2) (blW n).length (pairs (blW n))) (star (rowK 104 2 (.slice a1 (blW n).length c1) (blW n).length (pairs (blW n))) R))→Calls Tryz.prog 14 #[slV (.pointer (some ⟨g,0,none⟩)) (i:Int) (n:Int) key,.slice a1 (blW n).length c1] z fun e w'=>e=.returned (.int .i64 0)∧Bth B w0 w' gx g gr 2 (apR 2 i b (blW n)).2 b' (i:Int) (n:Int) key noB (star (rowK 130 2 (.slice a2 (blW n).length c2) (blW n).length (pairs (blW n))) (star (rowK 104 2 (.slice a1 (blW n).length c1) (blW n).length (pairs (blW n))) R))):=fun z hz=>by
  have h:=Bth.apply (v2:=.pointer none) (q2:=[]) ((firm_rowK _ _ _ _ _).star HR.out) rfl (HGY.out z g b hz.bk) hi hz.swapR HFW.out (by omega)
  rw[HZ.out.1]at h
  exact h.mono fun e w' ⟨h1,h2⟩=>⟨h1,h2.swapR⟩
 have HRP:Hid (∀z b2,Bth B w0 z gx g gr 2 b2 b' (i:Int) (n:Int) key noB (star (rowK 130 2 (.slice a2 (blW n).length c2) (blW n).length (pairs (blW n))) (star (rowK 104 2 (.slice a1 (blW n).length c1) (blW n).length (pairs (blW n))) R))→Calls Tryz.prog 28 #[slV (.pointer (some ⟨gr,0,none⟩)) (i:Int) (n:Int) key,.slice a2 (blW n).length c2] z fun e w'=>e=.returned (.int .i64 0)∧Bth B w0 w' gx g gr 2 b2 (apR 2 i b' (blW n)).2 (i:Int) (n:Int) key noB (star (rowK 130 2 (.slice a2 (blW n).length c2) (blW n).length (pairs (blW n))) (star (rowK 104 2 (.slice a1 (blW n).length c1) (blW n).length (pairs (blW n))) R))):=fun z b2 hz=>by
  have h:=Bth.rapply ((firm_rowK _ _ _ _ _).star HR.out) rfl (HRY.out z gr b' hz.rk) hi hz HFR.out (by omega)
  rw[HZ.out.2]at h
  exact h
 have HRR:Hid (Firm (star (rowK 130 2 (.slice a2 (blW n).length c2) (blW n).length (pairs (blW n))) (star (rowK 104 2 (.slice a1 (blW n).length c1) (blW n).length (pairs (blW n))) R))):=(firm_rowK _ _ _ _ _).star ((firm_rowK _ _ _ _ _).star HR.out)
 have H6d:Hid (Bth B w0 w6.drew gx g gr 2 b b' (i:Int) (n:Int) key noB (star (rowK 130 2 (.slice a2 (blW n).length c2) (blW n).length (pairs (blW n))) (star (rowK 104 2 (.slice a1 (blW n).length c1) (blW n).length (pairs (blW n))) R))):=H6.out.below HRR.out (Below.refl _ _).drew
 have hsm:Hid (Calls Tryz.prog 27 #[.slice a1 (blW n).length c1,.slice a2 (blW n).length c2] w6.drew fun e w'=>e=.returned (.bool true)∧Below w6.drew.heap.size w6.drew w'):=samew_any (Hold.rowK (Hold.right (Hold.right (Hold.right (Hold.right H6d.out))))) (Hold.rowK (Hold.right (Hold.right (Hold.right H6d.out)))) (by omega)
 clear ha1 ha2 hs1 hs2 H6 HZ HLV HSM HFW HFR HGY HRY HOK
 generalize(apR 2 i b (blW n)).2=b2 at*
 generalize(apR 2 i b' (blW n)).2=b2' at*
 generalize hlen:(blW n).length=m at*
 refine wp_region_noPanic ?_
 refine wp_region_held_drew (S:=fun z:World=>z.cell? ⟨gx,0,none⟩=some (.pointer (some ⟨g,0,none⟩))∧z.cell? ⟨gx,1,none⟩=some (.int .i64 (i:Int))∧z.cell? ⟨gx,2,none⟩=some (.int .i64 (n:Int))∧z.cell? ⟨gx,3,none⟩=some (.string key)∧z.cell? ⟨gx,4,none⟩=some (.pointer (some ⟨gr,0,none⟩))∧z.cell? ⟨gx,5,none⟩=some (.int .i64 (i:Int))∧z.cell? ⟨gx,6,none⟩=some (.int .i64 (n:Int))∧z.cell? ⟨gx,7,none⟩=some (.string key)) (by kernel_rfl) H6d.out.cells (fun hHeld=>?_)
 refine tkH 0 ?_;go_simp
 refine tkH 1 ?_;go_simp
 refine rdH 2 fun K hK=>?_
 go_simp
 go_at_call 27
 refine hsm.out.mono ?_
 rintro x w7 ⟨rfl,hb7⟩
 have H7:Hid (Bth B w0 w7 gx g gr 2 b b' (i:Int) (n:Int) key noB (star (rowK 130 2 (.slice a2 m c2) m (pairs (blW n))) (star (rowK 104 2 (.slice a1 m c1) m (pairs (blW n))) R))):=H6d.out.below HRR.out hb7
 clear hb7 H6d
 refine hK.out _ _ H7.out.cells (fun hHeld=>?_)
 clear hK K
 refine tkH 3 ?_;go_simp
 refine tkH 4 ?_;go_simp
 refine tkH 5 ?_;go_simp
 refine tkH 6 ?_;go_simp
 refine tkH 7 ?_;go_simp
 refine tkH 8 ?_;go_simp
 refine tkH 9 ?_;go_simp
 refine tkH 10 ?_;go_simp
 refine tkH 11 ?_;go_simp
 refine tkH 12 ?_;go_simp
 refine tkH 13 ?_;go_simp
 refine tkH 14 ?_;go_simp
 refine tkH 15 ?_;go_simp
 refine tkH 16 ?_;go_simp
 refine tkH 17 ?_;go_simp
 refine tkH 18 ?_;go_simp
 refine tkH 19 ?_;go_simp
 refine tkH 21 ?_;go_simp
 refine tkH 22 ?_;go_simp
 refine tkH 23 ?_;go_simp
 refine tkH 24 ?_;go_simp
 refine tkH 25 ?_;go_simp
 refine rdH 20 fun K hK=>?_
 go_simp
 go_at_call 14
 refine(HAP.out _ H7.out).mono ?_
 rintro x w8 ⟨rfl,h8⟩
 have H8:Hid (Bth B w0 w8 gx g gr 2 b2 b' (i:Int) (n:Int) key noB (star (rowK 130 2 (.slice a2 m c2) m (pairs (blW n))) (star (rowK 104 2 (.slice a1 m c1) m (pairs (blW n))) R))):=h8
 clear h8 H7 HAP
 refine hK.out _ _ H8.out.cells (fun hHeld=>?_)
 clear hK K
 refine rdH 26 fun K hK=>?_
 go_simp
 go_at_call 28
 refine(HRP.out _ _ H8.out).mono ?_
 rintro x w9 ⟨rfl,h9⟩
 have H9:Hid (Bth B w0 w9 gx g gr 2 b2 b2' (i:Int) (n:Int) key noB (star (rowK 130 2 (.slice a2 m c2) m (pairs (blW n))) (star (rowK 104 2 (.slice a1 m c1) m (pairs (blW n))) R))):=h9
 clear h9 H8 HRP
 refine hK.out _ _ H9.out.cells (fun hHeld=>?_)
 clear hK K
 refine tkH 27 ?_;go_simp
 refine tkH 28 ?_;go_simp
 refine wpAnyH_done (by kernel_rfl) ?_ _
 refine NoPanic.normal ?_
 have e8:=H9.out.blk.cell (i:=8) rfl
 have z8:=H9.out.blk.frozen 8
 have HE:Hid (Bth B w0 (w9.setCell ⟨gx,8,none⟩ (.string top)) gx g gr 2 b2 b2' (i:Int) (n:Int) key top R):=(H9.out.dropR.dropR).setTop HR.out top
 go_wp2
 go_ret2
 exact⟨gx,g,gr,b2,b2',_,rfl,HE.out,HLV2.out,HW.out.2,HFW2.out,HSM2.out,HOK2.out⟩
set_option maxHeartbeats 2000000 in
theorem py_begin_bad {B:Nat}{w0 w:World}{R:Asn}(hR:Firm R)(h:Hold B w0 w R)(ht:∀z,Below B w0 z→Tabs z∧RTabs z){i n:Int}(f:Nat→Nat)(hg:¬(shpS n (tx 32 f)∧¬Out 2 i)):
 Calls Tryz.prog 8 #[.int .i64 n,.int .i64 i,.agg (nr .u8 32 f).toArray] w fun e w'=>∃gx g gr b b',e=.returned (.tuple #[.pointer (some ⟨gx,0,none⟩),.bool true])∧Bth B w0 w' gx g gr 2 b b' i n (tx 32 f) noB R∧Few17 2 b 100∧Sm 2 b b'∧Oks b:=by
 have HR:Hid (Firm R):=hR
 have HT:Hid (∀z,Below B w0 z→Tabs z∧RTabs z):=ht
 have h0:=h.newBlk hR 23 (nr .u8 32 f).toArray
 rw[List.toList_toArray]at h0
 have HK0:Hid (Firm (star (blkA w.heap.size 23 (nr .u8 32 f)) R)):=(firm_blk _ _ _).star hR
 have hn1:Hid (Calls _ _ _ _ _):=bnew_any HK0.out h0 2 140
 have hn2:Hid (∀z g D,Hold B w0 z (star (bnk g 2 D 0 none) (star (blkA w.heap.size 23 (nr .u8 32 f)) R))→Calls Tryz.prog 25 #[.int .i64 2,.int .i64 140] z fun e w'=>∃g',e=.returned (.pointer (some ⟨g',0,none⟩))∧∃D',(∀i,i<2→Fresh (D' i) 140)∧Hold B w0 w' (star (rbk g' 2 D' 0 none) (star (bnk g 2 D 0 none) (star (blkA w.heap.size 23 (nr .u8 32 f)) R)))):=fun z g D hz=>rnew_any ((firm_bnk _ _ _ _ _).star HK0.out) hz 2 140
 rw[newB2]at hn1
 have hz:=zeroBoth
 have hz2:Hid ((Tryz.prog.info? 41).map (·.size)=some 4):=Tryz.size41
 have hz3:Hid ((Tryz.prog.info? 44).map (·.size)=some 4):=Tryz.size44
 have hks:(tx 32 f).size=32:=tx_size 32 f
 have HBL:Hid (∀z g (b:Bs),Below B w0 z→Bk z g 2 b.D b.s b.p→Calls Tryz.prog 22 #[slV (.pointer (some ⟨g,0,none⟩)) i n (tx 32 f)] z fun e w'=>e=.returned (.tuple #[.slice none 0 0,.string noB,.int .i64 4])∧Below z.heap.size z w'):=fun z g b hz hb=>sblank_form (not_good hb hg)
 have HRL:Hid (∀z g (b:Bs),Below B w0 z→Rk z g 2 b.D b.s b.p→Calls Tryz.prog 26 #[slV (.pointer (some ⟨g,0,none⟩)) i n (tx 32 f)] z fun e w'=>e=.returned (.tuple #[.slice none 0 0,.string noB,.int .i64 4])∧Below z.heap.size z w'):=fun z g b hz hb=>rblank_form (not_rgood hb hg)
 have HAP0:Hid (∀z g (b:Bs),Bk z g 2 b.D b.s b.p→Calls Tryz.prog 14 #[slV (.pointer (some ⟨g,0,none⟩)) i n (tx 32 f),.slice none 0 0] z fun e w'=>e=.returned (.int .i64 4)∧Below z.heap.size z w'):=fun z g b hb=>sapply_form (not_good hb hg) _
 have HRP0:Hid (∀z g (b:Bs),Rk z g 2 b.D b.s b.p→Calls Tryz.prog 28 #[slV (.pointer (some ⟨g,0,none⟩)) i n (tx 32 f),.slice none 0 0] z fun e w'=>e=.returned (.int .i64 4)∧Below z.heap.size z w'):=fun z g b hb=>rapply_form (not_rgood hb hg) _
 have HF:Hid (∀D D':Nat→Dk,(∀i,i<2→Fresh (D i) 140)→(∀i,i<2→Fresh (D' i) 140)→Few17 2 ⟨D,0,none⟩ 0∧Sm 2 ⟨D,0,none⟩ ⟨D',0,none⟩∧Oks ⟨D,0,none⟩):=fun D D' h1 h2=>by
  refine⟨⟨Nat.le_refl _,fun j hj=>by show(D j).q.length≤0;rw[(h1 j hj).2.2.1];exact Nat.le_refl _⟩,⟨rfl,rfl,fun j hj=>?_⟩,fun j hj=>⟨by show(D j).n=140;rw[(h1 j hj).1];exact newN140,fun a=>by show((D j).l a).size≤2048;rw[(h1 j hj).2.1];show noB.size≤2048;decide,fun w hw=>by rw[show(⟨D,0,none⟩:Bs).D j=D j from rfl,(h1 j hj).2.2.1]at hw;cases hw⟩⟩
  obtain⟨a1,a2,a3,a4⟩:=h1 j hj
  obtain⟨c1,c2,c3,c4⟩:=h2 j hj
  exact⟨by rw[show(⟨D,0,none⟩:Bs).D j=D j from rfl,a1];exact c1.symm,by show(D j).l=(D' j).l;rw[a2,c2],by show(D j).q=(D' j).q;rw[a3,c3],by show(D j).dead=(D' j).dead;rw[a4,c4]⟩
 generalize hky:tx 32 f=key at*
 clear h h0 hR ht hg
 go_enter Tryz.func8,Tryz.ntmps8
 go_wp2_with(first
  |(go_at_call 24;refine hn1.out.mono ?_;rintro e w1 ⟨g,rfl,D,hD,h1⟩;have H1:Hid (Hold B w0 w1 (star (bnk g 2 D 0 none) (star (blkA w.heap.size 23 (nr .u8 32 f)) R))):=h1;have HD:Hid (∀i,i<2→Fresh (D i) 140):=hD;clear h1 hD hn1)
  |(go_at_call 25;refine(hn2.out _ _ _ H1.out).mono ?_;rintro e w2 ⟨gr,rfl,D',hD',h2⟩;have H2:Hid (Hold B w0 w2 (star (rbk gr 2 D' 0 none) (star (bnk g 2 D 0 none) (star (blkA w.heap.size 23 (nr .u8 32 f)) R)))):=h2;have HD':Hid (∀i,i<2→Fresh (D' i) 140):=hD';clear h2 hD' hn2 H1))
 obtain⟨fw,sm,ok⟩:=HF.out D D' HD.out HD'.out
 have HOK:Hid (Oks ⟨D,0,none⟩):=ok
 have HFW:Hid (Few17 2 ⟨D,0,none⟩ 0):=fw
 have HSM:Hid (Sm 2 ⟨D,0,none⟩ ⟨D',0,none⟩):=sm
 clear fw sm ok HF HD HD'
 have H2d:Hid (Hold B w0 w2.drew (star (rbk gr 2 D' 0 none) (star (bnk g 2 D 0 none) (star (blkA w.heap.size 23 (nr .u8 32 f)) R)))):=H2.out.below ((firm_rbk _ _ _ _ _).star ((firm_bnk _ _ _ _ _).star HK0.out)) (Below.refl _ _).drew
 have LB:Hid (∀z,Blk z w.heap.size 23 (nr .u8 32 f)→(convert 35 9 (.slice (some ⟨w.heap.size,0,none⟩) 32 32)).run Tryz.prog z=.ok (.string key) z):=fun z hz=>by rw[←hky];exact lenB (n:=0) hz
 have hcv0:Hid ((convert 35 9 (.slice (some ⟨w.heap.size,0,none⟩) 32 32)).run Tryz.prog w2.drew=.ok (.string key) w2.drew):=LB.out _ (Hold.blk (Hold.right (Hold.right H2d.out)))
 have h3:=Hold.newBlk ((firm_rbk _ _ _ _ _).star ((firm_bnk _ _ _ _ _).star HK0.out)) H2d.out 46 (btL g gr i n key noB).toArray
 rw[List.toList_toArray]at h3
 have H3:Hid (Bth B w0 (w2.drew.alloc (.cells #[.pointer (some ⟨g,0,none⟩),.int .i64 i,.int .i64 n,.string key,.pointer (some ⟨gr,0,none⟩),.int .i64 i,.int .i64 n,.string key,.string noB] 46)) w2.heap.size g gr 2 ⟨D,0,none⟩ ⟨D',0,none⟩ i n key noB (star (blkA w.heap.size 23 (nr .u8 32 f)) R)):=h3.monoR fun F h=>star_swap h
 have hcv1:Hid ((convert 35 9 (.slice (some ⟨w.heap.size,0,none⟩) 32 32)).run Tryz.prog (w2.drew.alloc (.cells #[.pointer (some ⟨g,0,none⟩),.int .i64 i,.int .i64 n,.string key,.pointer (some ⟨gr,0,none⟩),.int .i64 i,.int .i64 n,.string key,.string noB] 46))=.ok (.string key) (w2.drew.alloc (.cells #[.pointer (some ⟨g,0,none⟩),.int .i64 i,.int .i64 n,.string key,.pointer (some ⟨gr,0,none⟩),.int .i64 i,.int .i64 n,.string key,.string noB] 46))):=LB.out _ (Hold.blk (Hold.right (Hold.right (Hold.right h3))))
 clear h3 H2 H2d
 refine wp_region_noPanic ?_
 refine wp_region_held_drew (S:=fun z:World=>(convert 35 9 (.slice (some ⟨w.heap.size,0,none⟩) 32 32)).run Tryz.prog z=.ok (.string key) z) (by kernel_rfl) hcv0.out (fun hHeld=>?_)
 refine tkH 0 ?_;go_simp
 refine tkH 1 ?_;go_simp
 refine tkH 2 ?_;go_simp
 refine tkH 3 ?_;go_simp
 refine tkH 4 ?_;go_simp
 refine tkH 5 ?_;go_simp
 refine tkH 6 ?_;go_simp
 refine tkH 7 ?_;go_simp
 refine tkH 8 ?_;go_simp
 refine tkH 9 ?_;go_simp
 refine tkH 10 ?_;go_simp
 refine tkH 11 ?_;go_simp
 refine tkH 12 ?_;go_simp
 refine rdH 13 fun K hK=>?_
 go_simp
 refine hK.out _ _ hcv1.out (fun hHeld=>?_)
 clear hK K
 refine tkH 14 ?_;go_simp
 refine wpAnyH_done (by kernel_rfl) ?_ _
 refine NoPanic.normal ?_
 have HRK:Hid (Firm (star (blkA w.heap.size 23 (nr .u8 32 f)) R)):=HK0.out
 have H4:Hid (Bth B w0 (w2.alloc (.cells #[.pointer (some ⟨g,0,none⟩),.int .i64 i,.int .i64 n,.string key,.pointer (some ⟨gr,0,none⟩),.int .i64 i,.int .i64 n,.string key,.string noB] 46)).drew w2.heap.size g gr 2 ⟨D,0,none⟩ ⟨D',0,none⟩ i n key noB R):=H3.out.dropR
 clear H3 hcv0 hcv1 LB HK0 HRK hky hks
 generalize hw3:(w2.alloc (.cells #[.pointer (some ⟨g,0,none⟩),.int .i64 i,.int .i64 n,.string key,.pointer (some ⟨gr,0,none⟩),.int .i64 i,.int .i64 n,.string key,.string noB] 46)).drew=w3 at*
 generalize hgx:w2.heap.size=gx at*
 clear hw3 hgx
 generalize hb0:(⟨D,0,none⟩:Bs)=b at*
 generalize hb1:(⟨D',0,none⟩:Bs)=b' at*
 clear hb0 hb1
 have HA4:Hid (w3.rangeAt gx 0 [.pointer (some ⟨g,0,none⟩),.int .i64 i,.int .i64 n,.string key]):=H4.out.a
 have hb4:=HBL.out w3 g b H4.out.low H4.out.bk
 clear HBL
 go_wp2_with(first
  |(refine wpList_load_mid rfl 41 _ rfl gx 0 rfl [.pointer (some ⟨g,0,none⟩),.int .i64 i,.int .i64 n,.string key] _ HA4.out Tryz.underlying41 rfl hz2.out ?_)
  |(go_at_call 22;refine hb4.mono ?_;rintro e w5 ⟨rfl,hb5⟩;have H5:Hid (Bth B w0 w5 gx g gr 2 b b' i n key noB R):=H4.out.below HR.out hb5;have HA5:Hid (w5.rangeAt gx 4 [.pointer (some ⟨gr,0,none⟩),.int .i64 i,.int .i64 n,.string key]):=H5.out.r;have hb6:=HRL.out w5 gr b' H5.out.low H5.out.rk;clear hb5 hb4 HRL H4 HA4)
  |(refine wpList_load_mid rfl 44 _ rfl gx 4 rfl [.pointer (some ⟨gr,0,none⟩),.int .i64 i,.int .i64 n,.string key] _ HA5.out Tryz.underlying44 rfl hz3.out ?_)
  |(go_at_call 26;refine hb6.mono ?_;rintro e w6 ⟨rfl,hb7⟩;have H6:Hid (Bth B w0 w6 gx g gr 2 b b' i n key noB R):=H5.out.below HR.out hb7;clear hb7 hb6 H5 HA5))
 have H6d:Hid (Bth B w0 w6.drew gx g gr 2 b b' i n key noB R):=H6.out.below HR.out (Below.refl _ _).drew
 have hsm:Hid (Calls Tryz.prog 27 #[.slice none 0 0,.slice none 0 0] w6.drew fun e w'=>e=.returned (.bool true)∧Below w6.drew.heap.size w6.drew w'):=samew_any (q:=[]) (b1:=0) (b2:=0) (World.ownsRow_nil _ _ _ _) (World.ownsRow_nil _ _ _ _) (by decide)
 clear H6
 have HAP1:Hid (∀z,Bth B w0 z gx g gr 2 b b' i n key noB R→Calls Tryz.prog 14 #[slV (.pointer (some ⟨g,0,none⟩)) i n key,.slice none 0 0] z fun e w'=>e=.returned (.int .i64 4)∧Below z.heap.size z w'):=fun z hz=>HAP0.out z g b hz.bk
 have HRP1:Hid (∀z,Bth B w0 z gx g gr 2 b b' i n key noB R→Calls Tryz.prog 28 #[slV (.pointer (some ⟨gr,0,none⟩)) i n key,.slice none 0 0] z fun e w'=>e=.returned (.int .i64 4)∧Below z.heap.size z w'):=fun z hz=>HRP0.out z gr b' hz.rk
 clear HAP0 HRP0
 refine wp_region_noPanic ?_
 refine wp_region_held_drew (S:=fun z:World=>z.cell? ⟨gx,0,none⟩=some (.pointer (some ⟨g,0,none⟩))∧z.cell? ⟨gx,1,none⟩=some (.int .i64 i)∧z.cell? ⟨gx,2,none⟩=some (.int .i64 n)∧z.cell? ⟨gx,3,none⟩=some (.string key)∧z.cell? ⟨gx,4,none⟩=some (.pointer (some ⟨gr,0,none⟩))∧z.cell? ⟨gx,5,none⟩=some (.int .i64 i)∧z.cell? ⟨gx,6,none⟩=some (.int .i64 n)∧z.cell? ⟨gx,7,none⟩=some (.string key)) (by kernel_rfl) H6d.out.cells (fun hHeld=>?_)
 refine tkH 0 ?_;go_simp
 refine tkH 1 ?_;go_simp
 refine rdH 2 fun K hK=>?_
 go_simp
 go_at_call 27
 refine hsm.out.mono ?_
 rintro x w7 ⟨rfl,hb7⟩
 have H7:Hid (Bth B w0 w7 gx g gr 2 b b' i n key noB R):=H6d.out.below HR.out hb7
 clear hb7 H6d
 refine hK.out _ _ H7.out.cells (fun hHeld=>?_)
 clear hK K
 refine tkH 3 ?_;go_simp
 refine tkH 4 ?_;go_simp
 refine tkH 5 ?_;go_simp
 refine tkH 6 ?_;go_simp
 refine tkH 7 ?_;go_simp
 refine tkH 8 ?_;go_simp
 refine tkH 9 ?_;go_simp
 refine tkH 10 ?_;go_simp
 refine tkH 11 ?_;go_simp
 refine tkH 12 ?_;go_simp
 refine tkH 13 ?_;go_simp
 refine tkH 14 ?_;go_simp
 refine tkH 15 ?_;go_simp
 refine tkH 16 ?_;go_simp
 refine tkH 17 ?_;go_simp
 refine tkH 18 ?_;go_simp
 refine tkH 19 ?_;go_simp
 refine tkH 21 ?_;go_simp
 refine tkH 22 ?_;go_simp
 refine tkH 23 ?_;go_simp
 refine tkH 24 ?_;go_simp
 refine tkH 25 ?_;go_simp
 refine rdH 20 fun K hK=>?_
 go_simp
 go_at_call 14
 refine(HAP1.out _ H7.out).mono ?_
 rintro x w8 ⟨rfl,h8⟩
 have H8:Hid (Bth B w0 w8 gx g gr 2 b b' i n key noB R):=H7.out.below HR.out h8
 clear h8 H7 HAP1
 refine hK.out _ _ H8.out.cells (fun hHeld=>?_)
 clear hK K
 refine rdH 26 fun K hK=>?_
 go_simp
 go_at_call 28
 refine(HRP1.out _ H8.out).mono ?_
 rintro x w9 ⟨rfl,h9⟩
 have H9:Hid (Bth B w0 w9 gx g gr 2 b b' i n key noB R):=H8.out.below HR.out h9
 clear h9 H8 HRP1
 refine hK.out _ _ H9.out.cells (fun hHeld=>?_)
 clear hK K
 refine tkH 27 ?_;go_simp
 refine tkH 28 ?_;go_simp
 refine wpAnyH_done (by kernel_rfl) ?_ _
 refine NoPanic.normal ?_
 have e8:=H9.out.blk.cell (i:=8) rfl
 have z8:=H9.out.blk.frozen 8
 have HE:Hid (Bth B w0 (w9.setCell ⟨gx,8,none⟩ (.string noB)) gx g gr 2 b b' i n key noB R):=H9.out.setTop HR.out noB
 go_wp2
 go_ret2
 exact⟨gx,g,gr,b,b',rfl,HE.out,Few17.up HFW.out (by omega),HSM.out,HOK.out⟩
end Go.Proofs.YtnhkkhiajiiahaaGreatDoor
