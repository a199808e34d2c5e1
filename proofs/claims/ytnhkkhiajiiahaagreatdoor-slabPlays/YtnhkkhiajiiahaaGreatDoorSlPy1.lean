import Derived.Test.YtnhkkhiajiiahaaGreatDoorSlPy0
namespace Go.Proofs.YtnhkkhiajiiahaaGreatDoor
open Go.RowKit Go.PlainAid
set_option linter.unusedVariables false
set_option maxRecDepth 20000
def Py (B:Nat)(w0 z:World)(gx g gr:Nat)(i n:Int)(key:ByteArray)(m:Nat)(R:Asn):Prop:=∃b b' top,Bth B w0 z gx g gr 2 b b' i n key top R∧Sm 2 b b'∧Oks b∧Few17 2 b m
theorem Py.below {B:Nat}{w0 z z':World}{gx g gr:Nat}{i n:Int}{key:ByteArray}{m:Nat}{R:Asn}(hR:Firm R)(h:Py B w0 z gx g gr i n key m R)(hb:Below z.heap.size z z'):Py B w0 z' gx g gr i n key m R:=by
 obtain⟨b,b',top,h1,h2⟩:=h
 exact⟨b,b',top,h1.below hR hb,h2⟩
theorem Py.low {B:Nat}{w0 z:World}{gx g gr:Nat}{i n:Int}{key:ByteArray}{m:Nat}{R:Asn}(h:Py B w0 z gx g gr i n key m R):Below B w0 z:=by obtain⟨b,b',top,h1,h2⟩:=h;exact h1.low
theorem Py.up {B:Nat}{w0 z:World}{gx g gr:Nat}{i n:Int}{key:ByteArray}{m m':Nat}{R:Asn}(h:Py B w0 z gx g gr i n key m R)(hm:m≤m'):Py B w0 z gx g gr i n key m' R:=by
 obtain⟨b,b',top,h1,h2,h3,h4⟩:=h
 exact⟨b,b',top,h1,h2,h3,h4.up hm⟩
theorem Py.drop {B:Nat}{w0 z:World}{gx g gr:Nat}{i n:Int}{key:ByteArray}{m:Nat}{X R:Asn}(h:Py B w0 z gx g gr i n key m (star X R)):Py B w0 z gx g gr i n key m R:=by
 obtain⟨b,b',top,h1,h2⟩:=h
 exact⟨b,b',top,h1.dropR,h2⟩
section
variable {B:Nat}{w0 z z':World}{gx g gr:Nat}{b b':Bs}{i n:Int}{key top:ByteArray}{R:Asn}
theorem Bth.cells9 (h:Bth B w0 z gx g gr 2 b b' i n key top R):(fun z:World=>z.cell? ⟨gx,0,none⟩=some (.pointer (some ⟨g,0,none⟩))∧z.cell? ⟨gx,1,none⟩=some (.int .i64 i)∧z.cell? ⟨gx,2,none⟩=some (.int .i64 n)∧z.cell? ⟨gx,3,none⟩=some (.string key)∧z.cell? ⟨gx,4,none⟩=some (.pointer (some ⟨gr,0,none⟩))∧z.cell? ⟨gx,5,none⟩=some (.int .i64 i)∧z.cell? ⟨gx,6,none⟩=some (.int .i64 n)∧z.cell? ⟨gx,7,none⟩=some (.string key)∧z.cell? ⟨gx,8,none⟩=some (.string top)) z:=⟨h.cells.1,h.cells.2.1,h.cells.2.2.1,h.cells.2.2.2.1,h.cells.2.2.2.2.1,h.cells.2.2.2.2.2.1,h.cells.2.2.2.2.2.2.1,h.cells.2.2.2.2.2.2.2,h.blk.cell (i:=8) rfl⟩
set_option maxHeartbeats 2000000 in
theorem change_any (hR:Firm R)(h:Bth B w0 z gx g gr 2 b b' i n key top R)(hS:Sm 2 b b')(hO:Oks b){m:Nat}(hf:Few17 2 b m)(hm:m≤50000)(ht:∀z,Below B w0 z→Tabs z∧RTabs z){cs:List (Int×ByteArray)}(hcs:cs.length≤100){a a':Option Addr}{c c':Nat}(hc:Cg z 49 a cs)(hc':Cg z 77 a' cs):
 Calls Tryz.prog 29 #[.pointer (some ⟨gx,0,none⟩),.slice a cs.length c,.slice a' cs.length c'] z fun e w'=>e=.returned (.bool true)∧Py B w0 w' gx g gr i n key (m+40) R:=by
 obtain⟨q,t,E,hq,hE,hP,hQ⟩:=p_prep (g:=g) (gr:=gr) (i:=i) (n:=n) (key:=key) hO hS hf (by omega) top cs hcs
 have HR:Hid (Firm R):=hR
 have HFR1:Hid (∀v,Firm (star (rowK 104 2 v q.length (pairs q)) R)):=fun v=>(firm_rowK _ _ _ _ _).star hR
 have HT:Hid (∀z,Below B w0 z→Tabs z∧RTabs z):=ht
 have HS:Hid (Sm 2 b b'):=hS
 have HO:Hid (Oks b):=hO
 have HF:Hid (Few17 2 b m):=hf
 have HC:Hid (∀y,Below z.heap.size z y→Cg y 49 a cs∧Cg y 77 a' cs):=fun y hy=>⟨hc.below hy,hc'.below hy⟩
 have HE:Hid (E=0→∃i' d n',Gd i n key i' d n'):=hE
 have HP:Hid _:=hP
 have HQ:Hid _:=hQ
 have H0:Hid (Bth B w0 z gx g gr 2 b b' i n key top R):=h
 have hql:q.length≤32:=hq
 generalize hln:cs.length=len at*
 clear hP hQ hE hR hS hO hf hc hc' h ht hln hq
 go_enter Tryz.func29,Tryz.ntmps29
 have D0:Hid (Bth B w0 z.drew gx g gr 2 b b' i n key top R):=H0.out.below HR.out (Below.refl _ _).drew
 have LD:Hid (Below z.heap.size z z.drew):=(Below.refl _ _).drew
 clear H0
 go_wp2_with fail
 refine wp_region_noPanic ?_
 refine wp_region_held_drew (S:=fun z:World=>z.cell? ⟨gx,0,none⟩=some (.pointer (some ⟨g,0,none⟩))∧z.cell? ⟨gx,1,none⟩=some (.int .i64 i)∧z.cell? ⟨gx,2,none⟩=some (.int .i64 n)∧z.cell? ⟨gx,3,none⟩=some (.string key)∧z.cell? ⟨gx,4,none⟩=some (.pointer (some ⟨gr,0,none⟩))∧z.cell? ⟨gx,5,none⟩=some (.int .i64 i)∧z.cell? ⟨gx,6,none⟩=some (.int .i64 n)∧z.cell? ⟨gx,7,none⟩=some (.string key)∧z.cell? ⟨gx,8,none⟩=some (.string top)) (by kernel_rfl) D0.out.cells9 (fun hHeld=>?_)
 refine tkH 0 ?_;go_simp
 refine tkH 1 ?_;go_simp
 refine tkH 2 ?_;go_simp
 refine tkH 3 ?_;go_simp
 refine tkH 4 ?_;go_simp
 refine tkH 5 ?_;go_simp
 refine tkH 6 ?_;go_simp
 refine tkH 7 ?_;go_simp
 refine tkH 8 ?_;go_simp
 refine rdH 9 fun K hK=>?_
 go_simp
 go_at_call 13
 refine(HP.out _ a c D0.out.bk (HT.out _ D0.out.low).1 (HC.out _ LD.out).1).mono ?_
 rintro x w1 ⟨v1,rfl,hr1,hb1⟩
 have D1:Hid (Bth B w0 w1 gx g gr 2 b b' i n key top (star (rowK 104 2 v1 q.length (pairs q)) R)):=(Hold.newRow (bth_firm HR.out) D0.out hb1 hr1).back4
 have L1:Hid (Below z.heap.size z w1):=LD.out.trans (hb1.mono LD.out.size)
 clear hb1 hr1 D0 LD
 refine hK.out _ _ D1.out.cells9 (fun hHeld=>?_)
 clear hK K
 have hsc1:=D1.out.cells9
 refine tkH 10 ?_;go_simp
 refine tkH 11 ?_;go_simp
 refine tkH 12 ?_;go_simp
 refine tkH 13 ?_;go_simp
 refine tkH 14 ?_;go_simp
 refine tkH 15 ?_;go_simp
 refine tkH 16 ?_;go_simp
 refine wpAnyH_done (by kernel_rfl) ?_ _
 refine NoPanic.normal ?_
 clear hsc1
 have D2:Hid (Bth B w0 w1.drew gx g gr 2 b b' i n key top (star (rowK 104 2 v1 q.length (pairs q)) R)):=D1.out.below (HFR1.out _) (Below.refl _ _).drew
 have L2:Hid (Below z.heap.size z w1.drew):=L1.out.drew
 clear D1 L1
 go_wp2_with fail
 refine wp_region_noPanic ?_
 refine wp_region_held_drew (S:=fun z:World=>z.cell? ⟨gx,0,none⟩=some (.pointer (some ⟨g,0,none⟩))∧z.cell? ⟨gx,1,none⟩=some (.int .i64 i)∧z.cell? ⟨gx,2,none⟩=some (.int .i64 n)∧z.cell? ⟨gx,3,none⟩=some (.string key)∧z.cell? ⟨gx,4,none⟩=some (.pointer (some ⟨gr,0,none⟩))∧z.cell? ⟨gx,5,none⟩=some (.int .i64 i)∧z.cell? ⟨gx,6,none⟩=some (.int .i64 n)∧z.cell? ⟨gx,7,none⟩=some (.string key)∧z.cell? ⟨gx,8,none⟩=some (.string top)) (by kernel_rfl) D2.out.cells9 (fun hHeld=>?_)
 refine tkH 0 ?_;go_simp
 refine tkH 1 ?_;go_simp
 refine tkH 2 ?_;go_simp
 refine tkH 3 ?_;go_simp
 refine tkH 4 ?_;go_simp
 refine tkH 5 ?_;go_simp
 refine tkH 6 ?_;go_simp
 refine tkH 7 ?_;go_simp
 refine tkH 8 ?_;go_simp
 refine rdH 9 fun K hK=>?_
 go_simp
 go_at_call 68
 refine(HQ.out _ a' c' D2.out.rk (HT.out _ D2.out.low).2 (HC.out _ L2.out).2).mono ?_
 rintro x w2 ⟨v2,rfl,hr2,hb2⟩
 have D3:Hid (Bth B w0 w2 gx g gr 2 b b' i n key top (star (rowK 130 2 v2 q.length (pairs q)) (star (rowK 104 2 v1 q.length (pairs q)) R))):=(Hold.newRow (bth_firm (HFR1.out _)) D2.out hb2 hr2).back4
 clear hb2 hr2 D2 L2
 refine hK.out _ _ D3.out.cells9 (fun hHeld=>?_)
 clear hK K
 have hsc3:=D3.out.cells9
 refine tkH 10 ?_;go_simp
 refine tkH 11 ?_;go_simp
 refine tkH 12 ?_;go_simp
 refine tkH 13 ?_;go_simp
 refine tkH 14 ?_;go_simp
 refine tkH 15 ?_;go_simp
 refine tkH 16 ?_;go_simp
 refine wpAnyH_done (by kernel_rfl) ?_ _
 refine NoPanic.normal ?_
 clear hsc3
 obtain⟨a1,c1,hv1⟩:=owns_form (Hold.rowK (Hold.right (Hold.right (Hold.right (Hold.right D3.out)))))
 obtain⟨a2,c2,hv2⟩:=owns_form (Hold.rowK (Hold.right (Hold.right (Hold.right D3.out))))
 subst hv1 hv2
 have hsm:=samew_any (Hold.rowK (Hold.right (Hold.right (Hold.right (Hold.right D3.out))))) (Hold.rowK (Hold.right (Hold.right (Hold.right D3.out)))) (by omega)
 have HQL:Hid (q.length≤32):=hql
 obtain⟨ql,hqle⟩:∃ql,q.length=ql:=⟨_,rfl⟩
 rw[hqle]at hsm D3
 have HQE:Hid (q.length=ql):=hqle
 have HFR:Hid (Firm (star (rowK 130 2 (.slice a2 ql c2) ql (pairs q)) (star (rowK 104 2 (.slice a1 ql c1) ql (pairs q)) R))):=(firm_rowK _ _ _ _ _).star ((firm_rowK _ _ _ _ _).star HR.out)
 rw[hqle]
 clear hqle hql HFR1 HC HP HQ
 by_cases hE0:E=0
 ·obtain⟨i',d,n',hi1,hi,hn1,hn,hd,hk⟩:=HE.out hE0
  subst hE0
  obtain⟨hs1,hs2⟩:=Sm.r hi q HS.out
  have HB:Hid (Sm 2 (apR 2 i' b q).2 (apR 2 i' b' q).2∧Oks (apR 2 i' b q).2∧Few17 2 (apR 2 i' b q).2 (m+40)):=⟨hs2,Oks.r hi q HO.out,(few_r hi q HF.out).up (by have:=HQL.out;omega)⟩
  have HAP:Hid (∀y,Bth B w0 y gx g gr 2 b b' i n key top (star (rowK 130 2 (.slice a2 ql c2) ql (pairs q)) (star (rowK 104 2 (.slice a1 ql c1) ql (pairs q)) R))→Calls Tryz.prog 14 #[slV (.pointer (some ⟨g,0,none⟩)) i n key,.slice a1 ql c1] y fun e w'=>e=.returned (.int .i64 (apR 2 i' b q).1)∧Bth B w0 w' gx g gr 2 (apR 2 i' b q).2 b' i n key top (star (rowK 130 2 (.slice a2 ql c2) ql (pairs q)) (star (rowK 104 2 (.slice a1 ql c1) ql (pairs q)) R))):=fun y hy=>by
   subst hi1 hn1
   have hy2:=hy
   rw[←HQE.out]at hy2⊢
   exact(Bth.apply (v2:=.pointer none) (q2:=[]) ((firm_rowK _ _ _ _ _).star HR.out) rfl (good_yes hy2.bk hi hn hd hk) hi hy2.swapR HF.out (by have:=HQL.out;omega)).mono fun e w' ⟨h1,h2⟩=>⟨h1,h2.swapR⟩
  have HRP:Hid (∀y,Bth B w0 y gx g gr 2 (apR 2 i' b q).2 b' i n key top (star (rowK 130 2 (.slice a2 ql c2) ql (pairs q)) (star (rowK 104 2 (.slice a1 ql c1) ql (pairs q)) R))→Calls Tryz.prog 28 #[slV (.pointer (some ⟨gr,0,none⟩)) i n key,.slice a2 ql c2] y fun e w'=>e=.returned (.int .i64 (apR 2 i' b q).1)∧Bth B w0 w' gx g gr 2 (apR 2 i' b q).2 (apR 2 i' b' q).2 i n key top (star (rowK 130 2 (.slice a2 ql c2) ql (pairs q)) (star (rowK 104 2 (.slice a1 ql c1) ql (pairs q)) R))):=fun y hy=>by
   subst hi1 hn1
   have hy2:=hy
   rw[←HQE.out]at hy2⊢
   have h:=Bth.rapply ((firm_rowK _ _ _ _ _).star HR.out) rfl (rgood_yes hy2.rk hi hn hd hk) hi hy2 (HF.out.sm HS.out) (by have:=HQL.out;omega)
   rw[←hs1]at h
   exact h
  generalize(apR 2 i' b q).1=G at*
  generalize(apR 2 i' b q).2=B2 at*
  generalize(apR 2 i' b' q).2=B2p at*
  clear hs1 hs2 HQE HQL hi1 hn1
  go_upto_region 6 with(go_at_call 27;refine hsm.mono ?_;rintro x w3 ⟨rfl,hb3⟩;have H3:Hid (Bth B w0 w3 gx g gr 2 b b' i n key top (star (rowK 130 2 (.slice a2 ql c2) ql (pairs q)) (star (rowK 104 2 (.slice a1 ql c1) ql (pairs q)) R))):=D3.out.below HFR.out hb3;clear hb3 hsm D3)
  by_cases hG:G=0
  ·subst hG
   have hs3:=H3.out.cells9
   obtain⟨d0,d1,d2,d3,d4,d5,d6,d7,d8⟩:=hs3
   go_wp2_with(first
    |(go_at_call 14;refine(HAP.out _ H3.out).mono ?_;rintro x w8 ⟨rfl,h8⟩;have H8:Hid (Bth B w0 w8 gx g gr 2 B2 b' i n key top (star (rowK 130 2 (.slice a2 ql c2) ql (pairs q)) (star (rowK 104 2 (.slice a1 ql c1) ql (pairs q)) R))):=h8;clear h8 d0 d1 d2 d3 d4 d5 d6 d7 d8;obtain⟨d0,d1,d2,d3,d4,d5,d6,d7,d8⟩:=H8.out.cells9)
    |(go_at_call 28;refine(HRP.out _ H8.out).mono ?_;rintro x w9 ⟨rfl,h9⟩;have H9:Hid (Bth B w0 w9 gx g gr 2 B2 B2p i n key top (star (rowK 130 2 (.slice a2 ql c2) ql (pairs q)) (star (rowK 104 2 (.slice a1 ql c1) ql (pairs q)) R))):=h9;clear h9 d0 d1 d2 d3 d4 d5 d6 d7 d8;have e8:=H9.out.blk.cell (i:=8) rfl;have z8:=H9.out.blk.frozen 8))
   go_ret
   exact⟨rfl,B2,B2p,t,(H9.out.dropR.dropR).setTop HR.out t,HB.out⟩
  have hG1:(G==0)=false:=by simpa using hG
  have hG2:decide (G=0)=false:=decide_eq_false hG
  have hs3:=H3.out.cells9
  obtain⟨d0,d1,d2,d3,d4,d5,d6,d7,d8⟩:=hs3
  go_wp2_with(first
   |(go_at_call 14;refine(HAP.out _ H3.out).mono ?_;rintro x w8 ⟨rfl,h8⟩;have H8:Hid (Bth B w0 w8 gx g gr 2 B2 b' i n key top (star (rowK 130 2 (.slice a2 ql c2) ql (pairs q)) (star (rowK 104 2 (.slice a1 ql c1) ql (pairs q)) R))):=h8;clear h8 d0 d1 d2 d3 d4 d5 d6 d7 d8;obtain⟨d0,d1,d2,d3,d4,d5,d6,d7,d8⟩:=H8.out.cells9)
   |(go_at_call 28;refine(HRP.out _ H8.out).mono ?_;rintro x w9 ⟨rfl,h9⟩;have H9:Hid (Bth B w0 w9 gx g gr 2 B2 B2p i n key top (star (rowK 130 2 (.slice a2 ql c2) ql (pairs q)) (star (rowK 104 2 (.slice a1 ql c1) ql (pairs q)) R))):=h9;clear h9 d0 d1 d2 d3 d4 d5 d6 d7 d8;have e8:=H9.out.blk.cell (i:=8) rfl;have z8:=H9.out.blk.frozen 8))
  go_ret
  exact⟨rfl,B2,B2p,top,H9.out.dropR.dropR,HB.out⟩
 have hE1:(E==0)=false:=by simpa using hE0
 have hE2:decide (E=0)=false:=decide_eq_false hE0
 go_wp2_with(go_at_call 27;refine hsm.mono ?_;rintro x w3 ⟨rfl,hb3⟩;have H3:Hid (Bth B w0 w3 gx g gr 2 b b' i n key top (star (rowK 130 2 (.slice a2 ql c2) ql (pairs q)) (star (rowK 104 2 (.slice a1 ql c1) ql (pairs q)) R))):=D3.out.below HFR.out hb3;clear hb3 hsm D3)
 go_ret
 exact⟨rfl,b,b',top,H3.out.dropR.dropR,HS.out,HO.out,HF.out.up (by omega)⟩
end
end Go.Proofs.YtnhkkhiajiiahaaGreatDoor
