import Derived.Test.YtnhkkhiajiiahaaGreatDoorSlBegin
namespace Go.Proofs.YtnhkkhiajiiahaaGreatDoor
open Go.RowKit Go.PlainAid
set_option linter.unusedVariables false
set_option maxRecDepth 20000
section
variable {B:Nat}{w0 z:World}{gx g gr:Nat}{b b':Bs}{i d n:Nat}{key top:ByteArray}{R:Asn}{l:Nat→ByteArray}{C:Nat→ByteArray}
theorem fault_in {pv:Value}{i n:Int}{key:ByteArray}{z:World}(hg:GoodIs z (slV pv i n key) true){k:Int}(h0:0≤k)(h1:k<n):FaultIs z (slV pv i n key) k 0:=by
 have:=faultIs_any hg k
 rwa[show slE17 n k=0 from if_neg (by omega)]at this
theorem lv_get (hb:Bk z g 2 b.D b.s b.p)(ht:Tabs z)(hL:Liv 2 i b l)(hi:i<2)(hn:2^d=n)(hd:1≤d∧d≤4)(hk:key.size=32)(hT:InT l d (sl0 top) C){s:Nat}(hs:s<n):
 Calls Tryz.prog 15 #[slV (.pointer (some ⟨g,0,none⟩)) (i:Int) (n:Int) key,.string top,.int .i64 (s:Int)] z fun e w'=>e=.returned (.tuple #[.string (opT key (plc i s) (C s)),.int .i64 (opE key (plc i s) (C s))])∧Below z.heap.size z w':=by
 have h:=sget_any hb ht hi (by omega) (by rw[hL.n];exact Nat.le_refl _) hL.size hn hd hk top hs (fault_in (good_yes hb hi hn hd hk) (by omega) (by omega))
 obtain⟨e1,e2⟩:=hL.get hd.2 hT (s:=s) (by omega) (opE key (plc i s)) (opT key (plc i s))
 rw[e1,e2]at h
 exact h
def pS (b:Bs)(i d:Nat)(top:ByteArray)(cs:List (Int×ByteArray)):Sl:=(prR (rdS b.p (b.D i)) (eR b.p (b.D i)) d (sl0 top) cs).2
theorem lv_prep (hb:Bk z g 2 b.D b.s b.p)(ht:Tabs z)(hL:Liv 2 i b l)(hi:i<2)(hn:2^d=n)(hd:1≤d∧d≤4)(hk:key.size=32)(hT:InT l d (sl0 top) C){a:Option Addr}{c:Nat}{cs:List (Int×ByteArray)}(hcg:Cg z 49 a cs)(hm:cs.length≤100)(hc:Cok n cs):
 Calls Tryz.prog 13 #[slV (.pointer (some ⟨g,0,none⟩)) (i:Int) (n:Int) key,.string top,.slice a cs.length c] z fun e w'=>∃v,e=.returned (.tuple #[v,.string (pS b i d top cs).top,.int .i64 0])∧w'.ownsRow z.heap.size 104 2 v (slW (pS b i d top cs)).length (pairs (slW (pS b i d top cs)))∧Below z.heap.size z w':=by
 have h:=sprep_any hb ht hi (by rw[hL.n];exact Nat.le_refl _) hn hd (good_yes hb hi hn hd hk) top hcg (c:=c) hm hc.rf
 have h0:=(hL.change hi hd.2 hT (cs:=cs) (by rw[hn];exact hc)).1
 refine h.mono ?_
 rintro e w' ⟨_,h2,h3⟩
 obtain⟨v,e1,e2⟩:=h2 h0
 exact⟨v,e1,e2,h3⟩
theorem slW_few (S:Sl):(slW S).length≤32:=by
 unfold slW
 rw[List.length_append,slL_length,slL_length]
 have h1:=ksN_length S.ch
 have h2:=ksN_length S.ce
 omega
end
theorem ks_two (rd:Nat→ByteArray)(top c:ByteArray):(slW (sl1 rd (sl0 top) 2 2 c)).length=3:=by
 unfold slW
 rw[List.length_append,slL_length,slL_length]
 have h:∀i,((sl1 rd (sl0 top) 2 2 c).ch i).isSome=(i==1||i==3):=fun i=>by
  show(slCh rd (sl0 top) 2 2 c i).isSome=_
  by_cases e1:i=1
  ·subst e1
   have:=slCh_on rd (sl0 top) 2 2 c 0 (by decide) (by decide)
   rw[show nd 2 2 0=1 from by decide]at this
   rw[this];rfl
  by_cases e3:i=3
  ·subst e3
   have:=slCh_on rd (sl0 top) 2 2 c 1 (by decide) (by decide)
   rw[show nd 2 2 1=3 from by decide]at this
   rw[this];rfl
  rw[slCh_off rd (sl0 top) 2 2 c i (fun k hk=>by
   rcases(by omega:k=0∨k=1)with rfl|rfl
   ·rw[show nd 2 2 0=1 from by decide];exact e1
   rw[show nd 2 2 1=3 from by decide];exact e3)]
  show(none:Option ByteArray).isSome=_
  simp[e1,e3]
 have h2:∀j,((sl1 rd (sl0 top) 2 2 c).ce j).isSome=(j==2):=fun j=>by
  show(if j=2 then some c else none).isSome=_
  by_cases e:j=2
  ·subst e;rfl
  rw[if_neg e];simp[e]
 unfold ksN
 rw[List.filter_congr (fun i _=>h i),List.filter_congr (fun i _=>h2 i)]
 rfl
theorem zero32 (w:World):(zeroValue 23).run Tryz.prog w=.ok (.agg (nr .u8 32 fun _=>0).toArray) w:=by
 obtain⟨i0,hi,hz⟩:=Option.map_eq_some_iff.1 (show(Tryz.prog.info? 23).map (fun i=>i.zero)=some (some (.agg (nr .u8 32 fun _=>0).toArray)) by kernel_rfl)
 simp[zeroValue,typeInfo,hi,hz]
theorem Cg.one (w:World)(s:Int)(c:ByteArray):Cg (w.alloc (.cells #[.int .i64 s,.string c] 49)) 49 (some ⟨w.heap.size,0,none⟩) [(s,c)]:=by
 refine .inr ⟨w.heap.size,0,rfl,by simp,fun i p hp=>?_⟩
 match i,hp with
 |0,hp=>
  cases hp
  intro j v hv
  exact(Blk.new w 49 #[.int .i64 s,.string c]).cell (by simpa using hv)
 |i+1,hp=>simp at hp
theorem pS_one {b:Bs}{i d:Nat}{top:ByteArray}{l:Nat→ByteArray}{C:Nat→ByteArray}(hL:Liv 2 i b l)(hd:d≤4)(hT:InT l d (sl0 top) C){k:Nat}(hk:k<2^d)(c:ByteArray):pS b i d top [((k:Int),c)]=sl1 (rdS b.p (b.D i)) (sl0 top) d k c:=by
 have hT2:InT (rdS b.p (b.D i)) d (sl0 top) C:=hT.congr hd (fun a ha=>(hL.rd ha).symm)
 unfold pS
 rw[hL.er0,prR_ok (p:=((k:Int),c)) (by rw[Int.toNat_natCast];exact hT2.ovE hd hk)]
 rfl
theorem beg4 {w:World}(ht:Tabs w)(hr:RTabs w):Calls Tryz.prog 8 #[.int .i64 4,.int .i64 0,.agg (nr .u8 32 fun _=>0).toArray] w fun e w'=>∃gx g gr b b' l key top,e=.returned (.tuple #[.pointer (some ⟨gx,0,none⟩),.bool true])∧key.size=32∧Bth w.heap.size w w' gx g gr 2 b b' 0 4 key top nought∧Liv 2 0 b l∧InT l 2 (sl0 top) (fun _=>noB)∧Few17 2 b 100:=by
 have h:=begin_any (B:=w.heap.size) (w0:=w) (w:=w) firm_nought (hold_nought _ _ _ (Nat.le_refl _) (Below.refl _ _)) (fun z hz=>⟨ht.below hz ht.lt,hr.below hz hr.lt⟩) (i:=0) (d:=2) (n:=4) (by decide) (by decide) ⟨by decide,by decide⟩ (fun _=>0)
 refine Calls.mono (P:=_) h ?_
 rintro e w' ⟨gx,g,gr,b,b',l,h1,h2,h3,h4,h5,h6⟩
 exact⟨gx,g,gr,b,b',l,_,_,h1,tx_size 32 _,h2,h3,h4,h5⟩
section
variable {w z:World}{gx g gr:Nat}{b b':Bs}{l:Nat→ByteArray}{key top:ByteArray}
theorem wk_good (hb:Bk z g 2 b.D b.s b.p)(hk:key.size=32):GoodIs z (slV (.pointer (some ⟨g,0,none⟩)) 0 4 key) true:=good_yes (i:=0) (d:=2) (n:=4) hb (by decide) (by decide) ⟨by decide,by decide⟩ hk
theorem wk_seal (hb:Bk z g 2 b.D b.s b.p)(hk:key.size=32){nonce plain:ByteArray}(h1:nonce.size=12)(h2:plain.size=32):Calls Tryz.prog 12 #[slV (.pointer (some ⟨g,0,none⟩)) 0 4 key,.int .i64 2,.string nonce,.string plain] z fun e w'=>e=.returned (.tuple #[.string (clB17 key nonce (plc 0 2) plain),.int .i64 0])∧Below z.heap.size z w':=
 sseal_ok (i:=0) (k:=2) (by decide) (by decide) hk (fault_in (wk_good hb hk) (by decide) (by decide)) h1 h2
theorem wk_prep (hb:Bk z g 2 b.D b.s b.p)(ht:Tabs z)(hL:Liv 2 0 b l)(hk:key.size=32)(hT:InT l 2 (sl0 top) (fun _=>noB)){c:ByteArray}(hc:c.size=60):Calls Tryz.prog 13 #[slV (.pointer (some ⟨g,0,none⟩)) 0 4 key,.string top,.slice (some ⟨z.heap.size,0,none⟩) 1 1] (z.alloc (.cells #[.int .i64 2,.string c] 49)) fun e w'=>∃v,e=.returned (.tuple #[v,.string (pS b 0 2 top [(2,c)]).top,.int .i64 0])∧w'.ownsRow z.heap.size 104 2 v (slW (pS b 0 2 top [(2,c)])).length (pairs (slW (pS b 0 2 top [(2,c)])))∧Below z.heap.size z w':=by
 have hB:Below z.heap.size z (z.alloc (.cells #[.int .i64 2,.string c] 49)):=(Below.refl _ _).alloc (Nat.le_refl _) _
 have h:=lv_prep (i:=0) (d:=2) (n:=4) (z:=z.alloc (.cells #[.int .i64 2,.string c] 49)) (hb.below hB) (ht.below hB ht.lt) hL (by decide) (by decide) ⟨by decide,by decide⟩ hk hT (c:=1) (Cg.one z 2 c) (by show 1≤100;decide) (fun p hp=>by
  rcases List.mem_cons.1 hp with rfl|h
  ·exact⟨⟨(by decide:(0:Int)≤2),(by decide:(2:Int)<4)⟩,by show c.size≤2032;omega⟩
  cases h)
 refine Calls.mono (P:=_) h ?_
 rintro e w' ⟨v,h1,h2,h3⟩
 exact⟨v,h1,owns_low h2 hB.size,hB.trans (h3.mono hB.size)⟩
theorem wk_put (hL:Liv 2 0 b l)(hT:InT l 2 (sl0 top) (fun _=>noB)){c:ByteArray}(hc:c.size=60):(slW (pS b 0 2 top [(2,c)])).length=3∧(apR 2 0 b (slW (pS b 0 2 top [(2,c)]))).1=0∧∃l',Liv 2 0 (apR 2 0 b (slW (pS b 0 2 top [(2,c)]))).2 l'∧InT l' 2 (sl0 (pS b 0 2 top [(2,c)]).top) (fun j=>if j=2 then c else noB):=by
 obtain⟨h1,h2,h3⟩:=hL.change (i:=0) (by decide) (by decide:2≤4) hT (cs:=[((2:Int),c)]) (fun p hp=>by
  rcases List.mem_cons.1 hp with rfl|h
  ·exact⟨⟨(by decide:(0:Int)≤2),(by decide:(2:Int)<4)⟩,by show c.size≤2032;omega⟩
  cases h)
 refine⟨?_,h2,h3⟩
 rw[show pS b 0 2 top [((2:Int),c)]=sl1 (rdS b.p (b.D 0)) (sl0 top) 2 2 c from pS_one (k:=2) hL (by decide) hT (by decide) c]
 exact ks_two _ _ _
theorem wk_get (hb:Bk z g 2 b.D b.s b.p)(ht:Tabs z)(hL:Liv 2 0 b l)(hk:key.size=32){nonce plain:ByteArray}(h1:nonce.size=12)(hT:InT l 2 (sl0 top) (fun j=>if j=2 then clB17 key nonce (plc 0 2) plain else noB)):
 (Calls Tryz.prog 15 #[slV (.pointer (some ⟨g,0,none⟩)) 0 4 key,.string top,.int .i64 2] z fun e w'=>e=.returned (.tuple #[.string plain,.int .i64 0])∧Below z.heap.size z w')∧
 Calls Tryz.prog 15 #[slV (.pointer (some ⟨g,0,none⟩)) 0 4 key,.string top,.int .i64 1] z fun e w'=>e=.returned (.tuple #[.string (zB 32),.int .i64 0])∧Below z.heap.size z w':=by
 have g2:=lv_get (i:=0) (d:=2) (n:=4) hb ht hL (by decide) (by decide) ⟨by decide,by decide⟩ hk hT (s:=2) (by decide)
 have g1:=lv_get (i:=0) (d:=2) (n:=4) hb ht hL (by decide) (by decide) ⟨by decide,by decide⟩ hk hT (s:=1) (by decide)
 rw[if_pos rfl,(op_seal _ _ _ _ h1).1,(op_seal _ _ _ _ h1).2]at g2
 rw[if_neg (by decide),(op_none _ _).1,(op_none _ _).2]at g1
 exact⟨g2,g1⟩
end
set_option maxHeartbeats 2000000 in
theorem wakes17_any {w:World}(ht:Tabs w)(hr:RTabs w):Calls Tryz.prog 10 #[] w fun e w'=>e=.returned (.bool true)∧Below w.heap.size w w':=by
 have hz0:=zero32
 have hb0:=beg4 ht hr
 have HT:Hid (∀z,Below w.heap.size w z→Tabs z):=fun z hz=>ht.below hz ht.lt
 have hzS:Hid ((Tryz.prog.info? 41).map (·.size)=some 4):=Tryz.size41
 obtain⟨Z,hz1,hz2⟩:=zeros_at 32 (by omega)
 rw[show strOfNums (List.replicate 32 0)=zB 32 from rfl]at hz2
 have HZ:Hid ((∀x:World,(Instr.makeSlice 35 (.int .i64 32) (.int .i64 32)).run Tryz.prog x=.ok (.slice (some ⟨x.heap.size,0,none⟩) 32 32) (x.alloc (.cells Z 5 (0,0))))∧∀x:World,(convert 35 9 (.slice (some ⟨x.heap.size,0,none⟩) 32 32)).run Tryz.prog (x.alloc (.cells Z 5 (0,0)))=.ok (.string (zB 32)) (x.alloc (.cells Z 5 (0,0)))):=⟨hz1,hz2⟩
 clear ht hr hz1 hz2
 have HN:Hid ((⟨#[49,50,51,52,53,54,55,56,57,48,49,50]⟩:ByteArray).size=12):=(rfl:_)
 have HP:Hid ((⟨#[48,49,50,51,52,53,54,55,56,57,97,98,99,100,101,102,48,49,50,51,52,53,54,55,56,57,97,98,99,100,101,102]⟩:ByteArray).size=32):=(rfl:_)
 go_enter Tryz.func10,Tryz.ntmps10
 go_wp2_with(first
  |(go_at_call 8;refine hb0.mono ?_;rintro e w1 ⟨gx,g,gr,b,b',l,key,top,rfl,hk,h1,h2,h3,h4⟩;have H1:Hid (Bth w.heap.size w w1 gx g gr 2 b b' 0 4 key top nought):=h1;have HA1:Hid (w1.rangeAt gx 0 [.pointer (some ⟨g,0,none⟩),.int .i64 0,.int .i64 4,.string key]):=h1.a;have HL:Hid (Liv 2 0 b l):=h2;have HI:Hid (InT l 2 (sl0 top) (fun _=>noB)):=h3;have HF:Hid (Few17 2 b 100):=h4;have HK:Hid (key.size=32):=hk;clear h1 h2 h3 h4 hk hb0 hz0)
  |(refine wpList_load_mid rfl 41 _ rfl gx 0 rfl [.pointer (some ⟨g,0,none⟩),.int .i64 0,.int .i64 4,.string key] _ HA1.out Tryz.underlying41 rfl hzS.out ?_)
  |(go_at_call 12;refine(wk_seal H1.out.bk HK.out HN.out HP.out).mono ?_;rintro e w2 ⟨rfl,hb2⟩;have H2:Hid (Bth w.heap.size w w2 gx g gr 2 b b' 0 4 key top nought):=H1.out.below firm_nought hb2;clear hb2 H1 HA1))
 have HC:Hid ((clB17 key ⟨#[49,50,51,52,53,54,55,56,57,48,49,50]⟩ (plc 0 2) ⟨#[48,49,50,51,52,53,54,55,56,57,97,98,99,100,101,102,48,49,50,51,52,53,54,55,56,57,97,98,99,100,101,102]⟩).size=60):=by
  show _=_
  rw[clB17_size _ _ _ _ HN.out,HP.out]
 have HG:Hid (∀(z:World) (b2:Bs) (l2:Nat→ByteArray) (t:ByteArray),Bk z g 2 b2.D b2.s b2.p→Tabs z→Liv 2 0 b2 l2→InT l2 2 (sl0 t) (fun j=>if j=2 then clB17 key ⟨#[49,50,51,52,53,54,55,56,57,48,49,50]⟩ (plc 0 2) ⟨#[48,49,50,51,52,53,54,55,56,57,97,98,99,100,101,102,48,49,50,51,52,53,54,55,56,57,97,98,99,100,101,102]⟩else noB)→(Calls Tryz.prog 15 #[slV (.pointer (some ⟨g,0,none⟩)) 0 4 key,.string t,.int .i64 2] z fun e w'=>e=.returned (.tuple #[.string ⟨#[48,49,50,51,52,53,54,55,56,57,97,98,99,100,101,102,48,49,50,51,52,53,54,55,56,57,97,98,99,100,101,102]⟩,.int .i64 0])∧Below z.heap.size z w')∧
  Calls Tryz.prog 15 #[slV (.pointer (some ⟨g,0,none⟩)) 0 4 key,.string t,.int .i64 1] z fun e w'=>e=.returned (.tuple #[.string (zB 32),.int .i64 0])∧Below z.heap.size z w'):=fun z b2 l2 t a1 a2 a3 a4=>wk_get a1 a2 a3 HK.out HN.out a4
 generalize clB17 key ⟨#[49,50,51,52,53,54,55,56,57,48,49,50]⟩ (plc 0 2) ⟨#[48,49,50,51,52,53,54,55,56,57,97,98,99,100,101,102,48,49,50,51,52,53,54,55,56,57,97,98,99,100,101,102]⟩=c at*
 have H2d:Hid (Bth w.heap.size w w2.drew gx g gr 2 b b' 0 4 key top nought):=H2.out.below firm_nought (Below.refl _ _).drew
 have H2a:Hid (Bth w.heap.size w (w2.drew.alloc (.cells #[.int .i64 2,.string c] 49)) gx g gr 2 b b' 0 4 key top nought):=H2d.out.below firm_nought ((Below.refl _ _).alloc (Nat.le_refl _) _)
 have hp:=wk_prep (z:=w2.drew) H2d.out.bk (HT.out _ H2d.out.low) HL.out HK.out HI.out HC.out
 obtain⟨q1,q2,l2,q3,q4⟩:=wk_put HL.out HI.out HC.out
 have HFW:Hid (Few17 2 b 100):=HF.out
 have HQ:Hid ((apR 2 0 b (slW (pS b 0 2 top [(2,c)]))).1=0∧Liv 2 0 (apR 2 0 b (slW (pS b 0 2 top [(2,c)]))).2 l2):=⟨q2,q3⟩
 have HI2:Hid (InT l2 2 (sl0 (pS b 0 2 top [(2,c)]).top) (fun j=>if j=2 then c else noB)):=q4
 clear q2 q3 q4 HI HF HL H2
 generalize(pS b 0 2 top [(2,c)]).top=t2 at*
 generalize slW (pS b 0 2 top [(2,c)])=q at*
 have HAP:Hid (∀z v,Bth w.heap.size w z gx g gr 2 b b' 0 4 key top (star (rowK 104 2 v 3 (pairs q)) nought)→Calls Tryz.prog 14 #[slV (.pointer (some ⟨g,0,none⟩)) 0 4 key,v] z fun e w'=>e=.returned (.int .i64 0)∧Bth w.heap.size w w' gx g gr 2 (apR 2 0 b q).2 b' 0 4 key top (star (rowK 104 2 v 3 (pairs q)) nought)):=fun z v hz=>by
  rw[←q1]at hz⊢
  have:=Bth.apply (k:=0) (q2:=[]) (v2:=.bool true) firm_nought rfl (wk_good hz.bk HK.out) (by decide) hz HFW.out (by omega)
  rwa[HQ.out.1]at this
 rw[q1]at hp
 have HPR:Hid (Calls _ _ _ _ _):=hp
 clear hp
 refine wp_region_noPanic ?_
 refine wp_region_held_drew (S:=fun z:World=>z.cell? ⟨gx,0,none⟩=some (.pointer (some ⟨g,0,none⟩))∧z.cell? ⟨gx,1,none⟩=some (.int .i64 0)∧z.cell? ⟨gx,2,none⟩=some (.int .i64 4)∧z.cell? ⟨gx,3,none⟩=some (.string key)∧z.cell? ⟨gx,8,none⟩=some (.string top)) (by kernel_rfl) ⟨H2d.out.cells.1,H2d.out.cells.2.1,H2d.out.cells.2.2.1,H2d.out.cells.2.2.2.1,H2d.out.blk.cell (i:=8) rfl⟩ (fun hHeld=>?_)
 refine tkH 0 ?_;go_simp
 refine tkH 1 ?_;go_simp
 refine tkH 2 ?_;go_simp
 refine tkH 3 ?_;go_simp
 refine tkH 4 ?_;go_simp
 refine tkH 5 ?_;go_simp
 refine tkH 6 ?_;go_simp
 refine tkH 7 ?_;go_simp
 refine tkH 8 ?_;go_simp
 refine tkH 9 ?_;go_simp
 refine rdH 10 fun K hK=>?_
 go_simp
 refine hK.out _ _ ⟨H2a.out.cells.1,H2a.out.cells.2.1,H2a.out.cells.2.2.1,H2a.out.cells.2.2.2.1,H2a.out.blk.cell (i:=8) rfl⟩ (fun hHeld=>?_)
 clear hK K
 refine rdH 11 fun K hK=>?_
 go_simp
 go_at_call 13
 refine HPR.out.mono ?_
 rintro x w3 ⟨v3,rfl,hr3,hb3⟩
 obtain⟨a3,c3,rfl⟩:=owns_form hr3
 have H3:Hid (Bth w.heap.size w w3 gx g gr 2 b b' 0 4 key top (star (rowK 104 2 (.slice a3 3 c3) 3 (pairs q)) nought)):=(Hold.newRow (bth_firm firm_nought) H2d.out hb3 hr3).back4
 clear hr3 hb3 H2a H2d HPR
 refine hK.out _ _ ⟨H3.out.cells.1,H3.out.cells.2.1,H3.out.cells.2.2.1,H3.out.cells.2.2.2.1,H3.out.blk.cell (i:=8) rfl⟩ (fun hHeld=>?_)
 clear hK K
 refine tkH 12 ?_;go_simp
 refine tkH 13 ?_;go_simp
 refine tkH 14 ?_;go_simp
 refine tkH 15 ?_;go_simp
 refine tkH 16 ?_;go_simp
 refine tkH 17 ?_;go_simp
 refine tkH 18 ?_;go_simp
 refine wpAnyH_done (by kernel_rfl) ?_ _
 refine NoPanic.normal ?_
 have HA3:Hid (w3.rangeAt gx 0 [.pointer (some ⟨g,0,none⟩),.int .i64 0,.int .i64 4,.string key]):=H3.out.a
 clear HN HP
 go_wp2_with(first
  |(refine wpList_load_mid rfl 41 _ rfl gx 0 rfl [.pointer (some ⟨g,0,none⟩),.int .i64 0,.int .i64 4,.string key] _ HA3.out Tryz.underlying41 rfl hzS.out ?_)
  |(go_at_call 14;refine(HAP.out _ _ H3.out).mono ?_;rintro e w4 ⟨rfl,h4⟩;have H4:Hid (Bth w.heap.size w w4 gx g gr 2 (apR 2 0 b q).2 b' 0 4 key top (star (rowK 104 2 (.slice a3 3 c3) 3 (pairs q)) nought)):=h4;have HA4:Hid (w4.rangeAt gx 0 [.pointer (some ⟨g,0,none⟩),.int .i64 0,.int .i64 4,.string key]):=h4.a;clear h4 H3 HA3 HAP)
  |(refine wpList_load_mid rfl 41 _ rfl gx 0 rfl [.pointer (some ⟨g,0,none⟩),.int .i64 0,.int .i64 4,.string key] _ HA4.out Tryz.underlying41 rfl hzS.out ?_)
  |(go_at_call 15;refine(HG.out _ _ _ _ H4.out.bk (HT.out _ H4.out.low) HQ.out.2 HI2.out).1.mono ?_;rintro e w5 ⟨rfl,hb5⟩;have H5:Hid (Bth w.heap.size w w5 gx g gr 2 (apR 2 0 b q).2 b' 0 4 key top (star (rowK 104 2 (.slice a3 3 c3) 3 (pairs q)) nought)):=H4.out.below ((firm_rowK _ _ _ _ _).star firm_nought) hb5;have HA5:Hid (w5.rangeAt gx 0 [.pointer (some ⟨g,0,none⟩),.int .i64 0,.int .i64 4,.string key]):=H5.out.a;clear hb5 H4 HA4)
  |(refine wpList_load_mid rfl 41 _ rfl gx 0 rfl [.pointer (some ⟨g,0,none⟩),.int .i64 0,.int .i64 4,.string key] _ HA5.out Tryz.underlying41 rfl hzS.out ?_)
  |(go_at_call 15;refine(HG.out _ _ _ _ H5.out.bk (HT.out _ H5.out.low) HQ.out.2 HI2.out).2.mono ?_;rintro e w6 ⟨rfl,hb6⟩;have L6:Hid (Below w.heap.size w w6):=H5.out.low.trans (hb6.mono H5.out.size);have hm6:=HZ.out.1 w6;have hc6:=HZ.out.2 w6;have hc0:=HC.out;clear hb6 H5 HA5 HZ HC))
 have L7:Hid (Below w.heap.size w (w6.alloc (.cells Z 5 (0,0)))):=L6.out.alloc L6.out.size _
 go_ret
 exact⟨rfl,L7.out⟩
section
variable {z:World}{g:Nat}{b:Bs}{i d n:Nat}{key:ByteArray}{l:Nat→ByteArray}
theorem in_of (n:Nat)(k:Int)(h:slE17 (n:Int) k=0):∃s:Nat,k=(s:Int)∧s<n:=by
 unfold slE17 at h
 by_cases e:k<0∨(n:Int)≤k
 ·rw[if_pos e]at h;cases h
 exact⟨k.toNat,by omega,by omega⟩
end
end Go.Proofs.YtnhkkhiajiiahaaGreatDoor
