import Derived.Test.YtnhkkhiajiiahaaGreatDoorSlROver
namespace Go.Proofs.YtnhkkhiajiiahaaGreatDoor
open Go.RowKit Go.PlainAid
set_option linter.unusedVariables false
set_option maxRecDepth 20000
set_option maxHeartbeats 1000000 in
theorem r17get_form {w:World}{pv:Value}{i n:Int}{key:ByteArray}(hg:RGoodIs w (slV pv i n key) false)(top:ByteArray)(k:Int):Calls Tryz.prog 36 #[slV pv i n key,.string top,.int .i64 k] w fun e w'=>e=.returned (.tuple #[.string noB,.int .i64 4])∧Below w.heap.size w w':=by
 have hb:Hid (Below w.heap.size w (w.alloc (.cells #[pv,.int .i64 i,.int .i64 n,.string key] 44))):=(Below.refl _ _).alloc (Nat.le_refl _) _
 have hB:Hid (Blk _ _ _ _):=Blk.box w 44 [pv,.int .i64 i,.int .i64 n,.string key]
 have hc:Hid (Calls _ _ _ _ _):=hg _ hb.out
 have hz:Hid ((Tryz.prog.info? 44).map (·.size)=some 4):=Tryz.size44
 have tokA:True:=trivial
 go_enter Tryz.func36,Tryz.ntmps36
 go_wp2_with(first
  |(have _t:=tokA;refine wpList_load_blk rfl 44 _ rfl w.heap.size rfl 44 [pv,.int .i64 i,.int .i64 n,.string key] _ hB.out Tryz.underlying44 rfl hz.out ?_;clear tokA)
  |(go_at_call 63;refine hc.out.mono ?_;rintro e w1 ⟨rfl,hw⟩;have L1:Hid (Below w.heap.size w w1):=hb.out.trans (hw.mono hb.out.size);have hB1:Hid (Blk w1 w.heap.size 44 [pv,.int .i64 i,.int .i64 n,.string key]):=hB.out.below hw (by simp);have c2:=hB1.out.cell (i:=2) rfl;clear hw hc))
 go_ret2
 exact⟨rfl,L1.out⟩
set_option maxHeartbeats 1000000 in
theorem r17get_arg {w:World}{pv:Value}{i n:Int}{key:ByteArray}(hg:RGoodIs w (slV pv i n key) true)(top:ByteArray){k:Int}(hk:slE17 n k≠0):Calls Tryz.prog 36 #[slV pv i n key,.string top,.int .i64 k] w fun e w'=>e=.returned (.tuple #[.string noB,.int .i64 2])∧Below w.heap.size w w':=by
 have hb:Hid (Below w.heap.size w (w.alloc (.cells #[pv,.int .i64 i,.int .i64 n,.string key] 44))):=(Below.refl _ _).alloc (Nat.le_refl _) _
 have hB:Hid (Blk _ _ _ _):=Blk.box w 44 [pv,.int .i64 i,.int .i64 n,.string key]
 have hc:Hid (Calls _ _ _ _ _):=hg _ hb.out
 have hz:Hid ((Tryz.prog.info? 44).map (·.size)=some 4):=Tryz.size44
 have tokA:True:=trivial
 have hk1:k<0∨(¬k<0∧n≤k):=by
  unfold slE17 at hk
  by_cases e:k<0∨n≤k
  ·omega
  rw[if_neg e]at hk;exact absurd rfl hk
 clear hk hg
 rcases hk1 with h1|⟨h1,h2⟩
 ·have h1':decide (k<0)=true:=decide_eq_true h1
  go_enter Tryz.func36,Tryz.ntmps36
  go_wp2_with(first
   |(have _t:=tokA;refine wpList_load_blk rfl 44 _ rfl w.heap.size rfl 44 [pv,.int .i64 i,.int .i64 n,.string key] _ hB.out Tryz.underlying44 rfl hz.out ?_;clear tokA)
   |(go_at_call 63;refine hc.out.mono ?_;rintro e w1 ⟨rfl,hw⟩;have L1:Hid (Below w.heap.size w w1):=hb.out.trans (hw.mono hb.out.size);have hB1:Hid (Blk w1 w.heap.size 44 [pv,.int .i64 i,.int .i64 n,.string key]):=hB.out.below hw (by simp);have c2:=hB1.out.cell (i:=2) rfl;clear hw hc))
  go_ret2
  exact⟨rfl,L1.out⟩
 have h1':decide (k<0)=false:=decide_eq_false h1
 have h2':decide (n≤k)=true:=decide_eq_true h2
 go_enter Tryz.func36,Tryz.ntmps36
 go_wp2_with(first
  |(have _t:=tokA;refine wpList_load_blk rfl 44 _ rfl w.heap.size rfl 44 [pv,.int .i64 i,.int .i64 n,.string key] _ hB.out Tryz.underlying44 rfl hz.out ?_;clear tokA)
  |(go_at_call 63;refine hc.out.mono ?_;rintro e w1 ⟨rfl,hw⟩;have L1:Hid (Below w.heap.size w w1):=hb.out.trans (hw.mono hb.out.size);have hB1:Hid (Blk w1 w.heap.size 44 [pv,.int .i64 i,.int .i64 n,.string key]):=hB.out.below hw (by simp);have c2:=hB1.out.cell (i:=2) rfl;clear hw hc))
 go_ret2
 exact⟨rfl,L1.out⟩
theorem zero16s (w:World):(zeroValue 143).run Tryz.prog w=.ok (.agg (strs 16 fun _=>noB).toArray) w:=by
 obtain⟨i0,hi,hz⟩:=Option.map_eq_some_iff.1 (show(Tryz.prog.info? 143).map (fun i=>i.zero)=some (some (.agg (strs 16 fun _=>noB).toArray)) by kernel_rfl)
 simp[zeroValue,typeInfo,hi,hz]
theorem Tryz.size143:(Tryz.prog.info? 143).map (·.size)=some 16:=by kernel_rfl
set_option maxHeartbeats 2000000 in
theorem r17get_any {w:World}{g N:Nat}{D:Nat→Dk}{sn:Nat}{p:Option Nat}(hB:Rk w g N D sn p)(hQ:∀j,j<N→(D j).q.length≤1000000)(ht:RTabs w){i:Nat}(hi:i<N)(hi2:i≤1000)(hdn:140≤(D i).n)(hsz:∀a,(rdS p (D i) a).size≤2048){d n:Nat}(hn:2^d=n)(hd:1≤d∧d≤4){key:ByteArray}(hky:key.size=32)(top:ByteArray){s:Nat}(hs:s<n)
 (hg:RGoodIs w (slV (.pointer (some ⟨g,0,none⟩)) (i:Int) (n:Int) key) true):
 Calls Tryz.prog 36 #[slV (.pointer (some ⟨g,0,none⟩)) (i:Int) (n:Int) key,.string top,.int .i64 (s:Int)] w fun e w'=>e=.returned (.tuple #[.string (slGT (rdS p (D i)) (eR p (D i)) d s top (opT key (plc i s))),.int .i64 (slGE (rdS p (D i)) (eR p (D i)) d s top (opE key (plc i s)))])∧Below w.heap.size w w':=by
 have h16:n≤16:=by rw[←hn];exact pow_le16 d hd.2
 have hb:Hid (Below w.heap.size w (w.alloc (.cells #[.pointer (some ⟨g,0,none⟩),.int .i64 (i:Int),.int .i64 (n:Int),.string key] 44))):=(Below.refl _ _).alloc (Nat.le_refl _) _
 have hBx:Hid (Blk _ _ _ _):=Blk.box w 44 [.pointer (some ⟨g,0,none⟩),.int .i64 (i:Int),.int .i64 (n:Int),.string key]
 have hc:Hid (Calls _ _ _ _ _):=hg _ hb.out
 have hz:Hid ((Tryz.prog.info? 44).map (·.size)=some 4):=Tryz.size44
 have hz3:Hid ((Tryz.prog.info? 143).map (·.size)=some (strs 16 fun _=>noB).length):=by rw[strs_length];exact Tryz.size143
 have hov:Hid (∀z,Below w.heap.size w z→Calls Tryz.prog 71 #[slV (.pointer (some ⟨g,0,none⟩)) (i:Int) (n:Int) key,.string top,.int .i64 (s:Int),.agg (strs 16 fun _=>noB).toArray] z fun e w'=>∃v lf,e=.returned (.tuple #[v,.string lf,.int .i64 (ovE (rdS p (D i)) (eR p (D i)) (sl0 top) d s)])∧
  (ovE (rdS p (D i)) (eR p (D i)) (sl0 top) d s=0→fol d s (slk (rdS p (D i)) (sl0 top) d s) top d=some lf)∧Below z.heap.size z w'):=fun z hz=>(rover_any (hB.below hz) hQ (ht.below hz ht.lt) hi hdn hn hd key (sl0 top) full_none hs).mono fun e w' ⟨v,lf,h1,h2,h3⟩=>⟨v,lf,h1,fun h=>(h2 h).1,h3⟩
 have hrd:Hid (∀z,Below w.heap.size w z→Calls Tryz.prog 72 #[.pointer (some ⟨g,0,none⟩),.int .i64 (i:Int),.int .i64 (120+(s:Int))] z fun e w'=>e=.returned (.tuple #[.string (rdS p (D i) (120+s)),.int .i64 (eR p (D i))])∧w'=z):=fun z hz=>by
  have:=rread_at (hB.below hz) hQ hi (a:=120+s) (by omega)
  rw[show((120+s:Nat):Int)=120+(s:Int) by omega]at this
  exact this
 have hadd:IntKind.i64.wrap (120+(s:Int))=120+(s:Int):=IntWalk.i64_in _ ⟨by omega,by omega⟩
 have hlf:Hid (∀z,Below w.heap.size w z→Calls Tryz.prog 64 #[.int .u8 0,.string (rdS p (D i) (120+s))] z fun e w'=>e=.returned (.string (lH (rdS p (D i) (120+s))))∧Below z.heap.size z w'):=fun z hz=>rleaf_any _ (Nat.le_trans (hsz _) (by decide)) z (ht.below hz ht.lt)
 have hwi:Hid (∀z,Calls Tryz.prog 73 #[slV (.pointer (some ⟨g,0,none⟩)) (i:Int) (n:Int) key,.int .i64 (s:Int)] z fun e w'=>e=.returned (.string (plc i s))∧Below z.heap.size z w'):=fun z=>rwith_any _ i s (n:Int) key hi2 (by omega) z
 have hop:Hid (12≤(rdS p (D i) (120+s)).size→∀z,Calls Tryz.prog 74 #[.string key,.string ((rdS p (D i) (120+s)).extract 0 12),.string (plc i s),.string ((rdS p (D i) (120+s)).extract 12 (rdS p (D i) (120+s)).size)] z fun e w'=>e=.returned (.tuple #[.string (opT key (plc i s) (rdS p (D i) (120+s))),.int .i64 (opE key (plc i s) (rdS p (D i) (120+s)))])∧Below z.heap.size z w'):=fun h z=>ropen_cell hky (plc_size i s) h (hsz _) z
 have HN0:Hid ((rdS p (D i) (120+s)).size=0→rdS p (D i) (120+s)=noB∧opT key (plc i s) (rdS p (D i) (120+s))=zB 32∧opE key (plc i s) (rdS p (D i) (120+s))=0):=fun h=>by
  have e:=noB_of_size h
  rw[e];exact⟨rfl,(op_none key (plc i s)).2,(op_none key (plc i s)).1⟩
 have HN1:Hid ((rdS p (D i) (120+s)).size≠0→(rdS p (D i) (120+s)).size<12→opT key (plc i s) (rdS p (D i) (120+s))=noB∧opE key (plc i s) (rdS p (D i) (120+s))=3):=fun h1 h2=>op_lt h1 (by omega)
 have hcs:Hid ((rdS p (D i) (120+s)).size≤2048):=hsz _
 have G1:Hid (ovE (rdS p (D i)) (eR p (D i)) (sl0 top) d s≠0→slGE (rdS p (D i)) (eR p (D i)) d s top (opE key (plc i s))=ovE (rdS p (D i)) (eR p (D i)) (sl0 top) d s∧slGT (rdS p (D i)) (eR p (D i)) d s top (opT key (plc i s))=noB):=fun h=>slG_bad hd.1 h
 have G2:Hid (ovE (rdS p (D i)) (eR p (D i)) (sl0 top) d s=0→eR p (D i)=0):=fun h=>ovE_zero hd.1 h
 have G3:Hid (∀lf,eR p (D i)=0→fol d s (slk (rdS p (D i)) (sl0 top) d s) top d=some lf→lH (rdS p (D i) (120+s))≠lf→slGE (rdS p (D i)) (eR p (D i)) d s top (opE key (plc i s))=22∧slGT (rdS p (D i)) (eR p (D i)) d s top (opT key (plc i s))=noB):=fun lf e h1 h2=>by rw[e];exact slG_sum h1 h2
 have G4:Hid (∀lf,eR p (D i)=0→fol d s (slk (rdS p (D i)) (sl0 top) d s) top d=some lf→lH (rdS p (D i) (120+s))=lf→slGE (rdS p (D i)) (eR p (D i)) d s top (opE key (plc i s))=opE key (plc i s) (rdS p (D i) (120+s))∧slGT (rdS p (D i)) (eR p (D i)) d s top (opT key (plc i s))=opT key (plc i s) (rdS p (D i) (120+s))):=fun lf e h1 h2=>by rw[e];exact slG_ok (h2▸h1)
 generalize slGE (rdS p (D i)) (eR p (D i)) d s top (opE key (plc i s))=GE at*
 generalize slGT (rdS p (D i)) (eR p (D i)) d s top (opT key (plc i s))=GT at*
 generalize ovE (rdS p (D i)) (eR p (D i)) (sl0 top) d s=OV at*
 generalize fol d s (slk (rdS p (D i)) (sl0 top) d s) top d=FO at*
 generalize lH (rdS p (D i) (120+s))=LH at*
 generalize opT key (plc i s) (rdS p (D i) (120+s))=OT at*
 generalize opE key (plc i s) (rdS p (D i) (120+s))=OE at*
 generalize rdS p (D i) (120+s)=cl at*
 generalize eR p (D i)=E at*
 generalize plc i s=P at*
 generalize hpv:Value.pointer (some ⟨g,0,none⟩)=pv at*
 have hsn:(s:Int)<(n:Int):=by omega
 clear hpv hsz hB ht hi hdn hn hd hg hky hi2 h16 hQ hs
 have hs0:¬(s:Int)<0:=by omega
 have hs1:¬(n:Int)≤(s:Int):=by omega
 have hs0':decide ((s:Int)<0)=false:=decide_eq_false hs0
 have hs1':decide ((n:Int)≤(s:Int))=false:=decide_eq_false hs1
 have hz16:=zero16s
 obtain⟨Z32,hm32,hc32⟩:=zeros_at 32 (by omega)
 rw[show strOfNums (List.replicate 32 0)=zB 32 from rfl]at hc32
 have HZ32:Hid ((∀x:World,(Instr.makeSlice 35 (.int .i64 32) (.int .i64 32)).run Tryz.prog x=.ok (.slice (some ⟨x.heap.size,0,none⟩) 32 32) (x.alloc (.cells Z32 5 (0,0))))∧∀x:World,(convert 35 9 (.slice (some ⟨x.heap.size,0,none⟩) 32 32)).run Tryz.prog (x.alloc (.cells Z32 5 (0,0)))=.ok (.string (zB 32)) (x.alloc (.cells Z32 5 (0,0)))):=⟨hm32,hc32⟩
 clear hm32 hc32
 have tokA:True:=trivial
 go_enter Tryz.func36,Tryz.ntmps36
 generalize hw0:w.alloc (.cells #[pv,.int .i64 (i:Int),.int .i64 (n:Int),.string key] 44)=w0 at*
 have hgl:Hid (w.heap.size<w0.heap.size):=hBx.out.lt
 have HL:Hid (∀z,Below w0.heap.size w0 z→Below w.heap.size w z):=fun z hz=>hb.out.trans (hz.mono hb.out.size)
 have HBX:Hid (∀z,Below w0.heap.size w0 z→Blk z w.heap.size 44 [pv,.int .i64 (i:Int),.int .i64 (n:Int),.string key]):=fun z hz=>hBx.out.below hz hgl.out
 go_upto_region 8 with(first
  |(have _t:=tokA;refine wpList_load_blk rfl 44 _ rfl w.heap.size rfl 44 [pv,.int .i64 (i:Int),.int .i64 (n:Int),.string key] _ hBx.out Tryz.underlying44 rfl hz.out ?_;clear tokA)
  |(go_at_call 63;refine hc.out.mono ?_;rintro e w1 ⟨rfl,hw⟩;have LL:Hid (Below w0.heap.size w0 w1):=hw;have c2:=(HBX.out _ hw).cell (i:=2) rfl;have hB16:Hid (Blk (w1.alloc (.cells (strs 16 fun _=>noB).toArray 143)) w1.heap.size 143 (strs 16 fun _=>noB)):=Blk.box _ _ _;have LM:Hid (Below w0.heap.size w0 (w1.alloc (.cells (strs 16 fun _=>noB).toArray 143))):=hw.alloc hw.size _;have hB1:Hid (Blk (w1.alloc (.cells (strs 16 fun _=>noB).toArray 143)) w.heap.size 44 [pv,.int .i64 (i:Int),.int .i64 (n:Int),.string key]):=HBX.out _ LM.out;clear hw hc)
  |(refine wpList_load_blk rfl 44 _ rfl w.heap.size rfl 44 [pv,.int .i64 (i:Int),.int .i64 (n:Int),.string key] _ hB1.out Tryz.underlying44 rfl hz.out ?_)
  |(refine wpList_load_blk rfl 143 _ rfl w1.heap.size rfl 143 (strs 16 fun _=>noB) _ hB16.out Tryz.underlying143 rfl hz3.out ?_)
  |(go_at_call 71;refine(hov.out _ (HL.out _ LM.out)).mono ?_;rintro e w2 ⟨v2,lf,rfl,hfo2,hw⟩;have L2:Hid (Below w0.heap.size w0 w2):=LM.out.trans (hw.mono LM.out.size);have HFO2:Hid (OV=0→FO=some lf):=hfo2;clear hw hfo2 hov c2 LL LM hB16 hB1))
 have hbx2:=HBX.out _ L2.out
 have c0:=hbx2.cell (i:=0) rfl
 have c1:=hbx2.cell (i:=1) rfl
 have c3:=hbx2.cell (i:=3) rfl
 clear hz16
 by_cases hOV:OV=0
 ·have hE:=G2.out hOV
  have HFO:=HFO2.out hOV
  have g3:Hid (LH≠lf→GE=22∧GT=noB):=G3.out lf hE HFO
  have g4:Hid (LH=lf→GE=OE∧GT=OT):=G4.out lf hE HFO
  clear G1 G2 G3 G4 HFO HFO2
  subst hOV
  subst hE
  go_upto_region 14 with(first
   |(go_at_call 72;refine(hrd.out _ (HL.out _ L2.out)).mono ?_;rintro e w3 ⟨rfl,hw⟩;rw[hw];clear hw w3)
   |(go_at_call 64;refine(hlf.out _ (HL.out _ L2.out)).mono ?_;rintro e w3 ⟨rfl,hw⟩;have L3:Hid (Below w0.heap.size w0 w3):=L2.out.trans (hw.mono L2.out.size);clear hw hlf c0 c1 c3 hbx2))
  by_cases hL:LH=lf
  ·have HG:Hid (GE=OE∧GT=OT):=g4.out hL
   have heq:(LH.toList==lf.toList)=true:=by rw[teq];exact decide_eq_true hL
   clear hL g3 g4
   by_cases h0:cl.size=0
   ·obtain⟨rfl,e1,e2⟩:=HN0.out h0
    have hne:noB.toList.isEmpty=true:=by rw[empty17];rfl
    have hm:=HZ32.out.1 w3
    have hcv:=HZ32.out.2 w3
    clear hop HN1 h0
    go_wp2
    go_ret2
    exact⟨by rw[HG.out.1,HG.out.2,e1,e2];rfl,HL.out _ (L3.out.alloc L3.out.size _)⟩
   have hne:cl.toList.isEmpty=false:=noB17 h0
   by_cases h12:cl.size<12
   ·obtain⟨e1,e2⟩:=HN1.out h0 h12
    have h12':(cl.size:Int)<12:=by omega
    clear hop
    go_wp2
    go_ret2
    exact⟨by rw[HG.out.1,HG.out.2,e1,e2];rfl,HL.out _ L3.out⟩
   have h12':¬(cl.size:Int)<12:=by omega
   have h12d:decide ((cl.size:Int)<12)=false:=decide_eq_false h12'
   have hcc:(12:Int)≤(cl.size:Int):=by omega
   have ho:Hid (∀z,Calls _ _ _ z _):=hop.out (by omega)
   have hb3:Hid (Blk w3 w.heap.size 44 [pv,.int .i64 (i:Int),.int .i64 (n:Int),.string key]):=HBX.out _ L3.out
   clear hop h12
   go_wp2_with(first
    |(refine wpList_load_blk rfl 44 _ rfl w.heap.size rfl 44 [pv,.int .i64 (i:Int),.int .i64 (n:Int),.string key] _ hb3.out Tryz.underlying44 rfl hz.out ?_)
    |(go_at_call 73;refine(hwi.out _).mono ?_;rintro e w4 ⟨rfl,hw⟩;have L4:Hid (Below w0.heap.size w0 w4):=L3.out.trans (hw.mono L3.out.size);clear hw hb3))
   have L5:Hid (Below w0.heap.size w0 w4.drew):=L4.out.drew
   have hsc:=(HBX.out _ L5.out).cell (i:=3) rfl
   refine wp_region_noPanic ?_
   refine wp_region_held_drew (S:=fun z:World=>z.cell? ⟨w.heap.size,3,none⟩=some (.string key)) (by kernel_rfl) hsc (fun hHeld=>?_)
   refine tkH 0 ?_;go_simp
   refine tkH 1 ?_;go_simp
   refine tkH 2 ?_;go_simp
   refine tkH 3 ?_;go_simp
   refine tkH 4 ?_;go_simp
   refine tkH 5 ?_;go_simp
   refine tkH 6 ?_;go_simp
   refine rdH 7 fun K hK=>?_
   go_simp
   go_at_call 74
   refine(ho.out _).mono ?_
   rintro x wb ⟨rfl,hbb⟩
   have L6:Hid (Below w0.heap.size w0 wb):=L5.out.trans (hbb.mono L5.out.size)
   clear hbb hsc
   refine hK.out _ _ ((HBX.out _ L6.out).cell (i:=3) rfl) (fun hHeld=>?_)
   clear hK K
   have hsc:=(HBX.out _ L6.out).cell (i:=3) rfl
   refine tkH 8 ?_;go_simp
   refine tkH 9 ?_;go_simp
   refine tkH 10 ?_;go_simp
   refine tkH 11 ?_;go_simp
   refine wpAnyH_done (by kernel_rfl) ?_ _
   refine NoPanic.normal ?_
   go_wp2
   go_ret2
   exact⟨by rw[HG.out.1,HG.out.2];rfl,HL.out _ L6.out⟩
  have HG:Hid (GE=22∧GT=noB):=g3.out hL
  have heq:(LH.toList==lf.toList)=false:=by rw[teq];exact decide_eq_false hL
  go_wp2
  go_ret2
  exact⟨by rw[HG.out.1,HG.out.2];rfl,HL.out _ L3.out⟩
 have HG:Hid (GE=OV∧GT=noB):=G1.out hOV
 have hE':(OV !=0)=true:=by simpa using hOV
 go_wp2
 go_ret2
 exact⟨by rw[HG.out.1,HG.out.2];rfl,HL.out _ L2.out⟩
end Go.Proofs.YtnhkkhiajiiahaaGreatDoor
