import Derived.Test.YtnhkkhiajiiahaaGreatDoorSlRSeal
namespace Go.Proofs.YtnhkkhiajiiahaaGreatDoor
open Go.RowKit Go.PlainAid
set_option linter.unusedVariables false
set_option maxRecDepth 20000
theorem noB17 {T:ByteArray}(h:T.size≠0):T.toList.isEmpty=false:=by rw[empty17];exact decide_eq_false h
def cfT (f:Nat→Option ByteArray)(k:Nat):ByteArray:=(f k).getD noB
def Full (f:Nat→Option ByteArray):Prop:=∀k c,f k=some c→c.size≠0
theorem full_none:Full (fun _=>none):=fun _ _ h=>by cases h
def Lo (w z:World)(pv:Value)(i n:Int)(key:ByteArray)(v nv:Value)(d k:Nat)(q cf:Nat→ByteArray)(s:Nat):Prop:=
 Hold w.heap.size w z (star (rowK 9 1 v k (strs k q)) (star (rowK 3 1 nv d (nr .i64 d (nd d s))) (star (blkA w.heap.size 44 [pv,.int .i64 i,.int .i64 n,.string key]) (star (blkA (w.heap.size+1) 143 (strs 16 cf)) nought))))
section
variable {w z z':World}{pv:Value}{i n:Int}{key:ByteArray}{v nv:Value}{d k:Nat}{q cf:Nat→ByteArray}{s:Nat}
theorem lo_firm:Firm (star (rowK 3 1 nv d (nr .i64 d (nd d s))) (star (blkA w.heap.size 44 [pv,.int .i64 i,.int .i64 n,.string key]) (star (blkA (w.heap.size+1) 143 (strs 16 cf)) nought))):=(firm_rowK _ _ _ _ _).star ((firm_blk _ _ _).star ((firm_blk _ _ _).star firm_nought))
theorem Lo.below (h:Lo w z pv i n key v nv d k q cf s)(hb:Below z.heap.size z z'):Lo w z' pv i n key v nv d k q cf s:=Hold.below h ((firm_rowK _ _ _ _ _).star lo_firm) hb
theorem Lo.low (h:Lo w z pv i n key v nv d k q cf s):Below w.heap.size w z:=Hold.low h
theorem Lo.box (h:Lo w z pv i n key v nv d k q cf s):Blk z w.heap.size 44 [pv,.int .i64 i,.int .i64 n,.string key]:=(Hold.right (Hold.right h)).blk
theorem Lo.chg (h:Lo w z pv i n key v nv d k q cf s):Blk z (w.heap.size+1) 143 (strs 16 cf):=(Hold.right (Hold.right (Hold.right h))).blk
theorem Lo.sc {g1 c1:Nat}(h:Lo w z pv i n key v (.slice (some ⟨g1,0,none⟩) d c1) d k q cf s)(hk:k<d):z.cell? ⟨w.heap.size,0,none⟩=some pv∧z.cell? ⟨w.heap.size,1,none⟩=some (.int .i64 i)∧z.cell? ⟨g1,k,none⟩=some (.int .i64 (nd d s k:Int)):=by
 obtain⟨g2,e,hc⟩:=owns_cell (Hold.rowK (Hold.right h)) (nr_at .i64 d (nd d s) k hk)
 cases e
 exact⟨h.box.cell (i:=0) rfl,h.box.cell (i:=1) rfl,hc⟩
end
theorem lo_start (w:World)(pv:Value)(i n:Int)(key:ByteArray)(cf:Nat→ByteArray):Hold w.heap.size w ((w.alloc (.cells #[pv,.int .i64 i,.int .i64 n,.string key] 44)).alloc (.cells (strs 16 cf).toArray 143)) (star (blkA w.heap.size 44 [pv,.int .i64 i,.int .i64 n,.string key]) (star (blkA (w.heap.size+1) 143 (strs 16 cf)) nought)):=by
 have h1:=(hold_nought w.heap.size w w (Nat.le_refl _) (Below.refl _ _)).newBlk firm_nought 44 #[pv,.int .i64 i,.int .i64 n,.string key]
 have h2:=h1.newBlk ((firm_blk _ _ _).star firm_nought) 143 (strs 16 cf).toArray
 have e:(w.alloc (.cells #[pv,.int .i64 i,.int .i64 n,.string key] 44)).heap.size=w.heap.size+1:=by simp
 rw[e,List.toList_toArray]at h2
 exact h2.swap
set_option maxHeartbeats 2000000 in
theorem rover_any {w:World}{g N:Nat}{D:Nat→Dk}{sn:Nat}{p:Option Nat}(hB:Rk w g N D sn p)(hQ:∀j,j<N→(D j).q.length≤1000000)(ht:RTabs w){i:Nat}(hi:i<N)(hdn:140≤(D i).n){d n:Nat}(hn:2^d=n)(hd:1≤d∧d≤4)(key:ByteArray)(S:Sl)(hS:Full S.ch){s:Nat}(hs:s<n):
 Calls Tryz.prog 71 #[slV (.pointer (some ⟨g,0,none⟩)) (i:Int) (n:Int) key,.string S.top,.int .i64 (s:Int),.agg (strs 16 (cfT S.ch)).toArray] w fun e w'=>∃v lf,e=.returned (.tuple #[v,.string lf,.int .i64 (ovE (rdS p (D i)) (eR p (D i)) S d s)])∧
  (ovE (rdS p (D i)) (eR p (D i)) S d s=0→fol d s (slk (rdS p (D i)) S d s) S.top d=some lf∧w'.ownsRow w.heap.size 9 1 v d (strs d (slk (rdS p (D i)) S d s)))∧Below w.heap.size w w':=by
 have hok:okS d (s:Int):=⟨hd.1,hd.2,by omega,by omega⟩
 have h16:n≤16:=by rw[←hn];exact pow_le16 d hd.2
 have hp:Hid (∀z,Calls Tryz.prog 113 #[.int .i64 (n:Int),.int .i64 (s:Int)] z fun e w'=>∃v,e=.returned (.tuple #[v,.int .i64 0])∧w'.ownsRow z.heap.size 3 1 v d (nr .i64 d (nd d s))∧Below z.heap.size z w'):=fun z=>rPath_ok d n s hn hok z
 have hnd:Hid (∀k,k<d→nd d s k<16):=fun k hk=>by have:=(nd_inner d s k hk (by omega)).2;omega
 have hrd:Hid (∀z,Below w.heap.size w z→∀k:Nat,k<16→Calls Tryz.prog 72 #[.pointer (some ⟨g,0,none⟩),.int .i64 (i:Int),.int .i64 (100+(k:Int))] z fun e w'=>e=.returned (.tuple #[.string (rdS p (D i) (100+k)),.int .i64 (eR p (D i))])∧w'=z):=fun z hz k hk=>by
  have:=rread_at (hB.below hz) hQ hi (a:=100+k) (by omega)
  rw[show((100+k:Nat):Int)=100+(k:Int) by omega]at this
  exact this
 have HQ0:Hid (∀k,S.ch (nd d s k)=none→slk (rdS p (D i)) S d s k=rdS p (D i) (100+nd d s k)):=fun k h=>by show(S.ch (nd d s k)).getD _=_;rw[h];rfl
 have HQ1:Hid (∀k c,S.ch (nd d s k)=some c→slk (rdS p (D i)) S d s k=c):=fun k c h=>by show(S.ch (nd d s k)).getD _=_;rw[h];rfl
 have HC0:Hid (∀k,S.ch k=none→cfT S.ch k=noB):=fun k h=>by unfold cfT;rw[h];rfl
 have HC1:Hid (∀k c,S.ch k=some c→cfT S.ch k=c∧c.size≠0):=fun k c h=>⟨by unfold cfT;rw[h];rfl,hS k c h⟩
 have hfl:Hid (∀z a c q,Below w.heap.size w z→Sa z a d q→Calls Tryz.prog 115 #[.string S.top,.int .i64 (s:Int),.slice a d c] z fun e w'=>e=.returned (.tuple #[.string (folS d (s:Int) q S.top),.int .i64 (folE d (s:Int) q S.top)])∧Below z.heap.size z w'):=fun z a c q hz hq=>rFollow_any S.top (s:Int) a d c (by omega) q z hq (ht.below hz ht.lt)
 have hfo:Hid (∀q,folS d (s:Int) q S.top=(fol d s q S.top d).getD noB∧folE d (s:Int) q S.top=oE (fol d s q S.top d)):=fun q=>by
  unfold folS folE;rw[if_pos hok,if_pos hok,Int.toNat_natCast];exact⟨rfl,rfl⟩
 have HO1:Hid (∀k,k<d→eR p (D i)≠0→S.ch (nd d s k)=none→ovE (rdS p (D i)) (eR p (D i)) S d s=eR p (D i)):=fun k hk h1 h2=>ovE_read h1 hk h2
 have HO2:Hid ((eR p (D i)=0∨∀k,k<d→S.ch (nd d s k)≠none)→ovE (rdS p (D i)) (eR p (D i)) S d s=oE (fol d s (slk (rdS p (D i)) S d s) S.top d)):=fun h=>ovE_all h
 have H0:=lo_start w (.pointer (some ⟨g,0,none⟩)) (i:Int) (n:Int) key (cfT S.ch)
 have hd1:=hd.1
 have hd2:=hd.2
 have hne:noB.toList.isEmpty=true:=by rw[empty17];rfl
 generalize hsq:slk (rdS p (D i)) S d s=q at*
 generalize hOV:ovE (rdS p (D i)) (eR p (D i)) S d s=OV at*
 generalize heR:eR p (D i)=E at*
 generalize rdS p (D i)=rd at*
 generalize cfT S.ch=cf at*
 clear hsq hOV heR hB ht hdn hi hok hn hQ hS
 generalize hpv:Value.pointer (some ⟨g,0,none⟩)=pv at*
 generalize htop:S.top=top at*
 clear hpv htop
 have c2:=H0.blk.cell (i:=2) rfl
 go_enter Tryz.func71,Tryz.ntmps71
 generalize hw1:(w.alloc (.cells #[pv,.int .i64 (i:Int),.int .i64 (n:Int),.string key] 44)).alloc (.cells (strs 16 cf).toArray 143)=w1 at*
 go_wp2_with(go_at_call 113;refine(hp.out _).mono ?_;rintro e w2 ⟨nv,rfl,hrow,hb2⟩;obtain⟨a1,c1,rfl⟩:=owns_form hrow;have H2:Hid (Lo w w2 pv (i:Int) (n:Int) key (.slice none 0 0) (.slice a1 d c1) d 0 q cf s):=(H0.newRow ((firm_blk _ _ _).star ((firm_blk _ _ _).star firm_nought)) hb2 hrow).mono fun F h=>star_nil17 h;clear hrow hb2 hp H0 c2)
 go_loopw[13,14] (fun v j wr=>∃(k c:Nat) (a:Option Addr),k≤d∧j=.int .i64 (k:Int)∧v=.slice a k c∧Hid (E=0∨∀k',k'<k→S.ch (nd d s k')≠none)∧Hid (Lo w wr pv (i:Int) (n:Int) key (.slice a k c) (.slice a1 d c1) d k q cf s)) (fun _ j _=>d-(intOf j).toNat)
 case atStart=>exact⟨0,0,none,Nat.zero_le _,rfl,rfl,.inr fun k hk=>by omega,H2.out⟩
 case round=>
  clear H2
  obtain⟨k,c,a,hk,rfl,rfl,hall,hh⟩:=hrel
  by_cases hlt:k<d
  ·have hk':(k:Int)<(d:Int):=by omega
   obtain⟨g1,hg1,hcell⟩:=owns_cell (Hold.rowK (Hold.right hh.out)) (nr_at .i64 d (nd d s) k hlt)
   subst hg1
   have hx16:=hnd.out k hlt
   have hch:=hh.out.chg.cell (strs_at 16 cf (nd d s k) hx16)
   cases hSk:S.ch (nd d s k)with
   |some x=>
    have hcx:=(HC1.out _ x hSk).1
    have hx0:=noB17 (HC1.out _ x hSk).2
    have hqx:=HQ1.out k x hSk
    rw[hcx]at hch
    have HA:Hid (E=0∨∀k',k'<k+1→S.ch (nd d s k')≠none):=by
     rcases hall.out with h|h
     ·exact .inl h
     refine .inr fun k' hk'=>?_
     by_cases e:k'=k
     ·rw[e,hSk];exact fun h=>by cases h
     exact h k' (by omega)
    obtain⟨a',c',w4,hrun,h4⟩:=push_str17 lo_firm hh.out (by omega) x hqx
    have H4:Hid (Lo w w4 pv (i:Int) (n:Int) key (.slice a' (k+1) c') (.slice (some ⟨g1,0,none⟩) d c1) d (k+1) q cf s):=h4
    clear h4 hh hall hSk hcx hqx
    generalize nd d s k=x0 at*
    have hx16':(x0:Int)<16:=by omega
    go_wp2_with(at_builtin;refine Lib.wpList_append_run _ rfl _ _ 30 30 rfl _ _ rfl rfl _ _ hrun ?_)
    go_roundw
    case rel=>exact⟨k+1,c',a',by omega,by go_num,rfl,HA.out,H4.out⟩
    case measure=>simp[intOf];omega
   |none=>
    have hcx:=HC0.out _ hSk
    rw[hcx]at hch
    have hqx:=HQ0.out k hSk
    have H5:Hid (Lo w wr.drew pv (i:Int) (n:Int) key (.slice a k c) (.slice (some ⟨g1,0,none⟩) d c1) d k q cf s):=hh.out.below (Below.refl _ _).drew
    have hsc:=H5.out.sc hlt
    have hcl:=hrd.out _ H5.out.low (nd d s k) hx16
    rw[←hqx]at hcl
    have hadd:IntKind.i64.wrap (100+(nd d s k:Int))=100+(nd d s k:Int):=IntWalk.i64_in _ ⟨by omega,by omega⟩
    have HP4:=push_str17 lo_firm H5.out (by omega) (q k) rfl
    have HLT:Hid (k<d):=hlt
    by_cases hE:E=0
    ·have HA0:Hid (E=0∨∀k',k'<k+1→S.ch (nd d s k')≠none):=.inl hE
     subst hE
     obtain⟨a',c',w4,hrun,h4⟩:=HP4
     have H4:Hid (Lo w w4 pv (i:Int) (n:Int) key (.slice a' (k+1) c') (.slice (some ⟨g1,0,none⟩) d c1) d (k+1) q cf s):=h4
     clear h4 hh hall hcx hqx hSk
     generalize q k=t at*
     generalize nd d s k=x0 at*
     have hx16':(x0:Int)<16:=by omega
     go_wp2_with fail
     clear hch hcell
     refine wp_region_noPanic ?_
     refine wp_region_held_drew (S:=fun z:World=>z.cell? ⟨w.heap.size,0,none⟩=some pv∧z.cell? ⟨w.heap.size,1,none⟩=some (.int .i64 (i:Int))∧z.cell? ⟨g1,k,none⟩=some (.int .i64 (x0:Int))) (by kernel_rfl) hsc (fun hHeld=>?_)
     refine tkH 0 ?_;go_simp
     refine tkH 1 ?_;go_simp
     refine tkH 2 ?_;go_simp
     refine tkH 3 ?_;go_simp
     refine tkH 4 ?_;go_simp
     refine tkH 5 ?_;go_simp
     refine tkH 6 ?_;go_simp
     refine tkH 7 ?_;go_simp
     refine tkH 8 ?_;go_simp
     refine rdH 9 fun K hK=>?_
     go_simp
     go_at_call 72
     refine hcl.mono ?_
     rintro x wa ⟨rfl,hw⟩
     rw[hw]
     clear hw wa
     refine hK.out _ _ hsc (fun hHeld=>?_)
     clear hK K
     refine tkH 10 ?_;go_simp
     refine tkH 11 ?_;go_simp
     refine tkH 12 ?_;go_simp
     refine tkH 13 ?_;go_simp
     refine tkH 14 ?_;go_simp
     refine wpAnyH_done (by kernel_rfl) ?_ _
     refine NoPanic.normal ?_
     go_wp2_with(at_builtin;refine Lib.wpList_append_run _ rfl _ _ 30 30 rfl _ _ rfl rfl _ _ hrun ?_)
     go_roundw
     case rel=>exact⟨k+1,c',a',by have:=HLT.out;omega,by go_num,rfl,HA0.out,H4.out⟩
     case measure=>simp[intOf];have:=HLT.out;omega
    have HOV:Hid (OV=E∧¬OV=0):=by
     have:=HO1.out k hlt hE hSk
     exact⟨this,by rw[this];exact hE⟩
    have hE':(E !=0)=true:=by simpa using hE
    clear hh hall hcx hqx hSk HP4
    generalize q k=t at*
    generalize nd d s k=x0 at*
    have hx16':(x0:Int)<16:=by omega
    go_wp2_with fail
    clear hch hcell
    refine wp_region_noPanic ?_
    refine wp_region_held_drew (S:=fun z:World=>z.cell? ⟨w.heap.size,0,none⟩=some pv∧z.cell? ⟨w.heap.size,1,none⟩=some (.int .i64 (i:Int))∧z.cell? ⟨g1,k,none⟩=some (.int .i64 (x0:Int))) (by kernel_rfl) hsc (fun hHeld=>?_)
    refine tkH 0 ?_;go_simp
    refine tkH 1 ?_;go_simp
    refine tkH 2 ?_;go_simp
    refine tkH 3 ?_;go_simp
    refine tkH 4 ?_;go_simp
    refine tkH 5 ?_;go_simp
    refine tkH 6 ?_;go_simp
    refine tkH 7 ?_;go_simp
    refine tkH 8 ?_;go_simp
    refine rdH 9 fun K hK=>?_
    go_simp
    go_at_call 72
    refine hcl.mono ?_
    rintro x wa ⟨rfl,hw⟩
    rw[hw]
    clear hw wa
    refine hK.out _ _ hsc (fun hHeld=>?_)
    clear hK K
    refine tkH 10 ?_;go_simp
    refine tkH 11 ?_;go_simp
    refine tkH 12 ?_;go_simp
    refine tkH 13 ?_;go_simp
    refine tkH 14 ?_;go_simp
    refine wpAnyH_done (by kernel_rfl) ?_ _
    refine NoPanic.normal ?_
    go_wp2
    go_ret3
    exact⟨_,_,by rw[HOV.out.1];rfl,fun h0=>absurd h0 HOV.out.2,H5.out.low⟩
  obtain rfl:k=d:=by omega
  have hk':¬(k:Int)<(k:Int):=by omega
  have HOV:Hid (OV=oE (fol k s q top k)):=HO2.out hall.out
  have hSa:Hid (Sa wr a k q):=by
   obtain⟨a',c',e1,e2⟩:=Sa.owns (Hold.rowK hh.out)
   cases e1;exact e2
  have hcl:=hfl.out wr a c q hh.out.low hSa.out
  rw[(hfo.out q).1,(hfo.out q).2]at hcl
  clear hall HO1 HO2 hfl hSa
  generalize hFO:fol k s q top k=FO at*
  have HFO:Hid (fol k s q top k=FO):=hFO
  clear hFO
  have HX:Hid (OV=0→FO=some (FO.getD noB)):=fun h=>by
   rw[HOV.out]at h
   cases FO with
   |none=>cases h
   |some x=>rfl
  rw[←HOV.out]at hcl
  generalize FO.getD noB=lf at*
  go_wp2_with(go_at_call 115;refine hcl.mono ?_;rintro e w3 ⟨rfl,hb3⟩;have H3:Hid (Lo w w3 pv (i:Int) (n:Int) key (.slice a k c) (.slice a1 k c1) k k q cf s):=hh.out.below hb3;clear hb3 hh hcl)
  go_ret3
  exact⟨_,_,rfl,fun h0=>⟨by rw[HFO.out];exact HX.out h0,Hold.rowBack H3.out⟩,H3.out.low⟩
end Go.Proofs.YtnhkkhiajiiahaaGreatDoor
