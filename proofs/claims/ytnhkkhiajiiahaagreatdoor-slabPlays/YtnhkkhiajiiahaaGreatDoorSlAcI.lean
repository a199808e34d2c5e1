import Derived.Test.YtnhkkhiajiiahaaGreatDoorSlAc0
import Derived.Test.YtnhkkhiajiiahaaGreatDoorSlKpM
namespace Go.Proofs.YtnhkkhiajiiahaaGreatDoor
open Go.RowKit Go.PlainAid
set_option linter.unusedVariables false
set_option maxRecDepth 20000
theorem pz31 {z:World}{G:Nat}(h:PZ G 31 z):(convert 35 9 (.slice (some ⟨G,0,none⟩) 31 31)).run Tryz.prog z=.ok (.string (zB 31)) z:=pz_conv _ _ 31 h
theorem Cg.one2 (w:World)(T:TypeId)(s:Int)(c:ByteArray):Cg (w.alloc (.cells #[.int .i64 s,.string c] T)) T (some ⟨w.heap.size,0,none⟩) [(s,c)]:=by
 have hb:Blk (w.alloc (.cells #[.int .i64 s,.string c] T)) w.heap.size T [.int .i64 s,.string c]:=Blk.new w T _
 refine .inr ⟨w.heap.size,0,rfl,hb.lt,fun i p hp=>?_⟩
 match i,hp with
 |0,hp=>
  cases hp
  intro j v hv
  match j,hv with
  |0,hv=>cases hv;exact hb.cell (i:=0) rfl
  |1,hv=>cases hv;exact hb.cell (i:=1) rfl
  |j+2,hv=>simp at hv
 |i+1,hp=>simp at hp
section
variable {B:Nat}{w0 z z':World}{gx g gr ga:Nat}{b b':Bs}{i n:Int}{key top:ByteArray}{R:Asn}{d s a t:Int}{ca:Option Addr}{cl cc:Nat}{p:ByteArray}
set_option maxHeartbeats 4000000 in
theorem act_sealp (hR:Firm R)(h:Bth B w0 z gx g gr 2 b b' i n key top R)(hS:Sm 2 b b')(hO:Oks b){m:Nat}(hf:Few17 2 b m)(hm:m≤40000)(ht:∀z,Below B w0 z→Tabs z∧RTabs z){dt:Nat}(hdt:t=(dt:Int))(hdt8:dt≤255)(h77:a=77)(hd:d.tmod 8=0):
 Calls Tryz.prog 11 #[.pointer (some ⟨gx,0,none⟩),.agg #[.int .i64 d,.int .i64 s,.int .i64 a,.int .u8 (dt:Int),.slice ca cl cc,.string p]] z fun e w'=>e=.returned (.bool true)∧Py B w0 w' gx g gr i n key (m+50) R:=by
 have HR:Hid (Firm R):=hR
 have HFA:Hid (∀ga,Firm (star (blkA ga 32 [.int .i64 d,.int .i64 s,.int .i64 a,.int .u8 (dt:Int),.slice ca cl cc,.string p]) R)):=fun ga=>(firm_blk _ _ _).star hR
 have HT:Hid (∀z,Below B w0 z→Tabs z∧RTabs z):=ht
 have HS:Hid (Sm 2 b b'):=hS
 have HO:Hid (Oks b):=hO
 have HF:Hid (Few17 2 b m):=hf
 have HM:Hid (m≤40000):=hm
 have X0:Hid (Bth B w0 (z.alloc (.cells #[.int .i64 d,.int .i64 s,.int .i64 a,.int .u8 (dt:Int),.slice ca cl cc,.string p] 32)) gx g gr 2 b b' i n key top (star (blkA z.heap.size 32 [.int .i64 d,.int .i64 s,.int .i64 a,.int .u8 (dt:Int),.slice ca cl cc,.string p]) R)):=h.box hR
 clear hR hS hO hf hm ht
 subst hdt
 have H77:Hid ((a==77)=true):=by show(a==77)=_;simpa using h77
 clear h77
 obtain⟨Z31,hm31,hz31⟩:=pz_made 31 (by omega)
 have HZ31:Hid ((∀x:World,(Instr.makeSlice 35 (.int .i64 31) (.int .i64 31)).run Tryz.prog x=.ok (.slice (some ⟨x.heap.size,0,none⟩) 31 31) (x.alloc (.cells Z31 5 (0,0))))∧∀x:World,PZ x.heap.size 31 (x.alloc (.cells Z31 5 (0,0)))):=⟨hm31,hz31⟩
 have hm31':=HZ31.out.1
 have hsz1:(tx 1 fun _=>dt).size=1:=tx_size 1 _
 have hsz2:(zB 31).size=31:=zB_size 31
 clear hm31 hz31
 obtain⟨ga,hga⟩:∃ga,z.heap.size=ga:=⟨_,rfl⟩
 rw[hga]at X0
 clear h
 obtain⟨⟨d0,d1,d2,d3,d4,d5,d6,d7,d8⟩,⟨c0,c1,c2,c3,c4,c5⟩⟩:=And.intro X0.out.cells9 X0.out.acell
 go_enter Tryz.func11,Tryz.ntmps11
 go_upto_region 51 with fail
 clear d0 d1 d2 d3 d4 d5 d6 d7 d8 c0 c1 c2 c3 c4 c5
 generalize z.alloc (.cells #[.int .i64 d,.int .i64 s,.int .i64 a,.int .u8 (dt:Int),.slice ca cl cc,.string p] 32)=y1 at X0⊢
 go_cut[20,21]from 225 (fun v20 v21 wc=>v20=.string ((tx 1 fun _=>dt)++⟨#[49,50,51,52,53,54,55,56,57,48,49]⟩:ByteArray)∧v21=.string ((tx 1 fun _=>dt)++zB 31)∧Bth B w0 wc gx g gr 2 b b' i n key top (star (blkA ga 32 [.int .i64 d,.int .i64 s,.int .i64 a,.int .u8 (dt:Int),.slice ca cl cc,.string p]) R))
 case first=>
  clear HT HS HO HF HM H77
  have X1:Hid (Bth B w0 y1.drew gx g gr 2 b b' i n key top (star (blkA ga 32 [.int .i64 d,.int .i64 s,.int .i64 a,.int .u8 (dt:Int),.slice ca cl cc,.string p]) R)):=X0.out.below (HFA.out _) (Below.refl _ _).drew
  clear X0
  refine wp_region_noPanic ?_
  refine wp_region_held_drew (S:=fun z:World=>z.cell? ⟨ga,3,none⟩=some (.int .u8 (dt:Int))) (by kernel_rfl) X1.out.acell.2.2.2.1 (fun hHeld=>?_)
  have hc3:=X1.out.acell.2.2.2.1
  generalize y1.drew=z1 at*
  refine tkH 0 ?_;go_simp
  refine tkH 1 ?_;go_simp
  refine tkH 5 ?_;go_simp
  refine tkH 6 ?_;go_simp
  refine wpAnyH_ready (rs:=[2,7,9]) (by kernel_rfl) (by simp) (AllReadyH.cons rfl (fun K hK=>?_) (AllReadyH.cons rfl (fun K hK=>?_) (AllReadyH.cons rfl (fun K hK=>?_) AllReadyH.nil)))
  ·
   go_simp
   have hL:Below z1.heap.size z1 (z1.alloc (.cells #[.int .u8 (dt:Int)] 5)):=(Below.refl _ _).alloc (Nat.le_refl _) _
   have X2:Hid (Bth B w0 (z1.alloc (.cells #[.int .u8 (dt:Int)] 5)) gx g gr 2 b b' i n key top (star (blkA ga 32 [.int .i64 d,.int .i64 s,.int .i64 a,.int .u8 (dt:Int),.slice ca cl cc,.string p]) R)):=X1.out.below (HFA.out _) hL
   have hBg2:Blk (z1.alloc (.cells #[.int .u8 (dt:Int)] 5)) z1.heap.size 5 (nr .u8 1 fun _=>dt):=Blk.new z1 5 _
   replace hc3:=X2.out.acell.2.2.2.1
   refine hK.out _ _ hc3 (fun hHeld=>?_)
   clear hK K hL X1
   generalize hz2:z1.alloc (.cells #[.int .u8 (dt:Int)] 5)=z2 at*
   generalize hg2:z1.heap.size=g2 at*
   clear hz2 hg2
   refine wpAnyH_weaken (S':=fun z:World=>z.cell? ⟨ga,3,none⟩=some (.int .u8 (dt:Int))∧Blk z g2 5 (nr .u8 1 fun _=>dt)) (fun z hz=>hz.1) _ _ _ _ ?_
   refine wpAnyH_take (i:=3) (v:=.string (tx 1 fun _=>dt)) rfl (by kernel_rfl) (by kernel_rfl) (by kernel_rfl) (fun _ _ _ h=>h) (Or.inl ⟨by rfl,?_⟩) ⟨hc3,hBg2⟩ ?_
   ·intro w hSw;have hcr:=conv_blk hSw.2 1 1 (Nat.le_refl _);clear hSw;go_simp;try with_reducible rfl
   go_simp
   refine wpAnyH_take (i:=4) (v:=?_) rfl (by kernel_rfl) (by kernel_rfl) (by kernel_rfl) (fun _ _ _ h=>h) (Or.inl ⟨by rfl,?_⟩) ⟨hc3,hBg2⟩ ?_
   rotate_left
   ·intro w hSw;clear hSw;go_simp;try with_reducible rfl
   go_simp
   refine wpAnyH_take (i:=12) (v:=?_) rfl (by kernel_rfl) (by kernel_rfl) (by kernel_rfl) (fun _ _ _ h=>h) (Or.inl ⟨by rfl,?_⟩) ⟨hc3,hBg2⟩ ?_
   rotate_left
   ·intro w hSw;clear hSw;go_simp;try with_reducible rfl
   go_simp
   refine wpAnyH_ready (rs:=[7,9]) (by kernel_rfl) (by simp) (AllReadyH.cons rfl (fun K hK=>?_) (AllReadyH.cons rfl (fun K hK=>?_) AllReadyH.nil))
   ·
    go_simp
    have hL:Below z2.heap.size z2 (z2.alloc (.cells #[.int .u8 (dt:Int)] 5)):=(Below.refl _ _).alloc (Nat.le_refl _) _
    have X3:Hid (Bth B w0 (z2.alloc (.cells #[.int .u8 (dt:Int)] 5)) gx g gr 2 b b' i n key top (star (blkA ga 32 [.int .i64 d,.int .i64 s,.int .i64 a,.int .u8 (dt:Int),.slice ca cl cc,.string p]) R)):=X2.out.below (HFA.out _) hL
    have hBg7:Blk (z2.alloc (.cells #[.int .u8 (dt:Int)] 5)) z2.heap.size 5 (nr .u8 1 fun _=>dt):=Blk.new z2 5 _
    replace hBg2:=hBg2.alloc (.cells #[.int .u8 (dt:Int)] 5)
    replace hc3:=X3.out.acell.2.2.2.1
    refine hK.out _ _ ⟨hc3,hBg2⟩ (fun hHeld=>?_)
    clear hK K hL X2
    generalize hz3:z2.alloc (.cells #[.int .u8 (dt:Int)] 5)=z3 at*
    generalize hg7:z2.heap.size=g7 at*
    clear hz3 hg7
    refine wpAnyH_weaken (S':=fun z:World=>z.cell? ⟨ga,3,none⟩=some (.int .u8 (dt:Int))∧Blk z g2 5 (nr .u8 1 fun _=>dt)∧Blk z g7 5 (nr .u8 1 fun _=>dt)) (fun z hz=>⟨hz.1,hz.2.1⟩) _ _ _ _ ?_
    refine wpAnyH_take (i:=8) (v:=.string (tx 1 fun _=>dt)) rfl (by kernel_rfl) (by kernel_rfl) (by kernel_rfl) (fun _ _ _ h=>h) (Or.inl ⟨by rfl,?_⟩) ⟨hc3,hBg2,hBg7⟩ ?_
    ·intro w hSw;have hcr:=conv_blk hSw.2.2 1 1 (Nat.le_refl _);clear hSw;go_simp;try with_reducible rfl
    go_simp
    refine rdH 9 fun K hK=>?_
    ·
     go_simp
     have hL:Below z3.heap.size z3 (z3.alloc (.cells Z31 5)):=(Below.refl _ _).alloc (Nat.le_refl _) _
     have X4:Hid (Bth B w0 (z3.alloc (.cells Z31 5)) gx g gr 2 b b' i n key top (star (blkA ga 32 [.int .i64 d,.int .i64 s,.int .i64 a,.int .u8 (dt:Int),.slice ca cl cc,.string p]) R)):=X3.out.below (HFA.out _) hL
     have hBg9:Blk (z3.alloc (.cells Z31 5)) z3.heap.size 5 Z31.toList:=Blk.new z3 5 _
     replace hBg2:=hBg2.alloc (.cells Z31 5)
     replace hBg7:=hBg7.alloc (.cells Z31 5)
     replace hc3:=X4.out.acell.2.2.2.1
     refine hK.out _ _ ⟨hc3,hBg2,hBg7⟩ (fun hHeld=>?_)
     clear hK K hL X3
     generalize hz4:z3.alloc (.cells Z31 5)=z4 at*
     generalize hg9:z3.heap.size=g9 at*
     clear hz4 hg9
     refine wpAnyH_weaken (S':=fun z:World=>z.cell? ⟨ga,3,none⟩=some (.int .u8 (dt:Int))∧Blk z g2 5 (nr .u8 1 fun _=>dt)∧Blk z g7 5 (nr .u8 1 fun _=>dt)∧Blk z g9 5 Z31.toList) (fun z hz=>⟨hz.1,hz.2.1,hz.2.2.1⟩) _ _ _ _ ?_
     refine wpAnyH_take (i:=10) (v:=.string (zB 31)) rfl (by kernel_rfl) (by kernel_rfl) (by kernel_rfl) (fun _ _ _ h=>h) (Or.inl ⟨by rfl,?_⟩) ⟨hc3,hBg2,hBg7,hBg9⟩ ?_
     ·intro w hSw;have hcr:=pz31 (zcells HZ31.out.2 hSw.2.2.2);clear hSw;go_simp;try with_reducible rfl
     go_simp
     refine wpAnyH_take (i:=11) (v:=?_) rfl (by kernel_rfl) (by kernel_rfl) (by kernel_rfl) (fun _ _ _ h=>h) (Or.inl ⟨by rfl,?_⟩) ⟨hc3,hBg2,hBg7,hBg9⟩ ?_
     rotate_left
     ·intro w hSw;clear hSw;go_simp;try with_reducible rfl
     go_simp
     refine wpAnyH_take (i:=13) (v:=?_) rfl (by kernel_rfl) (by kernel_rfl) (by kernel_rfl) (fun _ _ _ h=>h) (Or.inl ⟨by rfl,?_⟩) ⟨hc3,hBg2,hBg7,hBg9⟩ ?_
     rotate_left
     ·intro w hSw;clear hSw;go_simp;try with_reducible rfl
     go_simp
     refine wpAnyH_done (by kernel_rfl) ?_ _
     refine NoPanic.normal ?_
     go_wp2_with fail
     go_meet
     exact⟨rfl,rfl,X4.out⟩
   ·
    go_simp
    have hL:Below z2.heap.size z2 (z2.alloc (.cells Z31 5)):=(Below.refl _ _).alloc (Nat.le_refl _) _
    have X3:Hid (Bth B w0 (z2.alloc (.cells Z31 5)) gx g gr 2 b b' i n key top (star (blkA ga 32 [.int .i64 d,.int .i64 s,.int .i64 a,.int .u8 (dt:Int),.slice ca cl cc,.string p]) R)):=X2.out.below (HFA.out _) hL
    have hBg9:Blk (z2.alloc (.cells Z31 5)) z2.heap.size 5 Z31.toList:=Blk.new z2 5 _
    replace hBg2:=hBg2.alloc (.cells Z31 5)
    replace hc3:=X3.out.acell.2.2.2.1
    refine hK.out _ _ ⟨hc3,hBg2⟩ (fun hHeld=>?_)
    clear hK K hL X2
    generalize hz3:z2.alloc (.cells Z31 5)=z3 at*
    generalize hg9:z2.heap.size=g9 at*
    clear hz3 hg9
    refine wpAnyH_weaken (S':=fun z:World=>z.cell? ⟨ga,3,none⟩=some (.int .u8 (dt:Int))∧Blk z g2 5 (nr .u8 1 fun _=>dt)∧Blk z g9 5 Z31.toList) (fun z hz=>⟨hz.1,hz.2.1⟩) _ _ _ _ ?_
    refine wpAnyH_take (i:=10) (v:=.string (zB 31)) rfl (by kernel_rfl) (by kernel_rfl) (by kernel_rfl) (fun _ _ _ h=>h) (Or.inl ⟨by rfl,?_⟩) ⟨hc3,hBg2,hBg9⟩ ?_
    ·intro w hSw;have hcr:=pz31 (zcells HZ31.out.2 hSw.2.2);clear hSw;go_simp;try with_reducible rfl
    go_simp
    refine rdH 7 fun K hK=>?_
    ·
     go_simp
     have hL:Below z3.heap.size z3 (z3.alloc (.cells #[.int .u8 (dt:Int)] 5)):=(Below.refl _ _).alloc (Nat.le_refl _) _
     have X4:Hid (Bth B w0 (z3.alloc (.cells #[.int .u8 (dt:Int)] 5)) gx g gr 2 b b' i n key top (star (blkA ga 32 [.int .i64 d,.int .i64 s,.int .i64 a,.int .u8 (dt:Int),.slice ca cl cc,.string p]) R)):=X3.out.below (HFA.out _) hL
     have hBg7:Blk (z3.alloc (.cells #[.int .u8 (dt:Int)] 5)) z3.heap.size 5 (nr .u8 1 fun _=>dt):=Blk.new z3 5 _
     replace hBg2:=hBg2.alloc (.cells #[.int .u8 (dt:Int)] 5)
     replace hBg9:=hBg9.alloc (.cells #[.int .u8 (dt:Int)] 5)
     replace hc3:=X4.out.acell.2.2.2.1
     refine hK.out _ _ ⟨hc3,hBg2,hBg9⟩ (fun hHeld=>?_)
     clear hK K hL X3
     generalize hz4:z3.alloc (.cells #[.int .u8 (dt:Int)] 5)=z4 at*
     generalize hg7:z3.heap.size=g7 at*
     clear hz4 hg7
     refine wpAnyH_weaken (S':=fun z:World=>z.cell? ⟨ga,3,none⟩=some (.int .u8 (dt:Int))∧Blk z g2 5 (nr .u8 1 fun _=>dt)∧Blk z g9 5 Z31.toList∧Blk z g7 5 (nr .u8 1 fun _=>dt)) (fun z hz=>⟨hz.1,hz.2.1,hz.2.2.1⟩) _ _ _ _ ?_
     refine wpAnyH_take (i:=8) (v:=.string (tx 1 fun _=>dt)) rfl (by kernel_rfl) (by kernel_rfl) (by kernel_rfl) (fun _ _ _ h=>h) (Or.inl ⟨by rfl,?_⟩) ⟨hc3,hBg2,hBg9,hBg7⟩ ?_
     ·intro w hSw;have hcr:=conv_blk hSw.2.2.2 1 1 (Nat.le_refl _);clear hSw;go_simp;try with_reducible rfl
     go_simp
     refine wpAnyH_take (i:=11) (v:=?_) rfl (by kernel_rfl) (by kernel_rfl) (by kernel_rfl) (fun _ _ _ h=>h) (Or.inl ⟨by rfl,?_⟩) ⟨hc3,hBg2,hBg9,hBg7⟩ ?_
     rotate_left
     ·intro w hSw;clear hSw;go_simp;try with_reducible rfl
     go_simp
     refine wpAnyH_take (i:=13) (v:=?_) rfl (by kernel_rfl) (by kernel_rfl) (by kernel_rfl) (fun _ _ _ h=>h) (Or.inl ⟨by rfl,?_⟩) ⟨hc3,hBg2,hBg9,hBg7⟩ ?_
     rotate_left
     ·intro w hSw;clear hSw;go_simp;try with_reducible rfl
     go_simp
     refine wpAnyH_done (by kernel_rfl) ?_ _
     refine NoPanic.normal ?_
     go_wp2_with fail
     go_meet
     exact⟨rfl,rfl,X4.out⟩
  ·
   go_simp
   have hL:Below z1.heap.size z1 (z1.alloc (.cells #[.int .u8 (dt:Int)] 5)):=(Below.refl _ _).alloc (Nat.le_refl _) _
   have X2:Hid (Bth B w0 (z1.alloc (.cells #[.int .u8 (dt:Int)] 5)) gx g gr 2 b b' i n key top (star (blkA ga 32 [.int .i64 d,.int .i64 s,.int .i64 a,.int .u8 (dt:Int),.slice ca cl cc,.string p]) R)):=X1.out.below (HFA.out _) hL
   have hBg7:Blk (z1.alloc (.cells #[.int .u8 (dt:Int)] 5)) z1.heap.size 5 (nr .u8 1 fun _=>dt):=Blk.new z1 5 _
   replace hc3:=X2.out.acell.2.2.2.1
   refine hK.out _ _ hc3 (fun hHeld=>?_)
   clear hK K hL X1
   generalize hz2:z1.alloc (.cells #[.int .u8 (dt:Int)] 5)=z2 at*
   generalize hg7:z1.heap.size=g7 at*
   clear hz2 hg7
   refine wpAnyH_weaken (S':=fun z:World=>z.cell? ⟨ga,3,none⟩=some (.int .u8 (dt:Int))∧Blk z g7 5 (nr .u8 1 fun _=>dt)) (fun z hz=>hz.1) _ _ _ _ ?_
   refine wpAnyH_take (i:=8) (v:=.string (tx 1 fun _=>dt)) rfl (by kernel_rfl) (by kernel_rfl) (by kernel_rfl) (fun _ _ _ h=>h) (Or.inl ⟨by rfl,?_⟩) ⟨hc3,hBg7⟩ ?_
   ·intro w hSw;have hcr:=conv_blk hSw.2 1 1 (Nat.le_refl _);clear hSw;go_simp;try with_reducible rfl
   go_simp
   refine wpAnyH_ready (rs:=[2,9]) (by kernel_rfl) (by simp) (AllReadyH.cons rfl (fun K hK=>?_) (AllReadyH.cons rfl (fun K hK=>?_) AllReadyH.nil))
   ·
    go_simp
    have hL:Below z2.heap.size z2 (z2.alloc (.cells #[.int .u8 (dt:Int)] 5)):=(Below.refl _ _).alloc (Nat.le_refl _) _
    have X3:Hid (Bth B w0 (z2.alloc (.cells #[.int .u8 (dt:Int)] 5)) gx g gr 2 b b' i n key top (star (blkA ga 32 [.int .i64 d,.int .i64 s,.int .i64 a,.int .u8 (dt:Int),.slice ca cl cc,.string p]) R)):=X2.out.below (HFA.out _) hL
    have hBg2:Blk (z2.alloc (.cells #[.int .u8 (dt:Int)] 5)) z2.heap.size 5 (nr .u8 1 fun _=>dt):=Blk.new z2 5 _
    replace hBg7:=hBg7.alloc (.cells #[.int .u8 (dt:Int)] 5)
    replace hc3:=X3.out.acell.2.2.2.1
    refine hK.out _ _ ⟨hc3,hBg7⟩ (fun hHeld=>?_)
    clear hK K hL X2
    generalize hz3:z2.alloc (.cells #[.int .u8 (dt:Int)] 5)=z3 at*
    generalize hg2:z2.heap.size=g2 at*
    clear hz3 hg2
    refine wpAnyH_weaken (S':=fun z:World=>z.cell? ⟨ga,3,none⟩=some (.int .u8 (dt:Int))∧Blk z g7 5 (nr .u8 1 fun _=>dt)∧Blk z g2 5 (nr .u8 1 fun _=>dt)) (fun z hz=>⟨hz.1,hz.2.1⟩) _ _ _ _ ?_
    refine wpAnyH_take (i:=3) (v:=.string (tx 1 fun _=>dt)) rfl (by kernel_rfl) (by kernel_rfl) (by kernel_rfl) (fun _ _ _ h=>h) (Or.inl ⟨by rfl,?_⟩) ⟨hc3,hBg7,hBg2⟩ ?_
    ·intro w hSw;have hcr:=conv_blk hSw.2.2 1 1 (Nat.le_refl _);clear hSw;go_simp;try with_reducible rfl
    go_simp
    refine wpAnyH_take (i:=4) (v:=?_) rfl (by kernel_rfl) (by kernel_rfl) (by kernel_rfl) (fun _ _ _ h=>h) (Or.inl ⟨by rfl,?_⟩) ⟨hc3,hBg7,hBg2⟩ ?_
    rotate_left
    ·intro w hSw;clear hSw;go_simp;try with_reducible rfl
    go_simp
    refine wpAnyH_take (i:=12) (v:=?_) rfl (by kernel_rfl) (by kernel_rfl) (by kernel_rfl) (fun _ _ _ h=>h) (Or.inl ⟨by rfl,?_⟩) ⟨hc3,hBg7,hBg2⟩ ?_
    rotate_left
    ·intro w hSw;clear hSw;go_simp;try with_reducible rfl
    go_simp
    refine rdH 9 fun K hK=>?_
    ·
     go_simp
     have hL:Below z3.heap.size z3 (z3.alloc (.cells Z31 5)):=(Below.refl _ _).alloc (Nat.le_refl _) _
     have X4:Hid (Bth B w0 (z3.alloc (.cells Z31 5)) gx g gr 2 b b' i n key top (star (blkA ga 32 [.int .i64 d,.int .i64 s,.int .i64 a,.int .u8 (dt:Int),.slice ca cl cc,.string p]) R)):=X3.out.below (HFA.out _) hL
     have hBg9:Blk (z3.alloc (.cells Z31 5)) z3.heap.size 5 Z31.toList:=Blk.new z3 5 _
     replace hBg7:=hBg7.alloc (.cells Z31 5)
     replace hBg2:=hBg2.alloc (.cells Z31 5)
     replace hc3:=X4.out.acell.2.2.2.1
     refine hK.out _ _ ⟨hc3,hBg7,hBg2⟩ (fun hHeld=>?_)
     clear hK K hL X3
     generalize hz4:z3.alloc (.cells Z31 5)=z4 at*
     generalize hg9:z3.heap.size=g9 at*
     clear hz4 hg9
     refine wpAnyH_weaken (S':=fun z:World=>z.cell? ⟨ga,3,none⟩=some (.int .u8 (dt:Int))∧Blk z g7 5 (nr .u8 1 fun _=>dt)∧Blk z g2 5 (nr .u8 1 fun _=>dt)∧Blk z g9 5 Z31.toList) (fun z hz=>⟨hz.1,hz.2.1,hz.2.2.1⟩) _ _ _ _ ?_
     refine wpAnyH_take (i:=10) (v:=.string (zB 31)) rfl (by kernel_rfl) (by kernel_rfl) (by kernel_rfl) (fun _ _ _ h=>h) (Or.inl ⟨by rfl,?_⟩) ⟨hc3,hBg7,hBg2,hBg9⟩ ?_
     ·intro w hSw;have hcr:=pz31 (zcells HZ31.out.2 hSw.2.2.2);clear hSw;go_simp;try with_reducible rfl
     go_simp
     refine wpAnyH_take (i:=11) (v:=?_) rfl (by kernel_rfl) (by kernel_rfl) (by kernel_rfl) (fun _ _ _ h=>h) (Or.inl ⟨by rfl,?_⟩) ⟨hc3,hBg7,hBg2,hBg9⟩ ?_
     rotate_left
     ·intro w hSw;clear hSw;go_simp;try with_reducible rfl
     go_simp
     refine wpAnyH_take (i:=13) (v:=?_) rfl (by kernel_rfl) (by kernel_rfl) (by kernel_rfl) (fun _ _ _ h=>h) (Or.inl ⟨by rfl,?_⟩) ⟨hc3,hBg7,hBg2,hBg9⟩ ?_
     rotate_left
     ·intro w hSw;clear hSw;go_simp;try with_reducible rfl
     go_simp
     refine wpAnyH_done (by kernel_rfl) ?_ _
     refine NoPanic.normal ?_
     go_wp2_with fail
     go_meet
     exact⟨rfl,rfl,X4.out⟩
   ·
    go_simp
    have hL:Below z2.heap.size z2 (z2.alloc (.cells Z31 5)):=(Below.refl _ _).alloc (Nat.le_refl _) _
    have X3:Hid (Bth B w0 (z2.alloc (.cells Z31 5)) gx g gr 2 b b' i n key top (star (blkA ga 32 [.int .i64 d,.int .i64 s,.int .i64 a,.int .u8 (dt:Int),.slice ca cl cc,.string p]) R)):=X2.out.below (HFA.out _) hL
    have hBg9:Blk (z2.alloc (.cells Z31 5)) z2.heap.size 5 Z31.toList:=Blk.new z2 5 _
    replace hBg7:=hBg7.alloc (.cells Z31 5)
    replace hc3:=X3.out.acell.2.2.2.1
    refine hK.out _ _ ⟨hc3,hBg7⟩ (fun hHeld=>?_)
    clear hK K hL X2
    generalize hz3:z2.alloc (.cells Z31 5)=z3 at*
    generalize hg9:z2.heap.size=g9 at*
    clear hz3 hg9
    refine wpAnyH_weaken (S':=fun z:World=>z.cell? ⟨ga,3,none⟩=some (.int .u8 (dt:Int))∧Blk z g7 5 (nr .u8 1 fun _=>dt)∧Blk z g9 5 Z31.toList) (fun z hz=>⟨hz.1,hz.2.1⟩) _ _ _ _ ?_
    refine wpAnyH_take (i:=10) (v:=.string (zB 31)) rfl (by kernel_rfl) (by kernel_rfl) (by kernel_rfl) (fun _ _ _ h=>h) (Or.inl ⟨by rfl,?_⟩) ⟨hc3,hBg7,hBg9⟩ ?_
    ·intro w hSw;have hcr:=pz31 (zcells HZ31.out.2 hSw.2.2);clear hSw;go_simp;try with_reducible rfl
    go_simp
    refine wpAnyH_take (i:=11) (v:=?_) rfl (by kernel_rfl) (by kernel_rfl) (by kernel_rfl) (fun _ _ _ h=>h) (Or.inl ⟨by rfl,?_⟩) ⟨hc3,hBg7,hBg9⟩ ?_
    rotate_left
    ·intro w hSw;clear hSw;go_simp;try with_reducible rfl
    go_simp
    refine rdH 2 fun K hK=>?_
    ·
     go_simp
     have hL:Below z3.heap.size z3 (z3.alloc (.cells #[.int .u8 (dt:Int)] 5)):=(Below.refl _ _).alloc (Nat.le_refl _) _
     have X4:Hid (Bth B w0 (z3.alloc (.cells #[.int .u8 (dt:Int)] 5)) gx g gr 2 b b' i n key top (star (blkA ga 32 [.int .i64 d,.int .i64 s,.int .i64 a,.int .u8 (dt:Int),.slice ca cl cc,.string p]) R)):=X3.out.below (HFA.out _) hL
     have hBg2:Blk (z3.alloc (.cells #[.int .u8 (dt:Int)] 5)) z3.heap.size 5 (nr .u8 1 fun _=>dt):=Blk.new z3 5 _
     replace hBg7:=hBg7.alloc (.cells #[.int .u8 (dt:Int)] 5)
     replace hBg9:=hBg9.alloc (.cells #[.int .u8 (dt:Int)] 5)
     replace hc3:=X4.out.acell.2.2.2.1
     refine hK.out _ _ ⟨hc3,hBg7,hBg9⟩ (fun hHeld=>?_)
     clear hK K hL X3
     generalize hz4:z3.alloc (.cells #[.int .u8 (dt:Int)] 5)=z4 at*
     generalize hg2:z3.heap.size=g2 at*
     clear hz4 hg2
     refine wpAnyH_weaken (S':=fun z:World=>z.cell? ⟨ga,3,none⟩=some (.int .u8 (dt:Int))∧Blk z g7 5 (nr .u8 1 fun _=>dt)∧Blk z g9 5 Z31.toList∧Blk z g2 5 (nr .u8 1 fun _=>dt)) (fun z hz=>⟨hz.1,hz.2.1,hz.2.2.1⟩) _ _ _ _ ?_
     refine wpAnyH_take (i:=3) (v:=.string (tx 1 fun _=>dt)) rfl (by kernel_rfl) (by kernel_rfl) (by kernel_rfl) (fun _ _ _ h=>h) (Or.inl ⟨by rfl,?_⟩) ⟨hc3,hBg7,hBg9,hBg2⟩ ?_
     ·intro w hSw;have hcr:=conv_blk hSw.2.2.2 1 1 (Nat.le_refl _);clear hSw;go_simp;try with_reducible rfl
     go_simp
     refine wpAnyH_take (i:=4) (v:=?_) rfl (by kernel_rfl) (by kernel_rfl) (by kernel_rfl) (fun _ _ _ h=>h) (Or.inl ⟨by rfl,?_⟩) ⟨hc3,hBg7,hBg9,hBg2⟩ ?_
     rotate_left
     ·intro w hSw;clear hSw;go_simp;try with_reducible rfl
     go_simp
     refine wpAnyH_take (i:=12) (v:=?_) rfl (by kernel_rfl) (by kernel_rfl) (by kernel_rfl) (fun _ _ _ h=>h) (Or.inl ⟨by rfl,?_⟩) ⟨hc3,hBg7,hBg9,hBg2⟩ ?_
     rotate_left
     ·intro w hSw;clear hSw;go_simp;try with_reducible rfl
     go_simp
     refine wpAnyH_take (i:=13) (v:=?_) rfl (by kernel_rfl) (by kernel_rfl) (by kernel_rfl) (fun _ _ _ h=>h) (Or.inl ⟨by rfl,?_⟩) ⟨hc3,hBg7,hBg9,hBg2⟩ ?_
     rotate_left
     ·intro w hSw;clear hSw;go_simp;try with_reducible rfl
     go_simp
     refine wpAnyH_done (by kernel_rfl) ?_ _
     refine NoPanic.normal ?_
     go_wp2_with fail
     go_meet
     exact⟨rfl,rfl,X4.out⟩
  ·
   go_simp
   have hL:Below z1.heap.size z1 (z1.alloc (.cells Z31 5)):=(Below.refl _ _).alloc (Nat.le_refl _) _
   have X2:Hid (Bth B w0 (z1.alloc (.cells Z31 5)) gx g gr 2 b b' i n key top (star (blkA ga 32 [.int .i64 d,.int .i64 s,.int .i64 a,.int .u8 (dt:Int),.slice ca cl cc,.string p]) R)):=X1.out.below (HFA.out _) hL
   have hBg9:Blk (z1.alloc (.cells Z31 5)) z1.heap.size 5 Z31.toList:=Blk.new z1 5 _
   replace hc3:=X2.out.acell.2.2.2.1
   refine hK.out _ _ hc3 (fun hHeld=>?_)
   clear hK K hL X1
   generalize hz2:z1.alloc (.cells Z31 5)=z2 at*
   generalize hg9:z1.heap.size=g9 at*
   clear hz2 hg9
   refine wpAnyH_weaken (S':=fun z:World=>z.cell? ⟨ga,3,none⟩=some (.int .u8 (dt:Int))∧Blk z g9 5 Z31.toList) (fun z hz=>hz.1) _ _ _ _ ?_
   refine wpAnyH_take (i:=10) (v:=.string (zB 31)) rfl (by kernel_rfl) (by kernel_rfl) (by kernel_rfl) (fun _ _ _ h=>h) (Or.inl ⟨by rfl,?_⟩) ⟨hc3,hBg9⟩ ?_
   ·intro w hSw;have hcr:=pz31 (zcells HZ31.out.2 hSw.2);clear hSw;go_simp;try with_reducible rfl
   go_simp
   refine wpAnyH_ready (rs:=[2,7]) (by kernel_rfl) (by simp) (AllReadyH.cons rfl (fun K hK=>?_) (AllReadyH.cons rfl (fun K hK=>?_) AllReadyH.nil))
   ·
    go_simp
    have hL:Below z2.heap.size z2 (z2.alloc (.cells #[.int .u8 (dt:Int)] 5)):=(Below.refl _ _).alloc (Nat.le_refl _) _
    have X3:Hid (Bth B w0 (z2.alloc (.cells #[.int .u8 (dt:Int)] 5)) gx g gr 2 b b' i n key top (star (blkA ga 32 [.int .i64 d,.int .i64 s,.int .i64 a,.int .u8 (dt:Int),.slice ca cl cc,.string p]) R)):=X2.out.below (HFA.out _) hL
    have hBg2:Blk (z2.alloc (.cells #[.int .u8 (dt:Int)] 5)) z2.heap.size 5 (nr .u8 1 fun _=>dt):=Blk.new z2 5 _
    replace hBg9:=hBg9.alloc (.cells #[.int .u8 (dt:Int)] 5)
    replace hc3:=X3.out.acell.2.2.2.1
    refine hK.out _ _ ⟨hc3,hBg9⟩ (fun hHeld=>?_)
    clear hK K hL X2
    generalize hz3:z2.alloc (.cells #[.int .u8 (dt:Int)] 5)=z3 at*
    generalize hg2:z2.heap.size=g2 at*
    clear hz3 hg2
    refine wpAnyH_weaken (S':=fun z:World=>z.cell? ⟨ga,3,none⟩=some (.int .u8 (dt:Int))∧Blk z g9 5 Z31.toList∧Blk z g2 5 (nr .u8 1 fun _=>dt)) (fun z hz=>⟨hz.1,hz.2.1⟩) _ _ _ _ ?_
    refine wpAnyH_take (i:=3) (v:=.string (tx 1 fun _=>dt)) rfl (by kernel_rfl) (by kernel_rfl) (by kernel_rfl) (fun _ _ _ h=>h) (Or.inl ⟨by rfl,?_⟩) ⟨hc3,hBg9,hBg2⟩ ?_
    ·intro w hSw;have hcr:=conv_blk hSw.2.2 1 1 (Nat.le_refl _);clear hSw;go_simp;try with_reducible rfl
    go_simp
    refine wpAnyH_take (i:=4) (v:=?_) rfl (by kernel_rfl) (by kernel_rfl) (by kernel_rfl) (fun _ _ _ h=>h) (Or.inl ⟨by rfl,?_⟩) ⟨hc3,hBg9,hBg2⟩ ?_
    rotate_left
    ·intro w hSw;clear hSw;go_simp;try with_reducible rfl
    go_simp
    refine wpAnyH_take (i:=12) (v:=?_) rfl (by kernel_rfl) (by kernel_rfl) (by kernel_rfl) (fun _ _ _ h=>h) (Or.inl ⟨by rfl,?_⟩) ⟨hc3,hBg9,hBg2⟩ ?_
    rotate_left
    ·intro w hSw;clear hSw;go_simp;try with_reducible rfl
    go_simp
    refine rdH 7 fun K hK=>?_
    ·
     go_simp
     have hL:Below z3.heap.size z3 (z3.alloc (.cells #[.int .u8 (dt:Int)] 5)):=(Below.refl _ _).alloc (Nat.le_refl _) _
     have X4:Hid (Bth B w0 (z3.alloc (.cells #[.int .u8 (dt:Int)] 5)) gx g gr 2 b b' i n key top (star (blkA ga 32 [.int .i64 d,.int .i64 s,.int .i64 a,.int .u8 (dt:Int),.slice ca cl cc,.string p]) R)):=X3.out.below (HFA.out _) hL
     have hBg7:Blk (z3.alloc (.cells #[.int .u8 (dt:Int)] 5)) z3.heap.size 5 (nr .u8 1 fun _=>dt):=Blk.new z3 5 _
     replace hBg9:=hBg9.alloc (.cells #[.int .u8 (dt:Int)] 5)
     replace hBg2:=hBg2.alloc (.cells #[.int .u8 (dt:Int)] 5)
     replace hc3:=X4.out.acell.2.2.2.1
     refine hK.out _ _ ⟨hc3,hBg9,hBg2⟩ (fun hHeld=>?_)
     clear hK K hL X3
     generalize hz4:z3.alloc (.cells #[.int .u8 (dt:Int)] 5)=z4 at*
     generalize hg7:z3.heap.size=g7 at*
     clear hz4 hg7
     refine wpAnyH_weaken (S':=fun z:World=>z.cell? ⟨ga,3,none⟩=some (.int .u8 (dt:Int))∧Blk z g9 5 Z31.toList∧Blk z g2 5 (nr .u8 1 fun _=>dt)∧Blk z g7 5 (nr .u8 1 fun _=>dt)) (fun z hz=>⟨hz.1,hz.2.1,hz.2.2.1⟩) _ _ _ _ ?_
     refine wpAnyH_take (i:=8) (v:=.string (tx 1 fun _=>dt)) rfl (by kernel_rfl) (by kernel_rfl) (by kernel_rfl) (fun _ _ _ h=>h) (Or.inl ⟨by rfl,?_⟩) ⟨hc3,hBg9,hBg2,hBg7⟩ ?_
     ·intro w hSw;have hcr:=conv_blk hSw.2.2.2 1 1 (Nat.le_refl _);clear hSw;go_simp;try with_reducible rfl
     go_simp
     refine wpAnyH_take (i:=11) (v:=?_) rfl (by kernel_rfl) (by kernel_rfl) (by kernel_rfl) (fun _ _ _ h=>h) (Or.inl ⟨by rfl,?_⟩) ⟨hc3,hBg9,hBg2,hBg7⟩ ?_
     rotate_left
     ·intro w hSw;clear hSw;go_simp;try with_reducible rfl
     go_simp
     refine wpAnyH_take (i:=13) (v:=?_) rfl (by kernel_rfl) (by kernel_rfl) (by kernel_rfl) (fun _ _ _ h=>h) (Or.inl ⟨by rfl,?_⟩) ⟨hc3,hBg9,hBg2,hBg7⟩ ?_
     rotate_left
     ·intro w hSw;clear hSw;go_simp;try with_reducible rfl
     go_simp
     refine wpAnyH_done (by kernel_rfl) ?_ _
     refine NoPanic.normal ?_
     go_wp2_with fail
     go_meet
     exact⟨rfl,rfl,X4.out⟩
   ·
    go_simp
    have hL:Below z2.heap.size z2 (z2.alloc (.cells #[.int .u8 (dt:Int)] 5)):=(Below.refl _ _).alloc (Nat.le_refl _) _
    have X3:Hid (Bth B w0 (z2.alloc (.cells #[.int .u8 (dt:Int)] 5)) gx g gr 2 b b' i n key top (star (blkA ga 32 [.int .i64 d,.int .i64 s,.int .i64 a,.int .u8 (dt:Int),.slice ca cl cc,.string p]) R)):=X2.out.below (HFA.out _) hL
    have hBg7:Blk (z2.alloc (.cells #[.int .u8 (dt:Int)] 5)) z2.heap.size 5 (nr .u8 1 fun _=>dt):=Blk.new z2 5 _
    replace hBg9:=hBg9.alloc (.cells #[.int .u8 (dt:Int)] 5)
    replace hc3:=X3.out.acell.2.2.2.1
    refine hK.out _ _ ⟨hc3,hBg9⟩ (fun hHeld=>?_)
    clear hK K hL X2
    generalize hz3:z2.alloc (.cells #[.int .u8 (dt:Int)] 5)=z3 at*
    generalize hg7:z2.heap.size=g7 at*
    clear hz3 hg7
    refine wpAnyH_weaken (S':=fun z:World=>z.cell? ⟨ga,3,none⟩=some (.int .u8 (dt:Int))∧Blk z g9 5 Z31.toList∧Blk z g7 5 (nr .u8 1 fun _=>dt)) (fun z hz=>⟨hz.1,hz.2.1⟩) _ _ _ _ ?_
    refine wpAnyH_take (i:=8) (v:=.string (tx 1 fun _=>dt)) rfl (by kernel_rfl) (by kernel_rfl) (by kernel_rfl) (fun _ _ _ h=>h) (Or.inl ⟨by rfl,?_⟩) ⟨hc3,hBg9,hBg7⟩ ?_
    ·intro w hSw;have hcr:=conv_blk hSw.2.2 1 1 (Nat.le_refl _);clear hSw;go_simp;try with_reducible rfl
    go_simp
    refine wpAnyH_take (i:=11) (v:=?_) rfl (by kernel_rfl) (by kernel_rfl) (by kernel_rfl) (fun _ _ _ h=>h) (Or.inl ⟨by rfl,?_⟩) ⟨hc3,hBg9,hBg7⟩ ?_
    rotate_left
    ·intro w hSw;clear hSw;go_simp;try with_reducible rfl
    go_simp
    refine rdH 2 fun K hK=>?_
    ·
     go_simp
     have hL:Below z3.heap.size z3 (z3.alloc (.cells #[.int .u8 (dt:Int)] 5)):=(Below.refl _ _).alloc (Nat.le_refl _) _
     have X4:Hid (Bth B w0 (z3.alloc (.cells #[.int .u8 (dt:Int)] 5)) gx g gr 2 b b' i n key top (star (blkA ga 32 [.int .i64 d,.int .i64 s,.int .i64 a,.int .u8 (dt:Int),.slice ca cl cc,.string p]) R)):=X3.out.below (HFA.out _) hL
     have hBg2:Blk (z3.alloc (.cells #[.int .u8 (dt:Int)] 5)) z3.heap.size 5 (nr .u8 1 fun _=>dt):=Blk.new z3 5 _
     replace hBg9:=hBg9.alloc (.cells #[.int .u8 (dt:Int)] 5)
     replace hBg7:=hBg7.alloc (.cells #[.int .u8 (dt:Int)] 5)
     replace hc3:=X4.out.acell.2.2.2.1
     refine hK.out _ _ ⟨hc3,hBg9,hBg7⟩ (fun hHeld=>?_)
     clear hK K hL X3
     generalize hz4:z3.alloc (.cells #[.int .u8 (dt:Int)] 5)=z4 at*
     generalize hg2:z3.heap.size=g2 at*
     clear hz4 hg2
     refine wpAnyH_weaken (S':=fun z:World=>z.cell? ⟨ga,3,none⟩=some (.int .u8 (dt:Int))∧Blk z g9 5 Z31.toList∧Blk z g7 5 (nr .u8 1 fun _=>dt)∧Blk z g2 5 (nr .u8 1 fun _=>dt)) (fun z hz=>⟨hz.1,hz.2.1,hz.2.2.1⟩) _ _ _ _ ?_
     refine wpAnyH_take (i:=3) (v:=.string (tx 1 fun _=>dt)) rfl (by kernel_rfl) (by kernel_rfl) (by kernel_rfl) (fun _ _ _ h=>h) (Or.inl ⟨by rfl,?_⟩) ⟨hc3,hBg9,hBg7,hBg2⟩ ?_
     ·intro w hSw;have hcr:=conv_blk hSw.2.2.2 1 1 (Nat.le_refl _);clear hSw;go_simp;try with_reducible rfl
     go_simp
     refine wpAnyH_take (i:=4) (v:=?_) rfl (by kernel_rfl) (by kernel_rfl) (by kernel_rfl) (fun _ _ _ h=>h) (Or.inl ⟨by rfl,?_⟩) ⟨hc3,hBg9,hBg7,hBg2⟩ ?_
     rotate_left
     ·intro w hSw;clear hSw;go_simp;try with_reducible rfl
     go_simp
     refine wpAnyH_take (i:=12) (v:=?_) rfl (by kernel_rfl) (by kernel_rfl) (by kernel_rfl) (fun _ _ _ h=>h) (Or.inl ⟨by rfl,?_⟩) ⟨hc3,hBg9,hBg7,hBg2⟩ ?_
     rotate_left
     ·intro w hSw;clear hSw;go_simp;try with_reducible rfl
     go_simp
     refine wpAnyH_take (i:=13) (v:=?_) rfl (by kernel_rfl) (by kernel_rfl) (by kernel_rfl) (fun _ _ _ h=>h) (Or.inl ⟨by rfl,?_⟩) ⟨hc3,hBg9,hBg7,hBg2⟩ ?_
     rotate_left
     ·intro w hSw;clear hSw;go_simp;try with_reducible rfl
     go_simp
     refine wpAnyH_done (by kernel_rfl) ?_ _
     refine NoPanic.normal ?_
     go_wp2_with fail
     go_meet
     exact⟨rfl,rfl,X4.out⟩
 case rest=>
  obtain⟨rfl,rfl,hX2⟩:=hcut
  have X2:Hid (Bth B w0 wc gx g gr 2 b b' i n key top (star (blkA ga 32 [.int .i64 d,.int .i64 s,.int .i64 a,.int .u8 (dt:Int),.slice ca cl cc,.string p]) R)):=hX2
  clear hX2 X0 HZ31 hm31'
  have hpl:(((tx 1 fun _=>dt)++zB 31)).size=32:=by rw[ByteArray.size_append,tx_size,zB_size]
  generalize((tx 1 fun _=>dt)++zB 31)=pl at*
  generalize((tx 1 fun _=>dt)++⟨#[49,50,51,52,53,54,55,56,57,48,49]⟩:ByteArray)=non at*
  clear hsz1 hsz2
  obtain⟨T,E,hP,hQ⟩:=p_seal (g:=g) (gr:=gr) (i:=i) (n:=n) (key:=key) (b:=b) (b':=b') s p pl hpl
  have HP:Hid _:=hP
  have HQ:Hid _:=hQ
  clear hP hQ hpl
  have HCH:Hid (∀ga y a1 a2,Bth B w0 y gx g gr 2 b b' i n key top (star (blkA ga 32 [.int .i64 d,.int .i64 s,.int .i64 a,.int .u8 (dt:Int),.slice ca cl cc,.string p]) R)→Cg y 49 a1 [(s,T)]→Cg y 77 a2 [(s,T)]→Calls Tryz.prog 29 #[.pointer (some ⟨gx,0,none⟩),.slice a1 1 1,.slice a2 1 1] y fun e w'=>e=.returned (.bool true)∧Py B w0 w' gx g gr i n key (m+50) R):=fun ga y a1 a2 hy k1 k2=>
   (change_any (cs:=[(s,T)]) (HFA.out ga) hy HS.out HO.out HF.out (by have:=HM.out;omega) HT.out (by show 1≤100;decide) k1 k2).mono fun e w' ⟨h1,h2⟩=>⟨h1,h2.drop.up (by omega)⟩
  have h77:=H77.out
  obtain⟨c0,c1,c2,c3,c4,c5⟩:=X2.out.acell
  go_wp2_with fail
  clear c0 c1 c2 c3 c4 c5 h77
  have X3:Hid (Bth B w0 wc.drew gx g gr 2 b b' i n key top (star (blkA ga 32 [.int .i64 d,.int .i64 s,.int .i64 a,.int .u8 (dt:Int),.slice ca cl cc,.string p]) R)):=X2.out.below (HFA.out _) (Below.refl _ _).drew
  clear X2
  refine wp_region_noPanic ?_
  refine wp_region_held_drew (S:=fun z:World=>z.cell? ⟨gx,0,none⟩=some (.pointer (some ⟨g,0,none⟩))∧z.cell? ⟨gx,1,none⟩=some (.int .i64 i)∧z.cell? ⟨gx,2,none⟩=some (.int .i64 n)∧z.cell? ⟨gx,3,none⟩=some (.string key)∧z.cell? ⟨gx,4,none⟩=some (.pointer (some ⟨gr,0,none⟩))∧z.cell? ⟨gx,5,none⟩=some (.int .i64 i)∧z.cell? ⟨gx,6,none⟩=some (.int .i64 n)∧z.cell? ⟨gx,7,none⟩=some (.string key)∧z.cell? ⟨gx,8,none⟩=some (.string top)∧z.cell? ⟨ga,0,none⟩=some (.int .i64 d)∧z.cell? ⟨ga,1,none⟩=some (.int .i64 s)∧z.cell? ⟨ga,2,none⟩=some (.int .i64 a)∧z.cell? ⟨ga,3,none⟩=some (.int .u8 (dt:Int))∧z.cell? ⟨ga,4,none⟩=some (.slice ca cl cc)∧z.cell? ⟨ga,5,none⟩=some (.string p)) (by kernel_rfl) X3.out.cells15 (fun hHeld=>?_)
  refine tkH 0 ?_;go_simp
  refine tkH 1 ?_;go_simp
  refine tkH 2 ?_;go_simp
  refine tkH 3 ?_;go_simp
  refine tkH 4 ?_;go_simp
  refine tkH 5 ?_;go_simp
  refine tkH 6 ?_;go_simp
  refine tkH 7 ?_;go_simp
  refine rdH 8 fun K hK=>?_
  go_simp
  go_at_call 12
  refine(HP.out _ X3.out.bk).mono ?_
  rintro x w1 ⟨rfl,h1⟩
  have X4:Hid (Bth B w0 w1 gx g gr 2 b b' i n key top (star (blkA ga 32 [.int .i64 d,.int .i64 s,.int .i64 a,.int .u8 (dt:Int),.slice ca cl cc,.string p]) R)):=X3.out.below (HFA.out _) h1
  clear h1 X3
  refine hK.out _ _ X4.out.cells15 (fun hHeld=>?_)
  clear hK K
  have hsc1:=X4.out.cells15
  refine tkH 9 ?_;go_simp
  refine tkH 10 ?_;go_simp
  refine tkH 11 ?_;go_simp
  refine tkH 12 ?_;go_simp
  refine tkH 13 ?_;go_simp
  refine wpAnyH_done (by kernel_rfl) ?_ _
  refine NoPanic.normal ?_
  clear hsc1
  go_wp2_with fail
  have X5:Hid (Bth B w0 w1.drew gx g gr 2 b b' i n key top (star (blkA ga 32 [.int .i64 d,.int .i64 s,.int .i64 a,.int .u8 (dt:Int),.slice ca cl cc,.string p]) R)):=X4.out.below (HFA.out _) (Below.refl _ _).drew
  clear X4
  refine wp_region_noPanic ?_
  refine wp_region_held_drew (S:=fun z:World=>z.cell? ⟨gx,0,none⟩=some (.pointer (some ⟨g,0,none⟩))∧z.cell? ⟨gx,1,none⟩=some (.int .i64 i)∧z.cell? ⟨gx,2,none⟩=some (.int .i64 n)∧z.cell? ⟨gx,3,none⟩=some (.string key)∧z.cell? ⟨gx,4,none⟩=some (.pointer (some ⟨gr,0,none⟩))∧z.cell? ⟨gx,5,none⟩=some (.int .i64 i)∧z.cell? ⟨gx,6,none⟩=some (.int .i64 n)∧z.cell? ⟨gx,7,none⟩=some (.string key)∧z.cell? ⟨gx,8,none⟩=some (.string top)∧z.cell? ⟨ga,0,none⟩=some (.int .i64 d)∧z.cell? ⟨ga,1,none⟩=some (.int .i64 s)∧z.cell? ⟨ga,2,none⟩=some (.int .i64 a)∧z.cell? ⟨ga,3,none⟩=some (.int .u8 (dt:Int))∧z.cell? ⟨ga,4,none⟩=some (.slice ca cl cc)∧z.cell? ⟨ga,5,none⟩=some (.string p)) (by kernel_rfl) X5.out.cells15 (fun hHeld=>?_)
  refine tkH 0 ?_;go_simp
  refine tkH 1 ?_;go_simp
  refine tkH 2 ?_;go_simp
  refine tkH 3 ?_;go_simp
  refine tkH 4 ?_;go_simp
  refine tkH 5 ?_;go_simp
  refine tkH 6 ?_;go_simp
  refine tkH 7 ?_;go_simp
  refine rdH 8 fun K hK=>?_
  go_simp
  go_at_call 37
  refine(HQ.out _ X5.out.rk).mono ?_
  rintro x w2 ⟨rfl,h1⟩
  have X6:Hid (Bth B w0 w2 gx g gr 2 b b' i n key top (star (blkA ga 32 [.int .i64 d,.int .i64 s,.int .i64 a,.int .u8 (dt:Int),.slice ca cl cc,.string p]) R)):=X5.out.below (HFA.out _) h1
  clear h1 X5
  refine hK.out _ _ X6.out.cells15 (fun hHeld=>?_)
  clear hK K
  have hsc3:=X6.out.cells15
  refine tkH 9 ?_;go_simp
  refine tkH 10 ?_;go_simp
  refine tkH 11 ?_;go_simp
  refine tkH 12 ?_;go_simp
  refine tkH 13 ?_;go_simp
  refine wpAnyH_done (by kernel_rfl) ?_ _
  refine NoPanic.normal ?_
  clear hsc3
  by_cases hE:E=0
  ·subst hE
   obtain⟨c0,c1,c2,c3,c4,c5⟩:=X6.out.acell
   have hL1:Below w2.heap.size w2 (w2.alloc (.cells #[.int .i64 s,.string T] 49)):=(Below.refl _ _).alloc (Nat.le_refl _) _
   have hL2:Below (w2.alloc (.cells #[.int .i64 s,.string T] 49)).heap.size (w2.alloc (.cells #[.int .i64 s,.string T] 49)) ((w2.alloc (.cells #[.int .i64 s,.string T] 49)).alloc (.cells #[.int .i64 s,.string T] 77)):=(Below.refl _ _).alloc (Nat.le_refl _) _
   have hk1:=(X6.out.below (HFA.out _) hL1).acell.2.1
   have HC9:Calls Tryz.prog 29 #[.pointer (some ⟨gx,0,none⟩),.slice (some ⟨w2.heap.size,0,none⟩) 1 1,.slice (some ⟨(w2.alloc (.cells #[.int .i64 s,.string T] 49)).heap.size,0,none⟩) 1 1] ((w2.alloc (.cells #[.int .i64 s,.string T] 49)).alloc (.cells #[.int .i64 s,.string T] 77)) fun e w'=>e=.returned (.bool true)∧Py B w0 w' gx g gr i n key (m+50) R:=HCH.out ga _ _ _ (X6.out.below (HFA.out _) (hL1.trans (hL2.mono hL1.size))) ((Cg.one2 w2 49 s T).below hL2) (Cg.one2 (w2.alloc (.cells #[.int .i64 s,.string T] 49)) 77 s T)
   rw[World.size_alloc]at HC9
   have HC:Hid (Calls Tryz.prog 29 #[.pointer (some ⟨gx,0,none⟩),.slice (some ⟨w2.heap.size,0,none⟩) 1 1,.slice (some ⟨w2.heap.size+1,0,none⟩) 1 1] ((w2.alloc (.cells #[.int .i64 s,.string T] 49)).alloc (.cells #[.int .i64 s,.string T] 77)) fun e w'=>e=.returned (.bool true)∧Py B w0 w' gx g gr i n key (m+50) R):=HC9
   clear HC9 hL1 hL2 HCH
   go_wp2_with(go_at_call 29;refine HC.out.mono ?_;rintro x w5 ⟨rfl,h5⟩;have H5:Hid (Py B w0 w5 gx g gr i n key (m+50) R):=h5;clear h5 HC)
   go_ret
   exact⟨rfl,H5.out⟩
  have hE1:(E !=0)=true:=by simpa using hE
  go_wp2_with fail
  go_ret
  exact⟨rfl,_,_,_,X6.out.dropR,HS.out,HO.out,HF.out.up (by omega)⟩
set_option maxHeartbeats 4000000 in
theorem act_sealn (hR:Firm R)(h:Bth B w0 z gx g gr 2 b b' i n key top R)(hS:Sm 2 b b')(hO:Oks b){m:Nat}(hf:Few17 2 b m)(hm:m≤40000)(ht:∀z,Below B w0 z→Tabs z∧RTabs z){dt:Nat}(hdt:t=(dt:Int))(hdt8:dt≤255)(h77:¬a=77)(hd:d.tmod 8=0):
 Calls Tryz.prog 11 #[.pointer (some ⟨gx,0,none⟩),.agg #[.int .i64 d,.int .i64 s,.int .i64 a,.int .u8 (dt:Int),.slice ca cl cc,.string p]] z fun e w'=>e=.returned (.bool true)∧Py B w0 w' gx g gr i n key (m+50) R:=by
 have HR:Hid (Firm R):=hR
 have HFA:Hid (∀ga,Firm (star (blkA ga 32 [.int .i64 d,.int .i64 s,.int .i64 a,.int .u8 (dt:Int),.slice ca cl cc,.string p]) R)):=fun ga=>(firm_blk _ _ _).star hR
 have HT:Hid (∀z,Below B w0 z→Tabs z∧RTabs z):=ht
 have HS:Hid (Sm 2 b b'):=hS
 have HO:Hid (Oks b):=hO
 have HF:Hid (Few17 2 b m):=hf
 have HM:Hid (m≤40000):=hm
 have X0:Hid (Bth B w0 (z.alloc (.cells #[.int .i64 d,.int .i64 s,.int .i64 a,.int .u8 (dt:Int),.slice ca cl cc,.string p] 32)) gx g gr 2 b b' i n key top (star (blkA z.heap.size 32 [.int .i64 d,.int .i64 s,.int .i64 a,.int .u8 (dt:Int),.slice ca cl cc,.string p]) R)):=h.box hR
 clear hR hS hO hf hm ht
 subst hdt
 have H77:Hid ((a==77)=false):=by show(a==77)=_;simpa using h77
 clear h77
 obtain⟨Z31,hm31,hz31⟩:=pz_made 31 (by omega)
 have HZ31:Hid ((∀x:World,(Instr.makeSlice 35 (.int .i64 31) (.int .i64 31)).run Tryz.prog x=.ok (.slice (some ⟨x.heap.size,0,none⟩) 31 31) (x.alloc (.cells Z31 5 (0,0))))∧∀x:World,PZ x.heap.size 31 (x.alloc (.cells Z31 5 (0,0)))):=⟨hm31,hz31⟩
 have hm31':=HZ31.out.1
 have hsz1:(tx 1 fun _=>dt).size=1:=tx_size 1 _
 have hsz2:(zB 31).size=31:=zB_size 31
 clear hm31 hz31
 obtain⟨ga,hga⟩:∃ga,z.heap.size=ga:=⟨_,rfl⟩
 rw[hga]at X0
 clear h
 obtain⟨⟨d0,d1,d2,d3,d4,d5,d6,d7,d8⟩,⟨c0,c1,c2,c3,c4,c5⟩⟩:=And.intro X0.out.cells9 X0.out.acell
 go_enter Tryz.func11,Tryz.ntmps11
 go_upto_region 51 with fail
 clear d0 d1 d2 d3 d4 d5 d6 d7 d8 c0 c1 c2 c3 c4 c5
 generalize z.alloc (.cells #[.int .i64 d,.int .i64 s,.int .i64 a,.int .u8 (dt:Int),.slice ca cl cc,.string p] 32)=y1 at X0⊢
 go_cut[20,21]from 225 (fun v20 v21 wc=>v20=.string ((tx 1 fun _=>dt)++⟨#[49,50,51,52,53,54,55,56,57,48,49]⟩:ByteArray)∧v21=.string ((tx 1 fun _=>dt)++zB 31)∧Bth B w0 wc gx g gr 2 b b' i n key top (star (blkA ga 32 [.int .i64 d,.int .i64 s,.int .i64 a,.int .u8 (dt:Int),.slice ca cl cc,.string p]) R))
 case first=>
  clear HT HS HO HF HM H77
  have X1:Hid (Bth B w0 y1.drew gx g gr 2 b b' i n key top (star (blkA ga 32 [.int .i64 d,.int .i64 s,.int .i64 a,.int .u8 (dt:Int),.slice ca cl cc,.string p]) R)):=X0.out.below (HFA.out _) (Below.refl _ _).drew
  clear X0
  refine wp_region_noPanic ?_
  refine wp_region_held_drew (S:=fun z:World=>z.cell? ⟨ga,3,none⟩=some (.int .u8 (dt:Int))) (by kernel_rfl) X1.out.acell.2.2.2.1 (fun hHeld=>?_)
  have hc3:=X1.out.acell.2.2.2.1
  generalize y1.drew=z1 at*
  refine tkH 0 ?_;go_simp
  refine tkH 1 ?_;go_simp
  refine tkH 5 ?_;go_simp
  refine tkH 6 ?_;go_simp
  refine wpAnyH_ready (rs:=[2,7,9]) (by kernel_rfl) (by simp) (AllReadyH.cons rfl (fun K hK=>?_) (AllReadyH.cons rfl (fun K hK=>?_) (AllReadyH.cons rfl (fun K hK=>?_) AllReadyH.nil)))
  ·
   go_simp
   have hL:Below z1.heap.size z1 (z1.alloc (.cells #[.int .u8 (dt:Int)] 5)):=(Below.refl _ _).alloc (Nat.le_refl _) _
   have X2:Hid (Bth B w0 (z1.alloc (.cells #[.int .u8 (dt:Int)] 5)) gx g gr 2 b b' i n key top (star (blkA ga 32 [.int .i64 d,.int .i64 s,.int .i64 a,.int .u8 (dt:Int),.slice ca cl cc,.string p]) R)):=X1.out.below (HFA.out _) hL
   have hBg2:Blk (z1.alloc (.cells #[.int .u8 (dt:Int)] 5)) z1.heap.size 5 (nr .u8 1 fun _=>dt):=Blk.new z1 5 _
   replace hc3:=X2.out.acell.2.2.2.1
   refine hK.out _ _ hc3 (fun hHeld=>?_)
   clear hK K hL X1
   generalize hz2:z1.alloc (.cells #[.int .u8 (dt:Int)] 5)=z2 at*
   generalize hg2:z1.heap.size=g2 at*
   clear hz2 hg2
   refine wpAnyH_weaken (S':=fun z:World=>z.cell? ⟨ga,3,none⟩=some (.int .u8 (dt:Int))∧Blk z g2 5 (nr .u8 1 fun _=>dt)) (fun z hz=>hz.1) _ _ _ _ ?_
   refine wpAnyH_take (i:=3) (v:=.string (tx 1 fun _=>dt)) rfl (by kernel_rfl) (by kernel_rfl) (by kernel_rfl) (fun _ _ _ h=>h) (Or.inl ⟨by rfl,?_⟩) ⟨hc3,hBg2⟩ ?_
   ·intro w hSw;have hcr:=conv_blk hSw.2 1 1 (Nat.le_refl _);clear hSw;go_simp;try with_reducible rfl
   go_simp
   refine wpAnyH_take (i:=4) (v:=?_) rfl (by kernel_rfl) (by kernel_rfl) (by kernel_rfl) (fun _ _ _ h=>h) (Or.inl ⟨by rfl,?_⟩) ⟨hc3,hBg2⟩ ?_
   rotate_left
   ·intro w hSw;clear hSw;go_simp;try with_reducible rfl
   go_simp
   refine wpAnyH_take (i:=12) (v:=?_) rfl (by kernel_rfl) (by kernel_rfl) (by kernel_rfl) (fun _ _ _ h=>h) (Or.inl ⟨by rfl,?_⟩) ⟨hc3,hBg2⟩ ?_
   rotate_left
   ·intro w hSw;clear hSw;go_simp;try with_reducible rfl
   go_simp
   refine wpAnyH_ready (rs:=[7,9]) (by kernel_rfl) (by simp) (AllReadyH.cons rfl (fun K hK=>?_) (AllReadyH.cons rfl (fun K hK=>?_) AllReadyH.nil))
   ·
    go_simp
    have hL:Below z2.heap.size z2 (z2.alloc (.cells #[.int .u8 (dt:Int)] 5)):=(Below.refl _ _).alloc (Nat.le_refl _) _
    have X3:Hid (Bth B w0 (z2.alloc (.cells #[.int .u8 (dt:Int)] 5)) gx g gr 2 b b' i n key top (star (blkA ga 32 [.int .i64 d,.int .i64 s,.int .i64 a,.int .u8 (dt:Int),.slice ca cl cc,.string p]) R)):=X2.out.below (HFA.out _) hL
    have hBg7:Blk (z2.alloc (.cells #[.int .u8 (dt:Int)] 5)) z2.heap.size 5 (nr .u8 1 fun _=>dt):=Blk.new z2 5 _
    replace hBg2:=hBg2.alloc (.cells #[.int .u8 (dt:Int)] 5)
    replace hc3:=X3.out.acell.2.2.2.1
    refine hK.out _ _ ⟨hc3,hBg2⟩ (fun hHeld=>?_)
    clear hK K hL X2
    generalize hz3:z2.alloc (.cells #[.int .u8 (dt:Int)] 5)=z3 at*
    generalize hg7:z2.heap.size=g7 at*
    clear hz3 hg7
    refine wpAnyH_weaken (S':=fun z:World=>z.cell? ⟨ga,3,none⟩=some (.int .u8 (dt:Int))∧Blk z g2 5 (nr .u8 1 fun _=>dt)∧Blk z g7 5 (nr .u8 1 fun _=>dt)) (fun z hz=>⟨hz.1,hz.2.1⟩) _ _ _ _ ?_
    refine wpAnyH_take (i:=8) (v:=.string (tx 1 fun _=>dt)) rfl (by kernel_rfl) (by kernel_rfl) (by kernel_rfl) (fun _ _ _ h=>h) (Or.inl ⟨by rfl,?_⟩) ⟨hc3,hBg2,hBg7⟩ ?_
    ·intro w hSw;have hcr:=conv_blk hSw.2.2 1 1 (Nat.le_refl _);clear hSw;go_simp;try with_reducible rfl
    go_simp
    refine rdH 9 fun K hK=>?_
    ·
     go_simp
     have hL:Below z3.heap.size z3 (z3.alloc (.cells Z31 5)):=(Below.refl _ _).alloc (Nat.le_refl _) _
     have X4:Hid (Bth B w0 (z3.alloc (.cells Z31 5)) gx g gr 2 b b' i n key top (star (blkA ga 32 [.int .i64 d,.int .i64 s,.int .i64 a,.int .u8 (dt:Int),.slice ca cl cc,.string p]) R)):=X3.out.below (HFA.out _) hL
     have hBg9:Blk (z3.alloc (.cells Z31 5)) z3.heap.size 5 Z31.toList:=Blk.new z3 5 _
     replace hBg2:=hBg2.alloc (.cells Z31 5)
     replace hBg7:=hBg7.alloc (.cells Z31 5)
     replace hc3:=X4.out.acell.2.2.2.1
     refine hK.out _ _ ⟨hc3,hBg2,hBg7⟩ (fun hHeld=>?_)
     clear hK K hL X3
     generalize hz4:z3.alloc (.cells Z31 5)=z4 at*
     generalize hg9:z3.heap.size=g9 at*
     clear hz4 hg9
     refine wpAnyH_weaken (S':=fun z:World=>z.cell? ⟨ga,3,none⟩=some (.int .u8 (dt:Int))∧Blk z g2 5 (nr .u8 1 fun _=>dt)∧Blk z g7 5 (nr .u8 1 fun _=>dt)∧Blk z g9 5 Z31.toList) (fun z hz=>⟨hz.1,hz.2.1,hz.2.2.1⟩) _ _ _ _ ?_
     refine wpAnyH_take (i:=10) (v:=.string (zB 31)) rfl (by kernel_rfl) (by kernel_rfl) (by kernel_rfl) (fun _ _ _ h=>h) (Or.inl ⟨by rfl,?_⟩) ⟨hc3,hBg2,hBg7,hBg9⟩ ?_
     ·intro w hSw;have hcr:=pz31 (zcells HZ31.out.2 hSw.2.2.2);clear hSw;go_simp;try with_reducible rfl
     go_simp
     refine wpAnyH_take (i:=11) (v:=?_) rfl (by kernel_rfl) (by kernel_rfl) (by kernel_rfl) (fun _ _ _ h=>h) (Or.inl ⟨by rfl,?_⟩) ⟨hc3,hBg2,hBg7,hBg9⟩ ?_
     rotate_left
     ·intro w hSw;clear hSw;go_simp;try with_reducible rfl
     go_simp
     refine wpAnyH_take (i:=13) (v:=?_) rfl (by kernel_rfl) (by kernel_rfl) (by kernel_rfl) (fun _ _ _ h=>h) (Or.inl ⟨by rfl,?_⟩) ⟨hc3,hBg2,hBg7,hBg9⟩ ?_
     rotate_left
     ·intro w hSw;clear hSw;go_simp;try with_reducible rfl
     go_simp
     refine wpAnyH_done (by kernel_rfl) ?_ _
     refine NoPanic.normal ?_
     go_wp2_with fail
     go_meet
     exact⟨rfl,rfl,X4.out⟩
   ·
    go_simp
    have hL:Below z2.heap.size z2 (z2.alloc (.cells Z31 5)):=(Below.refl _ _).alloc (Nat.le_refl _) _
    have X3:Hid (Bth B w0 (z2.alloc (.cells Z31 5)) gx g gr 2 b b' i n key top (star (blkA ga 32 [.int .i64 d,.int .i64 s,.int .i64 a,.int .u8 (dt:Int),.slice ca cl cc,.string p]) R)):=X2.out.below (HFA.out _) hL
    have hBg9:Blk (z2.alloc (.cells Z31 5)) z2.heap.size 5 Z31.toList:=Blk.new z2 5 _
    replace hBg2:=hBg2.alloc (.cells Z31 5)
    replace hc3:=X3.out.acell.2.2.2.1
    refine hK.out _ _ ⟨hc3,hBg2⟩ (fun hHeld=>?_)
    clear hK K hL X2
    generalize hz3:z2.alloc (.cells Z31 5)=z3 at*
    generalize hg9:z2.heap.size=g9 at*
    clear hz3 hg9
    refine wpAnyH_weaken (S':=fun z:World=>z.cell? ⟨ga,3,none⟩=some (.int .u8 (dt:Int))∧Blk z g2 5 (nr .u8 1 fun _=>dt)∧Blk z g9 5 Z31.toList) (fun z hz=>⟨hz.1,hz.2.1⟩) _ _ _ _ ?_
    refine wpAnyH_take (i:=10) (v:=.string (zB 31)) rfl (by kernel_rfl) (by kernel_rfl) (by kernel_rfl) (fun _ _ _ h=>h) (Or.inl ⟨by rfl,?_⟩) ⟨hc3,hBg2,hBg9⟩ ?_
    ·intro w hSw;have hcr:=pz31 (zcells HZ31.out.2 hSw.2.2);clear hSw;go_simp;try with_reducible rfl
    go_simp
    refine rdH 7 fun K hK=>?_
    ·
     go_simp
     have hL:Below z3.heap.size z3 (z3.alloc (.cells #[.int .u8 (dt:Int)] 5)):=(Below.refl _ _).alloc (Nat.le_refl _) _
     have X4:Hid (Bth B w0 (z3.alloc (.cells #[.int .u8 (dt:Int)] 5)) gx g gr 2 b b' i n key top (star (blkA ga 32 [.int .i64 d,.int .i64 s,.int .i64 a,.int .u8 (dt:Int),.slice ca cl cc,.string p]) R)):=X3.out.below (HFA.out _) hL
     have hBg7:Blk (z3.alloc (.cells #[.int .u8 (dt:Int)] 5)) z3.heap.size 5 (nr .u8 1 fun _=>dt):=Blk.new z3 5 _
     replace hBg2:=hBg2.alloc (.cells #[.int .u8 (dt:Int)] 5)
     replace hBg9:=hBg9.alloc (.cells #[.int .u8 (dt:Int)] 5)
     replace hc3:=X4.out.acell.2.2.2.1
     refine hK.out _ _ ⟨hc3,hBg2,hBg9⟩ (fun hHeld=>?_)
     clear hK K hL X3
     generalize hz4:z3.alloc (.cells #[.int .u8 (dt:Int)] 5)=z4 at*
     generalize hg7:z3.heap.size=g7 at*
     clear hz4 hg7
     refine wpAnyH_weaken (S':=fun z:World=>z.cell? ⟨ga,3,none⟩=some (.int .u8 (dt:Int))∧Blk z g2 5 (nr .u8 1 fun _=>dt)∧Blk z g9 5 Z31.toList∧Blk z g7 5 (nr .u8 1 fun _=>dt)) (fun z hz=>⟨hz.1,hz.2.1,hz.2.2.1⟩) _ _ _ _ ?_
     refine wpAnyH_take (i:=8) (v:=.string (tx 1 fun _=>dt)) rfl (by kernel_rfl) (by kernel_rfl) (by kernel_rfl) (fun _ _ _ h=>h) (Or.inl ⟨by rfl,?_⟩) ⟨hc3,hBg2,hBg9,hBg7⟩ ?_
     ·intro w hSw;have hcr:=conv_blk hSw.2.2.2 1 1 (Nat.le_refl _);clear hSw;go_simp;try with_reducible rfl
     go_simp
     refine wpAnyH_take (i:=11) (v:=?_) rfl (by kernel_rfl) (by kernel_rfl) (by kernel_rfl) (fun _ _ _ h=>h) (Or.inl ⟨by rfl,?_⟩) ⟨hc3,hBg2,hBg9,hBg7⟩ ?_
     rotate_left
     ·intro w hSw;clear hSw;go_simp;try with_reducible rfl
     go_simp
     refine wpAnyH_take (i:=13) (v:=?_) rfl (by kernel_rfl) (by kernel_rfl) (by kernel_rfl) (fun _ _ _ h=>h) (Or.inl ⟨by rfl,?_⟩) ⟨hc3,hBg2,hBg9,hBg7⟩ ?_
     rotate_left
     ·intro w hSw;clear hSw;go_simp;try with_reducible rfl
     go_simp
     refine wpAnyH_done (by kernel_rfl) ?_ _
     refine NoPanic.normal ?_
     go_wp2_with fail
     go_meet
     exact⟨rfl,rfl,X4.out⟩
  ·
   go_simp
   have hL:Below z1.heap.size z1 (z1.alloc (.cells #[.int .u8 (dt:Int)] 5)):=(Below.refl _ _).alloc (Nat.le_refl _) _
   have X2:Hid (Bth B w0 (z1.alloc (.cells #[.int .u8 (dt:Int)] 5)) gx g gr 2 b b' i n key top (star (blkA ga 32 [.int .i64 d,.int .i64 s,.int .i64 a,.int .u8 (dt:Int),.slice ca cl cc,.string p]) R)):=X1.out.below (HFA.out _) hL
   have hBg7:Blk (z1.alloc (.cells #[.int .u8 (dt:Int)] 5)) z1.heap.size 5 (nr .u8 1 fun _=>dt):=Blk.new z1 5 _
   replace hc3:=X2.out.acell.2.2.2.1
   refine hK.out _ _ hc3 (fun hHeld=>?_)
   clear hK K hL X1
   generalize hz2:z1.alloc (.cells #[.int .u8 (dt:Int)] 5)=z2 at*
   generalize hg7:z1.heap.size=g7 at*
   clear hz2 hg7
   refine wpAnyH_weaken (S':=fun z:World=>z.cell? ⟨ga,3,none⟩=some (.int .u8 (dt:Int))∧Blk z g7 5 (nr .u8 1 fun _=>dt)) (fun z hz=>hz.1) _ _ _ _ ?_
   refine wpAnyH_take (i:=8) (v:=.string (tx 1 fun _=>dt)) rfl (by kernel_rfl) (by kernel_rfl) (by kernel_rfl) (fun _ _ _ h=>h) (Or.inl ⟨by rfl,?_⟩) ⟨hc3,hBg7⟩ ?_
   ·intro w hSw;have hcr:=conv_blk hSw.2 1 1 (Nat.le_refl _);clear hSw;go_simp;try with_reducible rfl
   go_simp
   refine wpAnyH_ready (rs:=[2,9]) (by kernel_rfl) (by simp) (AllReadyH.cons rfl (fun K hK=>?_) (AllReadyH.cons rfl (fun K hK=>?_) AllReadyH.nil))
   ·
    go_simp
    have hL:Below z2.heap.size z2 (z2.alloc (.cells #[.int .u8 (dt:Int)] 5)):=(Below.refl _ _).alloc (Nat.le_refl _) _
    have X3:Hid (Bth B w0 (z2.alloc (.cells #[.int .u8 (dt:Int)] 5)) gx g gr 2 b b' i n key top (star (blkA ga 32 [.int .i64 d,.int .i64 s,.int .i64 a,.int .u8 (dt:Int),.slice ca cl cc,.string p]) R)):=X2.out.below (HFA.out _) hL
    have hBg2:Blk (z2.alloc (.cells #[.int .u8 (dt:Int)] 5)) z2.heap.size 5 (nr .u8 1 fun _=>dt):=Blk.new z2 5 _
    replace hBg7:=hBg7.alloc (.cells #[.int .u8 (dt:Int)] 5)
    replace hc3:=X3.out.acell.2.2.2.1
    refine hK.out _ _ ⟨hc3,hBg7⟩ (fun hHeld=>?_)
    clear hK K hL X2
    generalize hz3:z2.alloc (.cells #[.int .u8 (dt:Int)] 5)=z3 at*
    generalize hg2:z2.heap.size=g2 at*
    clear hz3 hg2
    refine wpAnyH_weaken (S':=fun z:World=>z.cell? ⟨ga,3,none⟩=some (.int .u8 (dt:Int))∧Blk z g7 5 (nr .u8 1 fun _=>dt)∧Blk z g2 5 (nr .u8 1 fun _=>dt)) (fun z hz=>⟨hz.1,hz.2.1⟩) _ _ _ _ ?_
    refine wpAnyH_take (i:=3) (v:=.string (tx 1 fun _=>dt)) rfl (by kernel_rfl) (by kernel_rfl) (by kernel_rfl) (fun _ _ _ h=>h) (Or.inl ⟨by rfl,?_⟩) ⟨hc3,hBg7,hBg2⟩ ?_
    ·intro w hSw;have hcr:=conv_blk hSw.2.2 1 1 (Nat.le_refl _);clear hSw;go_simp;try with_reducible rfl
    go_simp
    refine wpAnyH_take (i:=4) (v:=?_) rfl (by kernel_rfl) (by kernel_rfl) (by kernel_rfl) (fun _ _ _ h=>h) (Or.inl ⟨by rfl,?_⟩) ⟨hc3,hBg7,hBg2⟩ ?_
    rotate_left
    ·intro w hSw;clear hSw;go_simp;try with_reducible rfl
    go_simp
    refine wpAnyH_take (i:=12) (v:=?_) rfl (by kernel_rfl) (by kernel_rfl) (by kernel_rfl) (fun _ _ _ h=>h) (Or.inl ⟨by rfl,?_⟩) ⟨hc3,hBg7,hBg2⟩ ?_
    rotate_left
    ·intro w hSw;clear hSw;go_simp;try with_reducible rfl
    go_simp
    refine rdH 9 fun K hK=>?_
    ·
     go_simp
     have hL:Below z3.heap.size z3 (z3.alloc (.cells Z31 5)):=(Below.refl _ _).alloc (Nat.le_refl _) _
     have X4:Hid (Bth B w0 (z3.alloc (.cells Z31 5)) gx g gr 2 b b' i n key top (star (blkA ga 32 [.int .i64 d,.int .i64 s,.int .i64 a,.int .u8 (dt:Int),.slice ca cl cc,.string p]) R)):=X3.out.below (HFA.out _) hL
     have hBg9:Blk (z3.alloc (.cells Z31 5)) z3.heap.size 5 Z31.toList:=Blk.new z3 5 _
     replace hBg7:=hBg7.alloc (.cells Z31 5)
     replace hBg2:=hBg2.alloc (.cells Z31 5)
     replace hc3:=X4.out.acell.2.2.2.1
     refine hK.out _ _ ⟨hc3,hBg7,hBg2⟩ (fun hHeld=>?_)
     clear hK K hL X3
     generalize hz4:z3.alloc (.cells Z31 5)=z4 at*
     generalize hg9:z3.heap.size=g9 at*
     clear hz4 hg9
     refine wpAnyH_weaken (S':=fun z:World=>z.cell? ⟨ga,3,none⟩=some (.int .u8 (dt:Int))∧Blk z g7 5 (nr .u8 1 fun _=>dt)∧Blk z g2 5 (nr .u8 1 fun _=>dt)∧Blk z g9 5 Z31.toList) (fun z hz=>⟨hz.1,hz.2.1,hz.2.2.1⟩) _ _ _ _ ?_
     refine wpAnyH_take (i:=10) (v:=.string (zB 31)) rfl (by kernel_rfl) (by kernel_rfl) (by kernel_rfl) (fun _ _ _ h=>h) (Or.inl ⟨by rfl,?_⟩) ⟨hc3,hBg7,hBg2,hBg9⟩ ?_
     ·intro w hSw;have hcr:=pz31 (zcells HZ31.out.2 hSw.2.2.2);clear hSw;go_simp;try with_reducible rfl
     go_simp
     refine wpAnyH_take (i:=11) (v:=?_) rfl (by kernel_rfl) (by kernel_rfl) (by kernel_rfl) (fun _ _ _ h=>h) (Or.inl ⟨by rfl,?_⟩) ⟨hc3,hBg7,hBg2,hBg9⟩ ?_
     rotate_left
     ·intro w hSw;clear hSw;go_simp;try with_reducible rfl
     go_simp
     refine wpAnyH_take (i:=13) (v:=?_) rfl (by kernel_rfl) (by kernel_rfl) (by kernel_rfl) (fun _ _ _ h=>h) (Or.inl ⟨by rfl,?_⟩) ⟨hc3,hBg7,hBg2,hBg9⟩ ?_
     rotate_left
     ·intro w hSw;clear hSw;go_simp;try with_reducible rfl
     go_simp
     refine wpAnyH_done (by kernel_rfl) ?_ _
     refine NoPanic.normal ?_
     go_wp2_with fail
     go_meet
     exact⟨rfl,rfl,X4.out⟩
   ·
    go_simp
    have hL:Below z2.heap.size z2 (z2.alloc (.cells Z31 5)):=(Below.refl _ _).alloc (Nat.le_refl _) _
    have X3:Hid (Bth B w0 (z2.alloc (.cells Z31 5)) gx g gr 2 b b' i n key top (star (blkA ga 32 [.int .i64 d,.int .i64 s,.int .i64 a,.int .u8 (dt:Int),.slice ca cl cc,.string p]) R)):=X2.out.below (HFA.out _) hL
    have hBg9:Blk (z2.alloc (.cells Z31 5)) z2.heap.size 5 Z31.toList:=Blk.new z2 5 _
    replace hBg7:=hBg7.alloc (.cells Z31 5)
    replace hc3:=X3.out.acell.2.2.2.1
    refine hK.out _ _ ⟨hc3,hBg7⟩ (fun hHeld=>?_)
    clear hK K hL X2
    generalize hz3:z2.alloc (.cells Z31 5)=z3 at*
    generalize hg9:z2.heap.size=g9 at*
    clear hz3 hg9
    refine wpAnyH_weaken (S':=fun z:World=>z.cell? ⟨ga,3,none⟩=some (.int .u8 (dt:Int))∧Blk z g7 5 (nr .u8 1 fun _=>dt)∧Blk z g9 5 Z31.toList) (fun z hz=>⟨hz.1,hz.2.1⟩) _ _ _ _ ?_
    refine wpAnyH_take (i:=10) (v:=.string (zB 31)) rfl (by kernel_rfl) (by kernel_rfl) (by kernel_rfl) (fun _ _ _ h=>h) (Or.inl ⟨by rfl,?_⟩) ⟨hc3,hBg7,hBg9⟩ ?_
    ·intro w hSw;have hcr:=pz31 (zcells HZ31.out.2 hSw.2.2);clear hSw;go_simp;try with_reducible rfl
    go_simp
    refine wpAnyH_take (i:=11) (v:=?_) rfl (by kernel_rfl) (by kernel_rfl) (by kernel_rfl) (fun _ _ _ h=>h) (Or.inl ⟨by rfl,?_⟩) ⟨hc3,hBg7,hBg9⟩ ?_
    rotate_left
    ·intro w hSw;clear hSw;go_simp;try with_reducible rfl
    go_simp
    refine rdH 2 fun K hK=>?_
    ·
     go_simp
     have hL:Below z3.heap.size z3 (z3.alloc (.cells #[.int .u8 (dt:Int)] 5)):=(Below.refl _ _).alloc (Nat.le_refl _) _
     have X4:Hid (Bth B w0 (z3.alloc (.cells #[.int .u8 (dt:Int)] 5)) gx g gr 2 b b' i n key top (star (blkA ga 32 [.int .i64 d,.int .i64 s,.int .i64 a,.int .u8 (dt:Int),.slice ca cl cc,.string p]) R)):=X3.out.below (HFA.out _) hL
     have hBg2:Blk (z3.alloc (.cells #[.int .u8 (dt:Int)] 5)) z3.heap.size 5 (nr .u8 1 fun _=>dt):=Blk.new z3 5 _
     replace hBg7:=hBg7.alloc (.cells #[.int .u8 (dt:Int)] 5)
     replace hBg9:=hBg9.alloc (.cells #[.int .u8 (dt:Int)] 5)
     replace hc3:=X4.out.acell.2.2.2.1
     refine hK.out _ _ ⟨hc3,hBg7,hBg9⟩ (fun hHeld=>?_)
     clear hK K hL X3
     generalize hz4:z3.alloc (.cells #[.int .u8 (dt:Int)] 5)=z4 at*
     generalize hg2:z3.heap.size=g2 at*
     clear hz4 hg2
     refine wpAnyH_weaken (S':=fun z:World=>z.cell? ⟨ga,3,none⟩=some (.int .u8 (dt:Int))∧Blk z g7 5 (nr .u8 1 fun _=>dt)∧Blk z g9 5 Z31.toList∧Blk z g2 5 (nr .u8 1 fun _=>dt)) (fun z hz=>⟨hz.1,hz.2.1,hz.2.2.1⟩) _ _ _ _ ?_
     refine wpAnyH_take (i:=3) (v:=.string (tx 1 fun _=>dt)) rfl (by kernel_rfl) (by kernel_rfl) (by kernel_rfl) (fun _ _ _ h=>h) (Or.inl ⟨by rfl,?_⟩) ⟨hc3,hBg7,hBg9,hBg2⟩ ?_
     ·intro w hSw;have hcr:=conv_blk hSw.2.2.2 1 1 (Nat.le_refl _);clear hSw;go_simp;try with_reducible rfl
     go_simp
     refine wpAnyH_take (i:=4) (v:=?_) rfl (by kernel_rfl) (by kernel_rfl) (by kernel_rfl) (fun _ _ _ h=>h) (Or.inl ⟨by rfl,?_⟩) ⟨hc3,hBg7,hBg9,hBg2⟩ ?_
     rotate_left
     ·intro w hSw;clear hSw;go_simp;try with_reducible rfl
     go_simp
     refine wpAnyH_take (i:=12) (v:=?_) rfl (by kernel_rfl) (by kernel_rfl) (by kernel_rfl) (fun _ _ _ h=>h) (Or.inl ⟨by rfl,?_⟩) ⟨hc3,hBg7,hBg9,hBg2⟩ ?_
     rotate_left
     ·intro w hSw;clear hSw;go_simp;try with_reducible rfl
     go_simp
     refine wpAnyH_take (i:=13) (v:=?_) rfl (by kernel_rfl) (by kernel_rfl) (by kernel_rfl) (fun _ _ _ h=>h) (Or.inl ⟨by rfl,?_⟩) ⟨hc3,hBg7,hBg9,hBg2⟩ ?_
     rotate_left
     ·intro w hSw;clear hSw;go_simp;try with_reducible rfl
     go_simp
     refine wpAnyH_done (by kernel_rfl) ?_ _
     refine NoPanic.normal ?_
     go_wp2_with fail
     go_meet
     exact⟨rfl,rfl,X4.out⟩
  ·
   go_simp
   have hL:Below z1.heap.size z1 (z1.alloc (.cells Z31 5)):=(Below.refl _ _).alloc (Nat.le_refl _) _
   have X2:Hid (Bth B w0 (z1.alloc (.cells Z31 5)) gx g gr 2 b b' i n key top (star (blkA ga 32 [.int .i64 d,.int .i64 s,.int .i64 a,.int .u8 (dt:Int),.slice ca cl cc,.string p]) R)):=X1.out.below (HFA.out _) hL
   have hBg9:Blk (z1.alloc (.cells Z31 5)) z1.heap.size 5 Z31.toList:=Blk.new z1 5 _
   replace hc3:=X2.out.acell.2.2.2.1
   refine hK.out _ _ hc3 (fun hHeld=>?_)
   clear hK K hL X1
   generalize hz2:z1.alloc (.cells Z31 5)=z2 at*
   generalize hg9:z1.heap.size=g9 at*
   clear hz2 hg9
   refine wpAnyH_weaken (S':=fun z:World=>z.cell? ⟨ga,3,none⟩=some (.int .u8 (dt:Int))∧Blk z g9 5 Z31.toList) (fun z hz=>hz.1) _ _ _ _ ?_
   refine wpAnyH_take (i:=10) (v:=.string (zB 31)) rfl (by kernel_rfl) (by kernel_rfl) (by kernel_rfl) (fun _ _ _ h=>h) (Or.inl ⟨by rfl,?_⟩) ⟨hc3,hBg9⟩ ?_
   ·intro w hSw;have hcr:=pz31 (zcells HZ31.out.2 hSw.2);clear hSw;go_simp;try with_reducible rfl
   go_simp
   refine wpAnyH_ready (rs:=[2,7]) (by kernel_rfl) (by simp) (AllReadyH.cons rfl (fun K hK=>?_) (AllReadyH.cons rfl (fun K hK=>?_) AllReadyH.nil))
   ·
    go_simp
    have hL:Below z2.heap.size z2 (z2.alloc (.cells #[.int .u8 (dt:Int)] 5)):=(Below.refl _ _).alloc (Nat.le_refl _) _
    have X3:Hid (Bth B w0 (z2.alloc (.cells #[.int .u8 (dt:Int)] 5)) gx g gr 2 b b' i n key top (star (blkA ga 32 [.int .i64 d,.int .i64 s,.int .i64 a,.int .u8 (dt:Int),.slice ca cl cc,.string p]) R)):=X2.out.below (HFA.out _) hL
    have hBg2:Blk (z2.alloc (.cells #[.int .u8 (dt:Int)] 5)) z2.heap.size 5 (nr .u8 1 fun _=>dt):=Blk.new z2 5 _
    replace hBg9:=hBg9.alloc (.cells #[.int .u8 (dt:Int)] 5)
    replace hc3:=X3.out.acell.2.2.2.1
    refine hK.out _ _ ⟨hc3,hBg9⟩ (fun hHeld=>?_)
    clear hK K hL X2
    generalize hz3:z2.alloc (.cells #[.int .u8 (dt:Int)] 5)=z3 at*
    generalize hg2:z2.heap.size=g2 at*
    clear hz3 hg2
    refine wpAnyH_weaken (S':=fun z:World=>z.cell? ⟨ga,3,none⟩=some (.int .u8 (dt:Int))∧Blk z g9 5 Z31.toList∧Blk z g2 5 (nr .u8 1 fun _=>dt)) (fun z hz=>⟨hz.1,hz.2.1⟩) _ _ _ _ ?_
    refine wpAnyH_take (i:=3) (v:=.string (tx 1 fun _=>dt)) rfl (by kernel_rfl) (by kernel_rfl) (by kernel_rfl) (fun _ _ _ h=>h) (Or.inl ⟨by rfl,?_⟩) ⟨hc3,hBg9,hBg2⟩ ?_
    ·intro w hSw;have hcr:=conv_blk hSw.2.2 1 1 (Nat.le_refl _);clear hSw;go_simp;try with_reducible rfl
    go_simp
    refine wpAnyH_take (i:=4) (v:=?_) rfl (by kernel_rfl) (by kernel_rfl) (by kernel_rfl) (fun _ _ _ h=>h) (Or.inl ⟨by rfl,?_⟩) ⟨hc3,hBg9,hBg2⟩ ?_
    rotate_left
    ·intro w hSw;clear hSw;go_simp;try with_reducible rfl
    go_simp
    refine wpAnyH_take (i:=12) (v:=?_) rfl (by kernel_rfl) (by kernel_rfl) (by kernel_rfl) (fun _ _ _ h=>h) (Or.inl ⟨by rfl,?_⟩) ⟨hc3,hBg9,hBg2⟩ ?_
    rotate_left
    ·intro w hSw;clear hSw;go_simp;try with_reducible rfl
    go_simp
    refine rdH 7 fun K hK=>?_
    ·
     go_simp
     have hL:Below z3.heap.size z3 (z3.alloc (.cells #[.int .u8 (dt:Int)] 5)):=(Below.refl _ _).alloc (Nat.le_refl _) _
     have X4:Hid (Bth B w0 (z3.alloc (.cells #[.int .u8 (dt:Int)] 5)) gx g gr 2 b b' i n key top (star (blkA ga 32 [.int .i64 d,.int .i64 s,.int .i64 a,.int .u8 (dt:Int),.slice ca cl cc,.string p]) R)):=X3.out.below (HFA.out _) hL
     have hBg7:Blk (z3.alloc (.cells #[.int .u8 (dt:Int)] 5)) z3.heap.size 5 (nr .u8 1 fun _=>dt):=Blk.new z3 5 _
     replace hBg9:=hBg9.alloc (.cells #[.int .u8 (dt:Int)] 5)
     replace hBg2:=hBg2.alloc (.cells #[.int .u8 (dt:Int)] 5)
     replace hc3:=X4.out.acell.2.2.2.1
     refine hK.out _ _ ⟨hc3,hBg9,hBg2⟩ (fun hHeld=>?_)
     clear hK K hL X3
     generalize hz4:z3.alloc (.cells #[.int .u8 (dt:Int)] 5)=z4 at*
     generalize hg7:z3.heap.size=g7 at*
     clear hz4 hg7
     refine wpAnyH_weaken (S':=fun z:World=>z.cell? ⟨ga,3,none⟩=some (.int .u8 (dt:Int))∧Blk z g9 5 Z31.toList∧Blk z g2 5 (nr .u8 1 fun _=>dt)∧Blk z g7 5 (nr .u8 1 fun _=>dt)) (fun z hz=>⟨hz.1,hz.2.1,hz.2.2.1⟩) _ _ _ _ ?_
     refine wpAnyH_take (i:=8) (v:=.string (tx 1 fun _=>dt)) rfl (by kernel_rfl) (by kernel_rfl) (by kernel_rfl) (fun _ _ _ h=>h) (Or.inl ⟨by rfl,?_⟩) ⟨hc3,hBg9,hBg2,hBg7⟩ ?_
     ·intro w hSw;have hcr:=conv_blk hSw.2.2.2 1 1 (Nat.le_refl _);clear hSw;go_simp;try with_reducible rfl
     go_simp
     refine wpAnyH_take (i:=11) (v:=?_) rfl (by kernel_rfl) (by kernel_rfl) (by kernel_rfl) (fun _ _ _ h=>h) (Or.inl ⟨by rfl,?_⟩) ⟨hc3,hBg9,hBg2,hBg7⟩ ?_
     rotate_left
     ·intro w hSw;clear hSw;go_simp;try with_reducible rfl
     go_simp
     refine wpAnyH_take (i:=13) (v:=?_) rfl (by kernel_rfl) (by kernel_rfl) (by kernel_rfl) (fun _ _ _ h=>h) (Or.inl ⟨by rfl,?_⟩) ⟨hc3,hBg9,hBg2,hBg7⟩ ?_
     rotate_left
     ·intro w hSw;clear hSw;go_simp;try with_reducible rfl
     go_simp
     refine wpAnyH_done (by kernel_rfl) ?_ _
     refine NoPanic.normal ?_
     go_wp2_with fail
     go_meet
     exact⟨rfl,rfl,X4.out⟩
   ·
    go_simp
    have hL:Below z2.heap.size z2 (z2.alloc (.cells #[.int .u8 (dt:Int)] 5)):=(Below.refl _ _).alloc (Nat.le_refl _) _
    have X3:Hid (Bth B w0 (z2.alloc (.cells #[.int .u8 (dt:Int)] 5)) gx g gr 2 b b' i n key top (star (blkA ga 32 [.int .i64 d,.int .i64 s,.int .i64 a,.int .u8 (dt:Int),.slice ca cl cc,.string p]) R)):=X2.out.below (HFA.out _) hL
    have hBg7:Blk (z2.alloc (.cells #[.int .u8 (dt:Int)] 5)) z2.heap.size 5 (nr .u8 1 fun _=>dt):=Blk.new z2 5 _
    replace hBg9:=hBg9.alloc (.cells #[.int .u8 (dt:Int)] 5)
    replace hc3:=X3.out.acell.2.2.2.1
    refine hK.out _ _ ⟨hc3,hBg9⟩ (fun hHeld=>?_)
    clear hK K hL X2
    generalize hz3:z2.alloc (.cells #[.int .u8 (dt:Int)] 5)=z3 at*
    generalize hg7:z2.heap.size=g7 at*
    clear hz3 hg7
    refine wpAnyH_weaken (S':=fun z:World=>z.cell? ⟨ga,3,none⟩=some (.int .u8 (dt:Int))∧Blk z g9 5 Z31.toList∧Blk z g7 5 (nr .u8 1 fun _=>dt)) (fun z hz=>⟨hz.1,hz.2.1⟩) _ _ _ _ ?_
    refine wpAnyH_take (i:=8) (v:=.string (tx 1 fun _=>dt)) rfl (by kernel_rfl) (by kernel_rfl) (by kernel_rfl) (fun _ _ _ h=>h) (Or.inl ⟨by rfl,?_⟩) ⟨hc3,hBg9,hBg7⟩ ?_
    ·intro w hSw;have hcr:=conv_blk hSw.2.2 1 1 (Nat.le_refl _);clear hSw;go_simp;try with_reducible rfl
    go_simp
    refine wpAnyH_take (i:=11) (v:=?_) rfl (by kernel_rfl) (by kernel_rfl) (by kernel_rfl) (fun _ _ _ h=>h) (Or.inl ⟨by rfl,?_⟩) ⟨hc3,hBg9,hBg7⟩ ?_
    rotate_left
    ·intro w hSw;clear hSw;go_simp;try with_reducible rfl
    go_simp
    refine rdH 2 fun K hK=>?_
    ·
     go_simp
     have hL:Below z3.heap.size z3 (z3.alloc (.cells #[.int .u8 (dt:Int)] 5)):=(Below.refl _ _).alloc (Nat.le_refl _) _
     have X4:Hid (Bth B w0 (z3.alloc (.cells #[.int .u8 (dt:Int)] 5)) gx g gr 2 b b' i n key top (star (blkA ga 32 [.int .i64 d,.int .i64 s,.int .i64 a,.int .u8 (dt:Int),.slice ca cl cc,.string p]) R)):=X3.out.below (HFA.out _) hL
     have hBg2:Blk (z3.alloc (.cells #[.int .u8 (dt:Int)] 5)) z3.heap.size 5 (nr .u8 1 fun _=>dt):=Blk.new z3 5 _
     replace hBg9:=hBg9.alloc (.cells #[.int .u8 (dt:Int)] 5)
     replace hBg7:=hBg7.alloc (.cells #[.int .u8 (dt:Int)] 5)
     replace hc3:=X4.out.acell.2.2.2.1
     refine hK.out _ _ ⟨hc3,hBg9,hBg7⟩ (fun hHeld=>?_)
     clear hK K hL X3
     generalize hz4:z3.alloc (.cells #[.int .u8 (dt:Int)] 5)=z4 at*
     generalize hg2:z3.heap.size=g2 at*
     clear hz4 hg2
     refine wpAnyH_weaken (S':=fun z:World=>z.cell? ⟨ga,3,none⟩=some (.int .u8 (dt:Int))∧Blk z g9 5 Z31.toList∧Blk z g7 5 (nr .u8 1 fun _=>dt)∧Blk z g2 5 (nr .u8 1 fun _=>dt)) (fun z hz=>⟨hz.1,hz.2.1,hz.2.2.1⟩) _ _ _ _ ?_
     refine wpAnyH_take (i:=3) (v:=.string (tx 1 fun _=>dt)) rfl (by kernel_rfl) (by kernel_rfl) (by kernel_rfl) (fun _ _ _ h=>h) (Or.inl ⟨by rfl,?_⟩) ⟨hc3,hBg9,hBg7,hBg2⟩ ?_
     ·intro w hSw;have hcr:=conv_blk hSw.2.2.2 1 1 (Nat.le_refl _);clear hSw;go_simp;try with_reducible rfl
     go_simp
     refine wpAnyH_take (i:=4) (v:=?_) rfl (by kernel_rfl) (by kernel_rfl) (by kernel_rfl) (fun _ _ _ h=>h) (Or.inl ⟨by rfl,?_⟩) ⟨hc3,hBg9,hBg7,hBg2⟩ ?_
     rotate_left
     ·intro w hSw;clear hSw;go_simp;try with_reducible rfl
     go_simp
     refine wpAnyH_take (i:=12) (v:=?_) rfl (by kernel_rfl) (by kernel_rfl) (by kernel_rfl) (fun _ _ _ h=>h) (Or.inl ⟨by rfl,?_⟩) ⟨hc3,hBg9,hBg7,hBg2⟩ ?_
     rotate_left
     ·intro w hSw;clear hSw;go_simp;try with_reducible rfl
     go_simp
     refine wpAnyH_take (i:=13) (v:=?_) rfl (by kernel_rfl) (by kernel_rfl) (by kernel_rfl) (fun _ _ _ h=>h) (Or.inl ⟨by rfl,?_⟩) ⟨hc3,hBg9,hBg7,hBg2⟩ ?_
     rotate_left
     ·intro w hSw;clear hSw;go_simp;try with_reducible rfl
     go_simp
     refine wpAnyH_done (by kernel_rfl) ?_ _
     refine NoPanic.normal ?_
     go_wp2_with fail
     go_meet
     exact⟨rfl,rfl,X4.out⟩
 case rest=>
  obtain⟨rfl,rfl,hX2⟩:=hcut
  have X2:Hid (Bth B w0 wc gx g gr 2 b b' i n key top (star (blkA ga 32 [.int .i64 d,.int .i64 s,.int .i64 a,.int .u8 (dt:Int),.slice ca cl cc,.string p]) R)):=hX2
  clear hX2 X0 HZ31 hm31'
  have hpl:(((tx 1 fun _=>dt)++zB 31)).size=32:=by rw[ByteArray.size_append,tx_size,zB_size]
  generalize((tx 1 fun _=>dt)++zB 31)=pl at*
  generalize((tx 1 fun _=>dt)++⟨#[49,50,51,52,53,54,55,56,57,48,49]⟩:ByteArray)=non at*
  clear hsz1 hsz2
  obtain⟨T,E,hP,hQ⟩:=p_seal (g:=g) (gr:=gr) (i:=i) (n:=n) (key:=key) (b:=b) (b':=b') s non pl hpl
  have HP:Hid _:=hP
  have HQ:Hid _:=hQ
  clear hP hQ hpl
  have HCH:Hid (∀ga y a1 a2,Bth B w0 y gx g gr 2 b b' i n key top (star (blkA ga 32 [.int .i64 d,.int .i64 s,.int .i64 a,.int .u8 (dt:Int),.slice ca cl cc,.string p]) R)→Cg y 49 a1 [(s,T)]→Cg y 77 a2 [(s,T)]→Calls Tryz.prog 29 #[.pointer (some ⟨gx,0,none⟩),.slice a1 1 1,.slice a2 1 1] y fun e w'=>e=.returned (.bool true)∧Py B w0 w' gx g gr i n key (m+50) R):=fun ga y a1 a2 hy k1 k2=>
   (change_any (cs:=[(s,T)]) (HFA.out ga) hy HS.out HO.out HF.out (by have:=HM.out;omega) HT.out (by show 1≤100;decide) k1 k2).mono fun e w' ⟨h1,h2⟩=>⟨h1,h2.drop.up (by omega)⟩
  have h77:=H77.out
  obtain⟨c0,c1,c2,c3,c4,c5⟩:=X2.out.acell
  go_wp2_with fail
  clear c0 c1 c2 c3 c4 c5 h77
  have X3:Hid (Bth B w0 wc.drew gx g gr 2 b b' i n key top (star (blkA ga 32 [.int .i64 d,.int .i64 s,.int .i64 a,.int .u8 (dt:Int),.slice ca cl cc,.string p]) R)):=X2.out.below (HFA.out _) (Below.refl _ _).drew
  clear X2
  refine wp_region_noPanic ?_
  refine wp_region_held_drew (S:=fun z:World=>z.cell? ⟨gx,0,none⟩=some (.pointer (some ⟨g,0,none⟩))∧z.cell? ⟨gx,1,none⟩=some (.int .i64 i)∧z.cell? ⟨gx,2,none⟩=some (.int .i64 n)∧z.cell? ⟨gx,3,none⟩=some (.string key)∧z.cell? ⟨gx,4,none⟩=some (.pointer (some ⟨gr,0,none⟩))∧z.cell? ⟨gx,5,none⟩=some (.int .i64 i)∧z.cell? ⟨gx,6,none⟩=some (.int .i64 n)∧z.cell? ⟨gx,7,none⟩=some (.string key)∧z.cell? ⟨gx,8,none⟩=some (.string top)∧z.cell? ⟨ga,0,none⟩=some (.int .i64 d)∧z.cell? ⟨ga,1,none⟩=some (.int .i64 s)∧z.cell? ⟨ga,2,none⟩=some (.int .i64 a)∧z.cell? ⟨ga,3,none⟩=some (.int .u8 (dt:Int))∧z.cell? ⟨ga,4,none⟩=some (.slice ca cl cc)∧z.cell? ⟨ga,5,none⟩=some (.string p)) (by kernel_rfl) X3.out.cells15 (fun hHeld=>?_)
  refine tkH 0 ?_;go_simp
  refine tkH 1 ?_;go_simp
  refine tkH 2 ?_;go_simp
  refine tkH 3 ?_;go_simp
  refine tkH 4 ?_;go_simp
  refine tkH 5 ?_;go_simp
  refine tkH 6 ?_;go_simp
  refine tkH 7 ?_;go_simp
  refine rdH 8 fun K hK=>?_
  go_simp
  go_at_call 12
  refine(HP.out _ X3.out.bk).mono ?_
  rintro x w1 ⟨rfl,h1⟩
  have X4:Hid (Bth B w0 w1 gx g gr 2 b b' i n key top (star (blkA ga 32 [.int .i64 d,.int .i64 s,.int .i64 a,.int .u8 (dt:Int),.slice ca cl cc,.string p]) R)):=X3.out.below (HFA.out _) h1
  clear h1 X3
  refine hK.out _ _ X4.out.cells15 (fun hHeld=>?_)
  clear hK K
  have hsc1:=X4.out.cells15
  refine tkH 9 ?_;go_simp
  refine tkH 10 ?_;go_simp
  refine tkH 11 ?_;go_simp
  refine tkH 12 ?_;go_simp
  refine tkH 13 ?_;go_simp
  refine wpAnyH_done (by kernel_rfl) ?_ _
  refine NoPanic.normal ?_
  clear hsc1
  go_wp2_with fail
  have X5:Hid (Bth B w0 w1.drew gx g gr 2 b b' i n key top (star (blkA ga 32 [.int .i64 d,.int .i64 s,.int .i64 a,.int .u8 (dt:Int),.slice ca cl cc,.string p]) R)):=X4.out.below (HFA.out _) (Below.refl _ _).drew
  clear X4
  refine wp_region_noPanic ?_
  refine wp_region_held_drew (S:=fun z:World=>z.cell? ⟨gx,0,none⟩=some (.pointer (some ⟨g,0,none⟩))∧z.cell? ⟨gx,1,none⟩=some (.int .i64 i)∧z.cell? ⟨gx,2,none⟩=some (.int .i64 n)∧z.cell? ⟨gx,3,none⟩=some (.string key)∧z.cell? ⟨gx,4,none⟩=some (.pointer (some ⟨gr,0,none⟩))∧z.cell? ⟨gx,5,none⟩=some (.int .i64 i)∧z.cell? ⟨gx,6,none⟩=some (.int .i64 n)∧z.cell? ⟨gx,7,none⟩=some (.string key)∧z.cell? ⟨gx,8,none⟩=some (.string top)∧z.cell? ⟨ga,0,none⟩=some (.int .i64 d)∧z.cell? ⟨ga,1,none⟩=some (.int .i64 s)∧z.cell? ⟨ga,2,none⟩=some (.int .i64 a)∧z.cell? ⟨ga,3,none⟩=some (.int .u8 (dt:Int))∧z.cell? ⟨ga,4,none⟩=some (.slice ca cl cc)∧z.cell? ⟨ga,5,none⟩=some (.string p)) (by kernel_rfl) X5.out.cells15 (fun hHeld=>?_)
  refine tkH 0 ?_;go_simp
  refine tkH 1 ?_;go_simp
  refine tkH 2 ?_;go_simp
  refine tkH 3 ?_;go_simp
  refine tkH 4 ?_;go_simp
  refine tkH 5 ?_;go_simp
  refine tkH 6 ?_;go_simp
  refine tkH 7 ?_;go_simp
  refine rdH 8 fun K hK=>?_
  go_simp
  go_at_call 37
  refine(HQ.out _ X5.out.rk).mono ?_
  rintro x w2 ⟨rfl,h1⟩
  have X6:Hid (Bth B w0 w2 gx g gr 2 b b' i n key top (star (blkA ga 32 [.int .i64 d,.int .i64 s,.int .i64 a,.int .u8 (dt:Int),.slice ca cl cc,.string p]) R)):=X5.out.below (HFA.out _) h1
  clear h1 X5
  refine hK.out _ _ X6.out.cells15 (fun hHeld=>?_)
  clear hK K
  have hsc3:=X6.out.cells15
  refine tkH 9 ?_;go_simp
  refine tkH 10 ?_;go_simp
  refine tkH 11 ?_;go_simp
  refine tkH 12 ?_;go_simp
  refine tkH 13 ?_;go_simp
  refine wpAnyH_done (by kernel_rfl) ?_ _
  refine NoPanic.normal ?_
  clear hsc3
  by_cases hE:E=0
  ·subst hE
   obtain⟨c0,c1,c2,c3,c4,c5⟩:=X6.out.acell
   have hL1:Below w2.heap.size w2 (w2.alloc (.cells #[.int .i64 s,.string T] 49)):=(Below.refl _ _).alloc (Nat.le_refl _) _
   have hL2:Below (w2.alloc (.cells #[.int .i64 s,.string T] 49)).heap.size (w2.alloc (.cells #[.int .i64 s,.string T] 49)) ((w2.alloc (.cells #[.int .i64 s,.string T] 49)).alloc (.cells #[.int .i64 s,.string T] 77)):=(Below.refl _ _).alloc (Nat.le_refl _) _
   have hk1:=(X6.out.below (HFA.out _) hL1).acell.2.1
   have HC9:Calls Tryz.prog 29 #[.pointer (some ⟨gx,0,none⟩),.slice (some ⟨w2.heap.size,0,none⟩) 1 1,.slice (some ⟨(w2.alloc (.cells #[.int .i64 s,.string T] 49)).heap.size,0,none⟩) 1 1] ((w2.alloc (.cells #[.int .i64 s,.string T] 49)).alloc (.cells #[.int .i64 s,.string T] 77)) fun e w'=>e=.returned (.bool true)∧Py B w0 w' gx g gr i n key (m+50) R:=HCH.out ga _ _ _ (X6.out.below (HFA.out _) (hL1.trans (hL2.mono hL1.size))) ((Cg.one2 w2 49 s T).below hL2) (Cg.one2 (w2.alloc (.cells #[.int .i64 s,.string T] 49)) 77 s T)
   rw[World.size_alloc]at HC9
   have HC:Hid (Calls Tryz.prog 29 #[.pointer (some ⟨gx,0,none⟩),.slice (some ⟨w2.heap.size,0,none⟩) 1 1,.slice (some ⟨w2.heap.size+1,0,none⟩) 1 1] ((w2.alloc (.cells #[.int .i64 s,.string T] 49)).alloc (.cells #[.int .i64 s,.string T] 77)) fun e w'=>e=.returned (.bool true)∧Py B w0 w' gx g gr i n key (m+50) R):=HC9
   clear HC9 hL1 hL2 HCH
   go_wp2_with(go_at_call 29;refine HC.out.mono ?_;rintro x w5 ⟨rfl,h5⟩;have H5:Hid (Py B w0 w5 gx g gr i n key (m+50) R):=h5;clear h5 HC)
   go_ret
   exact⟨rfl,H5.out⟩
  have hE1:(E !=0)=true:=by simpa using hE
  go_wp2_with fail
  go_ret
  exact⟨rfl,_,_,_,X6.out.dropR,HS.out,HO.out,HF.out.up (by omega)⟩
end
end Go.Proofs.YtnhkkhiajiiahaaGreatDoor
