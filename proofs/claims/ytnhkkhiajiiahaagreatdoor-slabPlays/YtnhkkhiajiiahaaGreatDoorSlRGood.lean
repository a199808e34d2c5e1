import Derived.Test.YtnhkkhiajiiahaaGreatDoorSlBlank
import Derived.BigRegion
namespace Go.Proofs.YtnhkkhiajiiahaaGreatDoor
open Go.RowKit Go.PlainAid
set_option linter.unusedVariables false
set_option maxRecDepth 20000
def RGoodIs (w:World)(sv:Value)(b:Bool):Prop:=∀z,Below w.heap.size w z→Calls Tryz.prog 63 #[sv] z fun e w'=>e=.returned (.bool b)∧Below z.heap.size z w'
theorem RGoodIs.below {w w':World}{sv:Value}{b:Bool}(h:RGoodIs w sv b)(hb:Below w.heap.size w w'):RGoodIs w' sv b:=fun z hz=>h z (hb.trans (hz.mono hb.size))
theorem Tryz.size44:(Tryz.prog.info? 44).map (·.size)=some 4:=by kernel_rfl
theorem Rk.top {w:World}{g N:Nat}{D:Nat→Dk}{s:Nat}{p:Option Nat}(h:Rk w g N D s p):∃gd cap,w.cell? ⟨g,0,none⟩=some (.slice (some ⟨gd,0,none⟩) N cap)∧N≤12:=by
 obtain⟨gd,cap,h1,h2,h3⟩:=h.hold.rbkTop
 exact⟨gd,cap,h1.cell (i:=0) rfl,h.hold.rbkN.2⟩
set_option maxHeartbeats 600000 in
theorem rgood_any {w:World}{g N:Nat}{D:Nat→Dk}{s:Nat}{p:Option Nat}(h:Rk w g N D s p)(i n:Int)(key:ByteArray):Calls Tryz.prog 63 #[slV (.pointer (some ⟨g,0,none⟩)) i n key] w fun e w'=>e=.returned (.bool (decide (shpS n key∧¬Out N i)))∧Below w.heap.size w w':=by
 have hb:Hid (Below w.heap.size w (w.alloc (.cells #[.pointer (some ⟨g,0,none⟩),.int .i64 i,.int .i64 n,.string key] 44))):=(Below.refl _ _).alloc (Nat.le_refl _) _
 have hB:=Blk.box w 44 [.pointer (some ⟨g,0,none⟩),.int .i64 i,.int .i64 n,.string key]
 obtain⟨gd,cap,hcd,hN⟩:=(h.below hb.out).top
 have hde:Hid (∀z,Calls Tryz.prog 106 #[.int .i64 n] z fun e w'=>e=.returned (.int .i64 (depI n))∧w'=z):=fun z=>rDepth_any n z
 have c0:=hB.cell (i:=0) rfl
 have c1:=hB.cell (i:=1) rfl
 have c2:=hB.cell (i:=2) rfl
 have c3:=hB.cell (i:=3) rfl
 obtain⟨b,hb2⟩:∃b,decide (shpS n key∧¬Out N i)=b:=⟨_,rfl⟩
 rw[hb2]
 have HB:Hid (decide (shpS n key∧¬Out N i)=b):=hb2
 clear hb2 h hB
 go_enter Tryz.func63,Tryz.ntmps63
 generalize hw1:w.alloc (.cells #[.pointer (some ⟨g,0,none⟩),.int .i64 i,.int .i64 n,.string key] 44)=w1 at*
 by_cases h1:n=2∨n=4∨n=8∨n=16
 ·have hd:(0:Int)<depI n:=by
   obtain⟨d,d1,d2,e⟩:=depI_yes n h1
   rw[e,depI_pow d d1 d2];omega
  generalize depI n=dd at*
  by_cases h2:key.size=32
  ·have h2':(key.size:Int)=32:=by omega
   by_cases h3:i<0
   ·have HF:Hid (b=false):=HB.out.symm.trans (decide_eq_false (fun h=>h.2 (.inl h3)))
    have h3':¬(0:Int)≤i:=by omega
    have h3d:decide ((0:Int)≤i)=false:=decide_eq_false h3'
    go_wp2_with(go_at_call 106;refine(hde.out _).mono ?_;rintro e w2 ⟨rfl,hw⟩;rw[hw];clear hw w2)
    go_quiet(fail)
    go_wp2
    go_ret
    exact⟨by rw[HF.out];rfl,below_drewN hb.out _⟩
   have h3':(0:Int)≤i:=by omega
   by_cases h4:i<(N:Int)
   ·have HF:Hid (b=true):=HB.out.symm.trans (decide_eq_true ⟨⟨h1,h2⟩,fun h=>by rcases h with h|h<;>omega⟩)
    go_wp2_with(go_at_call 106;refine(hde.out _).mono ?_;rintro e w2 ⟨rfl,hw⟩;rw[hw];clear hw w2)
    go_quiet(fail)
    go_wp2
    go_ret
    exact⟨by rw[HF.out];rfl,below_drewN hb.out _⟩
   have HF:Hid (b=false):=HB.out.symm.trans (decide_eq_false (fun h=>h.2 (.inr (by omega))))
   have h4d:decide (i<(N:Int))=false:=decide_eq_false h4
   go_wp2_with(go_at_call 106;refine(hde.out _).mono ?_;rintro e w2 ⟨rfl,hw⟩;rw[hw];clear hw w2)
   go_quiet(fail)
   go_wp2
   go_ret
   exact⟨by rw[HF.out];rfl,below_drewN hb.out _⟩
  have HF:Hid (b=false):=HB.out.symm.trans (decide_eq_false (fun h=>h2 h.1.2))
  have h2':¬(key.size:Int)=32:=by omega
  have h2d:decide ((key.size:Int)=32)=false:=decide_eq_false h2'
  have h2e:((key.size:Int)==32)=false:=by simpa using h2'
  go_wp2_with(go_at_call 106;refine(hde.out _).mono ?_;rintro e w2 ⟨rfl,hw⟩;rw[hw];clear hw w2)
  go_quiet(fail)
  go_wp2
  go_ret
  exact⟨by rw[HF.out];rfl,below_drewN hb.out _⟩
 have HF:Hid (b=false):=HB.out.symm.trans (decide_eq_false (fun h=>h1 h.1.1))
 have hd:depI n=0:=depI_no n h1
 rw[hd]at hde
 go_wp2_with(go_at_call 106;refine(hde.out _).mono ?_;rintro e w2 ⟨rfl,hw⟩;rw[hw];clear hw w2)
 go_quiet(fail)
 go_wp2
 go_ret
 exact⟨by rw[HF.out];rfl,below_drewN hb.out _⟩
theorem rgood_bank {w:World}{g N:Nat}{D:Nat→Dk}{s:Nat}{p:Option Nat}(h:Rk w g N D s p)(i n:Int)(key:ByteArray):RGoodIs w (slV (.pointer (some ⟨g,0,none⟩)) i n key) (decide (shpS n key∧¬Out N i)):=fun z hz=>rgood_any (h.below hz) i n key
end Go.Proofs.YtnhkkhiajiiahaaGreatDoor
