import Derived.Test.YtnhkkhiajiiahaaGreatDoorSlPy2
import Derived.Test.YtnhkkhiajiiahaaGreatDoorSlArM
namespace Go.Proofs.YtnhkkhiajiiahaaGreatDoor
open Go.RowKit Go.PlainAid
set_option linter.unusedVariables false
set_option maxRecDepth 20000
section
variable {B:Nat}{w0 z z':World}{gx g gr ga:Nat}{b b':Bs}{i n:Int}{key top:ByteArray}{R:Asn}{d s a t:Int}{ca:Option Addr}{cl cc:Nat}{p:ByteArray}
theorem Bth.box (hR:Firm R)(h:Bth B w0 z gx g gr 2 b b' i n key top R):Bth B w0 (z.alloc (.cells #[.int .i64 d,.int .i64 s,.int .i64 a,.int .u8 t,.slice ca cl cc,.string p] 32)) gx g gr 2 b b' i n key top (star (blkA z.heap.size 32 [.int .i64 d,.int .i64 s,.int .i64 a,.int .u8 t,.slice ca cl cc,.string p]) R):=(Hold.newBlk (bth_firm hR) h 32 #[.int .i64 d,.int .i64 s,.int .i64 a,.int .u8 t,.slice ca cl cc,.string p]).back4
theorem Bth.acell (h:Bth B w0 z gx g gr 2 b b' i n key top (star (blkA ga 32 [.int .i64 d,.int .i64 s,.int .i64 a,.int .u8 t,.slice ca cl cc,.string p]) R)):z.cell? ⟨ga,0,none⟩=some (.int .i64 d)∧z.cell? ⟨ga,1,none⟩=some (.int .i64 s)∧z.cell? ⟨ga,2,none⟩=some (.int .i64 a)∧z.cell? ⟨ga,3,none⟩=some (.int .u8 t)∧z.cell? ⟨ga,4,none⟩=some (.slice ca cl cc)∧z.cell? ⟨ga,5,none⟩=some (.string p):=by
 have h1:Blk z ga 32 [.int .i64 d,.int .i64 s,.int .i64 a,.int .u8 t,.slice ca cl cc,.string p]:=(Hold.pull4 h).blk
 exact⟨h1.cell (i:=0) rfl,h1.cell (i:=1) rfl,h1.cell (i:=2) rfl,h1.cell (i:=3) rfl,h1.cell (i:=4) rfl,h1.cell (i:=5) rfl⟩
theorem Bth.cells15 (h:Bth B w0 z gx g gr 2 b b' i n key top (star (blkA ga 32 [.int .i64 d,.int .i64 s,.int .i64 a,.int .u8 t,.slice ca cl cc,.string p]) R)):(fun z:World=>z.cell? ⟨gx,0,none⟩=some (.pointer (some ⟨g,0,none⟩))∧z.cell? ⟨gx,1,none⟩=some (.int .i64 i)∧z.cell? ⟨gx,2,none⟩=some (.int .i64 n)∧z.cell? ⟨gx,3,none⟩=some (.string key)∧z.cell? ⟨gx,4,none⟩=some (.pointer (some ⟨gr,0,none⟩))∧z.cell? ⟨gx,5,none⟩=some (.int .i64 i)∧z.cell? ⟨gx,6,none⟩=some (.int .i64 n)∧z.cell? ⟨gx,7,none⟩=some (.string key)∧z.cell? ⟨gx,8,none⟩=some (.string top)∧z.cell? ⟨ga,0,none⟩=some (.int .i64 d)∧z.cell? ⟨ga,1,none⟩=some (.int .i64 s)∧z.cell? ⟨ga,2,none⟩=some (.int .i64 a)∧z.cell? ⟨ga,3,none⟩=some (.int .u8 t)∧z.cell? ⟨ga,4,none⟩=some (.slice ca cl cc)∧z.cell? ⟨ga,5,none⟩=some (.string p)) z:=by
 obtain⟨d0,d1,d2,d3,d4,d5,d6,d7,d8⟩:=h.cells9
 exact⟨d0,d1,d2,d3,d4,d5,d6,d7,d8,h.acell⟩
theorem Few17.q {m:Nat}(h:Few17 2 b m)(hm:m≤40000):∀j,j<2→(b.D j).q.length≤1000000:=fun j hj=>Nat.le_trans (h.2 j hj) (by omega)
theorem Bth.tamper2 (hR:Firm R)(h:Bth B w0 z gx g gr 2 b b' i n key top R){j:Nat}(hj:j<2)(at_:Int)(s:ByteArray)(hq:(b.D j).q.length≤1000000):
 ∃gd cap,(z.cell? ⟨gr,0,none⟩=some (.slice (some ⟨gd,0,none⟩) 2 cap)∧z.cell? ⟨gd,j,none⟩=some (.pointer (some ⟨(b'.D j).g,0,none⟩)))∧
 Calls Tryz.prog 19 #[.pointer (some ⟨(b.D j).g,0,none⟩),.int .i64 at_,.string s] z fun e w'=>e=.returned (.bool (tampB (b.D j).dead (b.D j).n at_ s))∧Bth B w0 w' gx g gr 2 (tpB b j at_ s) b' i n key top R∧w'.cell? ⟨gr,0,none⟩=some (.slice (some ⟨gd,0,none⟩) 2 cap)∧w'.cell? ⟨gd,j,none⟩=some (.pointer (some ⟨(b'.D j).g,0,none⟩)):=by
 have h0:Hold B w0 z (star (rkA gr 2 b') (star (blkA gx 46 (btL g gr i n key top)) (star (bkA g 2 b) R))):=Hold.pull3 h
 obtain⟨gd,cap,hb,hr,h1⟩:=h0.rbkTop
 have hfit:=h0.rbkFit
 refine⟨gd,cap,⟨hb.cell (i:=0) rfl,by rw[World.ownsRow.cellAt hr j (by omega),ptrs_at 2 _ j hj]⟩,?_⟩
 have h2:=Hold.pull4 h1
 refine(h_tamper ((firm_bnkX j).star ((firm_blk _ _ _).star (((firm_row _ _ _ _).star (firm_each fun _=>firm_rdk _)).star ((firm_blk _ _ _).star hR)))) (h2.openD j hj) at_ s hq).mono ?_
 rintro e w' ⟨rfl,h3⟩
 have h4:=Hold.back4 (Hold.shutD j hj (tampD (b.D j) at_ s) rfl h3)
 have hb':=h4.blk
 have h5:=h4.ofRTop hfit gd cap rfl
 have hr':w'.ownsRow 0 81 1 (.slice (some ⟨gd,0,none⟩) 2 cap) 2 (ptrs 2 b'.D):=by
  have h6:=h4.right.assoc
  exact h6.row
 refine⟨rfl,Hold.back3 h5,hb'.cell (i:=0) rfl,?_⟩
 rw[World.ownsRow.cellAt hr' j (by omega),ptrs_at 2 _ j hj]
end
end Go.Proofs.YtnhkkhiajiiahaaGreatDoor
