import Derived.Test.YtnhkkhiajiiahaaGreatDoorSlRBlank
namespace Go.Proofs.YtnhkkhiajiiahaaGreatDoor
open Go.RowKit Go.PlainAid
set_option linter.unusedVariables false
set_option maxRecDepth 20000
set_option maxHeartbeats 1000000 in
theorem rwith_any (pv:Value)(i k:Nat)(n:Int)(key:ByteArray)(hi:i≤1000)(hk:k≤1000)(w:World):Calls Tryz.prog 73 #[slV pv (i:Int) n key,.int .i64 (k:Int)] w fun e w'=>e=.returned (.string (plc i k))∧Below w.heap.size w w':=by
 have hb:Hid (Below w.heap.size w (w.alloc (.cells #[pv,.int .i64 i,.int .i64 n,.string key] 44))):=(Below.refl _ _).alloc (Nat.le_refl _) _
 have h1:Hid (∀z,Calls Tryz.prog 117 #[.int .u64 (i:Int)] z fun e w'=>e=.returned (.string (numB (i:Int)))∧Below z.heap.size z w'):=fun z=>rnumF_any i (by omega) z
 have h2:Hid (∀z,Calls Tryz.prog 117 #[.int .u64 (k:Int)] z fun e w'=>e=.returned (.string (numB (k:Int)))∧Below z.heap.size z w'):=fun z=>rnumF_any k (by omega) z
 have ei:(i:Int)%18446744073709551616=(i:Int):=by omega
 have ek:(k:Int)%18446744073709551616=(k:Int):=by omega
 have HP:Hid (plc i k=numB (i:Int)++numB (k:Int)):=rfl
 have sA:=numB_size (i:Int)
 have sB:=numB_size (k:Int)
 generalize plc i k=P at*
 generalize numB (i:Int)=A at*
 generalize numB (k:Int)=Bb at*
 have tok:True:=trivial
 go_enter Tryz.func73,Tryz.ntmps73
 go_wp2_with(first
  |(go_at_call 117;have _t:=tok;refine(h1.out _).mono ?_;rintro e w1 ⟨rfl,hw⟩;have L1:Hid (Below w.heap.size w w1):=hb.out.trans (hw.mono hb.out.size);clear hw tok)
  |(go_at_call 117;refine(h2.out _).mono ?_;rintro e w2 ⟨rfl,hw⟩;have L2:Hid (Below w.heap.size w w2):=L1.out.trans (hw.mono L1.out.size);clear hw))
 go_ret
 exact⟨by rw[HP.out];rfl,L2.out⟩
set_option maxHeartbeats 1000000 in
theorem rseal_form {w:World}{pv:Value}{i n:Int}{key:ByteArray}(hg:RGoodIs w (slV pv i n key) false)(k:Int)(nonce plain:ByteArray):Calls Tryz.prog 37 #[slV pv i n key,.int .i64 k,.string nonce,.string plain] w fun e w'=>e=.returned (.tuple #[.string noB,.int .i64 4])∧Below w.heap.size w w':=by
 have hb:Hid (Below w.heap.size w (w.alloc (.cells #[pv,.int .i64 i,.int .i64 n,.string key] 44))):=(Below.refl _ _).alloc (Nat.le_refl _) _
 have hB:Hid (Blk _ _ _ _):=Blk.box w 44 [pv,.int .i64 i,.int .i64 n,.string key]
 have hc:Hid (Calls _ _ _ _ _):=hg _ hb.out
 have hz:Hid ((Tryz.prog.info? 44).map (·.size)=some 4):=Tryz.size44
 have tokA:True:=trivial
 go_enter Tryz.func37,Tryz.ntmps37
 go_wp2_with(first
  |(have _t:=tokA;refine wpList_load_blk rfl 44 _ rfl w.heap.size rfl 44 [pv,.int .i64 i,.int .i64 n,.string key] _ hB.out Tryz.underlying44 rfl hz.out ?_;clear tokA)
  |(go_at_call 63;refine hc.out.mono ?_;rintro e w1 ⟨rfl,hw⟩;have L1:Hid (Below w.heap.size w w1):=hb.out.trans (hw.mono hb.out.size);have hB1:Hid (Blk w1 w.heap.size 44 [pv,.int .i64 i,.int .i64 n,.string key]):=hB.out.below hw (by simp);have c2:=hB1.out.cell (i:=2) rfl;have c3:=hB1.out.cell (i:=3) rfl;clear hw hc))
 go_ret2
 exact⟨rfl,L1.out⟩
set_option maxHeartbeats 1000000 in
theorem rseal_arg {w:World}{pv:Value}{i n:Int}{key:ByteArray}(hg:RGoodIs w (slV pv i n key) true){k:Int}(hk:slE17 n k≠0)(nonce plain:ByteArray):Calls Tryz.prog 37 #[slV pv i n key,.int .i64 k,.string nonce,.string plain] w fun e w'=>e=.returned (.tuple #[.string noB,.int .i64 2])∧Below w.heap.size w w':=by
 have hb:Hid (Below w.heap.size w (w.alloc (.cells #[pv,.int .i64 i,.int .i64 n,.string key] 44))):=(Below.refl _ _).alloc (Nat.le_refl _) _
 have hB:Hid (Blk _ _ _ _):=Blk.box w 44 [pv,.int .i64 i,.int .i64 n,.string key]
 have hc:Hid (Calls _ _ _ _ _):=hg _ hb.out
 have hz:Hid ((Tryz.prog.info? 44).map (·.size)=some 4):=Tryz.size44
 have tokA:True:=trivial
 have hk1:k<0∨(¬k<0∧n≤k):=by
  unfold slE17 at hk
  by_cases e:k<0∨n≤k
  ·omega
  rw[if_neg e]at hk;exact absurd rfl hk
 clear hk hg
 rcases hk1 with h1|⟨h1,h2⟩
 ·have h1':decide (k<0)=true:=decide_eq_true h1
  go_enter Tryz.func37,Tryz.ntmps37
  go_wp2_with(first
   |(have _t:=tokA;refine wpList_load_blk rfl 44 _ rfl w.heap.size rfl 44 [pv,.int .i64 i,.int .i64 n,.string key] _ hB.out Tryz.underlying44 rfl hz.out ?_;clear tokA)
   |(go_at_call 63;refine hc.out.mono ?_;rintro e w1 ⟨rfl,hw⟩;have L1:Hid (Below w.heap.size w w1):=hb.out.trans (hw.mono hb.out.size);have hB1:Hid (Blk w1 w.heap.size 44 [pv,.int .i64 i,.int .i64 n,.string key]):=hB.out.below hw (by simp);have c2:=hB1.out.cell (i:=2) rfl;have c3:=hB1.out.cell (i:=3) rfl;clear hw hc))
  go_ret2
  exact⟨rfl,L1.out⟩
 have h1':decide (k<0)=false:=decide_eq_false h1
 have h2':decide (n≤k)=true:=decide_eq_true h2
 go_enter Tryz.func37,Tryz.ntmps37
 go_wp2_with(first
  |(have _t:=tokA;refine wpList_load_blk rfl 44 _ rfl w.heap.size rfl 44 [pv,.int .i64 i,.int .i64 n,.string key] _ hB.out Tryz.underlying44 rfl hz.out ?_;clear tokA)
  |(go_at_call 63;refine hc.out.mono ?_;rintro e w1 ⟨rfl,hw⟩;have L1:Hid (Below w.heap.size w w1):=hb.out.trans (hw.mono hb.out.size);have hB1:Hid (Blk w1 w.heap.size 44 [pv,.int .i64 i,.int .i64 n,.string key]):=hB.out.below hw (by simp);have c2:=hB1.out.cell (i:=2) rfl;have c3:=hB1.out.cell (i:=3) rfl;clear hw hc))
 go_ret2
 exact⟨rfl,L1.out⟩
theorem in_both {n k:Int}(h:slE17 n k=0):¬k<0∧¬n≤k:=by
 unfold slE17 at h
 by_cases e:k<0∨n≤k
 ·rw[if_pos e]at h;cases h
 omega
set_option maxHeartbeats 1000000 in
theorem rseal_shape {w:World}{pv:Value}{i n:Int}{key:ByteArray}(hg:RGoodIs w (slV pv i n key) true){k:Int}(hk:slE17 n k=0){nonce plain:ByteArray}(hs:nonce.size≠12):Calls Tryz.prog 37 #[slV pv i n key,.int .i64 k,.string nonce,.string plain] w fun e w'=>e=.returned (.tuple #[.string noB,.int .i64 7])∧Below w.heap.size w w':=by
 have hb:Hid (Below w.heap.size w (w.alloc (.cells #[pv,.int .i64 i,.int .i64 n,.string key] 44))):=(Below.refl _ _).alloc (Nat.le_refl _) _
 have hB:Hid (Blk _ _ _ _):=Blk.box w 44 [pv,.int .i64 i,.int .i64 n,.string key]
 have hc:Hid (Calls _ _ _ _ _):=hg _ hb.out
 have hz:Hid ((Tryz.prog.info? 44).map (·.size)=some 4):=Tryz.size44
 have tokA:True:=trivial
 obtain⟨h1,h2⟩:=in_both hk
 have h1':decide (k<0)=false:=decide_eq_false h1
 have h2':decide (n≤k)=false:=decide_eq_false h2
 have h3:¬(nonce.size:Int)=12:=by omega
 have h3':decide ((nonce.size:Int)=12)=false:=decide_eq_false h3
 have h3'':((nonce.size:Int)==12)=false:=by simpa using h3
 clear hk hg
 go_enter Tryz.func37,Tryz.ntmps37
 go_wp2_with(first
  |(have _t:=tokA;refine wpList_load_blk rfl 44 _ rfl w.heap.size rfl 44 [pv,.int .i64 i,.int .i64 n,.string key] _ hB.out Tryz.underlying44 rfl hz.out ?_;clear tokA)
  |(go_at_call 63;refine hc.out.mono ?_;rintro e w1 ⟨rfl,hw⟩;have L1:Hid (Below w.heap.size w w1):=hb.out.trans (hw.mono hb.out.size);have hB1:Hid (Blk w1 w.heap.size 44 [pv,.int .i64 i,.int .i64 n,.string key]):=hB.out.below hw (by simp);have c2:=hB1.out.cell (i:=2) rfl;have c3:=hB1.out.cell (i:=3) rfl;clear hw hc))
 go_ret2
 exact⟨rfl,L1.out⟩
set_option maxHeartbeats 1000000 in
theorem rseal_ok {w:World}{pv:Value}{n:Int}{key:ByteArray}{i k:Nat}(hi:i≤1000)(hk:k≤1000)(hky:key.size=32)(hg:RGoodIs w (slV pv (i:Int) n key) true)(hkn:slE17 n (k:Int)=0){nonce plain:ByteArray}(hn1:nonce.size=12)(hn2:plain.size=32):
 Calls Tryz.prog 37 #[slV pv (i:Int) n key,.int .i64 (k:Int),.string nonce,.string plain] w fun e w'=>e=.returned (.tuple #[.string (clB17 key nonce (plc i k) plain),.int .i64 0])∧Below w.heap.size w w':=by
 have hb:Hid (Below w.heap.size w (w.alloc (.cells #[pv,.int .i64 (i:Int),.int .i64 n,.string key] 44))):=(Below.refl _ _).alloc (Nat.le_refl _) _
 have hB:Hid (Blk _ _ _ _):=Blk.box w 44 [pv,.int .i64 (i:Int),.int .i64 n,.string key]
 have hc:Hid (Calls _ _ _ _ _):=hg _ hb.out
 have hz:Hid ((Tryz.prog.info? 44).map (·.size)=some 4):=Tryz.size44
 have tokA:True:=trivial
 obtain⟨h1,h2⟩:=in_both hkn
 have h1':decide ((k:Int)<0)=false:=decide_eq_false h1
 have h2':decide (n≤(k:Int))=false:=decide_eq_false h2
 have h3:(nonce.size:Int)=12:=by omega
 have h4:(plain.size:Int)=32:=by omega
 have hw1:Hid (∀z,Calls Tryz.prog 73 #[slV pv (i:Int) n key,.int .i64 (k:Int)] z fun e w'=>e=.returned (.string (plc i k))∧Below z.heap.size z w'):=fun z=>rwith_any pv i k n key hi hk z
 have hse:Hid (∀z,Calls Tryz.prog 75 #[.string key,.string nonce,.string (plc i k),.string plain] z fun e w'=>e=.returned (.tuple #[.string (slB key nonce (plc i k) plain),.int .i64 0])∧Below z.heap.size z w'):=fun z=>refSeal_ok key nonce (plc i k) plain hky hn1 (by rw[plc_size];decide) (by omega) z
 have HP:Hid (clB17 key nonce (plc i k) plain=nonce++slB key nonce (plc i k) plain):=rfl
 have hsz:=slB_size key nonce (plc i k) plain
 generalize slB key nonce (plc i k) plain=sl at*
 generalize clB17 key nonce (plc i k) plain=cl at*
 generalize plc i k=P at*
 clear hkn hg
 go_enter Tryz.func37,Tryz.ntmps37
 go_wp2_with(first
  |(have _t:=tokA;refine wpList_load_blk rfl 44 _ rfl w.heap.size rfl 44 [pv,.int .i64 (i:Int),.int .i64 n,.string key] _ hB.out Tryz.underlying44 rfl hz.out ?_;clear tokA)
  |(go_at_call 63;refine hc.out.mono ?_;rintro e w1 ⟨rfl,hw⟩;have L1:Hid (Below w.heap.size w w1):=hb.out.trans (hw.mono hb.out.size);have hB1:Hid (Blk w1 w.heap.size 44 [pv,.int .i64 (i:Int),.int .i64 n,.string key]):=hB.out.below hw (by simp);have c2:=hB1.out.cell (i:=2) rfl;have c3:=hB1.out.cell (i:=3) rfl;clear hw hc)
  |(refine wpList_load_blk rfl 44 _ rfl w.heap.size rfl 44 [pv,.int .i64 (i:Int),.int .i64 n,.string key] _ hB1.out Tryz.underlying44 rfl hz.out ?_)
  |(go_at_call 73;refine(hw1.out _).mono ?_;rintro e w2 ⟨rfl,hw⟩;have L2:Hid (Below w.heap.size w w2):=L1.out.trans (hw.mono L1.out.size);clear c2 c3;have hB2:=hB1.out.below hw hB1.out.lt;have c3:=hB2.cell (i:=3) rfl;clear hw hB2)
  |(go_at_call 75;refine(hse.out _).mono ?_;rintro e w3 ⟨rfl,hw⟩;have L3:Hid (Below w.heap.size w w3):=L2.out.trans (hw.mono L2.out.size);clear hw))
 go_ret2
 exact⟨by rw[HP.out];rfl,L3.out⟩
end Go.Proofs.YtnhkkhiajiiahaaGreatDoor
