import Derived.Test.YtnhkkhiajiiahaaGreatDoorSlRPrep
import Derived.Test.YtnhkkhiajiiahaaGreatDoorSlWkM
import Derived.Test.YtnhkkhiajiiahaaGreatDoorSlKpM
namespace Go.Proofs.YtnhkkhiajiiahaaGreatDoor
open Go.RowKit Go.PlainAid
set_option linter.unusedVariables false
set_option maxRecDepth 20000
def Oks (b:Bs):Prop:=∀j,j<2→(b.D j).n=140∧(∀a,((b.D j).l a).size≤2048)∧∀w∈(b.D j).q,w.2.size≤2048
theorem Oks.rd {b:Bs}(h:Oks b){j:Nat}(hj:j<2)(a:Nat):(rdS b.p (b.D j) a).size≤2048:=rdS_size (h j hj).2.1 (h j hj).2.2 a
theorem Oks.of {b b2:Bs}(h:Oks b)(e:∀j,j<2→b2.D j=b.D j∨((b2.D j).n=140∧(∀a,((b2.D j).l a).size≤2048)∧∀w∈(b2.D j).q,w.2.size≤2048)):Oks b2:=fun j hj=>by
 rcases e j hj with e|e
 ·rw[e];exact h j hj
 exact e
theorem Oks.w {b:Bs}(h:Oks b){i:Nat}(hi:i<2)(w:Wr):Oks (apW 2 i b w):=h.of fun j hj=>by
 show(stD 2 b.p (i:Int) b.D (putD (b.D i) (w.1:Int) w.2)) j=_∨_
 unfold apW stD
 simp only[if_neg (out_not 2 i hi)]
 by_cases hp:b.p=some 0
 ·simp only[if_pos hp];exact .inl trivial
 simp only[if_neg hp,Int.toNat_natCast]
 by_cases e:j=i
 ·subst e
  simp only[updD_same]
  refine .inr ⟨(h j hj).1,(h j hj).2.1,fun x hx=>?_⟩
  have hx':x∈putQ (b.D j).q (b.D j).dead (b.D j).n (w.1:Int) w.2:=hx
  unfold putQ at hx'
  by_cases e2:errW (b.D j).dead (b.D j).n (w.1:Int) w.2=0
  ·rw[if_pos e2]at hx'
   rcases List.mem_append.1 hx' with h1|h1
   ·exact(h j hj).2.2 x h1
   rcases List.mem_cons.1 h1 with rfl|h2
   ·show w.2.size≤2048
    unfold errW at e2
    by_cases e3:errA (b.D j).dead (b.D j).n (w.1:Int)=0
    ·rw[if_pos e3]at e2
     by_cases e4:2048<w.2.size
     ·rw[if_pos e4]at e2;cases e2
     omega
    rw[if_neg e3]at e2;exact absurd e2 e3
   cases h2
  rw[if_neg e2]at hx'
  exact(h j hj).2.2 x hx'
 simp only[updD_ne _ _ _ _ e];exact .inl trivial
theorem app_short {l:Nat→ByteArray}{q:List Wr}(h1:∀a,(l a).size≤2048)(h2:∀w∈q,w.2.size≤2048)(a:Nat):(app l q a).size≤2048:=by
 rcases app_or q a l with h|⟨w,hw,_,h⟩
 ·rw[h];exact h1 a
 rw[h];exact h2 w hw
theorem Oks.f {b:Bs}(h:Oks b){i:Nat}(hi:i<2):Oks (apF 2 i b):=h.of fun j hj=>by
 unfold apF stD
 simp only[if_neg (out_not 2 i hi)]
 by_cases hp:b.p=some 0
 ·simp only[if_pos hp];exact .inl trivial
 simp only[if_neg hp,Int.toNat_natCast]
 by_cases e:j=i
 ·subst e
  simp only[updD_same]
  refine .inr ⟨(h j hj).1,fun a=>?_,fun x hx=>?_⟩
  ·show(flushL (b.D j).l (b.D j).q (b.D j).dead a).size≤2048
   unfold flushL
   split
   ·exact(h j hj).2.1 a
   exact app_short (h j hj).2.1 (h j hj).2.2 a
  have hx':x∈flushQ (b.D j).q (b.D j).dead:=hx
  unfold flushQ at hx'
  split at hx'
  ·exact(h j hj).2.2 x hx'
  cases hx'
 simp only[updD_ne _ _ _ _ e];exact .inl trivial
theorem Oks.r {i:Nat}(hi:i<2):∀(q:List Wr) {b:Bs},Oks b→Oks (apR 2 i b q).2
 |[],b,h=>h.f hi
 |w::r,b,h=>by
  by_cases e:apE 2 i b w=0
  ·rw[apR_ok e];exact Oks.r hi r (h.w hi w)
  rw[apR_bad e];exact h.w hi w
theorem errW_short {dead:Bool}{n:Nat}{at_:Int}{s:ByteArray}(h:errW dead n at_ s=0):s.size≤2048:=by
 unfold errW at h
 by_cases e3:errA dead n at_=0
 ·rw[if_pos e3]at h
  by_cases e4:2048<s.size
  ·rw[if_pos e4]at h;cases h
  omega
 rw[if_neg e3]at h;exact absurd h e3
theorem Oks.t {b:Bs}(h:Oks b)(i:Nat)(at_:Int)(s:ByteArray):Oks (tpB b i at_ s):=h.of fun j hj=>by
 by_cases e:j=i
 ·subst e
  rw[tpB_at]
  refine .inr ⟨(h j hj).1,fun a=>?_,fun x hx=>?_⟩
  ·show(tampL (b.D j).l (b.D j).dead (b.D j).n at_ s a).size≤2048
   unfold tampL
   split
   ·rename_i e2
    unfold upd
    split
    ·exact errW_short e2
    exact(h j hj).2.1 a
   exact(h j hj).2.1 a
  have hx':x∈tampQ (b.D j).q (b.D j).dead (b.D j).n at_ s:=hx
  unfold tampQ at hx'
  split at hx'
  ·exact(h j hj).2.2 x (List.mem_filter.1 hx').1
  exact(h j hj).2.2 x hx'
 exact .inl (updD_ne _ _ _ _ e)
def cuB (b:Bs)(n:Int):Bs:=⟨b.D,b.s,some n.toNat⟩
def crB17 (b:Bs):Bs:=⟨fun i=>crashD (b.D i) (fun _=>false),b.s,none⟩
theorem Oks.c {b:Bs}(h:Oks b)(n:Int):Oks (cuB b n):=h
theorem keep_sub (k:Nat→Bool):∀(q:List Wr) (m:Nat),∀w∈keep k m q,w∈q
 |[],m,w,hw=>by unfold keep at hw;exact hw
 |x::r,m,w,hw=>by
  unfold keep at hw
  split at hw
  ·rcases List.mem_cons.1 hw with rfl|h
   ·exact List.mem_cons_self ..
   exact List.mem_cons_of_mem _ (keep_sub k r _ w h)
  exact List.mem_cons_of_mem _ (keep_sub k r _ w hw)
theorem Oks.k {b:Bs}(h:Oks b):Oks (crB17 b):=fun j hj=>by
 refine⟨(h j hj).1,fun a=>?_,fun x hx=>?_⟩
 ·show(crashL (b.D j).l (b.D j).q (b.D j).dead (fun _=>false) a).size≤2048
  unfold crashL
  split
  ·exact(h j hj).2.1 a
  exact app_short (h j hj).2.1 (fun w hw=>(h j hj).2.2 w (keep_sub _ _ _ w hw)) a
 have hx':x∈flushQ (b.D j).q (b.D j).dead:=hx
 unfold flushQ at hx'
 split at hx'
 ·exact(h j hj).2.2 x hx'
 cases hx'
theorem Sm.t {b b':Bs}(h:Sm 2 b b'){i:Nat}(hi:i<2)(at_:Int)(s:ByteArray):Sm 2 (tpB b i at_ s) (tpB b' i at_ s):=by
 obtain⟨h1,h2,h3⟩:=h
 refine⟨h1,h2,fun j hj=>?_⟩
 by_cases e:j=i
 ·subst e
  rw[tpB_at,tpB_at]
  obtain⟨e1,e2,e3,e4⟩:=h3 j hj
  exact⟨e1,by show tampL _ _ _ _ _=tampL _ _ _ _ _;rw[e2,e4,e1],by show tampQ _ _ _ _ _=tampQ _ _ _ _ _;rw[e3,e4,e1],e4⟩
 rw[show(tpB b i at_ s).D j=b.D j from updD_ne _ _ _ _ e,show(tpB b' i at_ s).D j=b'.D j from updD_ne _ _ _ _ e];exact h3 j hj
theorem Sm.c {b b':Bs}(h:Sm 2 b b')(n:Int):Sm 2 (cuB b n) (cuB b' n):=⟨h.1,rfl,h.2.2⟩
theorem Sm.k {b b':Bs}(h:Sm 2 b b'):Sm 2 (crB17 b) (crB17 b'):=by
 obtain⟨h1,h2,h3⟩:=h
 refine⟨h1,rfl,fun j hj=>?_⟩
 obtain⟨e1,e2,e3,e4⟩:=h3 j hj
 exact⟨e1,by show crashL _ _ _ _=crashL _ _ _ _;rw[e2,e3,e4],by show flushQ _ _=flushQ _ _;rw[e3,e4],e4⟩
theorem Few17.t {b:Bs}{m:Nat}(h:Few17 2 b m)(i:Nat)(at_:Int)(s:ByteArray):Few17 2 (tpB b i at_ s) (m+1):=⟨Nat.le_succ_of_le h.1,fun j hj=>by
 by_cases e:j=i
 ·subst e;rw[tpB_at];exact Nat.le_trans (tampQ_length _ _ _ _ _) (Nat.add_le_add_right (h.2 j hj) 1)
 rw[show(tpB b i at_ s).D j=b.D j from updD_ne _ _ _ _ e];exact Nat.le_succ_of_le (h.2 j hj)⟩
theorem Few17.k {b:Bs}{m:Nat}(h:Few17 2 b m):Few17 2 (crB17 b) (m+1):=⟨Nat.le_succ_of_le h.1,fun j hj=>Nat.le_trans (flushQ_length _ _) (Nat.add_le_add_right (h.2 j hj) 1)⟩
theorem Few17.up {b:Bs}{m m':Nat}(h:Few17 2 b m)(hm:m≤m'):Few17 2 b m':=⟨Nat.le_trans h.1 hm,fun j hj=>Nat.le_trans (h.2 j hj) hm⟩
theorem Sm.rdS {b b':Bs}(h:Sm 2 b b'){j:Nat}(hj:j<2):rdS b'.p (b'.D j)=rdS b.p (b.D j)∧eR b'.p (b'.D j)=eR b.p (b.D j):=by
 obtain⟨h1,h2,h3⟩:=h
 obtain⟨e1,e2,e3,e4⟩:=h3 j hj
 exact⟨by funext a;unfold Go.Proofs.YtnhkkhiajiiahaaGreatDoor.rdS;rw[h2,e1,e2,e3,e4],by unfold eR;rw[h2,e4]⟩
def Gd (i n:Int)(key:ByteArray)(i' d n':Nat):Prop:=i=(i':Int)∧i'<2∧n=(n':Int)∧2^d=n'∧(1≤d∧d≤4)∧key.size=32
theorem gd_cases (i n:Int)(key:ByteArray):(∃i' d n',Gd i n key i' d n')∨¬(shpS n key∧¬Out 2 i):=by
 by_cases h:shpS n key∧¬Out 2 i
 ·left
  obtain⟨⟨h1,h2⟩,h3⟩:=h
  have h4:0≤i∧i<2:=by unfold Out at h3;omega
  rcases h1 with rfl|rfl|rfl|rfl
  ·exact⟨i.toNat,1,2,by omega,by omega,rfl,rfl,⟨by decide,by decide⟩,h2⟩
  ·exact⟨i.toNat,2,4,by omega,by omega,rfl,rfl,⟨by decide,by decide⟩,h2⟩
  ·exact⟨i.toNat,3,8,by omega,by omega,rfl,rfl,⟨by decide,by decide⟩,h2⟩
  exact⟨i.toNat,4,16,by omega,by omega,rfl,rfl,⟨by decide,by decide⟩,h2⟩
 exact .inr h
section
variable {g gr:Nat}{b b':Bs}{i n:Int}{key:ByteArray}
theorem not_good {z:World}(h:Bk z g 2 b.D b.s b.p)(hn:¬(shpS n key∧¬Out 2 i)):GoodIs z (slV (.pointer (some ⟨g,0,none⟩)) i n key) false:=by
 have:=good_bank h i n key
 rwa[decide_eq_false hn]at this
theorem not_rgood {z:World}(h:Rk z gr 2 b'.D b'.s b'.p)(hn:¬(shpS n key∧¬Out 2 i)):RGoodIs z (slV (.pointer (some ⟨gr,0,none⟩)) i n key) false:=by
 have:=rgood_bank h i n key
 rwa[decide_eq_false hn]at this
theorem p_seal (k:Int)(nonce plain:ByteArray)(hp:plain.size=32):∃T E,(∀z,Bk z g 2 b.D b.s b.p→Calls Tryz.prog 12 #[slV (.pointer (some ⟨g,0,none⟩)) i n key,.int .i64 k,.string nonce,.string plain] z fun e w'=>e=.returned (.tuple #[.string T,.int .i64 E])∧Below z.heap.size z w')∧
 (∀z,Rk z gr 2 b'.D b'.s b'.p→Calls Tryz.prog 37 #[slV (.pointer (some ⟨gr,0,none⟩)) i n key,.int .i64 k,.string nonce,.string plain] z fun e w'=>e=.returned (.tuple #[.string T,.int .i64 E])∧Below z.heap.size z w'):=by
 rcases gd_cases i n key with⟨i',d,n',rfl,hi,rfl,hn,hd,hk⟩|hg
 ·have h16:n'≤16:=by rw[←hn];exact pow_le16 d hd.2
  by_cases he:slE17 (n':Int) k=0
  ·obtain⟨s,rfl,hs⟩:=in_of n' k he
   by_cases h12:nonce.size=12
   ·exact⟨_,0,fun z hz=>sseal_ok (by omega) (by omega) hk (by have:=faultIs_any (good_yes hz hi hn hd hk) (s:Int);rwa[he]at this) h12 hp,fun z hz=>rseal_ok (by omega) (by omega) hk (rgood_yes hz hi hn hd hk) he h12 hp⟩
   exact⟨noB,7,fun z hz=>sseal_shape (by have:=faultIs_any (good_yes hz hi hn hd hk) (s:Int);rwa[he]at this) (.inl h12),fun z hz=>rseal_shape (rgood_yes hz hi hn hd hk) he h12⟩
  have h2:slE17 (n':Int) k=2:=by
   unfold slE17 at he⊢
   by_cases e:k<0∨(n':Int)≤k
   ·rw[if_pos e]
   rw[if_neg e]at he;exact absurd rfl he
  exact⟨noB,2,fun z hz=>by have:=faultIs_any (good_yes hz hi hn hd hk) k;rw[h2]at this;exact sseal_err this (by decide) nonce plain,fun z hz=>rseal_arg (rgood_yes hz hi hn hd hk) he nonce plain⟩
 exact⟨noB,4,fun z hz=>sseal_err (faultIs_form (not_good hz hg) k) (by decide) nonce plain,fun z hz=>rseal_form (not_rgood hz hg) k nonce plain⟩
theorem p_get (hO:Oks b)(hS:Sm 2 b b'){m:Nat}(hf:Few17 2 b m)(hm:m≤1000000)(top:ByteArray)(k:Int):∃T E,(∀z,Bk z g 2 b.D b.s b.p→Tabs z→Calls Tryz.prog 15 #[slV (.pointer (some ⟨g,0,none⟩)) i n key,.string top,.int .i64 k] z fun e w'=>e=.returned (.tuple #[.string T,.int .i64 E])∧Below z.heap.size z w')∧
 (∀z,Rk z gr 2 b'.D b'.s b'.p→RTabs z→Calls Tryz.prog 36 #[slV (.pointer (some ⟨gr,0,none⟩)) i n key,.string top,.int .i64 k] z fun e w'=>e=.returned (.tuple #[.string T,.int .i64 E])∧Below z.heap.size z w'):=by
 rcases gd_cases i n key with⟨i',d,n',rfl,hi,rfl,hn,hd,hk⟩|hg
 ·by_cases he:slE17 (n':Int) k=0
  ·obtain⟨s,rfl,hs⟩:=in_of n' k he
   have hO':(b'.D i').n=140:=by rw[←(hS.2.2 i' hi).1];exact(hO i' hi).1
   obtain⟨r1,r2⟩:=hS.rdS hi
   refine⟨_,_,fun z hz ht=>sget_any hz ht hi (by omega) (by rw[(hO i' hi).1];exact Nat.le_refl _) (hO.rd hi) hn hd hk top hs (by have:=faultIs_any (good_yes hz hi hn hd hk) (s:Int);rwa[he]at this),fun z hz ht=>?_⟩
   have h:=r17get_any hz (fun j hj=>by rw[←(hS.2.2 j hj).2.2.1];exact Nat.le_trans (hf.2 j hj) hm) ht hi (by omega) (by rw[hO'];exact Nat.le_refl _) (fun a=>by rw[r1];exact hO.rd hi a) hn hd hk top hs (rgood_yes hz hi hn hd hk)
   rw[r1,r2]at h
   exact h
  have h2:slE17 (n':Int) k=2:=by
   unfold slE17 at he⊢
   by_cases e:k<0∨(n':Int)≤k
   ·rw[if_pos e]
   rw[if_neg e]at he;exact absurd rfl he
  exact⟨noB,2,fun z hz _=>by have:=faultIs_any (good_yes hz hi hn hd hk) k;rw[h2]at this;exact sget_err this (by decide) top,fun z hz _=>r17get_arg (rgood_yes hz hi hn hd hk) top he⟩
 exact⟨noB,4,fun z hz _=>sget_err (faultIs_form (not_good hz hg) k) (by decide) top,fun z hz _=>r17get_form (not_rgood hz hg) top k⟩
theorem p_bad (hO:Oks b)(hS:Sm 2 b b'){m:Nat}(hf:Few17 2 b m)(hm:m≤1000000)(top:ByteArray):∃L:List Nat,L.length≤16∧(∀z,Bk z g 2 b.D b.s b.p→Tabs z→Calls Tryz.prog 16 #[slV (.pointer (some ⟨g,0,none⟩)) i n key,.string top] z fun e w'=>∃v,e=.returned v∧w'.ownsRow z.heap.size 3 1 v L.length (L.map fun(s:Nat)=>.int .i64 (s:Int))∧Below z.heap.size z w')∧
 (∀z,Rk z gr 2 b'.D b'.s b'.p→RTabs z→Calls Tryz.prog 30 #[slV (.pointer (some ⟨gr,0,none⟩)) i n key,.string top] z fun e w'=>∃v,e=.returned v∧w'.ownsRow z.heap.size 3 1 v L.length (L.map fun(s:Nat)=>.int .i64 (s:Int))∧Below z.heap.size z w'):=by
 rcases gd_cases i n key with⟨i',d,n',rfl,hi,rfl,hn,hd,hk⟩|hg
 ·have h16:n'≤16:=by rw[←hn];exact pow_le16 d hd.2
  have hO':(b'.D i').n=140:=by rw[←(hS.2.2 i' hi).1];exact(hO i' hi).1
  obtain⟨r1,r2⟩:=hS.rdS hi
  refine⟨bdN (fun s=>slGE (rdS b.p (b.D i')) (eR b.p (b.D i')) d s top (opE key (plc i' s))) n',Nat.le_trans (bdN_length _ _) h16,fun z hz ht=>?_,fun z hz ht=>?_⟩
  ·refine sbad_any (good_yes hz hi hn hd hk) h16 top (fun s=>slGT (rdS b.p (b.D i')) (eR b.p (b.D i')) d s top (opT key (plc i' s))) _ (fun y hy s hs=>?_)
   have hf:=faultIs_any (good_yes (hz.below hy) hi hn hd hk) (s:Int)
   rw[show slE17 (n':Int) (s:Int)=0 from if_neg (by omega)]at hf
   exact sget_any (hz.below hy) (ht.below hy ht.lt) hi (by omega) (by rw[(hO i' hi).1];exact Nat.le_refl _) (hO.rd hi) hn hd hk top hs hf
  refine r17bad_any (rgood_yes hz hi hn hd hk) h16 top (fun s=>slGT (rdS b.p (b.D i')) (eR b.p (b.D i')) d s top (opT key (plc i' s))) _ (fun y hy s hs=>?_)
  have h:=r17get_any (hz.below hy) (fun j hj=>by rw[←(hS.2.2 j hj).2.2.1];exact Nat.le_trans (hf.2 j hj) hm) (ht.below hy ht.lt) hi (by omega) (by rw[hO'];exact Nat.le_refl _) (fun a=>by rw[r1];exact hO.rd hi a) hn hd hk top hs (rgood_yes (hz.below hy) hi hn hd hk)
  rw[r1,r2]at h
  exact h
 exact⟨[],Nat.zero_le _,fun z hz _=>(sbad_form (not_good hz hg) top).mono fun e w' ⟨h1,h2⟩=>⟨_,h1,World.ownsRow_nil _ _ _ _,h2⟩,fun z hz _=>(r17bad_form (not_rgood hz hg) top).mono fun e w' ⟨h1,h2⟩=>⟨_,h1,World.ownsRow_nil _ _ _ _,h2⟩⟩
theorem p_prep (hO:Oks b)(hS:Sm 2 b b'){m:Nat}(hf:Few17 2 b m)(hm:m≤1000000)(top:ByteArray)(cs:List (Int×ByteArray))(hcs:cs.length≤100):∃(q:List Wr) (t:ByteArray) (E:Int),q.length≤32∧(E=0→∃i' d n',Gd i n key i' d n')∧
 (∀z a c,Bk z g 2 b.D b.s b.p→Tabs z→Cg z 49 a cs→Calls Tryz.prog 13 #[slV (.pointer (some ⟨g,0,none⟩)) i n key,.string top,.slice a cs.length c] z fun e w'=>∃v,e=.returned (.tuple #[v,.string t,.int .i64 E])∧w'.ownsRow z.heap.size 104 2 v q.length (pairs q)∧Below z.heap.size z w')∧
 (∀z a c,Rk z gr 2 b'.D b'.s b'.p→RTabs z→Cg z 77 a cs→Calls Tryz.prog 68 #[slV (.pointer (some ⟨gr,0,none⟩)) i n key,.string top,.slice a cs.length c] z fun e w'=>∃v,e=.returned (.tuple #[v,.string t,.int .i64 E])∧w'.ownsRow z.heap.size 130 2 v q.length (pairs q)∧Below z.heap.size z w'):=by
 rcases gd_cases i n key with⟨i',d,n',hG⟩|hg
 ·obtain⟨rfl,hi,rfl,hn,hd,hk⟩:=id hG
  have hO':(b'.D i').n=140:=by rw[←(hS.2.2 i' hi).1];exact(hO i' hi).1
  obtain⟨r1,r2⟩:=hS.rdS hi
  by_cases hrf:rfE (n':Int) cs=0
  ·by_cases h0:(prR (rdS b.p (b.D i')) (eR b.p (b.D i')) d (sl0 top) cs).1=0
   ·refine⟨slW (prR (rdS b.p (b.D i')) (eR b.p (b.D i')) d (sl0 top) cs).2,(prR (rdS b.p (b.D i')) (eR b.p (b.D i')) d (sl0 top) cs).2.top,0,slW_few _,fun _=>⟨i',d,n',hG⟩,fun z a c hz ht hc=>?_,fun z a c hz ht hc=>?_⟩
    ·refine(sprep_any hz ht hi (by rw[(hO i' hi).1];exact Nat.le_refl _) hn hd (good_yes hz hi hn hd hk) top hc (c:=c) hcs hrf).mono ?_
     rintro e w' ⟨h1,h2,h3⟩
     obtain⟨v,e1,e2⟩:=h2 h0
     exact⟨v,e1,e2,h3⟩
    have h:=r17prep_any hz (fun j hj=>by rw[←(hS.2.2 j hj).2.2.1];exact Nat.le_trans (hf.2 j hj) hm) ht hi (by rw[hO'];exact Nat.le_refl _) hn hd (rgood_yes hz hi hn hd hk) top hc (c:=c) hcs hrf
    rw[r1,r2]at h
    refine h.mono ?_
    rintro e w' ⟨h1,h2,h3⟩
    obtain⟨v,e1,e2⟩:=h2 h0
    exact⟨v,e1,e2,h3⟩
   refine⟨[],noB,(prR (rdS b.p (b.D i')) (eR b.p (b.D i')) d (sl0 top) cs).1,Nat.zero_le _,fun h=>absurd h h0,fun z a c hz ht hc=>?_,fun z a c hz ht hc=>?_⟩
   ·refine(sprep_any hz ht hi (by rw[(hO i' hi).1];exact Nat.le_refl _) hn hd (good_yes hz hi hn hd hk) top hc (c:=c) hcs hrf).mono ?_
    rintro e w' ⟨h1,h2,h3⟩
    exact⟨_,h1 h0,World.ownsRow_nil _ _ _ _,h3⟩
   have h:=r17prep_any hz (fun j hj=>by rw[←(hS.2.2 j hj).2.2.1];exact Nat.le_trans (hf.2 j hj) hm) ht hi (by rw[hO'];exact Nat.le_refl _) hn hd (rgood_yes hz hi hn hd hk) top hc (c:=c) hcs hrf
   rw[r1,r2]at h
   refine h.mono ?_
   rintro e w' ⟨h1,h2,h3⟩
   exact⟨_,h1 h0,World.ownsRow_nil _ _ _ _,h3⟩
  refine⟨[],noB,rfE (n':Int) cs,Nat.zero_le _,fun h=>absurd h hrf,fun z a c hz ht hc=>?_,fun z a c hz ht hc=>?_⟩
  ·have hg:=good_yes hz hi hn hd hk
   exact(sprep_err hrf top _ (fun y hy=>srefuse_any (hg.below hy) (hc.below hy) (by omega))).mono fun e w' ⟨h1,h2⟩=>⟨_,h1,World.ownsRow_nil _ _ _ _,h2⟩
  exact(r17prep_err (rgood_yes hz hi hn hd hk) top hc (c:=c) (by omega) hrf).mono fun e w' ⟨h1,h2⟩=>⟨_,h1,World.ownsRow_nil _ _ _ _,h2⟩
 refine⟨[],noB,4,Nat.zero_le _,fun h=>(by cases h),fun z a c hz ht hc=>?_,fun z a c hz ht hc=>?_⟩
 ·have h1:=not_good hz hg
  exact(sprep_err (by decide) top _ (fun y hy=>srefuse_form (h1.below hy) _)).mono fun e w' ⟨h1,h2⟩=>⟨_,h1,World.ownsRow_nil _ _ _ _,h2⟩
 exact(r17prep_form (not_rgood hz hg) top _).mono fun e w' ⟨h1,h2⟩=>⟨_,h1,World.ownsRow_nil _ _ _ _,h2⟩
end
end Go.Proofs.YtnhkkhiajiiahaaGreatDoor
