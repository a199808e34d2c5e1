import Derived.WalkKit
import Derived.Test.YtokknmkleceooaaGreatDoorTk
import Derived.Laws.BitsAllLaws
import Derived.PlainAid
import Derived.Laws.BytesArg
import Derived.Test.YtokknmkleceooaaGreatDoorRows
import Derived.ProofKit
import Derived.OpenShut
import Derived.WalkLawsBesides
import Derived.WalkSpells
import Derived.Deep.QuietTactic
import Derived.BigQuiet
import Derived.Deep.RegionWith
import Derived.Deep.RegionHeld3
import Derived.Laws.CopyOwn
import Derived.BigRegion
import Derived.Deep.MidRow
import Derived.Maps.AppendAt
import Derived.Lib.SliceRun
import Derived.ShutString
import Derived.ChangeOld
import Derived.ChangeArms
import Derived.Deep.Matrix
import Derived.Lib.AppendZeros
import Derived.Maps.OwnSet
import Derived.StringKeys
namespace Go.Proofs.YtokknmkleceooaaGreatDoor
set_option linter.unusedVariables false
set_option maxRecDepth 20000
set_option maxHeartbeats 8000000
open Go.Proofs.Tryz
open Go.RowKit
theorem a4r {k:IntKind}{a b:Int}(h:a=b):Ending.returned (.int k a)=.returned (.int k b):=by rw[h]
def b1s (x:Int):Int:=(x*2+x/2147483648)%4294967296
def c1z (x:Int):Int:=x/2+x%2*2147483648
def turn:Nat->Int->Int
 |0,x=>x
 |s+1,x=>b1s (turn s x)
def b1q:Nat->Int->Int
 |0,x=>x
 |s+1,x=>c1z (b1q s x)
def rotl (x:Int)(s:Nat):Int:=(x*2^s)%4294967296+x/2^(32-s)
theorem d7l (x:Int):0<=b1s x/\b1s x<4294967296:=by unfold b1s;omega
theorem c1y (x:Int)(h0:0<=x)(h1:x<4294967296):c1z (b1s x)=x:=by
 unfold b1s c1z;obtain⟨t,ht⟩:∃t,t=x/2147483648:=⟨_,rfl⟩;rw[<-ht];have e1:(x*2+t)%4294967296=x*2+t-4294967296*t:=by omega
 rw[e1];have e2:(x*2+t-4294967296*t)/2=x-2147483648*t:=by omega
 have e3:(x*2+t-4294967296*t)%2=t:=by omega
 rw[e2,e3];omega
theorem d7k (x:Int)(h0:0<=x)(h1:x<4294967296):0<=c1z x/\c1z x<4294967296:=by unfold c1z;omega
theorem a8b (s:Nat)(x:Int)(h0:0<=x)(h1:x<4294967296):0<=turn s x/\turn s x<4294967296:=by
 cases s with
 |zero=>exact⟨h0,h1⟩
 |succ s=>exact d7l _
theorem b5z (s:Nat)(x:Int)(h0:0<=x)(h1:x<4294967296):0<=b1q s x/\b1q s x<4294967296:=by
 induction s with
 |zero=>exact⟨h0,h1⟩
 |succ s ih=>exact d7k _ ih.1 ih.2
theorem c4y (a b:Nat)(x:Int):turn a (turn b x)=turn (a+b) x:=by
 induction a with
 |zero=>simp[turn]
 |succ a ih=>rw[show a+1+b=(a+b)+1 by omega];simp only[turn,ih]
theorem c7l (s:Nat)(y:Int)(h0:0<=y)(h1:y<4294967296):b1q s (turn s y)=y:=by
 have g:∀k y,b1q (k+1) y=b1q k (c1z y):=by
  intro k
  induction k with
  |zero=>intro y;rfl
  |succ k ih=>intro y;rw[b1q,ih];rfl
 induction s with
 |zero=>rfl
 |succ s ih=>
  rw[g,turn,c1y _ (a8b s y h0 h1).1 (a8b s y h0 h1).2,ih]
theorem e4g (X P M:Nat)(hP:P*M=2147483648)(hX:X<4294967296)(hM:0<M):
 ((P*(X%(2*M))+X/(2*M))*2+(P*(X%(2*M))+X/(2*M))/2147483648)%4294967296=2*P*(X%M)+X/M:=by
 obtain⟨q,hq⟩:∃q,q=X/(2*M):=⟨_,rfl⟩;obtain⟨t,ht⟩:∃t,t=X%(2*M)/M:=⟨_,rfl⟩;obtain⟨u,hu⟩:∃u,u=X%M:=⟨_,rfl⟩;have hr:X%(2*M)=M*t+u:=by
  have h1:=Nat.div_add_mod (X%(2*M)) M;rw[Nat.mod_mul_left_mod,<-hu,<-ht]at h1;exact h1.symm
 have ht2:t<2:=by
  rw[ht,Nat.div_lt_iff_lt_mul hM];exact Nat.mod_lt _ (by omega)
 have huM:u<M:=by rw[hu];exact Nat.mod_lt _ hM
 have hx:=Nat.div_add_mod X (2*M);rw[<-hq,hr]at hx;have hqP:q<P:=by
  rw[hq,Nat.div_lt_iff_lt_mul (by omega)];have:P*(2*M)=2*(P*M):=by rw[Nat.mul_left_comm]
  omega
 have hd:X/M=2*q+t:=by
  rw[<-hx,show 2*M*q+(M*t+u)=u+M*(2*q+t) by rw[Nat.mul_add,<-Nat.mul_assoc,Nat.mul_comm M 2];omega,Nat.add_mul_div_left _ _ hM,Nat.div_eq_of_lt huM];omega
 have hA:P*u+P<=2147483648:=by
  rw[<-hP,<-Nat.mul_succ];exact Nat.mul_le_mul_left P huM
 have hB:P*(M*t+u)=2147483648*t+P*u:=by rw[Nat.mul_add,<-Nat.mul_assoc,hP]
 have hC:2*P*u=2*(P*u):=Nat.mul_assoc _ _ _;rw[hr,hB,<-hq,<-hu,hd,hC];obtain⟨A,hAe⟩:∃A,A=P*u:=⟨_,rfl⟩;rw[<-hAe]at hA⊢;clear hx hd hB hC hr ht hu hAe;have h31:(2147483648*t+A+q)/2147483648=t:=by omega
 rw[h31];omega
theorem b6l (X s:Nat)(hs:s<=31):rotl (X:Int) s=((2^s*(X%2^(32-s))+X/2^(32-s):Nat):Int):=by
 have kT:2^s*2^(32-s)=4294967296:=by rw[<-Nat.pow_add,show s+(32-s)=32 by omega]
 have e3:X*2^s%4294967296=2^s*(X%2^(32-s)):=by
  rw[<-kT,Nat.mul_comm X,Nat.mul_mod_mul_left]
 unfold rotl;rw[<-e3];simp
theorem d1v (x:Int)(h0:0<=x)(h1:x<4294967296)(s:Nat)(hs:s<31):b1s (rotl x s)=rotl x (s+1):=by
 obtain⟨X,rfl⟩:=Int.eq_ofNat_of_zero_le h0;rw[b6l X s (by omega),b6l X (s+1) (by omega)];have e1:(32-(s+1))=31-s:=by omega
 have e2:2^(32-s)=2*2^(31-s):=by rw[show 32-s=(31-s)+1 by omega,Nat.pow_succ,Nat.mul_comm]
 have e3:2^(s+1)=2*2^s:=by rw[Nat.pow_succ,Nat.mul_comm]
 have hP:2^s*2^(31-s)=2147483648:=by rw[<-Nat.pow_add,show s+(31-s)=31 by omega]
 have h:=e4g X (2^s) (2^(31-s)) hP (by omega) (Nat.pow_pos (by omega));rw[e1,e2,e3,<-h];unfold b1s;omega
theorem b8q (x:Int)(h0:0<=x)(h1:x<4294967296)(s:Nat)(hs:s<=31):turn s x=rotl x s:=by
 induction s with
 |zero=>simp only[turn,rotl];omega
 |succ s ih=>rw[turn,ih (by omega),d1v x h0 h1 s (by omega)]
theorem d0u (x:Int)(h0:0<=x)(h1:x<4294967296):turn 32 x=x:=by
 show b1s (turn 31 x)=x;rw[b8q x h0 h1 31 (by omega)];obtain⟨X,rfl⟩:=Int.eq_ofNat_of_zero_le h0;rw[b6l X 31 (by omega)];unfold b1s;simp only[show 32-31=1 from rfl,Nat.pow_one];obtain⟨q,hq⟩:∃q,q=X/2:=⟨_,rfl⟩;obtain⟨t,ht⟩:∃t,t=X%2:=⟨_,rfl⟩;have hX:X=2*q+t:=by omega
 have ht2:t<2:=by omega
 rw[<-hq,<-ht];clear hq ht;subst hX;have h31:((2^31*t+q:Nat):Int)/2147483648=(t:Int):=by omega
 rw[h31];omega
theorem d7b (s:Nat)(x:Int)(h0:0<=x)(h1:x<4294967296):turn (s%32) x=turn s x:=by
 have g:∀q r,turn (32*q+r) x=turn r x:=by
  intro q
  induction q with
  |zero=>intro r;simp
  |succ q ih=>
   intro r;rw[show 32*(q+1)+r=(32*q+r)+32 by omega,<-c4y,d0u x h0 h1,ih]
 conv=>rhs;rw[show s=32*(s/32)+s%32 by omega]
 rw[g]
theorem e7k (x:Int)(s:Nat)(hs:s<=31)(h0:0<=x)(h1:x<4294967296):
 bits .or .u32 (IntKind.u32.wrap (x*2^s)) (x/2^(32-s))=rotl x s:=by
 obtain⟨X,rfl⟩:=Int.eq_ofNat_of_zero_le h0;have hX:X<4294967296:=by omega
 have e1:IntKind.u32.wrap ((X:Int)*2^s)=((X*2^s%4294967296:Nat):Int):=by
  rw[IntKind.wrap_u32'];simp
 have e2:(X:Int)/2^(32-s)=((X/2^(32-s):Nat):Int):=by simp
 have hp:0<2^(32-s):=Nat.pow_pos (by omega);have kT:2^s*2^(32-s)=4294967296:=by rw[<-Nat.pow_add,show s+(32-s)=32 by omega]
 have p9:X/2^(32-s)<2^s:=by
  rw[Nat.div_lt_iff_lt_mul hp,kT];exact hX
 have e3:X*2^s%4294967296=2^s*(X%2^(32-s)):=by
  rw[<-kT,Nat.mul_comm X,Nat.mul_mod_mul_left]
 have aD:X/2^(32-s)<4294967296:=Nat.lt_of_le_of_lt (Nat.div_le_self _ _) hX;rw[e1,e2,u32_or_nat _ _ (Nat.mod_lt _ (by omega)) aD];unfold rotl;rw[e2,show(X:Int)*2^s%4294967296=((X*2^s%4294967296:Nat):Int) by simp,e3,<-Nat.two_pow_add_eq_or_of_lt p9];simp
theorem d6m (n:Int):bits .and .i64 n 31=n%32:=by
 have h:(BitVec.ofInt 64 n&&&BitVec.ofInt 64 31).toNat=(n%32).toNat:=by
  rw[BitVec.toNat_and,BitVec.toNat_ofInt,show(BitVec.ofInt 64 31).toNat=2^5-1 from rfl,Nat.and_two_pow_sub_one_eq_mod];omega
 show IntKind.i64.wrap ((BitVec.ofInt 64 n&&&BitVec.ofInt 64 31).toNat:Int)=_;rw[h,IntWalk.i64_in _ ⟨by omega,by omega⟩];omega
theorem d6l (n:Int):bits .and .u64 (IntKind.u64.wrap n) 31=n%32:=by
 have h:(BitVec.ofInt 64 (IntKind.u64.wrap n)&&&BitVec.ofInt 64 31).toNat=(n%32).toNat:=by
  rw[BitVec.toNat_and,BitVec.toNat_ofInt,show(BitVec.ofInt 64 31).toNat=2^5-1 from rfl,Nat.and_two_pow_sub_one_eq_mod,IntKind.wrap_u64];omega
 show IntKind.u64.wrap ((BitVec.ofInt 64 (IntKind.u64.wrap n)&&&BitVec.ofInt 64 31).toNat:Int)=_;rw[h,IntWalk.u64_in _ ⟨by omega,by omega⟩];omega
theorem b5d (x:Int)(h0:0<=x)(h1:x<4294967296):x*2%4294967296+x/2147483648=b1s x:=by
 unfold b1s;obtain⟨t,ht⟩:∃t,t=x/2147483648:=⟨_,rfl⟩;rw[<-ht];have e1:(x*2+t)%4294967296=x*2+t-4294967296*t:=by omega
 have e2:x*2%4294967296=x*2-4294967296*t:=by omega
 rw[e1,e2];omega
theorem b5b (n:Int)(h:n<0):n.tmod 32=-((-n)%32):=by
 have e:n=-(-n):=by omega
 conv=>lhs;rw[e]
 rw[Int.neg_tmod,Int.tmod_eq_emod_of_nonneg (by omega)]
open Go.RowKit Go.PlainAid
def xorL (a b:BA):List Int:=(List.range (min a.size b.size)).map λi=>bits .xor .u8 (bt a i) (bt b i)
def xorB (a b:BA):BA:=strOfNums (xorL a b)
theorem a2q {a b:BA}(hs:a.size=b.size)(h:∀i,i<a.size->bt a i=bt b i):a=b:=by
 apply ByteArray.ext;apply Array.ext
 ·exact hs
 ·intro i h1 h2;have:=h i h1;unfold bt at this;rw[dif_pos (show i<a.size from h1),dif_pos (show i<b.size from h2)]at this;exact UInt8.toNat_inj.1 (Int.ofNat.inj this)
theorem a3q (l:List Int)(hl:∀x∈l,0<=x/\x<=255)(i:Nat)(h:i<l.length):bt (strOfNums l) i=l[i]:=by
 have hs:i<(strOfNums l).size:=by rw[strOfNums_size];exact h
 unfold bt;rw[dif_pos hs];have e:(strOfNums l)[i]=UInt8.ofNat (l[i]).toNat:=by
  show(strOfNums l).data[i]=_;simp[strOfNums]
 rw[e];have hb:=hl l[i] (List.getElem_mem h);rw[UInt8.toNat_ofNat'];omega
theorem e3w (s:BA):strOfNums ((List.range s.size).map (bt s))=s:=by
 apply a2q
 ·rw[strOfNums_size];simp
 ·intro i h;rw[strOfNums_size]at h;rw[a3q _ _ i h]
  ·simp
  ·intro x hx;obtain⟨j,_,rfl⟩:=List.mem_map.1 hx;exact⟨bt_nonneg s j,bt_le s j⟩
theorem b4w (x y:Int)(h1:0<=x)(h2:x<=255)(h3:0<=y)(h4:y<=255):0<=bits .xor .u8 x y/\bits .xor .u8 x y<=255:=by
 rw[u8_xor x y h1 (by omega) h3 (by omega)];have hx:x.toNat^^^y.toNat<2^8:=Nat.xor_lt_two_pow (by omega) (by omega);omega
theorem c7d (a b:BA):∀x∈xorL a b,0<=x/\x<=255:=by
 intro x hx;obtain⟨i,_,rfl⟩:=List.mem_map.1 hx;exact b4w _ _ (bt_nonneg a i) (bt_le a i) (bt_nonneg b i) (bt_le b i)
theorem a4a (a b:BA):(xorB a b).size=min a.size b.size:=by
 unfold xorB;rw[strOfNums_size];simp[xorL]
theorem b7u (a b:BA)(i:Nat)(h:i<min a.size b.size):bt (xorB a b) i=((bt a i).toNat^^^(bt b i).toNat:Nat):=by
 unfold xorB;rw[a3q _ (c7d a b) i (by simpa[xorL]using h)];unfold xorL;rw[List.getElem_map,List.getElem_range];have h1:=bt_nonneg a i;have h2:=bt_le a i;have h3:=bt_nonneg b i;have h4:=bt_le b i;rw[u8_xor _ _ h1 (by omega) h3 (by omega)]
def filled (n k:Nat)(f:Nat->Value)(z:Value):List Value:=(List.range n).map λi=>if i<k then f i else z
theorem a1l (n:Nat)(f:Nat->Value)(z:Value):filled n 0 f z=List.replicate n z:=by
 unfold filled;simp;exact List.eq_replicate_iff.2 ⟨by simp,by simp⟩
theorem a1m (n:Nat)(f:Nat->Value)(z:Value):filled n n f z=(List.range n).map f:=by
 unfold filled;apply List.map_congr_left;intro i hi;rw[qp (by simpa using hi)]
theorem a2i (n k:Nat)(f:Nat->Value)(z:Value)(h:k<n):(filled n k f z).set k (f k)=filled n (k+1) f z:=by
 unfold filled;apply List.ext_getElem
 ·simp
 ·intro i h1 h2;simp only[List.length_set,List.length_map,List.length_range]at h1;rw[List.getElem_set];by_cases e:k=i
  ·subst e;simp
  ·rw[qn e];simp;by_cases hi:i<k
   ·rw[qp hi,qp (by omega)]
   ·rw[qn hi,qn (by omega)]
theorem info5:(prog.info? 5).map (λi=>(i.zero,i.size,i.bytes))=some (some (.int .u8 0),1,1):=by kernel_rfl
theorem c1o (a b:BA)(w:World)(ha:a.size<=maxLen)(hb:b.size<=maxLen)(ha':a.size<=281474976710656):
 Calls prog 160 #[.string a,.string b] w λe w'=>e=.returned (.string (xorB a b))/\Below w.heap.size w w':=by
 obtain⟨i0,hi,hz0,hz1,hz2⟩:=info_parts info5;unfold maxLen at ha hb;obtain⟨n,hn⟩:∃n:Nat,min a.size b.size=n:=⟨_,rfl⟩;have hna:n<=a.size:=by omega
 have gL:n<=b.size:=by omega
 have hmin:(min (a.size:Int) (b.size:Int))=(n:Int):=by omega
 have HN:Hid (min a.size b.size=n):=hn;clear hn;go_enter func160,ntmps160;go_wp2_with(at_make;refine wpList_make_full _ rfl _ _ 22 rfl w.heap.size 5 i0 (.int .u8 0) 1 underlying22 hi hz0 hz1 _ _ _ _ n rfl rfl ?c0 ?c1 ?c2 ?c3 ?c4 ?_)
 case c0.inl=>omega
 case c0.inr=>omega
 case c1.inl=>omega
 case c1.inr=>omega
 case c2=>rw[hz2];omega
 case c3=>unfold maxLen;omega
 case c4=>exact ql _
 all_goals
  intro w1 q8 q9;have t8:Below w.heap.size w w1:=(qw _ _).grown q9 (ql _) (λk h=>by cases h);rw[toList_madeCells_one,<-a1l n (λi=>.int .u8 (bits .xor .u8 (bt a i) (bt b i)))]at q8;have cE:=get_bt a;have dJ:=get_bt b;go_wp2;go_loopw[15] (λi wr=>∃k:Nat,k<=n/\i=.int .i64 k/\wr.ownsRow w.heap.size 5 1 (.slice (some ⟨w.heap.size,0,none⟩) n n) n (filled n k (λi=>.int .u8 (bits .xor .u8 (bt a i) (bt b i))) (.int .u8 0))/\Below w.heap.size w wr) (λi _=>n-(intOf i).toNat)
  case atStart=>exact⟨0,Nat.zero_le _,rfl,q8,t8⟩
  case round=>
   obtain⟨k,hk,rfl,t6,x6⟩:=hrel;by_cases p9:k<n
   ·have x5:=t6.cellAt k (by omega);have eC:=t6.frozenAt k;have hst:=t6.stored k (.int .u8 (bits .xor .u8 (bt a k) (bt b k)));rw[a2i n k (λi=>.int .u8 (bits .xor .u8 (bt a i) (bt b i))) _ p9]at hst;obtain⟨v0,hv0⟩:∃v0,wr.cell? ⟨w.heap.size,k,none⟩=some v0:=by
     rw[x5];exact⟨_,List.getElem?_eq_getElem (by simp[filled];exact p9)⟩
    clear x5;go_wp2;go_region
    all_goals
     go_wp2;go_roundw
     case rel=>exact⟨k+1,by omega,by go_num,hst.1.drew,(x6.setCell (ql _) _).drew⟩
     case measure=>simp[intOf];omega
   ·have aM:k=n:=(by omega);subst aM;rw[a1m]at t6;have aK:=run_convert_bytes_arg (P:=prog) wr 22 5 underlying22 underlying5 w.heap.size 0 k k (xorL a b) (by simp[xorL,HN.out]) (λi hi=>by
     rw[Nat.zero_add,t6.cellAt i (by omega)];simp[xorL,HN.out,List.getD,hi]) 9 underlying9
    go_wp2;go_ret;exact⟨rfl,x6⟩
theorem b5j (n:Int)(w:World):
 Calls prog 262 #[.int .i64 n] w λe w'=>e=.returned (.int .i64 (n%32))/\w'=w:=by
 have h:=d6m n;go_enter func262,ntmps262;go_wp2;go_ret;exact⟨rfl,rfl⟩
theorem b5g (x n:Int)(h0:0<=x)(h1:x<4294967296)(w:World):
 Calls prog 261 #[.int .u32 x,.int .i64 n] w λe w'=>e=.returned (.int .u32 (turn (n%32).toNat x))/\w'=w:=by
 have h:=d6l n;obtain⟨s,hs⟩:∃s:Nat,n%32=(s:Int):=⟨(n%32).toNat,by omega⟩;have hs31:s<=31:=by omega
 have fin:=e7k x s hs31 h0 h1;rw[<-b8q x h0 h1 s hs31]at fin;have e32:((32:Int)-(s:Int)).toNat=32-s:=by omega
 rw[hs]at h;have HF:Hid (bits .or .u32 (IntKind.u32.wrap (x*2^s)) (x/2^(32-s))=turn s x):=fin;have HS:Hid (n%32=(s:Int)):=hs;clear fin hs;go_enter func261,ntmps261;go_wp2;go_ret;refine⟨a4r ?_,rfl⟩;rw[HS.out,Int.toNat_natCast,<-HF.out,IntKind.wrap_u32']
theorem d9d (x n:Int)(h0:0<=x)(h1:x<4294967296)(w:World):
 Calls prog 263 #[.int .u32 x,.int .i64 n] w λe w'=>e=.returned (.int .u32 (turn (n%32).toNat x))/\w'=w:=by
 go_enter func263,ntmps263;go_wp2_with(first|(go_at_call 262;refine(b5j _ _).mono ?_;rintro e w' ⟨rfl,rfl⟩)|(go_at_call 261;refine(b5g _ _ h0 h1 _).mono ?_;rintro e w' ⟨rfl,rfl⟩));go_ret;exact⟨rfl,rfl⟩
theorem a5j (x n:Int)(h0:0<=x)(h1:x<4294967296)(w:World):
 Calls prog 245 #[.int .u32 x,.int .i64 n] w λe w'=>e=.returned (.int .u32 (turn (32-(n%32).toNat) x))/\w'=w:=by
 go_enter func245,ntmps245;go_wp2_with(first|(go_at_call 262;refine(b5j _ _).mono ?_;rintro e w' ⟨rfl,rfl⟩)|(go_at_call 261;refine(b5g _ _ h0 h1 _).mono ?_;rintro e w' ⟨rfl,rfl⟩));go_ret;refine⟨a4r ?_,rfl⟩;rw[<-d7b (32-(n%32).toNat) x h0 h1];congr 1;omega
theorem c2q (x n:Int)(h0:0<=x)(h1:x<4294967296)(hn0:-9223372036854775808<=n)(hn1:n<=9223372036854775807)(w:World):
 Calls prog 258 #[.int .u32 x,.int .i64 n] w λe w'=>e=.returned (.int .u32 (turn (n%32).toNat x))/\w'=w:=by
 obtain⟨K,hK⟩:∃K:Nat,n%32=(K:Int):=⟨(n%32).toNat,by omega⟩;have hK31:K<=31:=by omega
 have HK:Hid (n%32=(K:Int)):=hK;by_cases hc:0<=n
 ·have hd:¬((K:Int)<0):=by omega
  go_enter func258,ntmps258;go_wp2;go_loop [0,6] (λy i=>∃k:Nat,k<=K/\i=.int .i64 k/\y=.int .u32 (turn k x)) (λ_ i=>K-(intOf i).toNat)
  case atStart=>exact⟨0,Nat.zero_le _,rfl,rfl⟩
  case round=>
   obtain⟨k,hk,rfl,rfl⟩:=hrel;have hb:=a8b k x h0 h1;by_cases p9:k<K
   ·go_wp2;go_round
    case rel=>exact⟨k+1,by omega,by go_num,by rw[b5d _ hb.1 hb.2];rfl⟩
    case measure=>simp[intOf];omega
   ·go_wp2;go_ret;have fR:k=K:=(by omega);subst fR;exact⟨a4r (by first|rfl|rw[HK.out,Int.toNat_natCast]),rfl⟩
 ·have ht:=b5b n (by omega);have hT:n.tmod 32=0/\K=0\/n.tmod 32=(K:Int)-32/\0<K:=by omega
  clear hK ht;rcases hT with⟨hT,hK0⟩|⟨hT,hK0⟩
  ·subst hK0;go_enter func258,ntmps258;go_wp2;go_loop [0,6] (λy i=>∃k:Nat,k<=0/\i=.int .i64 k/\y=.int .u32 (turn k x)) (λ_ i=>0-(intOf i).toNat)
   case atStart=>exact⟨0,Nat.zero_le _,rfl,rfl⟩
   case round=>
    obtain⟨k,hk,rfl,rfl⟩:=hrel;have hb:=a8b k x h0 h1;by_cases p9:k<0
    ·exact absurd p9 (by omega)
    ·go_wp2;go_ret;have fR:k=0:=(by omega);subst fR;exact⟨a4r (by first|rfl|rw[HK.out,Int.toNat_natCast]),rfl⟩
  ·have gY:(K:Int)-32<0:=(by omega);go_enter func258,ntmps258;go_wp2;go_loop [0,6] (λy i=>∃k:Nat,k<=K/\i=.int .i64 k/\y=.int .u32 (turn k x)) (λ_ i=>K-(intOf i).toNat)
   case atStart=>exact⟨0,Nat.zero_le _,rfl,rfl⟩
   case round=>
    obtain⟨k,hk,rfl,rfl⟩:=hrel;have hb:=a8b k x h0 h1;by_cases p9:k<K
    ·go_wp2;go_round
     case rel=>exact⟨k+1,by omega,by go_num,by rw[b5d _ hb.1 hb.2];rfl⟩
     case measure=>simp[intOf];omega
    ·go_wp2;go_ret;have fR:k=K:=(by omega);subst fR;exact⟨a4r (by first|rfl|rw[HK.out,Int.toNat_natCast]),rfl⟩
theorem b9g (x n:Int)(h0:0<=x)(h1:x<4294967296)(hn0:-9223372036854775808<=n)(hn1:n<=9223372036854775807)(w:World):
 Calls prog 241 #[.int .u32 x,.int .i64 n] w λe w'=>e=.returned (.int .u32 (b1q (n%32).toNat x))/\w'=w:=by
 obtain⟨K,hK⟩:∃K:Nat,n%32=(K:Int):=⟨(n%32).toNat,by omega⟩;have hK31:K<=31:=by omega
 have HK:Hid (n%32=(K:Int)):=hK;by_cases hc:0<=n
 ·have hd:¬((K:Int)<0):=by omega
  go_enter func241,ntmps241;go_wp2;go_loop [0,6] (λy i=>∃k:Nat,k<=K/\i=.int .i64 k/\y=.int .u32 (b1q k x)) (λ_ i=>K-(intOf i).toNat)
  case atStart=>exact⟨0,Nat.zero_le _,rfl,rfl⟩
  case round=>
   obtain⟨k,hk,rfl,rfl⟩:=hrel;have hb:=b5z k x h0 h1;by_cases p9:k<K
   ·go_wp2;go_round
    case rel=>exact⟨k+1,by omega,by go_num,rfl⟩
    case measure=>simp[intOf];omega
   ·go_wp2;go_ret;have fR:k=K:=(by omega);subst fR;exact⟨a4r (by first|rfl|rw[HK.out,Int.toNat_natCast]),rfl⟩
 ·have ht:=b5b n (by omega);have hT:n.tmod 32=0/\K=0\/n.tmod 32=(K:Int)-32/\0<K:=by omega
  clear hK ht;rcases hT with⟨hT,hK0⟩|⟨hT,hK0⟩
  ·subst hK0;go_enter func241,ntmps241;go_wp2;go_loop [0,6] (λy i=>∃k:Nat,k<=0/\i=.int .i64 k/\y=.int .u32 (b1q k x)) (λ_ i=>0-(intOf i).toNat)
   case atStart=>exact⟨0,Nat.zero_le _,rfl,rfl⟩
   case round=>
    obtain⟨k,hk,rfl,rfl⟩:=hrel;have hb:=b5z k x h0 h1;by_cases p9:k<0
    ·exact absurd p9 (by omega)
    ·go_wp2;go_ret;have fR:k=0:=(by omega);subst fR;exact⟨a4r (by first|rfl|rw[HK.out,Int.toNat_natCast]),rfl⟩
  ·have gY:(K:Int)-32<0:=(by omega);go_enter func241,ntmps241;go_wp2;go_loop [0,6] (λy i=>∃k:Nat,k<=K/\i=.int .i64 k/\y=.int .u32 (b1q k x)) (λ_ i=>K-(intOf i).toNat)
   case atStart=>exact⟨0,Nat.zero_le _,rfl,rfl⟩
   case round=>
    obtain⟨k,hk,rfl,rfl⟩:=hrel;have hb:=b5z k x h0 h1;by_cases p9:k<K
    ·go_wp2;go_round
     case rel=>exact⟨k+1,by omega,by go_num,rfl⟩
     case measure=>simp[intOf];omega
    ·go_wp2;go_ret;have fR:k=K:=(by omega);subst fR;exact⟨a4r (by first|rfl|rw[HK.out,Int.toNat_natCast]),rfl⟩
def ulN (a b:Int):Nat->Int
 |0=>0
 |k+1=>if(a/2^k)%2=(b/2^k)%2 then ulN a b k else(ulN a b k+2^k%256)%256
theorem e3o (A B k:Nat)(hk:k<=8):ulN (A:Int) (B:Int) k=(((A^^^B)%2^k:Nat):Int):=by
 induction k with
 |zero=>simp[ulN,Nat.mod_one]
 |succ k ih=>
  have ih:=ih (by omega);have p9:(A^^^B)%2^k<2^k:=Nat.mod_lt _ (Nat.pow_pos (by omega));have hz:=Nat.mod_pow_succ (x:=A^^^B) (b:=2) (k:=k);have hx:(A^^^B)/2^k%2=(A/2^k+B/2^k)%2:=by
   rw[Nat.xor_div_two_pow];have:=Nat.xor_mod_two_eq_one (a:=A/2^k) (b:=B/2^k);omega
  have hp:2^k<=128:=Nat.pow_le_pow_right (n:=2) (by omega) (show k<=7 by omega);have e1:((A:Int)/2^k)%2=((A/2^k%2:Nat):Int):=by simp
  have e2:((B:Int)/2^k)%2=((B/2^k%2:Nat):Int):=by simp
  have e3:(2:Int)^k=((2^k:Nat):Int):=by simp
  unfold ulN;rw[ih,e1,e2,e3,hz,hx]
  split
  ·rename_i h
   have:(A/2^k+B/2^k)%2=0:=(by omega);rw[this];simp
  ·rename_i h
   have:(A/2^k+B/2^k)%2=1:=(by omega);rw[this];omega
theorem d0r (a b:Int)(k:Nat):0<=ulN a b k/\ulN a b k<=255:=by
 induction k with
 |zero=>simp[ulN]
 |succ k ih=>unfold ulN;split<;>omega
theorem e3n (a b:Int)(h1:0<=a)(h2:a<=255)(h3:0<=b)(h4:b<=255):ulN a b 8=bits .xor .u8 a b:=by
 rw[u8_xor a b h1 (by omega) h3 (by omega)];obtain⟨A,rfl⟩:=Int.eq_ofNat_of_zero_le h1;obtain⟨B,rfl⟩:=Int.eq_ofNat_of_zero_le h3;rw[e3o A B 8 (by omega)];have hx:A^^^B<2^8:=Nat.xor_lt_two_pow (by omega) (by omega);rw[Nat.mod_eq_of_lt hx];simp
theorem d4j (a:Int)(k:Nat):a/2^k/2=a/2^(k+1):=by
 rw[Int.ediv_ediv_of_nonneg (by exact Int.pow_nonneg (by omega)),<-Int.pow_succ]
theorem e7r (k:Nat):2*((2:Int)^k%256)%256=2^(k+1)%256:=by
 rw[Int.pow_succ];omega
theorem d2o (k:Nat):0<=(2:Int)^k%256/\(2:Int)^k%256<=255:=by omega
theorem c0r (a:Int)(k:Nat)(h1:0<=a)(h2:a<=255):0<=a/2^k/\a/2^k<=255:=by
 obtain⟨A,rfl⟩:=Int.eq_ofNat_of_zero_le h1;have e1:((A:Int)/2^k)=((A/2^k:Nat):Int):=by simp
 have:A/2^k<=A:=Nat.div_le_self _ _;rw[e1];generalize A/2^k=q at this;omega
theorem c7j (a b:Int)(h1:0<=a)(h2:a<=255)(h3:0<=b)(h4:b<=255)(w:World):
 Calls prog 201 #[.int .u8 a,.int .u8 b] w λe w'=>e=.returned (.int .u8 (bits .xor .u8 a b))/\w'=w:=by
 go_enter func201,ntmps201;go_wp2;go_loop [0,1,5,6,7] (λx y n p i=>∃k:Nat,k<=8/\i=.int .i64 k/\x=.int .u8 (a/2^k)/\y=.int .u8 (b/2^k)/\n=.int .u8 (ulN a b k)/\p=.int .u8 (2^k%256)) (λ_ _ _ _ i=>8-(intOf i).toNat)
 case atStart=>exact⟨0,by omega,rfl,by simp,by simp,rfl,by simp⟩
 case round=>
  obtain⟨k,hk,rfl,rfl,rfl,rfl,rfl⟩:=hrel;have da:=c0r a k h1 h2;have db:=c0r b k h3 h4;have dp:=d2o k;have dn:=d0r a b k;have HA:Hid (a/2^k/2=a/2^(k+1)):=d4j a k;have HB:Hid (b/2^k/2=b/2^(k+1)):=d4j b k;have HP:Hid (2*((2:Int)^k%256)%256=2^(k+1)%256):=e7r k;have HN:Hid (ulN a b (k+1)=if(a/2^k)%2=(b/2^k)%2 then ulN a b k else(ulN a b k+2^k%256)%256):=rfl;obtain⟨P,hP⟩:∃P,P=(2:Int)^k%256:=⟨_,rfl⟩;rw[<-hP]at dp HP HN⊢;clear hP;generalize a/2^k=X at da HA HN⊢;generalize b/2^k=Y at db HB HN⊢;by_cases p9:k<8
  ·go_wp2
   ·have ht:(X%2 !=Y%2)=true:=(by assumption);have ht':¬X%2=Y%2:=(by simpa using ht);go_round
    case rel=>exact⟨k+1,by omega,by go_num,by rw[HA.out],by rw[HB.out],by rw[HN.out,qn ht'],by rw[HP.out]⟩
    case measure=>simp[intOf];omega
   ·have ht:(X%2 !=Y%2)=false:=(by assumption);have ht':X%2=Y%2:=(by simpa using ht);go_round
    case rel=>exact⟨k+1,by omega,by go_num,by rw[HA.out],by rw[HB.out],by rw[HN.out,qp ht'],by rw[HP.out]⟩
    case measure=>simp[intOf];omega
  ·have hk8:k=8:=(by omega);subst hk8;go_wp2;go_ret;exact⟨a4r (e3n a b h1 h2 h3 h4),rfl⟩
theorem a2h {w:World}{base:Nat}{v:Value}{n:Nat}{xs:List Int}(h:w.ownsRow base 5 1 v n (xs.map (Value.int .u8)))(hn:xs.length=n):
 (convert 22 9 v).run prog w=.ok (.string (strOfNums xs)) w:=by
 have hc:=h;rcases h.2 with⟨rfl,h0⟩|⟨g,cap,cur,rfl,hb,hg,_⟩
 ·have:xs=[]:=List.eq_nil_of_length_eq_zero (by omega);subst this;rw[run_convert_bytes_nil w 22 5 underlying22 underlying5 0 0 9 underlying9];rfl
 ·refine run_convert_bytes_arg w 22 5 underlying22 underlying5 g 0 n cap xs hn (λi hi=>?_) 9 underlying9;rw[Nat.zero_add,hc.cellAt i (by omega)];have:i<xs.length:=by omega
  simp[List.getD,this]
def xorF (a b:BA)(k:Nat):List Int:=(List.range k).map λi=>bits .xor .u8 (bt a i) (bt b i)
theorem d0i (a b:BA)(k:Nat):xorF a b (k+1)=xorF a b k++[bits .xor .u8 (bt a k) (bt b k)]:=by
 unfold xorF;rw[List.range_succ,List.map_append];rfl
theorem c1p (a b:BA)(k:Nat):(xorF a b k).length=k:=by simp[xorF]
theorem b5h (a b:BA)(w:World)(ha:a.size<=4000)(hb:b.size<=4000):
 Calls prog 164 #[.string a,.string b] w λe w'=>e=.returned (.string (xorB a b))/\Below w.heap.size w w':=by
 obtain⟨i0,hi,hz0,hz1,hz2⟩:=info_parts info5;obtain⟨n,hn⟩:∃n:Nat,min a.size b.size=n:=⟨_,rfl⟩;have hna:n<=a.size:=by omega
 have gL:n<=b.size:=by omega
 have HN:Hid (min a.size b.size=n):=hn;have cE:=get_bt a;have dJ:=get_bt b;clear hn;go_enter func164,ntmps164;go_wp2;go_loopw[5,6] (λv i wr=>∃k:Nat,k<=n/\i=.int .i64 k/\wr.ownsRow w.heap.size 5 1 v k ((xorF a b k).map (Value.int .u8))/\Below w.heap.size w wr) (λ_ i _=>n-(intOf i).toNat)
 case atStart=>exact⟨0,Nat.zero_le _,rfl,World.ownsRow_nil _ _ _ _,qw _ _⟩
 case round=>
  obtain⟨k,hk,rfl,q8,t8⟩:=hrel;by_cases p9:k<n
  ·have ra:=bt_nonneg a k;have ra':=bt_le a k;have rb:=bt_nonneg b k;have rb':=bt_le b k;have cP:k<a.size:=(by omega);have qJ:k<b.size:=(by omega);go_wp2_with fail
   go_quiet((go_at_call 201;exact Calls.quiet_of_same (c7j _ _ ra ra' rb rb' _)))
   go_wp2_with(at_builtin;refine wpList_append_own _ rfl _ _ 22 rfl w.heap.size 5 i0 (.int .u8 0) 1 1 underlying22 hi hz0 hz1 hz2 rfl (by decide) _ _ _ rfl (World.ownsRow.alloc (w:=wr.drewN nq) q8 _) ⟨wr.heap.size,0,none⟩ 1 1 [.int .u8 (bits .xor .u8 (bt a k) (bt b k))] rfl rfl ?c1 ?c2 ?c3 ?c4 ?c5 ?_)
   case c1=>
    intro j u hj
    match j,hj with
    |0,hj=>simp at hj;subst hj;simp[Addr.add,World.drewN]
   case c2=>intro u hu;simp at hu;subst hu;rfl
   case c3=>unfold maxLen;omega
   case c4=>omega
   case c5=>have:=t8.size;simp[World.drewN];omega
   ·intro v' w1 t6 q9 _;have x6:Below w.heap.size w w1:=by
     refine Below.grown ((below_drewN t8 nq).alloc (by simp[World.drewN];exact t8.size) _) q9 ?_ ?_
     ·have:=t8.size;simp[World.drewN];omega
     ·intro g hg;exact(q8.lt g hg).1
    have R:w1.ownsRow w.heap.size 5 1 v' (k+1) ((xorF a b (k+1)).map (Value.int .u8)):=by
     rw[d0i,List.map_append];exact t6
    clear t6 q9 q8 t8;go_wp2;go_roundw
    case rel=>exact⟨k+1,by omega,by go_num,R,x6⟩
    case measure=>simp[intOf];omega
  ·have aM:k=n:=(by omega);subst aM;have aK:=a2h q8 (c1p a b k);have rI:strOfNums (xorF a b k)=xorB a b:=(by unfold xorB xorL xorF;rw[HN.out]);rw[rI]at aK;have iC:(a.size:Int)<=(k:Int)\/(b.size:Int)<=(k:Int):=(by have:=HN.out;omega);clear rI;by_cases cP:k<a.size
   ·have qJ:¬k<b.size:=(by omega);go_wp2;go_ret;exact⟨rfl,t8⟩
   ·go_wp2;go_ret;exact⟨rfl,t8⟩
def le4 (a b c d:Int):Int:=a+256*b+65536*c+16777216*d
def be4 (a b c d:Int):Int:=le4 d c b a
theorem c3k (k:Nat)(K lo m:Int)(hK:K=2^k)(h0:0<=lo)(h1:lo<K)(h2:0<=m)(h3:m*K+lo<4294967296):
 bits .or .u32 lo (m*K)=lo+m*K:=by
 obtain⟨L,rfl⟩:=Int.eq_ofNat_of_zero_le h0;obtain⟨M,rfl⟩:=Int.eq_ofNat_of_zero_le h2;have e:(M:Int)*K=((2^k*M:Nat):Int):=by rw[hK];simp[Int.mul_comm]
 have hL:L<2^k:=by
  have:(L:Int)<((2^k:Nat):Int):=by rw[hK]at h1;simpa using h1
  omega
 rw[e]at h3⊢;rw[u32_or_nat L (2^k*M) (by omega) (by omega),Nat.or_comm,<-Nat.two_pow_add_eq_or_of_lt hL];omega
theorem d3a (k:Nat)(K lo m:Int)(hK:K=2^k)(h0:0<=lo)(h1:lo<K)(h2:0<=m)(h3:m*K+lo<4294967296):
 bits .or .u32 (m*K) lo=lo+m*K:=by
 obtain⟨L,rfl⟩:=Int.eq_ofNat_of_zero_le h0;obtain⟨M,rfl⟩:=Int.eq_ofNat_of_zero_le h2;have e:(M:Int)*K=((2^k*M:Nat):Int):=by rw[hK];simp[Int.mul_comm]
 have hL:L<2^k:=by
  have:(L:Int)<((2^k:Nat):Int):=by rw[hK]at h1;simpa using h1
  omega
 rw[e]at h3⊢;rw[u32_or_nat (2^k*M) L (by omega) (by omega),<-Nat.two_pow_add_eq_or_of_lt hL];omega
theorem e8n (a b c d:Int)(ha:0<=a/\a<=255)(hb:0<=b/\b<=255)(hc:0<=c/\c<=255)(hd:0<=d/\d<=255):
 bits .or .u32 (bits .or .u32 (bits .or .u32 a (b*256)) (c*65536)) (d*16777216)=le4 a b c d:=by
 rw[c3k 8 256 a b (by decide) (by omega) (by omega) (by omega) (by omega),
  c3k 16 65536 _ c (by decide) (by omega) (by omega) (by omega) (by omega),
  c3k 24 16777216 _ d (by decide) (by omega) (by omega) (by omega) (by omega)]
 unfold le4;omega
theorem e9s (a b c d:Int)(ha:0<=a/\a<=255)(hb:0<=b/\b<=255)(hc:0<=c/\c<=255)(hd:0<=d/\d<=255):
 bits .or .u32 (bits .or .u32 (bits .or .u32 (a*16777216) (b*65536)) (c*256)) d=be4 a b c d:=by
 have e1:bits .or .u32 (a*16777216) (b*65536)=(a*256+b)*65536:=by
  rw[d3a 24 16777216 _ a (by decide) (by omega) (by omega) (by omega) (by omega)];omega
 have e2:bits .or .u32 ((a*256+b)*65536) (c*256)=(a*65536+b*256+c)*256:=by
  rw[d3a 16 65536 _ _ (by decide) (by omega) (by omega) (by omega) (by omega)];omega
 rw[e1,e2,d3a 8 256 _ _ (by decide) (by omega) (by omega) (by omega) (by omega)];unfold be4 le4;omega
theorem c3t (a b c d:Int)(ha:0<=a/\a<=255)(hb:0<=b/\b<=255)(hc:0<=c/\c<=255)(hd:0<=d/\d<=255)(w:World):
 Calls prog 234 #[.agg #[.int .u8 a,.int .u8 b,.int .u8 c,.int .u8 d]] w λe w'=>e=.returned (.int .u32 (le4 a b c d))/\Below w.heap.size w w':=by
 go_enter func234,ntmps234;go_wp2;go_ret;exact⟨a4r (e8n a b c d ha hb hc hd),(qw _ _).alloc (ql _) _⟩
theorem e1f (a b c d:Int)(ha:0<=a/\a<=255)(hb:0<=b/\b<=255)(hc:0<=c/\c<=255)(hd:0<=d/\d<=255)(w:World):
 Calls prog 260 #[.agg #[.int .u8 a,.int .u8 b,.int .u8 c,.int .u8 d]] w λe w'=>e=.returned (.int .u32 (be4 a b c d))/\Below w.heap.size w w':=by
 go_enter func260,ntmps260;go_wp2;go_ret;exact⟨a4r (e9s a b c d ha hb hc hd),(qw _ _).alloc (ql _) _⟩
theorem a1p (s:BA)(i:Nat):0<=bt s i/\bt s i<=255:=⟨bt_nonneg s i,bt_le s i⟩
theorem a3d {w w':World}{base:Nat}{e:TypeId}{size:Nat}{v:Value}{n:Nat}{xs:List Value}(h:w.ownsRow base e size v n xs)(hb:Below w.heap.size w w'):w'.ownsRow base e size v n xs:=
 h.kept (row:=none) ⟨hb.os,hb.tape,hb.output,hb.size,λk hk _=>hb.block k hk⟩ (by
   cases hv:v.ownBlock with
   |none=>exact .inl rfl
   |some g=>exact .inr (by simp))
def a0h (f:Int->Int->Int->Int->Int)(s:BA)(i:Nat):Int:=f (bt s (i*4)) (bt s (i*4+1)) (bt s (i*4+2)) (bt s (i*4+3))
theorem info195:(prog.info? 195).map (λi=>(i.zero,i.size,i.bytes))=some (some (.int .u32 0),1,4):=by kernel_rfl
theorem b8w (s:BA)(w:World)(hs:s.size<=281474976710656)(h4:s.size%4=0):
 Calls prog 233 #[.string s,.func (.func 234) #[] #[]] w λe w'=>e=.returned (.tuple #[.slice (some ⟨w.heap.size,0,none⟩) (s.size/4) (s.size/4),.int .i64 0])/\
  w'.ownsRow w.heap.size 195 1 (.slice (some ⟨w.heap.size,0,none⟩) (s.size/4) (s.size/4)) (s.size/4) ((List.range (s.size/4)).map λi=>.int .u32 (a0h le4 s i))/\Below w.heap.size w w':=by
 obtain⟨i0,hi,hz0,hz1,hz2⟩:=info_parts info195;obtain⟨n,hn⟩:∃n:Nat,s.size=4*n:=⟨s.size/4,by omega⟩;have ht:(((s.size:Int)%4) !=0)=false:=by simp;omega
 have hq:(s.size:Int)/4=(n:Int):=by omega
 have hq':s.size/4=n:=by omega
 rw[hq'];have jL:4*n<=s.size:=by omega
 have HN:Hid (s.size=4*n):=hn;clear hn hq' h4;have cC:=get_bt s;go_enter func233,ntmps233;go_wp2_with(at_make;refine wpList_make_full _ rfl _ _ 254 rfl w.heap.size 195 i0 (.int .u32 0) 1 underlying254 hi hz0 hz1 _ _ _ _ n rfl rfl ?c0 ?c1 ?c2 ?c3 ?c4 ?_)
 case c0=>rfl
 case c1=>rfl
 case c2=>rw[hz2];omega
 case c3=>unfold maxLen;omega
 case c4=>exact ql _
 intro w1 q8 q9;have t8:Below w.heap.size w w1:=(qw _ _).grown q9 (ql _) (λk h=>by cases h);rw[toList_madeCells_one,<-a1l n (λi=>.int .u32 (a0h le4 s i))]at q8;go_wp2;go_loopw[19] (λi wr=>∃k:Nat,k<=n/\i=.int .i64 k/\wr.ownsRow w.heap.size 195 1 (.slice (some ⟨w.heap.size,0,none⟩) n n) n (filled n k (λi=>.int .u32 (a0h le4 s i)) (.int .u32 0))/\Below w.heap.size w wr) (λi _=>n-(intOf i).toNat)
 case atStart=>exact⟨0,Nat.zero_le _,rfl,q8,t8⟩
 case round=>
  obtain⟨k,hk,rfl,t6,x6⟩:=hrel;by_cases p9:k<n
  ·have r0:=a1p s (k*4);have r1:=a1p s (k*4+1);have r2:=a1p s (k*4+2);have r3:=a1p s (k*4+3);have p0:(0:Int)<=(k:Int)*4:=(by omega);have q0:(k:Int)*4<(s.size:Int):=(by omega);have p1:(0:Int)<=(k:Int)*4+1:=(by omega);have q1:(k:Int)*4+1<(s.size:Int):=(by omega);have p2:(0:Int)<=(k:Int)*4+2:=(by omega);have q2:(k:Int)*4+2<(s.size:Int):=(by omega);have p3:(0:Int)<=(k:Int)*4+3:=(by omega);have q3:(k:Int)*4+3<(s.size:Int):=(by omega);have t0:((k:Int)*4).toNat=k*4:=(by omega);have t1:((k:Int)*4+1).toNat=k*4+1:=(by omega);have t2:((k:Int)*4+2).toNat=k*4+2:=(by omega);have t3:((k:Int)*4+3).toNat=k*4+3:=(by omega);have z1:IntKind.i64.wrap ((k:Int)*4+1)=(k:Int)*4+1:=IntWalk.i64_in _ ⟨by omega,by omega⟩;have z2:IntKind.i64.wrap ((k:Int)*4+2)=(k:Int)*4+2:=IntWalk.i64_in _ ⟨by omega,by omega⟩;have z3:IntKind.i64.wrap ((k:Int)*4+3)=(k:Int)*4+3:=IntWalk.i64_in _ ⟨by omega,by omega⟩;have fr:∀wx,Below wr.drew.heap.size wr.drew wx->(∃v0,wx.cell? ⟨w.heap.size,k,none⟩=some v0)/\wx.frozen? ⟨w.heap.size,k,none⟩=false:=by
    intro wx hx;have ho:=a3d (t6.drew) hx;refine⟨?_,ho.frozenAt k⟩;rw[ho.cellAt k (by omega)];exact⟨_,List.getElem?_eq_getElem (by simp[filled];exact p9)⟩
   go_wp2;refine wp_region_noPanic ?_;refine wp_region_held_drew (S:=λ_=>True) (by kernel_rfl) trivial (λp8=>?_);refine tkH 0 ?_;go_simp;refine tkH 1 ?_;go_simp;refine tkH 2 ?_;go_simp;refine tkH 3 ?_;go_simp;refine tkH 4 ?_;go_simp;refine tkH 5 ?_;go_simp;refine tkH 6 ?_;go_simp;refine tkH 7 ?_;go_simp;refine tkH 8 ?_;go_simp;refine tkH 9 ?_;go_simp;refine tkH 10 ?_;go_simp;refine tkH 11 ?_;go_simp;refine tkH 12 ?_;go_simp;refine tkH 13 ?_;go_simp;refine tkH 14 ?_;go_simp;refine tkH 15 ?_;go_simp;refine tkH 16 ?_;go_simp;refine tkH 17 ?_;go_simp;refine tkH 18 ?_;go_simp;refine rdH 19 λK hK=>?_;go_simp;go_at_call 234;refine(c3t _ _ _ _ r0 r1 r2 r3 _).mono ?_;rintro e wx ⟨rfl,hx⟩;obtain⟨⟨v0,hv0⟩,hf0⟩:=fr wx hx;refine hK.out _ _ trivial (λp8=>?_);clear hK K;refine tkH 20 ?_;go_simp;refine rdH 21 λK hK=>?_;go_simp;refine hK.out _ _ trivial (λp8=>?_);clear hK K;refine wpAnyH_done (by kernel_rfl) ?_ _;refine NoPanic.normal ?_;have hst:=((a3d t6.drew hx).stored k (.int .u32 (a0h le4 s k))).1;rw[a2i n k (λi=>.int .u32 (a0h le4 s i)) _ p9]at hst;have aV:Below w.heap.size w (wx.setCell ⟨w.heap.size,k,none⟩ (.int .u32 (a0h le4 s k))):=(x6.drew.trans (hx.mono x6.size)).setCell (ql _) _;clear fr hx hv0 hf0 t6 x6;go_wp2;go_roundw
   case rel=>exact⟨k+1,by omega,by go_num,hst,aV⟩
   case measure=>simp[intOf];omega
  ·have aM:k=n:=(by omega);subst aM;rw[a1m]at t6;go_wp2;go_ret2;exact⟨rfl,t6,x6⟩
theorem d1a (s:BA)(w:World)(hs:s.size<=281474976710656)(h4:s.size%4=0):
 Calls prog 233 #[.string s,.func (.func 260) #[] #[]] w λe w'=>e=.returned (.tuple #[.slice (some ⟨w.heap.size,0,none⟩) (s.size/4) (s.size/4),.int .i64 0])/\
  w'.ownsRow w.heap.size 195 1 (.slice (some ⟨w.heap.size,0,none⟩) (s.size/4) (s.size/4)) (s.size/4) ((List.range (s.size/4)).map λi=>.int .u32 (a0h be4 s i))/\Below w.heap.size w w':=by
 obtain⟨i0,hi,hz0,hz1,hz2⟩:=info_parts info195;obtain⟨n,hn⟩:∃n:Nat,s.size=4*n:=⟨s.size/4,by omega⟩;have ht:(((s.size:Int)%4) !=0)=false:=by simp;omega
 have hq:(s.size:Int)/4=(n:Int):=by omega
 have hq':s.size/4=n:=by omega
 rw[hq'];have jL:4*n<=s.size:=by omega
 have HN:Hid (s.size=4*n):=hn;clear hn hq' h4;have cC:=get_bt s;go_enter func233,ntmps233;go_wp2_with(at_make;refine wpList_make_full _ rfl _ _ 254 rfl w.heap.size 195 i0 (.int .u32 0) 1 underlying254 hi hz0 hz1 _ _ _ _ n rfl rfl ?c0 ?c1 ?c2 ?c3 ?c4 ?_)
 case c0=>rfl
 case c1=>rfl
 case c2=>rw[hz2];omega
 case c3=>unfold maxLen;omega
 case c4=>exact ql _
 intro w1 q8 q9;have t8:Below w.heap.size w w1:=(qw _ _).grown q9 (ql _) (λk h=>by cases h);rw[toList_madeCells_one,<-a1l n (λi=>.int .u32 (a0h be4 s i))]at q8;go_wp2;go_loopw[19] (λi wr=>∃k:Nat,k<=n/\i=.int .i64 k/\wr.ownsRow w.heap.size 195 1 (.slice (some ⟨w.heap.size,0,none⟩) n n) n (filled n k (λi=>.int .u32 (a0h be4 s i)) (.int .u32 0))/\Below w.heap.size w wr) (λi _=>n-(intOf i).toNat)
 case atStart=>exact⟨0,Nat.zero_le _,rfl,q8,t8⟩
 case round=>
  obtain⟨k,hk,rfl,t6,x6⟩:=hrel;by_cases p9:k<n
  ·have r0:=a1p s (k*4);have r1:=a1p s (k*4+1);have r2:=a1p s (k*4+2);have r3:=a1p s (k*4+3);have p0:(0:Int)<=(k:Int)*4:=(by omega);have q0:(k:Int)*4<(s.size:Int):=(by omega);have p1:(0:Int)<=(k:Int)*4+1:=(by omega);have q1:(k:Int)*4+1<(s.size:Int):=(by omega);have p2:(0:Int)<=(k:Int)*4+2:=(by omega);have q2:(k:Int)*4+2<(s.size:Int):=(by omega);have p3:(0:Int)<=(k:Int)*4+3:=(by omega);have q3:(k:Int)*4+3<(s.size:Int):=(by omega);have t0:((k:Int)*4).toNat=k*4:=(by omega);have t1:((k:Int)*4+1).toNat=k*4+1:=(by omega);have t2:((k:Int)*4+2).toNat=k*4+2:=(by omega);have t3:((k:Int)*4+3).toNat=k*4+3:=(by omega);have z1:IntKind.i64.wrap ((k:Int)*4+1)=(k:Int)*4+1:=IntWalk.i64_in _ ⟨by omega,by omega⟩;have z2:IntKind.i64.wrap ((k:Int)*4+2)=(k:Int)*4+2:=IntWalk.i64_in _ ⟨by omega,by omega⟩;have z3:IntKind.i64.wrap ((k:Int)*4+3)=(k:Int)*4+3:=IntWalk.i64_in _ ⟨by omega,by omega⟩;have fr:∀wx,Below wr.drew.heap.size wr.drew wx->(∃v0,wx.cell? ⟨w.heap.size,k,none⟩=some v0)/\wx.frozen? ⟨w.heap.size,k,none⟩=false:=by
    intro wx hx;have ho:=a3d (t6.drew) hx;refine⟨?_,ho.frozenAt k⟩;rw[ho.cellAt k (by omega)];exact⟨_,List.getElem?_eq_getElem (by simp[filled];exact p9)⟩
   go_wp2;refine wp_region_noPanic ?_;refine wp_region_held_drew (S:=λ_=>True) (by kernel_rfl) trivial (λp8=>?_);refine tkH 0 ?_;go_simp;refine tkH 1 ?_;go_simp;refine tkH 2 ?_;go_simp;refine tkH 3 ?_;go_simp;refine tkH 4 ?_;go_simp;refine tkH 5 ?_;go_simp;refine tkH 6 ?_;go_simp;refine tkH 7 ?_;go_simp;refine tkH 8 ?_;go_simp;refine tkH 9 ?_;go_simp;refine tkH 10 ?_;go_simp;refine tkH 11 ?_;go_simp;refine tkH 12 ?_;go_simp;refine tkH 13 ?_;go_simp;refine tkH 14 ?_;go_simp;refine tkH 15 ?_;go_simp;refine tkH 16 ?_;go_simp;refine tkH 17 ?_;go_simp;refine tkH 18 ?_;go_simp;refine rdH 19 λK hK=>?_;go_simp;go_at_call 260;refine(e1f _ _ _ _ r0 r1 r2 r3 _).mono ?_;rintro e wx ⟨rfl,hx⟩;obtain⟨⟨v0,hv0⟩,hf0⟩:=fr wx hx;refine hK.out _ _ trivial (λp8=>?_);clear hK K;refine tkH 20 ?_;go_simp;refine rdH 21 λK hK=>?_;go_simp;refine hK.out _ _ trivial (λp8=>?_);clear hK K;refine wpAnyH_done (by kernel_rfl) ?_ _;refine NoPanic.normal ?_;have hst:=((a3d t6.drew hx).stored k (.int .u32 (a0h be4 s k))).1;rw[a2i n k (λi=>.int .u32 (a0h be4 s i)) _ p9]at hst;have aV:Below w.heap.size w (wx.setCell ⟨w.heap.size,k,none⟩ (.int .u32 (a0h be4 s k))):=(x6.drew.trans (hx.mono x6.size)).setCell (ql _) _;clear fr hx hv0 hf0 t6 x6;go_wp2;go_roundw
   case rel=>exact⟨k+1,by omega,by go_num,hst,aV⟩
   case measure=>simp[intOf];omega
  ·have aM:k=n:=(by omega);subst aM;rw[a1m]at t6;go_wp2;go_ret2;exact⟨rfl,t6,x6⟩
theorem b3w (s:BA)(w:World)(hs:s.size<=281474976710656)(h4:s.size%4=0):
 Calls prog 202 #[.string s] w λe w'=>e=.returned (.tuple #[.slice (some ⟨w.heap.size,0,none⟩) (s.size/4) (s.size/4),.int .i64 0])/\
  w'.ownsRow w.heap.size 195 1 (.slice (some ⟨w.heap.size,0,none⟩) (s.size/4) (s.size/4)) (s.size/4) ((List.range (s.size/4)).map λi=>.int .u32 (a0h le4 s i))/\Below w.heap.size w w':=by
 go_enter func202,ntmps202;go_wp2_with(go_at_call 233;refine(b8w _ _ hs h4).mono ?_;rintro e w' ⟨rfl,ho,hb⟩);go_ret2;exact⟨rfl,ho,hb⟩
theorem e1e (s:BA)(w:World)(hs:s.size<=281474976710656)(h4:s.size%4=0):
 Calls prog 244 #[.string s] w λe w'=>e=.returned (.tuple #[.slice (some ⟨w.heap.size,0,none⟩) (s.size/4) (s.size/4),.int .i64 0])/\
  w'.ownsRow w.heap.size 195 1 (.slice (some ⟨w.heap.size,0,none⟩) (s.size/4) (s.size/4)) (s.size/4) ((List.range (s.size/4)).map λi=>.int .u32 (a0h be4 s i))/\Below w.heap.size w w':=by
 go_enter func244,ntmps244;go_wp2_with(go_at_call 233;refine(d1a _ _ hs h4).mono ?_;rintro e w' ⟨rfl,ho,hb⟩);go_ret2;exact⟨rfl,ho,hb⟩
def At (w:World)(a:Option Addr)(n:Nat)(f:Nat->Int):Prop:=
 n=0\/∃b o,a=some ⟨b,o,none⟩/\∀i,i<n->w.cell? ⟨b,o+i,none⟩=some (.int .u32 (f i))
theorem c4w {w:World}{base:Nat}{v:Value}{n:Nat}{f:Nat->Int}(h:w.ownsRow base 195 1 v n ((List.range n).map λi=>.int .u32 (f i))):
 ∃a cap,v=.slice a n cap/\At w a n f:=by
 have hc:=h;rcases h.2 with⟨rfl,h0⟩|⟨g,cap,cur,rfl,hb,hg,_⟩
 ·subst h0;exact⟨none,0,rfl,.inl rfl⟩
 ·refine⟨_,cap,rfl,.inr ⟨g,0,rfl,λi hi=>?_⟩⟩;rw[Nat.zero_add,hc.cellAt i (by omega)];simp[hi]
def acc (s:BA)(g:Nat->Nat):Nat->Int
 |0=>0
 |k+1=>256*acc s g k+bt s (g k)
theorem e2z (s:BA)(g:Nat->Nat)(k:Nat)(hk:k<4):0<=acc s g k/\acc s g k<=16777215:=by
 have h0:=a1p s (g 0);have h1:=a1p s (g 1);have h2:=a1p s (g 2);have h:k=0\/k=1\/k=2\/k=3:=by omega
 rcases h with rfl|rfl|rfl|rfl<;>simp only[acc]<;>omega
theorem e9z (s:BA)(i:Nat):acc s (λk=>i+3-k) 4=le4 (bt s i) (bt s (i+1)) (bt s (i+2)) (bt s (i+3)):=by
 simp only[acc,le4,show i+3-3=i by omega,show i+3-2=i+1 by omega,show i+3-1=i+2 by omega,show i+3-0=i+3 by omega];omega
theorem f0a (s:BA)(i:Nat):acc s (λk=>i+k) 4=be4 (bt s i) (bt s (i+1)) (bt s (i+2)) (bt s (i+3)):=by
 simp only[acc,be4,le4,Nat.add_zero];omega
def a5h (f:Int->Int->Int->Int->Int)(s:BA)(k:Nat):List Value:=(List.range k).map λi=>.int .u32 (a0h f s i)
theorem b2s (f:Int->Int->Int->Int->Int)(s:BA)(k:Nat):a5h f s (k+1)=a5h f s k++[.int .u32 (a0h f s k)]:=by
 unfold a5h;rw[List.range_succ,List.map_append];rfl
theorem a6j (s:BA)(w:World)(hs:s.size<=1000000)(h4:s.size%4=0):
 Calls prog 218 #[.string s,.bool false] w λe w'=>∃v,e=.returned (.tuple #[v,.int .i64 0])/\
  w'.ownsRow w.heap.size 195 1 v (s.size/4) (a5h le4 s (s.size/4))/\Below w.heap.size w w':=by
 obtain⟨i0,hi,hz0,hz1,hz2⟩:=info_parts info195;obtain⟨n,hn⟩:∃n:Nat,s.size=4*n:=⟨s.size/4,by omega⟩;have ht:(((s.size:Int)%4) !=0)=false:=by simp;omega
 have hq':s.size/4=n:=by omega
 rw[hq'];have jL:4*n<=s.size:=by omega
 have hns':s.size<=4*n:=by omega
 clear hn hq' h4;have cC:=get_bt s;go_enter func218,ntmps218;go_wp2;go_loopw[6,7] (λv i wr=>∃k:Nat,k<=n/\i=.int .i64 (4*k)/\wr.ownsRow w.heap.size 195 1 v k (a5h le4 s k)/\Below w.heap.size w wr) (λ_ i _=>s.size-(intOf i).toNat)
 case atStart=>exact⟨0,Nat.zero_le _,rfl,World.ownsRow_nil _ _ _ _,qw _ _⟩
 case round=>
  obtain⟨k,hk,rfl,q8,t8⟩:=hrel;by_cases p9:k<n
  ·go_wp2;go_loop [8,9,10] (λx j _=>∃q:Nat,q<=4/\j=.int .i64 q/\x=.int .u32 (acc s (λq=>4*k+3-q) q)) (λ_ j _=>4-(intOf j).toNat)
   case atStart=>exact⟨0,by omega,rfl,rfl⟩
   case round=>
    obtain⟨q,hq,rfl,rfl⟩:=hrel;by_cases aD:q<4
    ·have ha:=e2z s (λq=>4*k+3-q) q aD;have hb:=a1p s (4*k+3-q);have aX:4*k+3-q<s.size:=(by omega);go_wp2;go_round
     case rel=>exact⟨q+1,by omega,by go_num,rfl⟩
     case measure=>simp[intOf];omega
    ·have hq4:q=4:=(by omega);subst hq4;have qX:acc s (λq=>4*k+3-q) 4=a0h le4 s k:=(by rw[e9z,a0h,Nat.mul_comm k 4]);rw[qX];clear qX;go_wp2_with(at_builtin;refine wpList_append_own _ rfl _ _ 254 rfl w.heap.size 195 i0 (.int .u32 0) 1 4 underlying254 hi hz0 hz1 hz2 rfl (by decide) _ _ _ rfl (q8.alloc _) ⟨wr.heap.size,0,none⟩ 1 1 [.int .u32 (a0h le4 s k)] rfl rfl ?c1 ?c2 ?c3 ?c4 ?c5 ?_)
     case c2=>rfl
     case c3=>unfold maxLen;omega
     case c4=>omega
     case c5=>have:=t8.size;omega
     ·intro v' w1 t6 q9 _;have x6:Below w.heap.size w w1:=by
       refine Below.grown (t8.alloc t8.size _) q9 ?_ ?_
       ·have:=t8.size;simp;omega
       ·intro g hg;exact(q8.lt g hg).1
      have R:w1.ownsRow w.heap.size 195 1 v' (k+1) (a5h le4 s (k+1)):=by
       rw[b2s];exact t6
      clear t6 q9 q8 t8;go_wp2;go_roundw
      case rel=>exact⟨k+1,by omega,by go_num,R,x6⟩
      case measure=>simp[intOf];omega
  ·have aM:k=n:=(by omega);subst aM;go_wp2;go_ret2;exact⟨_,rfl,q8,t8⟩
theorem b9e (s:BA)(w:World)(hs:s.size<=1000000)(h4:s.size%4=0):
 Calls prog 218 #[.string s,.bool true] w λe w'=>∃v,e=.returned (.tuple #[v,.int .i64 0])/\
  w'.ownsRow w.heap.size 195 1 v (s.size/4) (a5h be4 s (s.size/4))/\Below w.heap.size w w':=by
 obtain⟨i0,hi,hz0,hz1,hz2⟩:=info_parts info195;obtain⟨n,hn⟩:∃n:Nat,s.size=4*n:=⟨s.size/4,by omega⟩;have ht:(((s.size:Int)%4) !=0)=false:=by simp;omega
 have hq':s.size/4=n:=by omega
 rw[hq'];have jL:4*n<=s.size:=by omega
 have hns':s.size<=4*n:=by omega
 clear hn hq' h4;have cC:=get_bt s;go_enter func218,ntmps218;go_wp2;go_loopw[6,7] (λv i wr=>∃k:Nat,k<=n/\i=.int .i64 (4*k)/\wr.ownsRow w.heap.size 195 1 v k (a5h be4 s k)/\Below w.heap.size w wr) (λ_ i _=>s.size-(intOf i).toNat)
 case atStart=>exact⟨0,Nat.zero_le _,rfl,World.ownsRow_nil _ _ _ _,qw _ _⟩
 case round=>
  obtain⟨k,hk,rfl,q8,t8⟩:=hrel;by_cases p9:k<n
  ·go_wp2;go_loop [8,9,10] (λx j _=>∃q:Nat,q<=4/\j=.int .i64 q/\x=.int .u32 (acc s (λq=>4*k+q) q)) (λ_ j _=>4-(intOf j).toNat)
   case atStart=>exact⟨0,by omega,rfl,rfl⟩
   case round=>
    obtain⟨q,hq,rfl,rfl⟩:=hrel;by_cases aD:q<4
    ·have ha:=e2z s (λq=>4*k+q) q aD;have hb:=a1p s (4*k+q);have aX:4*k+q<s.size:=(by omega);go_wp2;go_round
     case rel=>exact⟨q+1,by omega,by go_num,rfl⟩
     case measure=>simp[intOf];omega
    ·have hq4:q=4:=(by omega);subst hq4;have qX:acc s (λq=>4*k+q) 4=a0h be4 s k:=(by rw[f0a,a0h,Nat.mul_comm k 4]);rw[qX];clear qX;go_wp2_with(at_builtin;refine wpList_append_own _ rfl _ _ 254 rfl w.heap.size 195 i0 (.int .u32 0) 1 4 underlying254 hi hz0 hz1 hz2 rfl (by decide) _ _ _ rfl (q8.alloc _) ⟨wr.heap.size,0,none⟩ 1 1 [.int .u32 (a0h be4 s k)] rfl rfl ?c1 ?c2 ?c3 ?c4 ?c5 ?_)
     case c2=>rfl
     case c3=>unfold maxLen;omega
     case c4=>omega
     case c5=>have:=t8.size;omega
     ·intro v' w1 t6 q9 _;have x6:Below w.heap.size w w1:=by
       refine Below.grown (t8.alloc t8.size _) q9 ?_ ?_
       ·have:=t8.size;simp;omega
       ·intro g hg;exact(q8.lt g hg).1
      have R:w1.ownsRow w.heap.size 195 1 v' (k+1) (a5h be4 s (k+1)):=by
       rw[b2s];exact t6
      clear t6 q9 q8 t8;go_wp2;go_roundw
      case rel=>exact⟨k+1,by omega,by go_num,R,x6⟩
      case measure=>simp[intOf];omega
  ·have aM:k=n:=(by omega);subst aM;go_wp2;go_ret2;exact⟨_,rfl,q8,t8⟩
def four (x:Int):List Int:=[x%256,x/256%256,x/65536%256,x/16777216]
def a1s (x:Int):List Int:=[x/16777216,x/65536%256,x/256%256,x%256]
theorem b3y (x:Int)(h0:0<=x)(h1:x<4294967296)(w:World):
 Calls prog 235 #[.int .u32 x] w λe w'=>e=.returned (.agg #[.int .u8 (x%256),.int .u8 (x/256%256),.int .u8 (x/65536%256),.int .u8 (x/16777216)])/\Below w.heap.size w w':=by
 go_enter func235,ntmps235;go_wp2;exact bodyPost_ret (v:=.agg #[.int .u8 (x%256),.int .u8 (x/256%256),.int .u8 (x/65536%256),.int .u8 (x/16777216)]) (by simp[results,results235,go_sem]) rfl ⟨rfl,(qw _ _).alloc (ql _) _⟩
theorem c0f (x:Int)(h0:0<=x)(h1:x<4294967296)(w:World):
 Calls prog 212 #[.int .u32 x] w λe w'=>e=.returned (.agg #[.int .u8 (x/16777216),.int .u8 (x/65536%256),.int .u8 (x/256%256),.int .u8 (x%256)])/\Below w.heap.size w w':=by
 go_enter func212,ntmps212;go_wp2;exact bodyPost_ret (v:=.agg #[.int .u8 (x/16777216),.int .u8 (x/65536%256),.int .u8 (x/256%256),.int .u8 (x%256)]) (by simp[results,results212,go_sem]) rfl ⟨rfl,(qw _ _).alloc (ql _) _⟩
def a1x (g:Int->List Int)(f:Nat->Int)(k:Nat):List Int:=(List.range k).flatMap λi=>g (f i)
theorem a1y (g:Int->List Int)(f:Nat->Int)(k:Nat):a1x g f (k+1)=a1x g f k++g (f k):=by
 unfold a1x;rw[List.range_succ,List.flatMap_append];simp
theorem a1h (g:Int->List Int)(hg:∀x,(g x).length=4)(f:Nat->Int)(k:Nat):(a1x g f k).length=4*k:=by
 induction k with
 |zero=>rfl
 |succ k ih=>rw[a1y,List.length_append,ih,hg];omega
theorem a6b {w:World}{b o:Nat}{v:Value}(h:w.cell? ⟨b,o,none⟩=some v):b<w.heap.size:=by
 rcases Nat.lt_or_ge b w.heap.size with h'|h'
 ·exact h'
 ·simp[World.cell?,Array.getElem?_eq_none h']at h
theorem c4a (a:Option Addr)(ca n:Nat)(f:Nat->Int)(w:World)(hn:n<=1000000)(ha:At w a n f)(hf:∀i,i<n->0<=f i/\f i<4294967296):
 Calls prog 211 #[.slice a n ca,.func (.func 235) #[] #[]] w λe w'=>e=.returned (.string (strOfNums (a1x four f n)))/\Below w.heap.size w w':=by
 obtain⟨i0,hi,hz0,hz1,hz2⟩:=info_parts info5;go_enter func211,ntmps211;go_wp2_with(at_make;refine wpList_make_own _ rfl _ _ 22 rfl w.heap.size 5 i0 (.int .u8 0) 1 underlying22 hi hz0 hz1 _ _ _ (4*n) rfl rfl ?c0 ?c2 ?c3 ?c4 ?_)
 case c0=>omega
 case c2=>rw[hz2];omega
 case c3=>unfold maxLen;omega
 case c4=>exact ql _
 intro w1 q8 q9;have t8:Below w.heap.size w w1:=(qw _ _).grown q9 (ql _) (λk h=>by cases h);go_wp2;go_loopw[5,15] (λv i wr=>∃k:Nat,k<=n/\i=.int .i64 k/\v=.slice (some ⟨w.heap.size,0,none⟩) (4*k) (4*n)/\wr.ownsRow w.heap.size 5 1 (.slice (some ⟨w.heap.size,0,none⟩) (4*k) (4*n)) (4*k) ((a1x four f k).map (Value.int .u8))/\Below w.heap.size w wr) (λ_ i _=>n-(intOf i).toNat)
 case atStart=>exact⟨0,Nat.zero_le _,rfl,rfl,q8,t8⟩
 case round=>
  obtain⟨k,hk,rfl,rfl,t6,x6⟩:=hrel;by_cases p9:k<n
  ·rcases ha with h0|⟨ba,oa,rfl,ha⟩
   ·omega
   have fX:=ha k p9;have hc1:wr.cell? ⟨ba,oa+k,none⟩=some (.int .u32 (f k)):=(x6.cell (p:=⟨ba,oa+k,none⟩) (a6b fX)).trans fX;obtain⟨f0,f1⟩:=hf k p9;have aT:(k:Int)<(n:Int):=(by omega);clear fX;go_wp2_with(first|(go_at_call 235;refine(b3y _ f0 f1 _).mono ?_;rintro e wx ⟨rfl,hx⟩)|(at_builtin;refine wpList_append_fits _ rfl _ _ 22 rfl w.heap.size 5 i0 1 underlying22 hi hz1 w.heap.size (4*k) (4*n) _ rfl (((a3d t6 hx).alloc _).alloc _) ⟨wx.heap.size+1,0,none⟩ 4 4 ((four (f k)).map (Value.int .u8)) rfl rfl ?c1 ?c2 ?c3 ?_))
   case c1=>
    intro j u hj
    match j,hj with
    |0,hj=>simp[four]at hj;subst hj;simp[Addr.add]
    |1,hj=>simp[four]at hj;subst hj;simp[Addr.add]
    |2,hj=>simp[four]at hj;subst hj;simp[Addr.add]
    |3,hj=>simp[four]at hj;subst hj;simp[Addr.add]
    |j+4,hj=>simp[four]at hj
   case c2=>exact ints_oneCell _ _
   case c3=>omega
   ·intro w2 aB bQ;have iY:Below w.heap.size w wx:=x6.trans (hx.mono x6.size);have aV:Below w.heap.size w w2:=by
     refine Below.grown ((iY.alloc iY.size _).alloc (by have:=iY.size;simp;omega) _) bQ (by have:=iY.size;simp;omega) ?_;intro g hg;cases hg;exact ql _
    have R:w2.ownsRow w.heap.size 5 1 (.slice (some ⟨w.heap.size,0,none⟩) (4*(k+1)) (4*n)) (4*(k+1)) ((a1x four f (k+1)).map (Value.int .u8)):=by
     rw[a1y,List.map_append];exact aB
    clear aB bQ t6 x6 iY hx;go_wp2;go_roundw
    case rel=>exact⟨k+1,by omega,by go_num,rfl,R,aV⟩
    case measure=>simp[intOf];omega
  ·have aM:k=n:=(by omega);subst aM;have aK:=a2h t6 (a1h four (λ_=>rfl) f k);go_wp2;go_ret;exact⟨rfl,x6⟩
theorem d9g (a:Option Addr)(ca n:Nat)(f:Nat->Int)(w:World)(hn:n<=1000000)(ha:At w a n f)(hf:∀i,i<n->0<=f i/\f i<4294967296):
 Calls prog 211 #[.slice a n ca,.func (.func 212) #[] #[]] w λe w'=>e=.returned (.string (strOfNums (a1x a1s f n)))/\Below w.heap.size w w':=by
 obtain⟨i0,hi,hz0,hz1,hz2⟩:=info_parts info5;go_enter func211,ntmps211;go_wp2_with(at_make;refine wpList_make_own _ rfl _ _ 22 rfl w.heap.size 5 i0 (.int .u8 0) 1 underlying22 hi hz0 hz1 _ _ _ (4*n) rfl rfl ?c0 ?c2 ?c3 ?c4 ?_)
 case c0=>omega
 case c2=>rw[hz2];omega
 case c3=>unfold maxLen;omega
 case c4=>exact ql _
 intro w1 q8 q9;have t8:Below w.heap.size w w1:=(qw _ _).grown q9 (ql _) (λk h=>by cases h);go_wp2;go_loopw[5,15] (λv i wr=>∃k:Nat,k<=n/\i=.int .i64 k/\v=.slice (some ⟨w.heap.size,0,none⟩) (4*k) (4*n)/\wr.ownsRow w.heap.size 5 1 (.slice (some ⟨w.heap.size,0,none⟩) (4*k) (4*n)) (4*k) ((a1x a1s f k).map (Value.int .u8))/\Below w.heap.size w wr) (λ_ i _=>n-(intOf i).toNat)
 case atStart=>exact⟨0,Nat.zero_le _,rfl,rfl,q8,t8⟩
 case round=>
  obtain⟨k,hk,rfl,rfl,t6,x6⟩:=hrel;by_cases p9:k<n
  ·rcases ha with h0|⟨ba,oa,rfl,ha⟩
   ·omega
   have fX:=ha k p9;have hc1:wr.cell? ⟨ba,oa+k,none⟩=some (.int .u32 (f k)):=(x6.cell (p:=⟨ba,oa+k,none⟩) (a6b fX)).trans fX;obtain⟨f0,f1⟩:=hf k p9;have aT:(k:Int)<(n:Int):=(by omega);clear fX;go_wp2_with(first|(go_at_call 212;refine(c0f _ f0 f1 _).mono ?_;rintro e wx ⟨rfl,hx⟩)|(at_builtin;refine wpList_append_fits _ rfl _ _ 22 rfl w.heap.size 5 i0 1 underlying22 hi hz1 w.heap.size (4*k) (4*n) _ rfl (((a3d t6 hx).alloc _).alloc _) ⟨wx.heap.size+1,0,none⟩ 4 4 ((a1s (f k)).map (Value.int .u8)) rfl rfl ?c1 ?c2 ?c3 ?_))
   case c1=>
    intro j u hj
    match j,hj with
    |0,hj=>simp[a1s]at hj;subst hj;simp[Addr.add]
    |1,hj=>simp[a1s]at hj;subst hj;simp[Addr.add]
    |2,hj=>simp[a1s]at hj;subst hj;simp[Addr.add]
    |3,hj=>simp[a1s]at hj;subst hj;simp[Addr.add]
    |j+4,hj=>simp[a1s]at hj
   case c2=>exact ints_oneCell _ _
   case c3=>omega
   ·intro w2 aB bQ;have iY:Below w.heap.size w wx:=x6.trans (hx.mono x6.size);have aV:Below w.heap.size w w2:=by
     refine Below.grown ((iY.alloc iY.size _).alloc (by have:=iY.size;simp;omega) _) bQ (by have:=iY.size;simp;omega) ?_;intro g hg;cases hg;exact ql _
    have R:w2.ownsRow w.heap.size 5 1 (.slice (some ⟨w.heap.size,0,none⟩) (4*(k+1)) (4*n)) (4*(k+1)) ((a1x a1s f (k+1)).map (Value.int .u8)):=by
     rw[a1y,List.map_append];exact aB
    clear aB bQ t6 x6 iY hx;go_wp2;go_roundw
    case rel=>exact⟨k+1,by omega,by go_num,rfl,R,aV⟩
    case measure=>simp[intOf];omega
  ·have aM:k=n:=(by omega);subst aM;have aK:=a2h t6 (a1h a1s (λ_=>rfl) f k);go_wp2;go_ret;exact⟨rfl,x6⟩
theorem a3w (a:Option Addr)(ca n:Nat)(f:Nat->Int)(w:World)(hn:n<=1000000)(ha:At w a n f)(hf:∀i,i<n->0<=f i/\f i<4294967296):
 Calls prog 203 #[.slice a n ca] w λe w'=>e=.returned (.string (strOfNums (a1x four f n)))/\Below w.heap.size w w':=by
 go_enter func203,ntmps203;go_wp2_with(go_at_call 211;refine(c4a _ _ _ f _ hn ha hf).mono ?_;rintro e w' ⟨rfl,hb⟩);go_ret;exact⟨rfl,hb⟩
theorem a8n (a:Option Addr)(ca n:Nat)(f:Nat->Int)(w:World)(hn:n<=1000000)(ha:At w a n f)(hf:∀i,i<n->0<=f i/\f i<4294967296):
 Calls prog 173 #[.slice a n ca] w λe w'=>e=.returned (.string (strOfNums (a1x a1s f n)))/\Below w.heap.size w w':=by
 go_enter func173,ntmps173;go_wp2_with(go_at_call 211;refine(d9g _ _ _ f _ hn ha hf).mono ?_;rintro e w' ⟨rfl,hb⟩);go_ret;exact⟨rfl,hb⟩
theorem e5t (x:Int)(h0:0<=x)(h1:x<4294967296):[x%256,x/256%256,x/256/256%256,x/256/256/256%256]=four x:=by
 have e1:x/256/256%256=x/65536%256:=by omega
 have e2:x/256/256/256%256=x/16777216:=by omega
 rw[e1,e2];rfl
theorem e2h {w:World}{base:Nat}{v:Value}{n:Nat}{xs:List Value}{G:Nat}{c:Array Value}(h:w.ownsRow base 5 1 v n xs)(hG:w.heap[G]?=some (.cells c 288)):some G≠v.ownBlock:=by
 intro e;rcases h.2 with⟨rfl,_⟩|⟨g,cap,cur,rfl,_,hg,_⟩
 ·cases e
 ·simp only[Value.ownBlock,Option.some.injEq]at e;subst e;rw[hg]at hG
  cases hG
theorem c6r {w:World}{G:Nat}{ys:List Int}(hG:w.heap[G]?=some (.cells (ys.map (Value.int .u8)).toArray 288))(r:Nat)(hr:r<ys.length):w.cell? ⟨G,r,none⟩=some (.int .u8 (ys.getD r 0)):=by
 simp[World.cell?,hG,hr]
theorem b4r (a:Option Addr)(ca n:Nat)(f:Nat->Int)(w:World)(hn:n<=1000000)(ha:At w a n f)(hf:∀i,i<n->0<=f i/\f i<4294967296):
 Calls prog 188 #[.slice a n ca,.bool false] w λe w'=>e=.returned (.string (strOfNums (a1x four f n)))/\Below w.heap.size w w':=by
 obtain⟨i0,hi,hz0,hz1,hz2⟩:=info_parts info5;go_enter func188,ntmps188;go_wp2;go_loopw[5,6] (λv i wr=>∃k:Nat,k<=n/\i=.int .i64 k/\wr.ownsRow w.heap.size 5 1 v (4*k) ((a1x four f k).map (Value.int .u8))/\Below w.heap.size w wr) (λ_ i _=>n-(intOf i).toNat)
 case atStart=>exact⟨0,Nat.zero_le _,rfl,World.ownsRow_nil _ _ _ _,qw _ _⟩
 case round=>
  obtain⟨k,hk,rfl,q8,t8⟩:=hrel;by_cases p9:k<n
  ·rcases ha with h0|⟨ba,oa,rfl,ha⟩
   ·omega
   have fX:=ha k p9;have hc1:wr.cell? ⟨ba,oa+k,none⟩=some (.int .u32 (f k)):=(t8.cell (p:=⟨ba,oa+k,none⟩) (a6b fX)).trans fX;have hc2:(wr.alloc (.cells #[.int .u8 0,.int .u8 0,.int .u8 0,.int .u8 0] 288)).cell? ⟨ba,oa+k,none⟩=some (.int .u32 (f k)):=by
    rw[World.cell?_alloc_some _ _ _ (by rw[hc1];rfl)];exact hc1
   obtain⟨f0,f1⟩:=hf k p9;have aT:(k:Int)<(n:Int):=(by omega);obtain⟨x,hx⟩:∃x,f k=x:=⟨_,rfl⟩;rw[hx]at hc2 f0 f1;have HX:Hid (f k=x):=hx;clear fX hc1 hx
   rename World=>wo
   go_wp2;go_loopw[8,9,10] (λy j _ wi=>
    (j=.int .i64 0/\y=.int .u32 x/\wi=wo.alloc (.cells #[.int .u8 0,.int .u8 0,.int .u8 0,.int .u8 0] 288))\/
    (j=.int .i64 1/\y=.int .u32 (x/256)/\wi=wo.alloc (.cells #[.int .u8 (x%256),.int .u8 0,.int .u8 0,.int .u8 0] 288))\/
    (j=.int .i64 2/\y=.int .u32 (x/256/256)/\wi=wo.alloc (.cells #[.int .u8 (x%256),.int .u8 (x/256%256),.int .u8 0,.int .u8 0] 288))\/
    (j=.int .i64 3/\y=.int .u32 (x/256/256/256)/\wi=wo.alloc (.cells #[.int .u8 (x%256),.int .u8 (x/256%256),.int .u8 (x/256/256%256),.int .u8 0] 288))\/
    (j=.int .i64 4/\wi=wo.alloc (.cells #[.int .u8 (x%256),.int .u8 (x/256%256),.int .u8 (x/256/256%256),.int .u8 (x/256/256/256%256)] 288))) (λ_ j _ _=>4-(intOf j).toNat)
   case atStart=>exact .inl ⟨rfl,rfl,rfl⟩
   case round=>
    rcases hrel with⟨rfl,rfl,rfl⟩|⟨rfl,rfl,rfl⟩|⟨rfl,rfl,rfl⟩|⟨rfl,rfl,rfl⟩|⟨rfl,rfl⟩
    ·go_wp2;go_roundw
     case rel=>exact .inr (.inl ⟨rfl,rfl,trivial⟩)
     case measure=>simp[intOf]
    ·go_wp2;go_roundw
     case rel=>exact .inr (.inr (.inl ⟨rfl,rfl,trivial⟩))
     case measure=>simp[intOf]
    ·go_wp2;go_roundw
     case rel=>exact .inr (.inr (.inr (.inl ⟨rfl,rfl,trivial⟩)))
     case measure=>simp[intOf]
    ·go_wp2;go_roundw
     case rel=>exact .inr (.inr (.inr (.inr ⟨rfl,trivial⟩)))
     case measure=>simp[intOf]
    ·go_wp2;have bS:(wo.alloc (.cells #[.int .u8 (x%256),.int .u8 (x/256%256),.int .u8 (x/256/256%256),.int .u8 (x/256/256/256%256)] 288)).heap[wo.heap.size]?=some (.cells ((four x).map (Value.int .u8)).toArray 288):=by
      rw[<-e5t x f0 f1];exact Array.getElem?_push_size
     have eM:=q8.alloc (.cells #[.int .u8 (x%256),.int .u8 (x/256%256),.int .u8 (x/256/256%256),.int .u8 (x/256/256/256%256)] 288);have eU:=t8.alloc t8.size (.cells #[.int .u8 (x%256),.int .u8 (x/256%256),.int .u8 (x/256/256%256),.int .u8 (x/256/256/256%256)] 288);generalize wo.alloc (.cells #[.int .u8 (x%256),.int .u8 (x/256%256),.int .u8 (x/256/256%256),.int .u8 (x/256/256/256%256)] 288)=wz at bS eM eU⊢;clear hc2 q8;generalize wo.heap.size=G at bS⊢;go_loopw[5,11] (λv j wi=>∃q:Nat,q<=4/\j=.int .i64 q/\wi.ownsRow w.heap.size 5 1 v (4*k+q) ((a1x four f k++(four x).take q).map (Value.int .u8))/\wi.heap[G]?=some (.cells ((four x).map (Value.int .u8)).toArray 288)/\Below w.heap.size w wi) (λ_ j _=>4-(intOf j).toNat)
     case atStart=>exact⟨0,by omega,rfl,by simpa using eM,bS,eU⟩
     case round=>
      obtain⟨q,hq,rfl,aF,bF,aQ⟩:=hrel;by_cases hq4:q<4
      ·have mE:=c6r bF q (by simpa[four]using hq4);have hq4':(q:Int)<4:=(by omega);obtain⟨y,hy⟩:∃y,(four x).getD q 0=y:=⟨_,rfl⟩;rw[hy]at mE;have HT:Hid ((four x).take (q+1)=(four x).take q++[y]):=by
        have hl:q<(four x).length:=hq4;rw[List.take_succ_eq_append_getElem hl,<-hy,List.getD_eq_getElem?_getD,List.getElem?_eq_getElem hl];rfl
       clear hy;go_wp2_with(at_builtin;refine wpList_append_own _ rfl _ _ 22 rfl w.heap.size 5 i0 (.int .u8 0) 1 1 underlying22 hi hz0 hz1 hz2 rfl (by decide) _ _ _ rfl (aF.alloc _) ⟨wr.heap.size,0,none⟩ 1 1 [.int .u8 y] rfl rfl ?c1 ?c2 ?c3 ?c4 ?c5 ?_)
       case c1=>
        intro j u hj
        match j,hj with
        |0,hj=>simp at hj;subst hj;simp[Addr.add]
       case c2=>intro u hu;simp at hu;subst hu;rfl
       case c3=>unfold maxLen;omega
       case c4=>omega
       case c5=>have:=aQ.size;simp;omega
       ·intro v' w1 t6 q9 _;have y6:=e2h aF bF;have eY:G<wr.heap.size:=by
         rcases Nat.lt_or_ge G wr.heap.size with h'|h'
         ·exact h'
         ·rw[Array.getElem?_eq_none h']at bF;cases bF
        have kB:w1.heap[G]?=some (.cells ((four x).map (Value.int .u8)).toArray 288):=by
         rw[q9.block G (by simp;omega) y6,Below.heap_alloc _ _ _ eY];exact bF
        have x6:Below w.heap.size w w1:=by
         refine Below.grown (aQ.alloc aQ.size _) q9 ?_ ?_
         ·have:=aQ.size;simp;omega
         ·intro g hg;exact(aF.lt g hg).1
        have R:w1.ownsRow w.heap.size 5 1 v' (4*k+(q+1)) ((a1x four f k++(four x).take (q+1)).map (Value.int .u8)):=by
         rw[HT.out,<-List.append_assoc,List.map_append,<-Nat.add_assoc];simpa using t6
        clear t6 q9 aF bF aQ mE y6 eY;go_wp2;go_roundw
        case rel=>exact⟨q+1,by omega,by go_num,R,kB,x6⟩
        case measure=>simp[intOf];omega
      ·have kS:q=4:=(by omega);subst kS;have R:wr.ownsRow w.heap.size 5 1 u5 (4*(k+1)) ((a1x four f (k+1)).map (Value.int .u8)):=by
        rw[a1y,HX.out,Nat.mul_succ];simpa[four]using aF
       clear aF bF;go_wp2;go_roundw
       case rel=>exact⟨k+1,by omega,by go_num,R,aQ⟩
       case measure=>simp[intOf];omega
  ·have aM:k=n:=(by omega);subst aM;have aK:=a2h q8 (a1h four (λ_=>rfl) f k);go_wp2;go_ret;exact⟨rfl,t8⟩
theorem e0a (x:Int)(h0:0<=x)(h1:x<4294967296):[x/256/256/256%256,x/256/256%256,x/256%256,x%256]=a1s x:=by
 have e1:x/256/256%256=x/65536%256:=by omega
 have e2:x/256/256/256%256=x/16777216:=by omega
 rw[e1,e2];rfl
theorem b3g (a:Option Addr)(ca n:Nat)(f:Nat->Int)(w:World)(hn:n<=1000000)(ha:At w a n f)(hf:∀i,i<n->0<=f i/\f i<4294967296):
 Calls prog 188 #[.slice a n ca,.bool true] w λe w'=>e=.returned (.string (strOfNums (a1x a1s f n)))/\Below w.heap.size w w':=by
 obtain⟨i0,hi,hz0,hz1,hz2⟩:=info_parts info5;go_enter func188,ntmps188;go_wp2;go_loopw[5,6] (λv i wr=>∃k:Nat,k<=n/\i=.int .i64 k/\wr.ownsRow w.heap.size 5 1 v (4*k) ((a1x a1s f k).map (Value.int .u8))/\Below w.heap.size w wr) (λ_ i _=>n-(intOf i).toNat)
 case atStart=>exact⟨0,Nat.zero_le _,rfl,World.ownsRow_nil _ _ _ _,qw _ _⟩
 case round=>
  obtain⟨k,hk,rfl,q8,t8⟩:=hrel;by_cases p9:k<n
  ·rcases ha with h0|⟨ba,oa,rfl,ha⟩
   ·omega
   have fX:=ha k p9;have hc1:wr.cell? ⟨ba,oa+k,none⟩=some (.int .u32 (f k)):=(t8.cell (p:=⟨ba,oa+k,none⟩) (a6b fX)).trans fX;have hc2:(wr.alloc (.cells #[.int .u8 0,.int .u8 0,.int .u8 0,.int .u8 0] 288)).cell? ⟨ba,oa+k,none⟩=some (.int .u32 (f k)):=by
    rw[World.cell?_alloc_some _ _ _ (by rw[hc1];rfl)];exact hc1
   obtain⟨f0,f1⟩:=hf k p9;have aT:(k:Int)<(n:Int):=(by omega);obtain⟨x,hx⟩:∃x,f k=x:=⟨_,rfl⟩;rw[hx]at hc2 f0 f1;have HX:Hid (f k=x):=hx;clear fX hc1 hx
   rename World=>wo
   go_wp2;go_loopw[8,9,10] (λy j _ wi=>
    (j=.int .i64 0/\y=.int .u32 x/\wi=wo.alloc (.cells #[.int .u8 0,.int .u8 0,.int .u8 0,.int .u8 0] 288))\/
    (j=.int .i64 1/\y=.int .u32 (x/256)/\wi=wo.alloc (.cells #[.int .u8 0,.int .u8 0,.int .u8 0,.int .u8 (x%256)] 288))\/
    (j=.int .i64 2/\y=.int .u32 (x/256/256)/\wi=wo.alloc (.cells #[.int .u8 0,.int .u8 0,.int .u8 (x/256%256),.int .u8 (x%256)] 288))\/
    (j=.int .i64 3/\y=.int .u32 (x/256/256/256)/\wi=wo.alloc (.cells #[.int .u8 0,.int .u8 (x/256/256%256),.int .u8 (x/256%256),.int .u8 (x%256)] 288))\/
    (j=.int .i64 4/\wi=wo.alloc (.cells #[.int .u8 (x/256/256/256%256),.int .u8 (x/256/256%256),.int .u8 (x/256%256),.int .u8 (x%256)] 288))) (λ_ j _ _=>4-(intOf j).toNat)
   case atStart=>exact .inl ⟨rfl,rfl,rfl⟩
   case round=>
    rcases hrel with⟨rfl,rfl,rfl⟩|⟨rfl,rfl,rfl⟩|⟨rfl,rfl,rfl⟩|⟨rfl,rfl,rfl⟩|⟨rfl,rfl⟩
    ·go_wp2;go_roundw
     case rel=>exact .inr (.inl ⟨rfl,rfl,trivial⟩)
     case measure=>simp[intOf]
    ·go_wp2;go_roundw
     case rel=>exact .inr (.inr (.inl ⟨rfl,rfl,trivial⟩))
     case measure=>simp[intOf]
    ·go_wp2;go_roundw
     case rel=>exact .inr (.inr (.inr (.inl ⟨rfl,rfl,trivial⟩)))
     case measure=>simp[intOf]
    ·go_wp2;go_roundw
     case rel=>exact .inr (.inr (.inr (.inr ⟨rfl,trivial⟩)))
     case measure=>simp[intOf]
    ·go_wp2;have bS:(wo.alloc (.cells #[.int .u8 (x/256/256/256%256),.int .u8 (x/256/256%256),.int .u8 (x/256%256),.int .u8 (x%256)] 288)).heap[wo.heap.size]?=some (.cells ((a1s x).map (Value.int .u8)).toArray 288):=by
      rw[<-e0a x f0 f1];exact Array.getElem?_push_size
     have eM:=q8.alloc (.cells #[.int .u8 (x/256/256/256%256),.int .u8 (x/256/256%256),.int .u8 (x/256%256),.int .u8 (x%256)] 288);have eU:=t8.alloc t8.size (.cells #[.int .u8 (x/256/256/256%256),.int .u8 (x/256/256%256),.int .u8 (x/256%256),.int .u8 (x%256)] 288);generalize wo.alloc (.cells #[.int .u8 (x/256/256/256%256),.int .u8 (x/256/256%256),.int .u8 (x/256%256),.int .u8 (x%256)] 288)=wz at bS eM eU⊢;clear hc2 q8;generalize wo.heap.size=G at bS⊢;go_loopw[5,11] (λv j wi=>∃q:Nat,q<=4/\j=.int .i64 q/\wi.ownsRow w.heap.size 5 1 v (4*k+q) ((a1x a1s f k++(a1s x).take q).map (Value.int .u8))/\wi.heap[G]?=some (.cells ((a1s x).map (Value.int .u8)).toArray 288)/\Below w.heap.size w wi) (λ_ j _=>4-(intOf j).toNat)
     case atStart=>exact⟨0,by omega,rfl,by simpa using eM,bS,eU⟩
     case round=>
      obtain⟨q,hq,rfl,aF,bF,aQ⟩:=hrel;by_cases hq4:q<4
      ·have mE:=c6r bF q (by simpa[a1s]using hq4);have hq4':(q:Int)<4:=(by omega);obtain⟨y,hy⟩:∃y,(a1s x).getD q 0=y:=⟨_,rfl⟩;rw[hy]at mE;have HT:Hid ((a1s x).take (q+1)=(a1s x).take q++[y]):=by
        have hl:q<(a1s x).length:=hq4;rw[List.take_succ_eq_append_getElem hl,<-hy,List.getD_eq_getElem?_getD,List.getElem?_eq_getElem hl];rfl
       clear hy;go_wp2_with(at_builtin;refine wpList_append_own _ rfl _ _ 22 rfl w.heap.size 5 i0 (.int .u8 0) 1 1 underlying22 hi hz0 hz1 hz2 rfl (by decide) _ _ _ rfl (aF.alloc _) ⟨wr.heap.size,0,none⟩ 1 1 [.int .u8 y] rfl rfl ?c1 ?c2 ?c3 ?c4 ?c5 ?_)
       case c1=>
        intro j u hj
        match j,hj with
        |0,hj=>simp at hj;subst hj;simp[Addr.add]
       case c2=>intro u hu;simp at hu;subst hu;rfl
       case c3=>unfold maxLen;omega
       case c4=>omega
       case c5=>have:=aQ.size;simp;omega
       ·intro v' w1 t6 q9 _;have y6:=e2h aF bF;have eY:G<wr.heap.size:=by
         rcases Nat.lt_or_ge G wr.heap.size with h'|h'
         ·exact h'
         ·rw[Array.getElem?_eq_none h']at bF;cases bF
        have kB:w1.heap[G]?=some (.cells ((a1s x).map (Value.int .u8)).toArray 288):=by
         rw[q9.block G (by simp;omega) y6,Below.heap_alloc _ _ _ eY];exact bF
        have x6:Below w.heap.size w w1:=by
         refine Below.grown (aQ.alloc aQ.size _) q9 ?_ ?_
         ·have:=aQ.size;simp;omega
         ·intro g hg;exact(aF.lt g hg).1
        have R:w1.ownsRow w.heap.size 5 1 v' (4*k+(q+1)) ((a1x a1s f k++(a1s x).take (q+1)).map (Value.int .u8)):=by
         rw[HT.out,<-List.append_assoc,List.map_append,<-Nat.add_assoc];simpa using t6
        clear t6 q9 aF bF aQ mE y6 eY;go_wp2;go_roundw
        case rel=>exact⟨q+1,by omega,by go_num,R,kB,x6⟩
        case measure=>simp[intOf];omega
      ·have kS:q=4:=(by omega);subst kS;have R:wr.ownsRow w.heap.size 5 1 u5 (4*(k+1)) ((a1x a1s f (k+1)).map (Value.int .u8)):=by
        rw[a1y,HX.out,Nat.mul_succ];simpa[a1s]using aF
       clear aF bF;go_wp2;go_roundw
       case rel=>exact⟨k+1,by omega,by go_num,R,aQ⟩
       case measure=>simp[intOf];omega
  ·have aM:k=n:=(by omega);subst aM;have aK:=a2h q8 (a1h a1s (λ_=>rfl) f k);go_wp2;go_ret;exact⟨rfl,t8⟩
theorem b8j (a b:Int):0<=bits .xor .u32 a b/\bits .xor .u32 a b<4294967296:=by
 show 0<=IntKind.u32.wrap _/\IntKind.u32.wrap _<4294967296;rw[IntKind.wrap_u32'];omega
theorem a1q (a b:BA)(i:Nat)(h:i<a.size):bt (a++b) i=bt a i:=by
 unfold bt;rw[dif_pos (by rw[ByteArray.size_append];omega),dif_pos h,ByteArray.getElem_append_left h]
theorem a1o (a b:BA)(i:Nat)(h:a.size<=i):bt (a++b) i=bt b (i-a.size):=by
 unfold bt;by_cases h2:i-a.size<b.size
 ·rw[dif_pos (by rw[ByteArray.size_append];omega),dif_pos h2,ByteArray.getElem_append_right h]
 ·rw[dif_neg (by rw[ByteArray.size_append];omega),dif_neg h2]
theorem a2w (s:BA)(p q i:Nat)(hq:q<=s.size)(h:p+i<q):bt (s.extract p q) i=bt s (p+i):=by
 unfold bt;have hs:i<(s.extract p q).size:=by rw[ByteArray.size_extract];omega
 rw[dif_pos hs,dif_pos (by omega),ByteArray.getElem_extract]
theorem d5h (s:BA):s.extract 0 s.size=s:=by
 apply a2q
 ·rw[ByteArray.size_extract];omega
 ·intro i hi;rw[ByteArray.size_extract]at hi;rw[a2w s 0 s.size i (ql _) (by omega),Nat.zero_add]
theorem e6c (s:BA)(p k:Nat)(hp:p+k<=s.size):(s.extract p s.size).extract k (s.extract p s.size).size=s.extract (p+k) s.size:=by
 apply a2q
 ·simp only[ByteArray.size_extract];omega
 ·intro i hi;simp only[ByteArray.size_extract]at hi;rw[a2w _ k _ i (ql _) (by simp only[ByteArray.size_extract];omega),a2w s p s.size _ (ql _) (by omega),a2w s (p+k) s.size i (ql _) (by omega),Nat.add_assoc]
theorem e0m (s:BA)(p q:Nat)(hpq:p<=q)(hq:q<=s.size):s.extract 0 p++s.extract p q=s.extract 0 q:=by
 apply a2q
 ·rw[ByteArray.size_append];simp only[ByteArray.size_extract];omega
 ·intro i hi;rw[ByteArray.size_append]at hi;simp only[ByteArray.size_extract]at hi;rw[a2w s 0 q i hq (by omega)];by_cases h:i<p
  ·rw[a1q _ _ _ (by simp only[ByteArray.size_extract];omega),a2w s 0 p i (by omega) (by omega)]
  ·rw[a1o _ _ _ (by simp only[ByteArray.size_extract];omega),a2w s p q _ hq (by simp only[ByteArray.size_extract];omega)];simp only[ByteArray.size_extract];congr 1;omega
theorem b5p (a b c:BA):a++b++c=a++(b++c):=by
 apply ByteArray.ext;simp[ByteArray.data_append,Array.append_assoc]
theorem b7v (s:BA)(q i:Nat)(h1:i<q)(h2:i<s.size):bt (s.extract 0 q) i=bt s i:=by
 rcases Nat.le_total q s.size with h|h
 ·rw[a2w s 0 q i h (by omega),Nat.zero_add]
 ·have e:s.extract 0 q=s:=by
   apply a2q
   ·rw[ByteArray.size_extract];omega
   ·intro j hj;rw[ByteArray.size_extract]at hj;unfold bt;rw[dif_pos (by rw[ByteArray.size_extract];omega),dif_pos (by omega),ByteArray.getElem_extract];simp
  rw[e]
theorem b6a (s:BA)(q:Nat)(h:s.size<=q):s.extract 0 q=s:=by
 apply a2q
 ·rw[ByteArray.size_extract];omega
 ·intro i hi;rw[ByteArray.size_extract]at hi;exact b7v s q i (by omega) (by omega)
def fz {α:Type}(n:Nat)(k:Nat->α):α:=match n with
 |0=>k 0
 |m+1=>k (m+1)
def e1w:Value->Nat
 |.string s=>s.size
 |_=>0
def Blk (w:World)(g:Nat)(T:TypeId)(L:List Value):Prop:=w.heap[g]?=some (.cells L.toArray T (0,0))
def Only (g:Nat)(w w':World):Prop:=w.grownBy w' (some g)
theorem Blk.lt {w:World}{g:Nat}{T:TypeId}{L:List Value}(h:Blk w g T L):g<w.heap.size:=by
 rcases Nat.lt_or_ge g w.heap.size with h'|h'
 ·exact h'
 ·unfold Blk at h;rw[Array.getElem?_eq_none h']at h;cases h
theorem Blk.cell {w:World}{g:Nat}{T:TypeId}{L:List Value}(h:Blk w g T L){i:Nat}{v:Value}(hi:L[i]?=some v):w.cell? ⟨g,i,none⟩=some v:=by
 unfold Blk at h;simp[World.cell?,h,hi]
theorem Blk.frozen {w:World}{g:Nat}{T:TypeId}{L:List Value}(h:Blk w g T L)(i:Nat):w.frozen? ⟨g,i,none⟩=false:=by
 unfold Blk at h;simp[World.frozen?,h]
theorem Blk.drew {w:World}{g:Nat}{T:TypeId}{L:List Value}(h:Blk w g T L):Blk w.drew g T L:=h
theorem Blk.drewN {w:World}{g:Nat}{T:TypeId}{L:List Value}(h:Blk w g T L)(n:Nat):Blk (w.drewN n) g T L:=h
theorem Blk.setCell {w:World}{g:Nat}{T:TypeId}{L:List Value}(h:Blk w g T L)(i:Nat)(v:Value):Blk (w.setCell ⟨g,i,none⟩ v) g T (L.set i v):=by
 unfold Blk at h⊢;rw[setCell_eq_setRow w g i _ T (0,0) v h,setRow_heap w g _ _ T (0,0) h];simp
theorem Blk.setOther {w:World}{g k:Nat}{T:TypeId}{L:List Value}(h:Blk w g T L)(hk:g≠k)(i:Nat)(v:Value):Blk (w.setCell ⟨k,i,none⟩ v) g T L:=by
 unfold Blk at h⊢;rw[Below.heap_setCell w ⟨k,i,none⟩ v g hk];exact h
theorem Blk.alloc {w:World}{g:Nat}{T:TypeId}{L:List Value}(h:Blk w g T L)(o:Obj):Blk (w.alloc o) g T L:=by
 have:=h.lt;unfold Blk at h⊢;rw[Below.heap_alloc w o g this];exact h
theorem Blk.new (w:World)(T:TypeId)(L:Array Value):Blk (w.alloc (.cells L T)) w.heap.size T L.toList:=by
 unfold Blk;rw[Array.toArray_toList];exact Array.getElem?_push_size
theorem Blk.below {w w':World}{g B:Nat}{T:TypeId}{L:List Value}(h:Blk w g T L)(hb:Below B w w')(hB:g<B):Blk w' g T L:=by
 unfold Blk at h⊢;rw[hb.block g hB];exact h
theorem Blk.only {w w':World}{g k:Nat}{T:TypeId}{L:List Value}(h:Blk w g T L)(ho:Only k w w')(hk:g≠k):Blk w' g T L:=by
 have hl:=h.lt;unfold Blk at h⊢;rw[ho.block g hl (λe=>hk (Option.some.inj e))];exact h
theorem Only.refl (g:Nat)(w:World):Only g w w:=⟨rfl,rfl,rfl,ql _,λ_ _ _=>rfl⟩
theorem Only.trans {g:Nat}{a b c:World}(h:Only g a b)(k:Only g b c):Only g a c:=
 ⟨k.os.trans h.os,k.tape.trans h.tape,k.output.trans h.output,Nat.le_trans h.size k.size,λi hi y6=>(k.block i (Nat.lt_of_lt_of_le hi h.size) y6).trans (h.block i hi y6)⟩
theorem Only.drew {g:Nat}{a w:World}(h:Only g a w):Only g a w.drew:=⟨h.os,h.tape,h.output,h.size,h.block⟩
theorem Only.drewN {g:Nat}{a w:World}(h:Only g a w)(n:Nat):Only g a (w.drewN n):=⟨h.os,h.tape,h.output,h.size,h.block⟩
theorem Only.setCell {g:Nat}{a w:World}(h:Only g a w)(i:Nat)(v:Value):Only g a (w.setCell ⟨g,i,none⟩ v):=
 h.trans ⟨rfl,rfl,rfl,by simp,λk hk y6=>Below.heap_setCell w ⟨g,i,none⟩ v k (λe=>y6 (by rw[e]))⟩
theorem Only.setRow {g:Nat}{a w:World}(h:Only g a w)(cs:Array Value):Only g a (w.setRow g cs):=
 h.trans ⟨rfl,rfl,rfl,by simp[World.setRow],λk _ y6=>setRow_other w g k cs λe=>y6 (by rw[e])⟩
theorem Only.alloc {g:Nat}{a w:World}(h:Only g a w)(o:Obj):Only g a (w.alloc o):=
 h.trans ⟨rfl,rfl,rfl,by simp,λk hk _=>Below.heap_alloc w o k hk⟩
theorem Only.ofBelow {g:Nat}{w w':World}(h:Below w.heap.size w w'):Only g w w':=⟨h.os,h.tape,h.output,h.size,λk hk _=>h.block k hk⟩
theorem Only.thenBelow {g:Nat}{a w w':World}(h:Only g a w)(k:Below w.heap.size w w'):Only g a w':=h.trans (.ofBelow k)
theorem Below.only {B g:Nat}{a w w':World}(h:Below B a w)(ho:Only g w w')(hB:B<=w.heap.size)(hg:B<=g):Below B a w':=
 Below.grown h ho hB (λk e=>by cases e;exact hg)
def ws (n:Nat)(S:Nat->Int):List Value:=(List.range n).map λi=>.int .u32 (S i)
theorem a0f (n:Nat)(S:Nat->Int):(ws n S).length=n:=by simp[ws]
theorem a0z (n:Nat)(S:Nat->Int)(i:Nat)(h:i<n):(ws n S)[i]?=some (.int .u32 (S i)):=by simp[ws,h]
theorem a4k (n:Nat)(S R:Nat->Int)(h:∀i,i<n->S i=R i):ws n S=ws n R:=by
 unfold ws;exact List.map_congr_left λi hi=>by rw[h i (List.mem_range.1 hi)]
theorem a7p (n:Nat)(S:Nat->Int)(k:Nat)(x:Int):(ws n S).set k (.int .u32 x)=ws n (λi=>if i=k then x else S i):=by
 apply List.ext_getElem
 ·simp[ws]
 ·intro j h1 h2;rw[List.getElem_set];simp only[ws,List.getElem_map,List.getElem_range];by_cases e:k=j
  ·rw[qp e,qp e.symm]
  ·rw[qn e,qn (λh=>e h.symm)]
theorem a3f (n:Nat)(S:Nat->Int):∀v∈ws n S,v.oneCell'=true:=by
 intro v hv;obtain⟨i,_,rfl⟩:=List.mem_map.1 hv;rfl
theorem size195:(prog.info? 195).map (·.size)=some 1:=by kernel_rfl
theorem Blk.setRow {w:World}{g:Nat}{T:TypeId}{L M:List Value}(h:Blk w g T L):Blk (w.setRow g M.toArray) g T M:=setRow_heap w g _ _ T _ h
theorem Blk.setRowOther {w:World}{g k:Nat}{T:TypeId}{L:List Value}(h:Blk w g T L)(hk:g≠k)(cs:Array Value):Blk (w.setRow k cs) g T L:=by
 unfold Blk at h⊢;rw[setRow_other w k g cs hk];exact h
theorem Blk.hasCell {w:World}{g:Nat}{T:TypeId}{L:List Value}(h:Blk w g T L)(i:Nat)(hi:i<L.length):∃v,w.cell? ⟨g,i,none⟩=some v:=⟨L[i],h.cell (List.getElem?_eq_getElem hi)⟩
theorem a0a {P:Program}{ops:Array Oper}{rest:List Oper}{o:Oper}{a:Act}{w:World}{Q:Exit->Act->World->Prop}(y5:o.guard=none)(ty:TypeId)(x:Operand)(ho:o.op=.load ty x)
 (g:Nat)(hx:a.eval x=.pointer (some ⟨g,0,none⟩))(t:TypeId)(L:List Value)(d:TypeDesc)(hg:Blk w g t L)
 (hu:P.underlying ty=some d)(hd:(match d with|.struct _|.array _ _=>true|_=>false)=true)(hi:(P.info? ty).map (·.size)=some L.length)
 (h:wpList P ops Q rest (a.put o.dst (.agg L.toArray)) w):wpList P ops Q (o::rest) a w:=
 wpList_plain y5 λ_ hK=>wp_load_row ty x ho g hx t L.toArray (0,0) d hg hu hd (by simpa using hi) (hK _ _ h)
theorem a0b {P:Program}{ops:Array Oper}{rest:List Oper}{o:Oper}{a:Act}{w:World}{Q:Exit->Act->World->Prop}(y5:o.guard=none)(ty:TypeId)(x y:Operand)(ho:o.op=.store ty x y)
 (g:Nat)(L M:List Value)(hx:a.eval x=.pointer (some ⟨g,0,none⟩))(hy:a.eval y=.agg M.toArray)(t:TypeId)(hg:Blk w g t L)
 (hi:(P.info? ty).map (·.size)=some M.length)(hl:L.length=M.length)(h1:∀v∈M,v.oneCell'=true)
 (h:wpList P ops Q rest (a.put o.dst undef) (w.setRow g M.toArray)):wpList P ops Q (o::rest) a w:=
 wpList_plain y5 λ_ hK=>wp_store_row ty x y ho g M.toArray hx hy t L.toArray hg (by simpa using hi) (by simpa using hl) (all_oneCell_toArray h1) (hK _ _ h)
theorem b6b {P:Program}{ops:Array Oper}{o:Oper}{a:Act}{w:World}{K:Act->World->Prop}{Q:Exit->Act->World->Prop}{E:Prop}(y5:o.guard=none)(ty:TypeId)(x:Operand)(ho:o.op=.load ty x)
 (g:Nat)(hx:a.eval x=.pointer (some ⟨g,0,none⟩))(t:TypeId)(L:List Value)(d:TypeDesc)(hg:Blk w g t L)
 (hu:P.underlying ty=some d)(hd:(match d with|.struct _|.array _ _=>true|_=>false)=true)(hi:(P.info? ty).map (·.size)=some L.length)
 (h:K (a.put o.dst (.agg L.toArray)) w):if Region.wanted o (yielded ops a.tmps)=true then Oper.wp P o a w K Q else E:=by
 rw[qp (by simp[Region.wanted,y5])];exact wp_load_row ty x ho g hx t L.toArray (0,0) d hg hu hd (by simpa using hi) h
theorem a2v {P:Program}{ops:Array Oper}{o:Oper}{a:Act}{w:World}{K:Act->World->Prop}{Q:Exit->Act->World->Prop}{E:Prop}(y5:o.guard=none)(ty:TypeId)(x y:Operand)(ho:o.op=.store ty x y)
 (g:Nat)(L M:List Value)(hx:a.eval x=.pointer (some ⟨g,0,none⟩))(hy:a.eval y=.agg M.toArray)(t:TypeId)(hg:Blk w g t L)
 (hi:(P.info? ty).map (·.size)=some M.length)(hl:L.length=M.length)(h1:∀v∈M,v.oneCell'=true)
 (h:K (a.put o.dst undef) (w.setRow g M.toArray)):
 if Region.wanted o (yielded ops a.tmps)=true then Oper.wp P o a w K Q else E:=by
 rw[qp (by simp[Region.wanted,y5])];exact wp_store_row ty x y ho g M.toArray hx hy t L.toArray hg (by simpa using hi) (by simpa using hl) (all_oneCell_toArray h1) h
theorem a3h {P:Program}{ops:Array Oper}{o:Oper}{a:Act}{w:World}{K:Act->World->Prop}{Q:Exit->Act->World->Prop}{E:Prop}(y5:o.guard=none)(d s:Operand)(dT sT:TypeId)
 (ho:o.op=.call {callee:=.builtin .copy,args:=#[d,s],argTypes:=#[dT,sT]})(vd vs:Value)(hd:a.eval d=vd)(hs:a.eval s=vs)(r:Value)(w':World)
 (r6:(Builtin.copy_ #[dT,sT] o.type #[vd,vs]).run P w=.ok r w')(h:K (a.put o.dst r) w'):
 if Region.wanted o (yielded ops a.tmps)=true then Oper.wp P o a w K Q else E:=by
 have hw:Region.wanted o (yielded ops a.tmps)=true:=by simp[Region.wanted,y5]
 rw[qp hw];unfold Oper.wp;simp[execOp,ho,resolve,invoke,builtin,hd,hs,r6,Result.andThen];exact h
theorem a4p {P:Program}{ops:Array Oper}{o:Oper}{a:Act}{w:World}{K:Act->World->Prop}{Q:Exit->Act->World->Prop}{E':Prop}(y5:o.guard=none)(s x:Operand)(t tn:TypeId)
 (ho:o.op=.call {callee:=.builtin .append,args:=#[s,x],argTypes:=#[t,tn]})(vs vx:Value)(hs:a.eval s=vs)(hx:a.eval x=vx)
 (v':Value)(w':World)(hr:(Builtin.append_ #[t,tn] o.type #[vs,vx]).run P w=.ok v' w')(h:K (a.put o.dst v') w'):
 if Region.wanted o (yielded ops a.tmps)=true then Oper.wp P o a w K Q else E':=by
 have hw:Region.wanted o (yielded ops a.tmps)=true:=by simp[Region.wanted,y5]
 rw[qp hw];unfold Oper.wp;simp[execOp,ho,resolve,invoke,builtin,hs,hx,hr,Result.andThen];exact h
theorem a1a {P:Program}{fn:Func}{tmps:Array Value}{w:World}{v:Value}(slot:Nat)(t:TypeId)(a:Addr)(h:fn.results=#[.cell slot t])(ht:tmps.getD slot undef=.pointer (some a))(hl:(loadVar t a).run P w=.ok v w):(results fn tmps).run P w=.ok v w:=by
 have e:(asAddr (tmps.getD slot undef)).run P w=.ok a w:=by rw[ht];rfl
 unfold results;rw[h];simp[e,hl,-Array.getD_eq_getD_getElem?]
theorem results_cell_tmp {P:Program}{fn:Func}{tmps:Array Value}{w:World}{v u:Value}(slot s2:Nat)(t:TypeId)(a:Addr)(h:fn.results=#[.cell slot t,.tmp s2])(ht:tmps.getD slot undef=.pointer (some a))(hl:(loadVar t a).run P w=.ok v w)(hu:tmps.getD s2 undef=u):(results fn tmps).run P w=.ok (.tuple #[v,u]) w:=by
 have e:(asAddr (tmps.getD slot undef)).run P w=.ok a w:=by rw[ht];rfl
 unfold results;rw[h];simp[e,hl,hu,-Array.getD_eq_getD_getElem?]
section
variable {P:Program}{ops:Array Oper}{Q:Exit->Act->World->Prop}{md:Region.Mode}{S S':World->Prop}
theorem a1n (h:∀w,S' w->S w):∀(fuel:Nat) (listed:Array Bool) (a:Act) (w:World),wpAnyH P md ops Q S' fuel listed a w->wpAnyH P md ops Q S fuel listed a w
 |0,_,_,_,h0=>h0
 |fuel+1,_,_,_,h0=>⟨h0.1,λi hi=>wpOp_mono (λa' w' h'=>⟨h _ h'.1,a1n h fuel _ a' w' h'.2⟩) (h0.2 i hi)⟩
end
section
variable {P:Program}{ops:Array Oper}{Q:Exit->Act->World->Prop}{md:Region.Mode}{S S0:World->Prop}{c i j:Nat}{L:Array Bool}
def Till (S:World->Prop)(c:Nat)(L:Array Bool)(w:World):Prop:=L.getD c true=false->S w
def a4o (P:Program)(md:Region.Mode)(ops:Array Oper)(Q:Exit->Act->World->Prop)(S:World->Prop)(c:Nat):Nat->Array Bool->Act->World->Prop
 |0,L,a,w=>Region.ready md ops L=[]/\Q .normal a w
 |n+1,L,a,w=>(Region.ready md ops L=[]->Q .normal a w)/\
   ∀k∈Region.ready md ops L,wpOp P ops Q k (λb z=>Till S c (L.setIfInBounds k true) z/\a4o P md ops Q S c n (L.setIfInBounds k true) b z) a w
theorem b8m (n:Nat):∀(L:Array Bool) (a:Act) (w:World),a4o P md ops Q S c n L a w->wpAny P md ops Q n L a w:=by
 induction n with
 |zero=>exact λ_ _ _ h=>h
 |succ n ih=>exact λ_ _ _ h=>⟨h.1,λk hk=>wpOp_mono (λb z hb=>ih _ b z hb.2) (h.2 k hk)⟩
theorem Till.step {w:World}(h:Till S c L w)(hk:i≠c):Till S c (L.setIfInBounds i true) w:=λe=>h (by rwa[getD_set_ne true hk]at e)
theorem Till.back {w:World}(h:Till S c (L.setIfInBounds i true) w)(hk:i≠c):Till S c L w:=λe=>h (by rw[getD_set_ne true hk];exact e)
theorem d7a (hr:i∈Region.ready md ops L)(d:Bool):L.getD i d=false:=by
 have h0:=(mem_ready.1 hr).1;rw[Array.getD_eq_getD_getElem?]at h0⊢
 cases hx:L[i]? with
 |none=>rw[hx]at h0;cases h0
 |some v=>rw[hx]at h0;exact h0
theorem d3f {oj:Oper}(hr:i∈Region.ready md ops L)(hj:j∈Region.ready md ops L)(ho:ops[j]?=some oj):∀e∈oj.after,Region.binds md e=true->e.on≠i:=by
 intro e he hb rT;obtain⟨-,o,ho',aR⟩:=mem_ready.1 hj;obtain rfl:o=oj:=Option.some.inj (ho'.symm.trans ho);have:=aR e he hb;rw[rT,d7a hr false]at this
 cases this
def Clear (md:Region.Mode)(ops:Array Oper)(i:Nat)(oi:Oper)(L:Array Bool):Prop:=
 ∀k ok,ops[k]?=some ok->k≠i->L.getD k true=false->(∀e∈ok.after,Region.binds md e=true->e.on≠i)->oi.apart ops ok=true
theorem Clear.step {oi:Oper}(h:Clear md ops i oi L)(hj:L.getD j true=false):Clear md ops i oi (L.setIfInBounds j true):=by
 intro k ok hk hki hun aW;refine h k ok hk hki ?_ aW;rcases Nat.decEq j k with y6|rfl
 ·rwa[getD_set_ne true y6]at hun
 ·exact hj
theorem b1f {oi:Oper}{v:Value}(J:Array Bool->Prop)(hi:ops[i]?=some oi)(rG:∀(k:Nat) (o:Oper) cs b,ops[k]?=some o->o.op≠.select cs b)
 (hQ:∀x a w,Q (.panic x) (a.put oi.dst v) w->Q (.panic x) a w)(hic:i≠c)
 (hJ:∀(L:Array Bool) k,J L->i∈Region.ready md ops L->k∈Region.ready md ops L->k≠i->J (L.setIfInBounds k true))(hS:∀(L:Array Bool) w,J L->Till S c L w->S0 w)(n:Nat):
 ∀(L:Array Bool) (a:Act) (w:World),Clear md ops i oi L->i∈Region.ready md ops L->J L->YieldsIf P ops S0 oi v a->Till S c L w->
  a4o P md ops Q S c n (L.setIfInBounds i true) (a.put oi.dst v) w->a4o P md ops Q S c (n+1) L a w:=by
 have start:∀(m:Nat) (L:Array Bool) (a:Act) (w:World),i∈Region.ready md ops L->J L->YieldsIf P ops S0 oi v a->Till S c L w->a4o P md ops Q S c m (L.setIfInBounds i true) (a.put oi.dst v) w->
  (∀k∈Region.ready md ops L,k≠i->wpOp P ops Q k (λb z=>Till S c (L.setIfInBounds k true) z/\a4o P md ops Q S c m (L.setIfInBounds k true) b z) a w)->a4o P md ops Q S c (m+1) L a w:=by
  intro m L a w hr hj hy hw H rest;refine⟨λe=>absurd hr (by rw[e];exact List.not_mem_nil),λk hk=>?_⟩;rcases Nat.decEq k i with y6|rfl
  ·exact rest k hk y6
  ·exact hy.wpOp hi (hS L w hj hw) ⟨hw.step hic,H⟩
 induction n with
 |zero=>
  intro L a w _ hr hj hy hw H;exact start 0 L a w hr hj hy hw H λk hk y6=>absurd (ready_mono hk y6) (by rw[H.1];exact List.not_mem_nil)
 |succ n ih=>
  intro L a w aL hr hj hy hw H;refine start (n+1) L a w hr hj hy hw H λk hk y6=>?_;obtain⟨hun,ok,aG,-⟩:=mem_ready.1 hk;refine wpOp_mono (λb z hb=>?_) (wpOp_putIf aG (aL k ok aG y6 hun (d3f hr hk aG)) (λcs b=>rG i oi cs b hi) (λcs b=>rG k ok cs b aG) hQ hy (H.2 k (ready_mono hk y6)));obtain⟨hy',ht,nK⟩:=hb;rw[Array.setIfInBounds_comm _ _ (Ne.symm y6)]at ht nK;have ht':=ht.back hic;exact⟨ht',ih _ b z (aL.step hun) (ready_mono hr (Ne.symm y6)) (hJ L k hj hr hk y6) hy' ht' nK⟩
def e1u (md:Region.Mode)(ops:Array Oper)(c i:Nat):Bool:=match ops[c]? with
 |some o=>o.after.any λe=>Region.binds md e&&e.on==i
 |none=>false
theorem a3b {oi:Oper}{v:Value}{n:Nat}{a:Act}{w:World}(hi:ops[i]?=some oi)
 (hs:Region.noSelect ops=true)(hf:Region.free md ops L i=true)(hr:(Region.ready md ops L).contains i=true)
 (tH:(c !=i&&e1u md ops c i&&(L.getD c true==false))=true)
 (hQ:∀x a w,Q (.panic x) (a.put oi.dst v) w->Q (.panic x) a w)(hy:YieldsIf P ops S oi v a)(hS:S w)
 (h:a4o P md ops Q S c n (L.setIfInBounds i true) (a.put oi.dst v) w):a4o P md ops Q S c (n+1) L a w:=by
 simp only[Bool.and_eq_true,bne_iff_ne,beq_iff_eq]at tH;obtain⟨⟨h1,h2⟩,h3⟩:=tH;unfold e1u at h2
 split at h2
 ·rename_i oc hoc
  rw[Array.any_eq_true']at h2;obtain⟨e,he,hb⟩:=h2;simp only[Bool.and_eq_true,beq_iff_eq]at hb;refine b1f (λL=>L.getD c true=false) hi (Region.noSelect_spec hs) hQ (Ne.symm h1) (λL k hj hri fN y6=>?_) (λL w hj ht=>ht hj) n L a w (Region.free_spec hi hf) (by simpa using hr) h3 hy (λ_=>hS) h;have nU:k≠c:=λnU=>by
   subst nU;exact d3f hri fN hoc e he hb.1 hb.2
  rw[getD_set_ne true nU];exact hj
 ·cases h2
theorem a0m {oi:Oper}{v:Value}{n:Nat}{a:Act}{w:World}(hi:ops[i]?=some oi)
 (hs:Region.noSelect ops=true)(hf:Region.free md ops L i=true)(hr:(Region.ready md ops L).contains i=true)
 (tH:(i !=c)=true)
 (hQ:∀x a w,Q (.panic x) (a.put oi.dst v) w->Q (.panic x) a w)(hy:YieldsIf P ops (λ_=>True) oi v a)(hS:L.getD c true=false->S w)
 (h:a4o P md ops Q S c n (L.setIfInBounds i true) (a.put oi.dst v) w):a4o P md ops Q S c (n+1) L a w:=
 b1f (λ_=>True) hi (Region.noSelect_spec hs) hQ (by simpa using tH) (λ_ _ _ _ _ _=>trivial) (λ_ _ _ _=>trivial) n L a w (Region.free_spec hi hf) (by simpa using hr) trivial hy hS h
theorem a7x {a:Act}{w:World}(hr:Region.ready md ops L=[])(h:Q .normal a w)(n:Nat):a4o P md ops Q S c n L a w:=by
 cases n with
 |zero=>exact⟨hr,h⟩
 |succ n=>exact⟨λ_=>h,by rw[hr];simp⟩
theorem a1i {o:Oper}{n:Nat}{a:Act}{w:World}(hr:Region.ready md ops L=[i])(ho:ops[i]?=some o)
 (h:∀K:Act->World->Prop,Shut (∀b z,((L.setIfInBounds i true).getD c true=false->S z)->a4o P md ops Q S c n (L.setIfInBounds i true) b z->K b z)->if Region.wanted o (yielded ops a.tmps)=true then Oper.wp P o a w K Q else K (a.put o.dst undef) w):
 a4o P md ops Q S c (n+1) L a w:=by
 refine⟨λe=>(by rw[hr]at e;cases e),λk hk=>?_⟩;rw[hr,List.mem_singleton]at hk;subst hk;exact wpOp_step ho (λK hK=>h K (λb z ht hz=>hK b z ⟨ht,hz⟩))
theorem a7w {id:Nat}{a:Act}{w:World}(hm:P.follows .mixedOrders=true)
 (h:a4o P .any ops Q S c ops.size (Array.replicate ops.size false) a w.drew):(Code.region id ops true).wp P Q a w:=
 wp_region_any hm (b8m _ _ _ _ h)
end
structure Kept (F:Nat->Prop)(w w':World):Prop where
 os:w'.os=w.os
 tape:w'.tape=w.tape
 output:w'.output=w.output
 size:w.heap.size<=w'.heap.size
 block:∀k,k<w.heap.size->¬F k->w'.heap[k]?=w.heap[k]?
theorem Kept.refl (F:Nat->Prop)(w:World):Kept F w w:=⟨rfl,rfl,rfl,ql _,λ_ _ _=>rfl⟩
theorem Kept.trans {F G:Nat->Prop}{a b c:World}(h:Kept F a b)(k:Kept G b c)(hG:∀i,G i->F i\/a.heap.size<=i):Kept F a c:=
 ⟨k.os.trans h.os,k.tape.trans h.tape,k.output.trans h.output,Nat.le_trans h.size k.size,λi hi y6=>(k.block i (Nat.lt_of_lt_of_le hi h.size) (λhg=>(hG i hg).elim y6 (λh'=>by omega))).trans (h.block i hi y6)⟩
theorem Kept.mono {F G:Nat->Prop}{a b:World}(h:Kept F a b)(hG:∀i,i<a.heap.size->F i->G i):Kept G a b:=
 ⟨h.os,h.tape,h.output,h.size,λi hi y6=>h.block i hi (λhf=>y6 (hG i hi hf))⟩
theorem Kept.drew {F:Nat->Prop}{a w:World}(h:Kept F a w):Kept F a w.drew:=⟨h.os,h.tape,h.output,h.size,h.block⟩
theorem Kept.drewN {F:Nat->Prop}{a w:World}(h:Kept F a w)(n:Nat):Kept F a (w.drewN n):=⟨h.os,h.tape,h.output,h.size,h.block⟩
theorem Kept.ofDrew {F:Nat->Prop}{a w:World}(h:Kept F a.drew w):Kept F a w:=⟨h.os,h.tape,h.output,h.size,h.block⟩
theorem Kept.alloc {F:Nat->Prop}{a w:World}(h:Kept F a w)(o:Obj):Kept F a (w.alloc o):=
 h.trans (G:=λ_=>False) ⟨rfl,rfl,rfl,by simp,λk hk _=>Below.heap_alloc w o k hk⟩ (λ_ h=>h.elim)
theorem Kept.setCell {F:Nat->Prop}{a w:World}(h:Kept F a w){g:Nat}(hg:F g\/a.heap.size<=g)(i:Nat)(v:Value):Kept F a (w.setCell ⟨g,i,none⟩ v):=
 h.trans (G:=λk=>k=g) ⟨rfl,rfl,rfl,by simp,λk _ y6=>Below.heap_setCell w ⟨g,i,none⟩ v k y6⟩ (λi e=>e▸hg)
theorem Kept.one (w:World)(g i:Nat)(v:Value):Kept (λk=>k=g) w (w.setCell ⟨g,i,none⟩ v):=
 ⟨rfl,rfl,rfl,by simp,λk _ y6=>Below.heap_setCell w ⟨g,i,none⟩ v k y6⟩
theorem Kept.oneRow (w:World)(g:Nat)(cs:Array Value):Kept (λk=>k=g) w (w.setRow g cs):=
 ⟨rfl,rfl,rfl,by simp[World.setRow],λk _ y6=>setRow_other w g k cs y6⟩
theorem Kept.setRow {F:Nat->Prop}{a w:World}(h:Kept F a w){g:Nat}(hg:F g\/a.heap.size<=g)(cs:Array Value):Kept F a (w.setRow g cs):=
 h.trans (G:=λk=>k=g) ⟨rfl,rfl,rfl,by simp[World.setRow],λk _ y6=>setRow_other w g k cs y6⟩ (λi e=>e▸hg)
theorem Kept.grown {F:Nat->Prop}{a w w':World}(h:Kept F a w){row:Option Nat}(hg:w.grownBy w' row)(hr:∀k,row=some k->F k\/a.heap.size<=k):Kept F a w':=
 h.trans (G:=λk=>row=some k) ⟨hg.os,hg.tape,hg.output,hg.size,λk hk y6=>hg.block k hk (λe=>y6 e.symm)⟩ hr
theorem Kept.ofBelow {F:Nat->Prop}{w w':World}(h:Below w.heap.size w w'):Kept F w w':=⟨h.os,h.tape,h.output,h.size,λk hk _=>h.block k hk⟩
theorem Kept.thenBelow {F:Nat->Prop}{a w w':World}(h:Kept F a w)(k:Below w.heap.size w w'):Kept F a w':=h.trans (G:=λ_=>False) (Kept.ofBelow k) (λ_ h=>h.elim)
theorem Kept.below {F:Nat->Prop}{B:Nat}{w0 w w':World}(hb:Below B w0 w)(h:Kept F w w')(hB:B<=w.heap.size)(hF:∀k,F k->B<=k):Below B w0 w':=
 hb.trans ⟨h.os,h.tape,h.output,h.size,λk hk=>h.block k (by omega) (λhf=>by have:=hF k hf;omega)⟩
theorem Kept.cell {F:Nat->Prop}{w w':World}(h:Kept F w w'){p:Addr}(hp:p.block<w.heap.size)(hn:¬F p.block):w'.cell? p=w.cell? p:=World.cell?_of_block (w:=w) (h.block p.block hp hn)
theorem Blk.kept {F:Nat->Prop}{w w':World}{g:Nat}{T:TypeId}{L:List Value}(h:Blk w g T L)(ho:Kept F w w')(hk:¬F g):Blk w' g T L:=by
 have hl:=h.lt;unfold Blk at h⊢;rw[ho.block g hl hk];exact h
theorem a2n {F:Nat->Prop}{w w':World}{base:Nat}{e:TypeId}{size:Nat}{v:Value}{n:Nat}{xs:List Value}(h:w.ownsRow base e size v n xs)(ho:Kept F w w')(hk:∀k,v.ownBlock=some k->¬F k):w'.ownsRow base e size v n xs:=by
 refine⟨h.1,?_⟩;rcases h.2 with hn|⟨g,cap,cur,rfl,hb,jT,rest⟩
 ·exact .inl hn
 ·exact .inr ⟨g,cap,cur,rfl,hb,by rw[ho.block g (Array.getElem?_eq_some_iff.1 jT).1 (hk g rfl)];exact jT,rest⟩
theorem Blk.ne {w:World}{g k:Nat}{T U:TypeId}{L M:List Value}(h:Blk w g T L)(h':Blk w k U M)(hT:T≠U):g≠k:=by
 rintro rfl;unfold Blk at h h';rw[h]at h'
 cases h'
 exact hT rfl
theorem Blk.owns_ne {w:World}{g:Nat}{T:TypeId}{L:List Value}(h:Blk w g T L){base:Nat}{e:TypeId}{size:Nat}{v:Value}{n:Nat}{xs:List Value}(ho:w.ownsRow base e size v n xs)(hT:T≠e):v.ownBlock≠some g:=by
 intro hv;rcases ho.2 with⟨rfl,_⟩|⟨g',cap,cur,rfl,hb,jT,_⟩
 ·cases hv
 ·cases hv
  unfold Blk at h;rw[h]at jT
  cases jT
  exact hT rfl
abbrev noB:BA:={data:=#[]}
def Turned (F:Nat->Prop)(w w':World)(A:(Nat->Prop)->Prop):Prop:=∃F',A F'/\Kept F w w'/\∀k,F' k->F k\/w.heap.size<=k
theorem Turned.mono {F:Nat->Prop}{w w':World}{A B:(Nat->Prop)->Prop}(h:Turned F w w' A)(hAB:∀F',A F'->B F'):Turned F w w' B:=by
 obtain⟨F',h1,h2,h3⟩:=h;exact⟨F',hAB _ h1,h2,h3⟩
abbrev Asn:=World->(Nat->Prop)->Prop
structure Firm (P:Asn):Prop where
 kept:∀{w w':World} {F G:Nat->Prop},P w F->Kept G w w'->(∀k,F k->¬G k)->P w' F
 bound:∀{w:World} {F:Nat->Prop},P w F->∀k,F k->k<w.heap.size
def star (P Q:Asn):Asn:=λw F=>∃G H,P w G/\Q w H/\(∀k,G k->¬H k)/\∀k,F k↔G k\/H k
theorem Firm.star {P Q:Asn}(hP:Firm P)(hQ:Firm Q):Firm (star P Q):=
 ⟨λ⟨G,H,h1,h2,h3,h4⟩ hk hd=>⟨G,H,hP.kept h1 hk (λk hg=>hd k ((h4 k).2 (.inl hg))),hQ.kept h2 hk (λk hh=>hd k ((h4 k).2 (.inr hh))),h3,h4⟩,
  λ⟨G,H,h1,h2,h3,h4⟩ k hk=>((h4 k).1 hk).elim (hP.bound h1 k) (hQ.bound h2 k)⟩
def Hold (B:Nat)(w0 w:World)(P:Asn):Prop:=B<=w.heap.size/\Below B w0 w/\∃F,P w F/\∀k,F k->B<=k
theorem Hold.size {B:Nat}{w0 w:World}{P:Asn}(h:Hold B w0 w P):B<=w.heap.size:=h.1
theorem Hold.low {B:Nat}{w0 w:World}{P:Asn}(h:Hold B w0 w P):Below B w0 w:=h.2.1
theorem Hold.mono {B:Nat}{w0 w:World}{P Q:Asn}(h:Hold B w0 w P)(hPQ:∀F,P w F->Q w F):Hold B w0 w Q:=by
 obtain⟨h1,h2,F,h3,h4⟩:=h;exact⟨h1,h2,F,hPQ F h3,h4⟩
theorem Hold.below {B:Nat}{w0 w w':World}{P:Asn}(h:Hold B w0 w P)(hP:Firm P)(hb:Below w.heap.size w w'):Hold B w0 w' P:=by
 obtain⟨h1,h2,F,h3,h4⟩:=h;exact⟨Nat.le_trans h1 hb.size,h2.trans (hb.mono h1),F,hP.kept h3 (Kept.ofBelow (F:=λ_=>False) hb) (λ_ _ h=>h),h4⟩
theorem a0q {P Q R:Asn}{w:World}{F:Nat->Prop}(h:star P (star Q R) w F):star Q (star P R) w F:=by
 obtain⟨G,H,h1,⟨I,J,h2,h3,h4,h5⟩,h6,h7⟩:=h;refine⟨I,λk=>G k\/J k,h2,⟨G,J,h1,h3,λk hg hj=>h6 k hg ((h5 k).2 (.inr hj)),λk=>Iff.rfl⟩,?_,?_⟩
 ·rintro k hi (hg|hj)
  ·exact h6 k hg ((h5 k).2 (.inl hi))
  ·exact h4 k hi hj
 ·intro k;rw[h7 k,h5 k];constructor
  ·rintro(h|h|h)
   ·exact .inr (.inl h)
   ·exact .inl h
   ·exact .inr (.inr h)
  ·rintro(h|h|h)
   ·exact .inr (.inl h)
   ·exact .inl h
   ·exact .inr (.inr h)
theorem a8y {P Q:Asn}{w:World}{F:Nat->Prop}(h:star P Q w F):star Q P w F:=by
 obtain⟨G,H,h1,h2,h3,h4⟩:=h;exact⟨H,G,h2,h1,λk hh hg=>h3 k hg hh,λk=>(h4 k).trans Or.comm⟩
theorem Hold.swap {B:Nat}{w0 w:World}{P Q R:Asn}(h:Hold B w0 w (star P (star Q R))):Hold B w0 w (star Q (star P R)):=h.mono (λ_=>a0q)
theorem Hold.comm {B:Nat}{w0 w:World}{P Q:Asn}(h:Hold B w0 w (star P Q)):Hold B w0 w (star Q P):=h.mono (λ_=>a8y)
theorem Hold.left {B:Nat}{w0 w:World}{P Q:Asn}(h:Hold B w0 w (star P Q)):Hold B w0 w P:=by
 obtain⟨h1,h2,F,⟨G,H,h3,h4,h5,h6⟩,h7⟩:=h;exact⟨h1,h2,G,h3,λk hk=>h7 k ((h6 k).2 (.inl hk))⟩
theorem Hold.monoL {B:Nat}{w0 w:World}{P P' Q:Asn}(h:Hold B w0 w (star P Q))(hP:∀F,P w F->P' w F):Hold B w0 w (star P' Q):=
 h.mono (λF ⟨G,H,h3,h4⟩=>⟨G,H,hP G h3,h4⟩)
theorem Hold.monoR {B:Nat}{w0 w:World}{P Q Q':Asn}(h:Hold B w0 w (star P Q))(hQ:∀F,Q w F->Q' w F):Hold B w0 w (star P Q'):=
 h.mono (λF ⟨G,H,h3,h4,h5⟩=>⟨G,H,h3,hQ H h4,h5⟩)
theorem Hold.turned {B:Nat}{w0 w w':World}{P' R:Asn}(hR:Firm R){G H:Nat->Prop}(hB:B<=w.heap.size)(hb:Below B w0 w)(hr:R w H)(hd:∀k,G k->¬H k)(hF:∀k,G k\/H k->B<=k)(hT:Turned G w w' (λG'=>P' w' G')):Hold B w0 w' (star P' R):=by
 obtain⟨G',h1,h2,h3⟩:=hT;refine⟨Nat.le_trans hB h2.size,h2.below hb hB (λk hk=>hF k (.inl hk)),λk=>G' k\/H k,⟨G',H,h1,hR.kept hr h2 (λk hh hg=>hd k hg hh),?_,λk=>Iff.rfl⟩,?_⟩
 ·intro k hk hh;rcases h3 k hk with h|h
  ·exact hd k h hh
  ·have:=hR.bound hr k hh;omega
 ·rintro k (hk|hk)
  ·rcases h3 k hk with h|h
   ·exact hF k (.inl h)
   ·exact Nat.le_trans hB h
  ·exact hF k (.inr hk)
theorem Hold.call {B:Nat}{w0 w:World}{P P' R:Asn}(hR:Firm R){f:Nat}{args:Array Value}{E:Ending->Prop}(h:Hold B w0 w (star P R))(hc:∀G,P w G->(∀k,G k->B<=k)->Calls prog f args w λe w'=>E e/\Turned G w w' (λG'=>P' w' G')):
 Calls prog f args w λe w'=>E e/\Hold B w0 w' (star P' R):=by
 obtain⟨h1,h2,F,⟨G,H,h3,h4,h5,h6⟩,h7⟩:=h;refine(hc G h3 (λk hk=>h7 k ((h6 k).2 (.inl hk)))).mono ?_;rintro e w' ⟨he,hT⟩;exact⟨he,Hold.turned hR h1 h2 h4 h5 (λk hk=>h7 k ((h6 k).2 hk)) hT⟩
theorem Hold.new {B:Nat}{w0 w w':World}{P R:Asn}(hR:Firm R)(h:Hold B w0 w R)(hb:Below w.heap.size w w'){G:Nat->Prop}(hP:P w' G)(hG:∀k,G k->w.heap.size<=k):Hold B w0 w' (star P R):=by
 obtain⟨h1,h2,F,h3,h4⟩:=h;refine⟨Nat.le_trans h1 hb.size,h2.trans (hb.mono h1),λk=>G k\/F k,⟨G,F,hP,hR.kept h3 (Kept.ofBelow (F:=λ_=>False) hb) (λ_ _ h=>h),?_,λk=>Iff.rfl⟩,?_⟩
 ·intro k hk hf;have:=hG k hk;have:=hR.bound h3 k hf;omega
 ·rintro k (hk|hk)
  ·exact Nat.le_trans h1 (hG k hk)
  ·exact h4 k hk
def a0i:Asn:=λw F=>∀k,¬F k
theorem a0c:Firm a0i:=⟨λh _ _=>h,λh k hk=>absurd hk (h k)⟩
theorem a1k (B:Nat)(w0 w:World)(hB:B<=w.heap.size)(hb:Below B w0 w):Hold B w0 w a0i:=⟨hB,hb,λ_=>False,λ_ h=>h,λ_ h=>h.elim⟩
def blkA (g:Nat)(T:TypeId)(L:List Value):Asn:=λw F=>Blk w g T L/\∀k,F k↔k=g
theorem a0e (g:Nat)(T:TypeId)(L:List Value):Firm (blkA g T L):=⟨λh hk hd=>⟨h.1.kept hk (hd g ((h.2 g).2 rfl)),h.2⟩,λh k hk=>by rw[(h.2 k).1 hk];exact h.1.lt⟩
theorem Hold.blk {B:Nat}{w0 w:World}{g:Nat}{T:TypeId}{L:List Value}{R:Asn}(h:Hold B w0 w (star (blkA g T L) R)):Blk w g T L:=by
 obtain⟨h1,h2,F,⟨G,H,h3,h4⟩,h7⟩:=h;exact h3.1
theorem a8x {P Q:Asn}{w:World}{F:Nat->Prop}(h:star P Q w F):∃G,P w G/\∀k,G k->F k:=by
 obtain⟨G,H,h1,h2,h3,h4⟩:=h;exact⟨G,h1,λk hk=>(h4 k).2 (.inl hk)⟩
theorem b0p {P Q:Asn}{w:World}{F:Nat->Prop}(h:star P Q w F):∃G,Q w G/\∀k,G k->F k:=by
 obtain⟨G,H,h1,h2,h3,h4⟩:=h;exact⟨H,h2,λk hk=>(h4 k).2 (.inr hk)⟩
theorem Hold.right {B:Nat}{w0 w:World}{P Q:Asn}(h:Hold B w0 w (star P Q)):Hold B w0 w Q:=h.comm.left
def each (S:Nat->Prop)(P:Nat->Asn):Asn:=λw F=>∃H:Nat->Nat->Prop,(∀i,S i->P i w (H i))/\(∀i j,S i->S j->i≠j->∀k,H i k->¬H j k)/\∀k,F k↔∃i,S i/\H i k
theorem a1c {S:Nat->Prop}{P:Nat->Asn}(h:∀i,Firm (P i)):Firm (each S P):=
 ⟨λ⟨H,h1,h2,h3⟩ hk hd=>⟨H,λi hi=>(h i).kept (h1 i hi) hk (λk hh=>hd k ((h3 k).2 ⟨i,hi,hh⟩)),h2,h3⟩,
  λ⟨H,h1,h2,h3⟩ k hk=>by obtain⟨i,hi,hh⟩:=(h3 k).1 hk;exact(h i).bound (h1 i hi) k hh⟩
theorem b4a {S:Nat->Prop}{P:Nat->Asn}{w:World}{F:Nat->Prop}(i:Nat)(hi:S i)(h:each S P w F):star (P i) (each (λj=>S j/\j≠i) P) w F:=by
 obtain⟨H,h1,h2,h3⟩:=h;refine⟨H i,λk=>∃j,(S j/\j≠i)/\H j k,h1 i hi,⟨H,λj hj=>h1 j hj.1,λa b ha hb=>h2 a b ha.1 hb.1,λk=>Iff.rfl⟩,λk hk ⟨j,hj,fS⟩=>h2 i j hi hj.1 (Ne.symm hj.2) k hk fS,λk=>?_⟩;rw[h3 k];constructor
 ·rintro⟨j,hj,fS⟩;by_cases e:j=i
  ·exact .inl (e▸fS)
  ·exact .inr ⟨j,⟨hj,e⟩,fS⟩
 ·rintro(hk|⟨j,hj,fS⟩)
  ·exact⟨i,hi,hk⟩
  ·exact⟨j,hj.1,fS⟩
theorem b7r {S:Nat->Prop}{P P':Nat->Asn}{w:World}{F:Nat->Prop}(i:Nat)(hi:S i)(hP:∀j,S j->j≠i->P j=P' j)(h:star (P' i) (each (λj=>S j/\j≠i) P) w F):each S P' w F:=by
 obtain⟨G,K,g1,⟨H,h1,h2,h3⟩,g3,g4⟩:=h;refine⟨λj=>if j=i then G else H j,λj hj=>?_,λa b ha hb iU k hk hk'=>?_,λk=>?_⟩
 ·show P' j w (if j=i then G else H j);by_cases e:j=i
  ·rw[qp e,e];exact g1
  ·rw[qn e,<-hP j hj e];exact h1 j ⟨hj,e⟩
 ·have hk:(if a=i then G else H a) k:=hk;have hk':(if b=i then G else H b) k:=hk';by_cases ea:a=i
  ·rw[qp ea]at hk;rw[qn (λe=>iU (ea.trans e.symm))]at hk';exact g3 k hk ((h3 k).2 ⟨b,⟨hb,λe=>iU (ea.trans e.symm)⟩,hk'⟩)
  ·rw[qn ea]at hk;by_cases eb:b=i
   ·rw[qp eb]at hk';exact g3 k hk' ((h3 k).2 ⟨a,⟨ha,ea⟩,hk⟩)
   ·rw[qn eb]at hk';exact h2 a b ⟨ha,ea⟩ ⟨hb,eb⟩ iU k hk hk'
 ·rw[g4 k,h3 k];constructor
  ·rintro(hk|⟨j,hj,fS⟩)
   ·exact⟨i,hi,by show(if i=i then G else H i) k;rw[qp rfl];exact hk⟩
   ·exact⟨j,hj.1,by show(if j=i then G else H j) k;rw[qn hj.2];exact fS⟩
  ·rintro⟨j,hj,fS⟩;have fS:(if j=i then G else H j) k:=fS;by_cases e:j=i
   ·rw[qp e]at fS;exact .inl fS
   ·rw[qn e]at fS;exact .inr ⟨j,⟨hj,e⟩,fS⟩
theorem c9l {S S':Nat->Prop}{P P':Nat->Asn}{w:World}{F:Nat->Prop}(hS:∀i,S i↔S' i)(hP:∀i,S i->P i=P' i)(h:each S P w F):each S' P' w F:=by
 obtain⟨H,h1,h2,h3⟩:=h;refine⟨H,λi hi=>?_,λa b ha hb=>h2 a b ((hS a).2 ha) ((hS b).2 hb),λk=>?_⟩
 ·rw[<-hP i ((hS i).2 hi)];exact h1 i ((hS i).2 hi)
 ·rw[h3 k];exact⟨λ⟨i,hi,hk⟩=>⟨i,(hS i).1 hi,hk⟩,λ⟨i,hi,hk⟩=>⟨i,(hS i).2 hi,hk⟩⟩
theorem c0o {S:Nat->Prop}{P:Nat->Asn}{w:World}{F:Nat->Prop}(hS:∀i,¬S i)(h:a0i w F):each S P w F:=
 ⟨λ_ _=>False,λi hi=>absurd hi (hS i),λi _ hi=>absurd hi (hS i),λk=>⟨λhk=>absurd hk (h k),λ⟨i,hi,_⟩=>absurd hi (hS i)⟩⟩
theorem c0p {P P':Nat->Asn}{w:World}{F:Nat->Prop}(n:Nat)(hP:∀j,j<n->P j=P' j)(h:star (P' n) (each (λj=>j<n) P) w F):each (λj=>j<n+1) P' w F:=
 b7r (P:=P) n (by omega) (λj hj e=>hP j (by omega)) (by
  obtain⟨G,K,g1,g2,g3⟩:=h;exact⟨G,K,g1,c9l (λj=>⟨λhj=>⟨by omega,by omega⟩,λhj=>by omega⟩) (λ_ _=>rfl) g2,g3⟩)
def rowA (T:TypeId)(v:Value)(m:Nat)(xs:List Value):Asn:=λw F=>w.ownsRow 0 T 1 v m xs/\∀k,F k↔v.ownBlock=some k
theorem a3x (T:TypeId)(v:Value)(m:Nat)(xs:List Value):Firm (rowA T v m xs):=
 ⟨λh hk hd=>⟨a2n h.1 hk (λk e=>hd k ((h.2 k).2 e)),h.2⟩,λh k hk=>(World.ownsRow.lt h.1 k ((h.2 k).1 hk)).2⟩
theorem a7d {P Q R:Asn}{w:World}{F:Nat->Prop}(h:star (star P Q) R w F):star P (star Q R) w F:=by
 obtain⟨G,H,⟨I,J,h1,h2,h3,h4⟩,h5,h6,h7⟩:=h;refine⟨I,λk=>J k\/H k,h1,⟨J,H,h2,h5,λk hj hh=>h6 k ((h4 k).2 (.inr hj)) hh,λk=>Iff.rfl⟩,?_,λk=>?_⟩
 ·rintro k hi (hj|hh)
  ·exact h3 k hi hj
  ·exact h6 k ((h4 k).2 (.inl hi)) hh
 ·rw[h7 k,h4 k,or_assoc]
theorem a1z {P Q R:Asn}{w:World}{F:Nat->Prop}(h:star P (star Q R) w F):star (star P Q) R w F:=a8y (by
 have h1:star P (star R Q) w F:=by
  obtain⟨G,H,g1,g2,g3⟩:=h;exact⟨G,H,g1,a8y g2,g3⟩
 have h2:=a0q h1;exact h2)
theorem a2s {P P' Q:Asn}{w:World}{F:Nat->Prop}(h:star P Q w F)(hP:∀F,P w F->P' w F):star P' Q w F:=by
 obtain⟨G,H,h1,h2,h3⟩:=h;exact⟨G,H,hP G h1,h2,h3⟩
theorem a0n {P Q Q':Asn}{w:World}{F:Nat->Prop}(h:star P Q w F)(hQ:∀F,Q w F->Q' w F):star P Q' w F:=by
 obtain⟨G,H,h1,h2,h3⟩:=h;exact⟨G,H,h1,hQ H h2,h3⟩
theorem Hold.assoc {B:Nat}{w0 w:World}{P Q R:Asn}(h:Hold B w0 w (star (star P Q) R)):Hold B w0 w (star P (star Q R)):=h.mono (λ_=>a7d)
theorem Hold.unassoc {B:Nat}{w0 w:World}{P Q R:Asn}(h:Hold B w0 w (star P (star Q R))):Hold B w0 w (star (star P Q) R):=h.mono (λ_=>a1z)
theorem Hold.setBlk {B:Nat}{w0 w:World}{g:Nat}{T:TypeId}{L:List Value}{R:Asn}(hR:Firm R)(h:Hold B w0 w (star (blkA g T L) R))(i:Nat)(v:Value):Hold B w0 (w.setCell ⟨g,i,none⟩ v) (star (blkA g T (L.set i v)) R):=by
 obtain⟨h1,h2,F,⟨G,H,h3,h4,h5,h6⟩,h7⟩:=h;exact Hold.turned hR h1 h2 h4 h5 (λk hk=>h7 k ((h6 k).2 hk)) ⟨G,⟨h3.1.setCell i v,h3.2⟩,(Kept.one w g i v).mono (λk _ e=>(h3.2 k).2 e),λk hk=>.inl hk⟩
theorem Hold.drew {B:Nat}{w0 w:World}{P:Asn}(hP:Firm P)(h:Hold B w0 w P):Hold B w0 w.drew P:=h.below hP (qw _ _).drew
theorem Hold.row {B:Nat}{w0 w:World}{T:TypeId}{v:Value}{m:Nat}{xs:List Value}{R:Asn}(h:Hold B w0 w (star (rowA T v m xs) R)):w.ownsRow 0 T 1 v m xs:=by
 obtain⟨h1,h2,F,⟨G,H,h3,h4⟩,h7⟩:=h;exact h3.1
theorem d7t {B:Nat}{w0 w:World}{R:Asn}(hR:Firm R)(sl T ty:TypeId)(z:Value)(by_:Nat)(hu:prog.underlying sl=some (.slice T))(hT:(prog.info? T).map (λi=>(i.zero,i.size,i.bytes))=some (some z,1,by_))(hz:z.cells.size=1)(gB:by_<=24)
 {v:Value}{m:Nat}{xs:List Value}(h:Hold B w0 w (star (rowA T v m xs) R))(x:Value)(hx:x.oneCell'=true)(hm:m<=1000000):
 ∃g' cap' w',(Builtin.append_ #[sl,sl] ty #[v,.slice (some ⟨w.heap.size,0,none⟩) 1 1]).run prog (w.alloc (.cells #[x] T))=.ok (.slice (some ⟨g',0,none⟩) (m+1) cap') w'/\
  Hold B w0 w' (star (rowA T (.slice (some ⟨g',0,none⟩) (m+1) cap') (m+1) (xs++[x])) R):=by
 obtain⟨i0,hi,hz0,hz1,hz2⟩:=info_parts hT;have bY:∀(i:Nat) u,[x][i]?=some u->(w.alloc (.cells #[x] T)).cell? ((⟨w.heap.size,0,none⟩:Addr).add i)=some u:=λi u hi=>by
  match i,hi with
  |0,hi=>simp at hi;subst hi;simp only[Addr.add];exact(Blk.new w T #[x]).cell rfl
 have hb:(m+1)*by_<=140737488355328:=Nat.le_trans (Nat.mul_le_mul (by omega:m+1<=1000001) gB) (by decide);obtain⟨v',w',r6,q8,q9,_,bM⟩:=run_append_own_at (P:=prog) (w.alloc (.cells #[x] T)) 0 sl ty T i0 z 1 by_ hu hi hz0 hz1 hz2 hz (by decide) v m xs (World.ownsRow.alloc h.row _)
  ⟨w.heap.size,0,none⟩ 1 1 [x] rfl bY (λu hu=>by simp at hu;subst hu;exact hx) (by unfold maxLen;omega) hb (Nat.zero_le _)
 have t6:=q8;rcases q8.2 with⟨_,h0⟩|⟨g',cap',cur,rfl,_⟩
 ·omega
 ·refine⟨g',cap',w',r6,?_⟩;obtain⟨h1,h2,F,⟨G,H,h3,h4,h5,h6⟩,h7⟩:=h;refine Hold.turned hR h1 h2 h4 h5 (λk hk=>h7 k ((h6 k).2 hk)) ⟨λk=>k=g',⟨t6,λk=>⟨λe=>by rw[e];rfl,λe=>(Option.some.inj e).symm⟩⟩,?_,?_⟩
  ·exact((Kept.refl G w).alloc _).grown q9 (λk e=>.inl ((h3.2 k).2 e))
  ·rintro k rfl;rcases bM with e|e
   ·exact .inl ((h3.2 k).2 e.symm)
   ·have h2:k=(w.alloc (.cells #[x] T)).heap.size:=Option.some.inj e;rw[World.size_alloc]at h2;exact .inr (by omega)
theorem Hold.addNought {B:Nat}{w0 w:World}{R:Asn}(h:Hold B w0 w R):Hold B w0 w (star a0i R):=h.mono (λF h=>⟨λ_=>False,F,λ_ h=>h,h,λ_ h=>h.elim,λk=>⟨.inr,λh=>h.elim (λh=>h.elim) id⟩⟩)
theorem Hold.newBlk {B:Nat}{w0 w:World}{R:Asn}(hR:Firm R)(h:Hold B w0 w R)(T:TypeId)(A:Array Value):Hold B w0 (w.alloc (.cells A T)) (star (blkA w.heap.size T A.toList) R):=
 Hold.new hR h ((qw _ _).alloc (ql _) _) (G:=λk=>k=w.heap.size) ⟨Blk.new w T A,λk=>Iff.rfl⟩ (λk hk=>by rw[hk];exact ql _)
theorem Hold.setRowBlk {B:Nat}{w0 w:World}{g:Nat}{T:TypeId}{L:List Value}{R:Asn}(hR:Firm R)(h:Hold B w0 w (star (blkA g T L) R))(M:List Value):Hold B w0 (w.setRow g M.toArray) (star (blkA g T M) R):=by
 obtain⟨h1,h2,F,⟨G,H,h3,h4,h5,h6⟩,h7⟩:=h;exact Hold.turned hR h1 h2 h4 h5 (λk hk=>h7 k ((h6 k).2 hk)) ⟨G,⟨h3.1.setRow,h3.2⟩,(Kept.oneRow w g M.toArray).mono (λk _ e=>(h3.2 k).2 e),λk hk=>.inl hk⟩
open Go.ChangeShapes Go.WideShapes Go.ChangeAt Go.RowKit Go.PlainAid
def nr (κ:IntKind)(n:Nat)(S:Nat->Nat):List Value:=(List.range n).map λi=>.int κ ((S i:Nat):Int)
theorem a0k (κ:IntKind)(n:Nat)(S:Nat->Nat):(nr κ n S).length=n:=by simp[nr]
theorem a3c (κ:IntKind)(n:Nat)(S:Nat->Nat)(i:Nat)(h:i<n):(nr κ n S)[i]?=some (.int κ ((S i:Nat):Int)):=by simp[nr,h]
theorem a0t (κ:IntKind)(n:Nat)(S R:Nat->Nat)(h:∀i,i<n->S i=R i):nr κ n S=nr κ n R:=by
 unfold nr;exact List.map_congr_left λi hi=>by rw[h i (List.mem_range.1 hi)]
theorem a4i (κ:IntKind)(n:Nat)(S:Nat->Nat)(k x:Nat):(nr κ n S).set k (.int κ (x:Int))=nr κ n (λi=>if i=k then x else S i):=by
 apply List.ext_getElem
 ·simp[nr]
 ·intro j h1 h2;rw[List.getElem_set];simp only[nr,List.getElem_map,List.getElem_range];by_cases e:k=j
  ·rw[qp e,qp e.symm]
  ·rw[qn e,qn (λh=>e h.symm)]
theorem a4j (κ:IntKind)(n:Nat)(S:Nat->Nat):∀v∈nr κ n S,v.oneCell'=true:=by
 intro v hv;obtain⟨i,_,rfl⟩:=List.mem_map.1 hv;rfl
theorem b6g {P:Program}(w:World)(t e:TypeId)(n:Nat)(L:List Value)(i:Nat)(v:Value)(h:P.underlying t=some (.array n e))(hi:i<n)(hv:L[i]?=some v)
 (ha:∀w,(isAgg e).run P w=.ok false w)(hs:∀w,(sizeOf e).run P w=.ok 1 w):(Instr.index t (.agg L.toArray) (.int .i64 (i:Int))).run P w=.ok v w:=by
 have hn:(0:Int)<=(i:Int)/\(i:Int)<(n:Int):=by omega
 simp[Instr.index,run_underlying h,asIntOf,hn,hs,ha,part,hv,go_sem];intro h;omega
theorem Blk.box (w:World)(T:TypeId)(L:List Value):Blk (w.alloc (.cells L.toArray T)) w.heap.size T L:=by
 have:=Blk.new w T L.toArray;simpa using this
theorem b0h {P:Program}{ops:Array Oper}{S:World->Prop}{o:Oper}{a:Act}(y5:o.guard=none)(ty:TypeId)(x:Operand)(ho:o.op=.load ty x)
 (g:Nat)(hx:a.eval x=.pointer (some ⟨g,0,none⟩))(t:TypeId)(L:List Value)(d:TypeDesc)(hg:∀w,S w->Blk w g t L)
 (hu:P.underlying ty=some d)(hd:(match d with|.struct _|.array _ _=>true|_=>false)=true)(hi:(P.info? ty).map (·.size)=some L.length):YieldsIf P ops S o (.agg L.toArray) a:=
 Or.inl ⟨by simp[Region.wanted,y5],λw hS=>by
   unfold execOp;simp only[ho,hx,Instr.loadAt,Instr.sureAddr,Sem.run_bind,Sem.run_pure,Result.andThen_ok,run_loadVar_row w g t ty L.toArray (0,0) d (hg w hS) hu hd (by simpa using hi)]⟩
def tx (n:Nat)(f:Nat->Nat):BA:=strOfNums ((List.range n).map λi=>((f i:Nat):Int))
theorem a8a (n:Nat)(f:Nat->Nat):(tx n f).size=n:=by unfold tx;rw[strOfNums_size];simp
theorem a3y {w:World}{g T n:Nat}{f:Nat->Nat}(h:Blk w g T (nr .u8 n f))(m c:Nat)(hm:m<=n):(convert 22 9 (.slice (some ⟨g,0,none⟩) m c)).run prog w=.ok (.string (tx m f)) w:=
 run_convert_bytes_arg (P:=prog) w 22 5 underlying22 underlying5 g 0 m c _ (by simp) (λi hi=>by
  rw[Nat.zero_add,h.cell (a3c .u8 n f i (by omega))];simp[hi]) 9 underlying9
theorem info5w:(prog.info? 5).map (λi=>(i.zero,i.size,i.bytes))=some (some (.int .u8 0),1,1):=by kernel_rfl
def PZ (G n:Nat)(z:World):Prop:=∀i,i<n->z.cell? ⟨G,i,none⟩=some (.int .u8 0)
theorem e4k (z:World)(G n:Nat)(h:PZ G n z):(convert 22 9 (.slice (some ⟨G,0,none⟩) n n)).run prog z=.ok (.string (strOfNums (List.replicate n 0))) z:=
 run_convert_bytes_arg (P:=prog) z 22 5 underlying22 underlying5 G 0 n n (List.replicate n 0) (List.length_replicate ..) (λi hi=>by
  rw[Nat.zero_add,h i hi,List.getD_eq_getElem?_getD,List.getElem?_replicate,qp hi];rfl) 9 underlying9
theorem e4j (n:Nat)(hn:n<=100000):∃Z:Array Value,(∀x:World,(Instr.makeSlice 22 (.int .i64 (n:Int)) (.int .i64 (n:Int))).run prog x=.ok (.slice (some ⟨x.heap.size,0,none⟩) n n) (x.alloc (.cells Z 5 (0,0))))/\∀x:World,PZ x.heap.size n (x.alloc (.cells Z 5 (0,0))):=by
 obtain⟨i0,hi,hz0,hz1,hz2⟩:=info_parts info5w;refine⟨madeCells (Value.int .u8 0).cells (n*i0.size),λx=>?_,λx=>?_⟩
 ·have:=run_make (P:=prog) x 22 5 i0 (.int .u8 0) underlying22 hi hz0 .i64 .i64 (n:Int) (n:Int) (by omega) (Int.le_refl _) (by rw[hz2];omega) (by omega);rw[Int.toNat_natCast]at this;exact this
 ·intro i hi;rw[hz1];have:(madeCells (Value.int .u8 0).cells (n*1)).toList=List.replicate n (.int .u8 0):=by rw[Nat.mul_one];exact toList_madeCells_one _ _
  have hl:(madeCells (Value.int .u8 0).cells (n*1))[i]?=some (.int .u8 0):=by
   rw[<-Array.getElem?_toList,this,List.getElem?_replicate,qp hi]
  rw[cell_of_row (x.alloc (.cells (madeCells (Value.int .u8 0).cells (n*1)) 5 (0,0))) x.heap.size i _ 5 (0,0) (heap_alloc_new x _),hl]
theorem PZ.below {G n B:Nat}{z z':World}(h:PZ G n z)(hb:Below B z z')(hG:G<B):PZ G n z':=λi hi=>(hb.cell (p:=⟨G,i,none⟩) hG).trans (h i hi)
theorem d6s (n:Nat)(hn:n<=100000):∃Z:Array Value,(∀x:World,(Instr.makeSlice 22 (.int .i64 (n:Int)) (.int .i64 (n:Int))).run prog x=.ok (.slice (some ⟨x.heap.size,0,none⟩) n n) (x.alloc (.cells Z 5 (0,0))))/\
 ∀x:World,(convert 22 9 (.slice (some ⟨x.heap.size,0,none⟩) n n)).run prog (x.alloc (.cells Z 5 (0,0)))=.ok (.string (strOfNums (List.replicate n 0))) (x.alloc (.cells Z 5 (0,0))):=by
 obtain⟨Z,h1,h2⟩:=e4j n hn;exact⟨Z,h1,λx=>e4k _ _ n (h2 x)⟩
def zB (n:Nat):BA:=strOfNums (List.replicate n 0)
theorem e3d (n:Nat):(zB n).size=n:=by unfold zB;rw[strOfNums_size,List.length_replicate]
theorem a1v {W:World}{b o:Nat}{v:Value}(h:W.cell? ⟨b,o,none⟩=some v):b<W.heap.size:=World.block_lt_of_cell? W ⟨b,o,none⟩ h
def Came {α:Type}(Ok:α->Prop)(row:α->List Value)(K:Nat)(W:World)(a:Option Addr)(len cap:Nat):Prop:=len<=cap/\cap<=maxLen/\∃A:Nat->α,(∀i,i<len->Ok (A i))/\(len=0\/∃b o,a=some ⟨b,o,none⟩/\b<W.heap.size/\∀i,i<len->W.rangeAt b (o+i*K) (row (A i)))
theorem e0w {H:Type}{enc:TypeId×Value->H}{W:World}{α:Type}(z:α)(Ok:α->Prop)(row:α->List Value)(K:Nat)(hK:∀a,(row a).length=K)(hK0:0<K){t e:TypeId}(hu:prog.underlying t=some (.slice e))(cR:prog.cellsOf e=K)
 (aX:∀(fuel:Nat) (cs:List Value) (x:DataW H×List MemPlace),DataW.trod enc prog W 0 (λ_=>true) true fuel e cs=some x->∃a,Ok a/\cs=row a)
 {a:Option Addr}{len cap:Nat}{d:DataW H}{p:List MemPlace}(h:DataW.Trod enc prog W 0 (λ_=>true) true t (.slice a len cap) d p):Came Ok row K W a len cap:=by
 obtain⟨fuel,hf⟩:=h;rcases DataW.trod_slice hu hf with⟨hq,_⟩|⟨x,l,c,elems,rest,n,_,hq,_,hb,hl,hm,hel,hc,_⟩
 ·simp[Value.cells]at hq;obtain⟨rfl,rfl,rfl⟩:=hq;exact⟨ql _,Nat.zero_le _,λ_=>z,λi hi=>by omega,.inl rfl⟩
 ·simp[Value.cells]at hq;obtain⟨rfl,rfl,rfl⟩:=hq;have tQ:∀i,i<len->∃A:α,Ok A/\W.cells? 0 (x.add (i*K)) K=some (row A):=λi hi=>by
   have h1:=hc i hi;rw[cR,List.getElem?_eq_getElem (by omega),Option.bind_eq_some_iff]at h1;obtain⟨cs,h2,h3⟩:=h1;obtain⟨A,hA,rfl⟩:=aX _ _ _ h3;exact⟨A,hA,h2⟩
  obtain⟨A,hA⟩:∃A:Nat->α,∀i,i<len->Ok (A i)/\W.cells? 0 (x.add (i*K)) K=some (row (A i)):=
   ⟨λi=>if h:i<len then(tQ i h).choose else z,λi hi=>by simp only[dif_pos hi];exact(tQ i hi).choose_spec⟩
  refine⟨hl,hm,A,λi hi=>(hA i hi).1,?_⟩;by_cases h0:len=0
  ·exact .inl h0
  ·have x5:∀i,i<len->∀j u,(row (A i))[j]?=some u->W.cell? ((x.add (i*K)).add j)=some u:=by
    intro i hi j u hu;have h1:=(hA i hi).2;unfold World.cells? at h1;rw[qp (Nat.zero_le _)]at h1;have hj:j<K:=by
     rcases Nat.lt_or_ge j K with h|h
     ·exact h
     ·rw[List.getElem?_eq_none (by rw[hK];exact h)]at hu;cases hu
    have h2:=Go.mapM_some_get h1 j j (by simp[hj]);rw[h2,hu]
   obtain⟨b,off,spot⟩:=x;have hv0:(row (A 0))[0]?=some ((row (A 0))[0]'(by rw[hK];exact hK0)):=List.getElem?_eq_getElem _;have rD:spot=none:=by
    have:=World.cell?_spot (x5 0 (by omega) 0 _ hv0);simpa[Addr.add]using this
   subst rD;have hc0:=x5 0 (by omega) 0 _ hv0;rw[Go.WideShapes.add_plain,Go.WideShapes.add_plain]at hc0;refine .inr ⟨b,off,rfl,a1v hc0,λi hi j u hu=>?_⟩;have:=x5 i hi j u hu;rw[Go.WideShapes.add_plain,Go.WideShapes.add_plain]at this;exact this
theorem a9g {B:Nat}{w w':World}{b o:Nat}{cs:List Value}(h:w.rangeAt b o cs)(hb:Below B w w')(hB:b<B):w'.rangeAt b o cs:=λj v hv=>(hb.cell (p:=⟨b,o+j,none⟩) hB).trans (h j v hv)
def rowK (T:TypeId)(K:Nat)(v:Value)(m:Nat)(xs:List Value):Asn:=λw F=>w.ownsRow 0 T K v m xs/\∀k,F k↔v.ownBlock=some k
theorem a0d (T:TypeId)(K:Nat)(v:Value)(m:Nat)(xs:List Value):Firm (rowK T K v m xs):=
 ⟨λh hk hd=>⟨a2n h.1 hk (λk e=>hd k ((h.2 k).2 e)),h.2⟩,λh k hk=>(World.ownsRow.lt h.1 k ((h.2 k).1 hk)).2⟩
theorem Hold.rowK {B:Nat}{w0 w:World}{T:TypeId}{K:Nat}{v:Value}{m:Nat}{xs:List Value}{R:Asn}(h:Hold B w0 w (star (rowK T K v m xs) R)):w.ownsRow 0 T K v m xs:=by
 obtain⟨h1,h2,F,⟨G,H,h3,h4⟩,h7⟩:=h;exact h3.1
theorem c5d {B:Nat}{w0 w:World}{R:Asn}(hR:Firm R)(sl T ty:TypeId)(z:Value)(K by_:Nat)(hu:prog.underlying sl=some (.slice T))(hT:(prog.info? T).map (λi=>(i.zero,i.size,i.bytes))=some (some z,K,by_))(hz:z.cells.size=K)(hK:0<K)(gB:by_<=40)
 {v:Value}{m:Nat}{xs:List Value}(h:Hold B w0 w (star (rowK T K v m xs) R))(ad:Addr)(n c:Nat)(news:List Value)(hl:news.length=n*K)(bY:∀j u,news[j]?=some u->w.cell? (ad.add j)=some u)(h1:∀u∈news,u.oneCell'=true)(hm:m+n<=1000000):
 ∃v' w',(Builtin.append_ #[sl,sl] ty #[v,.slice (some ad) n c]).run prog w=.ok v' w'/\Hold B w0 w' (star (rowK T K v' (m+n) (xs++news)) R):=by
 obtain⟨i0,hi,hz0,hz1,hz2⟩:=info_parts hT;have hb:(m+n)*by_<=140737488355328:=Nat.le_trans (Nat.mul_le_mul hm gB) (by decide);obtain⟨v',w',r6,q8,q9,_,bM⟩:=run_append_own_at (P:=prog) w 0 sl ty T i0 z K by_ hu hi hz0 hz1 hz2 hz hK v m xs h.rowK ad n c news hl bY h1 (by unfold maxLen;omega) hb (Nat.zero_le _);refine⟨v',w',r6,?_⟩;obtain⟨g1,g2,F,⟨G,H,h3,h4,h5,h6⟩,h7⟩:=h;refine Hold.turned hR g1 g2 h4 h5 (λk hk=>h7 k ((h6 k).2 hk)) ⟨λk=>v'.ownBlock=some k,⟨q8,λk=>Iff.rfl⟩,(Kept.refl G w).grown q9 (λk e=>.inl ((h3.2 k).2 e)),λk hk=>?_⟩;rcases bM with e|e
 ·exact .inl ((h3.2 k).2 (by rw[<-e];exact hk))
 ·rw[e]at hk;cases hk;exact .inr (ql _)
theorem c5i {w:World}{T:TypeId}{K:Nat}{v:Value}{m:Nat}{xs:List Value}(h:w.ownsRow 0 T K v m xs):∃a c,v=.slice a m c:=by
 rcases h.2 with⟨rfl,rfl⟩|⟨g,cap,cur,rfl,_⟩
 ·exact⟨_,_,rfl⟩
 ·exact⟨_,_,rfl⟩
theorem e4r {w:World}{T:TypeId}{K:Nat}{a:Option Addr}{m c:Nat}{xs:List Value}(h:w.ownsRow 0 T K (.slice a m c) m xs):m<=c:=by
 rcases h.2 with⟨h1,h2⟩|⟨g,cap,cur,h1,_,_,qI,_⟩
 ·omega
 ·cases h1;exact qI
theorem b1o {P:Program}{ops:Array Oper}{rest:List Oper}{o:Oper}{a:Act}{w:World}{Q:Exit->Act->World->Prop}(y5:Region.wanted o (yielded ops a.tmps)=true)(ty:TypeId)(x:Operand)(ho:o.op=.load ty x)
 (g:Nat)(hx:a.eval x=.pointer (some ⟨g,0,none⟩))(t:TypeId)(L:List Value)(d:TypeDesc)(hg:Blk w g t L)
 (hu:P.underlying ty=some d)(hd:(match d with|.struct _|.array _ _=>true|_=>false)=true)(hi:(P.info? ty).map (·.size)=some L.length)
 (h:wpList P ops Q rest (a.put o.dst (.agg L.toArray)) w):wpList P ops Q (o::rest) a w:=
 wpList_step λK hK=>by simp only[y5,if_true];exact wp_load_row ty x ho g hx t L.toArray (0,0) d hg hu hd (by simpa using hi) (hK _ _ h)
theorem Below.boxed (w:World)(T:TypeId)(Z L:List Value):Below w.heap.size w ((w.alloc (.cells Z.toArray T)).setRow w.heap.size L.toArray):=
 Kept.below (F:=λk=>k=w.heap.size) (w:=w.alloc (.cells Z.toArray T)) ((qw _ _).alloc (ql _) _) (Kept.oneRow _ _ _) (by simp) (λk hk=>by rw[hk];exact ql _)
theorem Blk.boxed (w:World)(T:TypeId)(Z L:List Value):Blk ((w.alloc (.cells Z.toArray T)).setRow w.heap.size L.toArray) w.heap.size T L:=(Blk.box w T Z).setRow
theorem a0x {ops:Array Oper}{o:Oper}{a:Act}{w:World}{K:Act->World->Prop}{Q:Exit->Act->World->Prop}{E':Prop}(y5:o.guard=none)(s x:Operand)(t tn:TypeId)
 (ho:o.op=.call {callee:=.builtin .append,args:=#[s,x],argTypes:=#[t,tn]})(vs vx:Value)(hs:a.eval s=vs)(hx:a.eval x=vx)
 (v':Value)(w':World)(hr:(Builtin.append_ #[t,tn] o.type #[vs,vx]).run prog w=.ok v' w')(h:K (a.put o.dst v') w'):
 if Region.wanted o (yielded ops a.tmps)=true then Oper.wp prog o a w K Q else E':=by
 have hw:Region.wanted o (yielded ops a.tmps)=true:=by simp[Region.wanted,y5]
 rw[qp hw];exact Lib.wp_append_run w s x t tn ho vs vx hs hx v' w' hr h
open Go.Maps (Keyed IsMap)
def MapB (T:TypeId)(w:World)(b n:Nat)(I:Lit->Prop):Prop:=∃D:DataW Unit,w.ownsMap prog T (plainElem prog 4) b n D/\IsMap D/\∀x:Lit,(I x->D.atKey x (.lit (.bool false))=.lit (.bool true))/\(¬I x->D.atKey x (.lit (.bool false))=.lit (.bool false))
section
variable {T M:TypeId}{w w':World}{b n:Nat}{I J:Lit->Prop}
theorem MapB.lt (h:MapB T w b n I):b<w.heap.size:=by obtain⟨D,h1,_⟩:=h;exact h1.lt
theorem MapB.kept {F:Nat->Prop}(h:MapB T w b n I)(hk:Kept F w w')(hb:¬F b):MapB T w' b n I:=by
 have hl:=h.lt;obtain⟨D,⟨es,clock,h1,h2⟩,h3⟩:=h;exact⟨D,⟨es,clock,(hk.block b hl hb).trans h1,h2⟩,h3⟩
theorem MapB.look (K:Keyed prog T)(ht:prog.underlying M=some (.map T 4))(h:MapB T w b n I){key:Value}{x:Lit}(pK:keyOf prog T key=some x):
 (I x->(Instr.lookup M (.map (some b)) key false).run prog w=.ok (.bool true) w)/\(¬I x->(Instr.lookup M (.map (some b)) key false).run prog w=.ok (.bool false) w):=by
 obtain⟨D,h1,h2,h3⟩:=h;obtain⟨v,ps,r6,hv⟩:=h1.lookup K ht (z:=.bool false) (by
  obtain⟨i0,hi,hz0,hz1,hz2⟩:=info_parts (show(prog.info? 4).map (λi=>(i.zero,i.size,i.bytes))=some (some (.bool false),1,1) by kernel_rfl);simp[zeroValue,typeInfo,hi,hz0]) (plainElem_bool underlying4 false) pK
 have hb:∀c,D.atKey x (.lit (.bool false))=.lit (.bool c)->v=.bool c:=λc hc=>by
  rw[hc]at hv;unfold plainElem at hv;rw[underlying4]at hv
  cases v<;>simp at hv⊢
  exact hv.1
 exact⟨λhI=>by rw[<-hb true ((h3 x).1 hI)];exact r6,λhI=>by rw[<-hb false ((h3 x).2 hI)];exact r6⟩
theorem MapB.put (K:Keyed prog T)(ht:prog.underlying M=some (.map T 4))(h:MapB T w b n I)(hn:n<=1000000){key:Value}{x:Lit}(pK:keyOf prog T key=some x)(hx:WideAt.IsKeyLit x):
 ∃w',(Instr.mapUpdate M (.map (some b)) key (.bool true)).run prog w=.ok () w'/\MapB T w' b (n+1) (λy=>I y\/y=x)/\Kept (λk=>k=b) w w':=by
 obtain⟨D,h1,⟨es,rfl⟩,h3⟩:=h;obtain⟨w',r6,h4,h5⟩:=h1.update K ht (by unfold maxLen;omega) pK (plainElem_bool underlying4 true);refine⟨w',r6,⟨_,h4,⟨_,rfl⟩,λy=>?_⟩,⟨h5.os,h5.tape,h5.output,h5.size,λk hk y6=>h5.block k hk (λe=>y6 (Option.some.inj e))⟩⟩;by_cases e:y=x
 ·subst e;exact⟨λ_=>Go.Maps.atKey_put_same ⟨es,rfl⟩ hx _ _,λh=>(h (.inr rfl)).elim⟩
 ·rw[Go.Maps.atKey_put_other e];exact⟨λh=>(h3 y).1 (h.resolve_right e),λh=>(h3 y).2 (λh'=>h (.inl h'))⟩
end
end Go.Proofs.YtokknmkleceooaaGreatDoor
