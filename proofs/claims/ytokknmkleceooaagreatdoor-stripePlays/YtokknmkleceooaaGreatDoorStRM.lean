import Derived.Test.YtokknmkleceooaaGreatDoorStRMk
import Derived.Test.YtokknmkleceooaaGreatDoorSlBad
import Derived.Test.YtokknmkleceooaaGreatDoorStWakes
import Derived.Test.YtokknmkleceooaaGreatDoorStHM
namespace Go.Proofs.YtokknmkleceooaaGreatDoor
set_option linter.unusedVariables false
set_option maxRecDepth 20000
set_option maxHeartbeats 8000000
open Go.Proofs.Tryz
open Go.RowKit Go.PlainAid
def FetchR (w:World)(s:Sh)(t:Int)(T:BA)(E:Int):Prop:=
 (s.u=true->∀z,Below w.heap.size w z->Calls prog 47 #[.agg #[.pointer (some ⟨s.g,0,none⟩),.int .i64 s.i,.int .i64 s.n,.string s.key],.string s.top,.int .i64 t] z λe w'=>e=.returned (.tuple #[.string T,.int .i64 E])/\Below z.heap.size z w')/\(s.u=false->T=noB/\E=11)
theorem FetchR.below {w w':World}{s:Sh}{t:Int}{T:BA}{E:Int}(h:FetchR w s t T E)(hb:Below w.heap.size w w'):FetchR w' s t T E:=⟨λhu z hz=>h.1 hu z (hb.trans (hz.mono hb.size)),h.2⟩
theorem info4b:(prog.info? 4).map (λi=>(i.zero,i.size,i.bytes))=some (some (.bool false),1,1):=by kernel_rfl
theorem c3c {B:Nat}{w0 w:World}{R:Asn}{v:Value}{m:Nat}{xs:List Value}(hR:Firm R)(h:Hold B w0 w (star (rowK 4 1 v m xs) R))(hm:m<=1000)(t:Bool):
 ∃a c w',(Builtin.append_ #[107,107] 107 #[v,.slice (some ⟨w.heap.size,0,none⟩) 1 1]).run prog (w.alloc (.cells #[.bool t] 4))=.ok (.slice a (m+1) c) w'/\Hold B w0 w' (star (rowK 4 1 (.slice a (m+1) c) (m+1) (xs++[.bool t])) R):=
 b2b hR 107 4 107 _ 1 1 underlying107 info4b rfl (by decide) (by decide) h hm [.bool t] rfl (λu hu=>by
  simp only[List.mem_cons,List.not_mem_nil,or_false]at hu;rw[hu];rfl)
def R3 (w z:World)(v7 v8 v9:Value)(a b c:Nat)(xs ys zs:List Value):Prop:=Hold w.heap.size w z (star (rowK 9 1 v7 a xs) (star (rowK 4 1 v8 b ys) (star (rowK 3 1 v9 c zs) a0i)))
section
variable {w z z':World}{v7 v8 v9:Value}{a b c:Nat}{xs ys zs:List Value}
theorem e4i:Firm (star (rowK 9 1 v7 a xs) (star (rowK 4 1 v8 b ys) (star (rowK 3 1 v9 c zs) a0i))):=(a0d _ _ _ _ _).star ((a0d _ _ _ _ _).star ((a0d _ _ _ _ _).star a0c))
theorem R3.below (h:R3 w z v7 v8 v9 a b c xs ys zs)(hb:Below z.heap.size z z'):R3 w z' v7 v8 v9 a b c xs ys zs:=Hold.below h e4i hb
theorem R3.low (h:R3 w z v7 v8 v9 a b c xs ys zs):Below w.heap.size w z:=Hold.low h
theorem R3.start (w:World):R3 w w (.slice none 0 0) (.slice none 0 0) (.slice none 0 0) 0 0 0 [] [] []:=
 (((a1k w.heap.size w w (ql _) (qw _ _)).mono λF h=>a2g h).mono λF h=>a2g h).mono λF h=>a2g h
theorem R3.int (h:R3 w z v7 v8 v9 a b c xs ys zs)(hc:c<=1000)(t:Int):∃a' c' w',(Builtin.append_ #[55,55] 55 #[v9,.slice (some ⟨z.heap.size,0,none⟩) 1 1]).run prog (z.alloc (.cells #[.int .i64 t] 3))=.ok (.slice a' (c+1) c') w'/\R3 w w' v7 v8 (.slice a' (c+1) c') a b (c+1) xs ys (zs++[.int .i64 t]):=by
 obtain⟨a',c',w',r6,h2⟩:=c8r ((a0d _ _ _ _ _).star ((a0d _ _ _ _ _).star a0c)) (Hold.pull3 h) hc t;exact⟨a',c',w',r6,Hold.back3 h2⟩
theorem R3.bool (h:R3 w z v7 v8 v9 a b c xs ys zs)(hb:b<=1000)(t:Bool):∃a' c' w',(Builtin.append_ #[107,107] 107 #[v8,.slice (some ⟨z.heap.size,0,none⟩) 1 1]).run prog (z.alloc (.cells #[.bool t] 4))=.ok (.slice a' (b+1) c') w'/\R3 w w' v7 (.slice a' (b+1) c') v9 a (b+1) c xs (ys++[.bool t]) zs:=by
 obtain⟨a',c',w',r6,h2⟩:=c3c ((a0d _ _ _ _ _).star ((a0d _ _ _ _ _).star a0c)) (Hold.swap h) hb t;exact⟨a',c',w',r6,Hold.swap h2⟩
theorem R3.str {T:Nat->BA}(h:R3 w z v7 v8 v9 a b c (strs a T) ys zs)(ha:a<=1000)(t:BA)(ht:T a=t):∃a' c' w',(Builtin.append_ #[23,23] 23 #[v7,.slice (some ⟨z.heap.size,0,none⟩) 1 1]).run prog (z.alloc (.cells #[.string t] 9))=.ok (.slice a' (a+1) c') w'/\R3 w w' (.slice a' (a+1) c') v8 v9 (a+1) b c (strs (a+1) T) ys zs:=
 a2t ((a0d _ _ _ _ _).star ((a0d _ _ _ _ _).star a0c)) h ha t ht
theorem R3.rs (h:R3 w z v7 v8 v9 a b c xs ys zs):z.ownsRow w.heap.size 9 1 v7 a xs:=Hold.rowBack h
theorem R3.rb (h:R3 w z v7 v8 v9 a b c xs ys zs):z.ownsRow w.heap.size 4 1 v8 b ys:=Hold.rowBack (Hold.swap h)
theorem R3.ri (h:R3 w z v7 v8 v9 a b c xs ys zs):z.ownsRow w.heap.size 3 1 v9 c zs:=Hold.rowBack (Hold.pull3 h)
end
theorem c0w (n:Nat)(U:Nat->Bool):bolL (n+1) U=bolL n U++[.bool (U n)]:=by unfold bolL;rw[List.range_succ,List.map_append];rfl
theorem e5g {U:Nat->Bool}{k:Nat}(h:U k=true):misL U (k+1)=misL U k:=by rw[a6p,h];simp
theorem e8g {U:Nat->Bool}{k:Nat}(h:U k=false):nmsL (misL U (k+1))=nmsL (misL U k)++[.int .i64 (k:Int)]/\(misL U (k+1)).length=(misL U k).length+1:=by rw[a6p,h];simp[nmsL]
def Ga (w z:World)(v7 v8 v9:Value)(k:Nat)(T:Nat->BA)(U:Nat->Bool):Prop:=R3 w z v7 v8 v9 k k (misL U k).length (strs k T) (bolL k U) (nmsL (misL U k))
section
variable {w z:World}{v7 v8 v9:Value}{k:Nat}{T:Nat->BA}{U:Nat->Bool}
theorem Ga.no (h:Ga w z v7 v8 v9 k T U)(hk:k<=100){s:BA}(hs:T k=s)(hU:U k=false):∃a9 c9 w9 a7 c7 w7 a8 c8 w8,
 (Builtin.append_ #[55,55] 55 #[v9,.slice (some ⟨z.heap.size,0,none⟩) 1 1]).run prog (z.alloc (.cells #[.int .i64 (k:Int)] 3))=.ok (.slice a9 ((misL U k).length+1) c9) w9/\
 (Builtin.append_ #[23,23] 23 #[v7,.slice (some ⟨w9.heap.size,0,none⟩) 1 1]).run prog (w9.alloc (.cells #[.string s] 9))=.ok (.slice a7 (k+1) c7) w7/\
 (Builtin.append_ #[107,107] 107 #[v8,.slice (some ⟨w7.heap.size,0,none⟩) 1 1]).run prog (w7.alloc (.cells #[.bool false] 4))=.ok (.slice a8 (k+1) c8) w8/\
 Ga w w8 (.slice a7 (k+1) c7) (.slice a8 (k+1) c8) (.slice a9 ((misL U k).length+1) c9) (k+1) T U:=by
 have hl:=c3p U k;obtain⟨a9,c9,w9,r9,h9⟩:=R3.int h (by omega) (k:Int);obtain⟨a7,c7,w7,r7,h7⟩:=R3.str h9 (by omega) s hs;obtain⟨a8,c8,w8,r8,h8⟩:=R3.bool h7 (by omega) false;refine⟨a9,c9,w9,a7,c7,w7,a8,c8,w8,r9,r7,r8,?_⟩;obtain⟨e1,e2⟩:=e8g hU;unfold Ga;rw[e1,e2,c0w,hU];exact h8
theorem Ga.yes (h:Ga w z v7 v8 v9 k T U)(hk:k<=100){s:BA}(hs:T k=s)(hU:U k=true):∃a7 c7 w7 a8 c8 w8,
 (Builtin.append_ #[23,23] 23 #[v7,.slice (some ⟨z.heap.size,0,none⟩) 1 1]).run prog (z.alloc (.cells #[.string s] 9))=.ok (.slice a7 (k+1) c7) w7/\
 (Builtin.append_ #[107,107] 107 #[v8,.slice (some ⟨w7.heap.size,0,none⟩) 1 1]).run prog (w7.alloc (.cells #[.bool true] 4))=.ok (.slice a8 (k+1) c8) w8/\
 Ga w w8 (.slice a7 (k+1) c7) (.slice a8 (k+1) c8) v9 (k+1) T U:=by
 obtain⟨a7,c7,w7,r7,h7⟩:=R3.str h (by omega) s hs;obtain⟨a8,c8,w8,r8,h8⟩:=R3.bool h7 (by omega) true;refine⟨a7,c7,w7,a8,c8,w8,r7,r8,?_⟩;unfold Ga;rw[e5g hU,c0w,hU];exact h8
end
theorem c2v {w:World}{B:Nat}{v7 v8:Value}{n:Nat}{T:Nat->BA}{U:Nat->Bool}(h1:w.ownsRow B 9 1 v7 n (strs n T))(h2:w.ownsRow B 4 1 v8 n (bolL n U))(hs:∀i,i<n->(T i).size<=9223372036854775807)(hn:4<=n/\n<=10):
 Calls prog 48 #[v7,v8] w λe w'=>Below w.heap.size w w'/\∃v er F,e=.returned (.tuple #[v,.int .i64 er])/\DecR n T U er F/\(er≠0->v=.slice none 0 0)/\(er=0->w'.ownsRow w.heap.size 9 1 v n (strs n F)):=by
 obtain⟨a,ca,rfl,-,hv⟩:=a0v h1 (λi=>.string (strE (T i).size (teE (T i)))) (λi hi=>by rw[b0n];exact a0s n T i hi);obtain⟨b,cb,rfl,-,hu⟩:=a0v h2 (λi=>.bool (U i)) (λi hi=>d5x n U i hi);refine(b6q a b n n ca cb _ _ U w (by omega) (by omega) ⟨hv,hs⟩ hu).mono ?_;rintro e w' ⟨hb,v,er,rfl,⟨a1,rfl,rfl⟩|⟨-,a2,rfl,rfl⟩|⟨-,a2,a3,rfl,rfl⟩|⟨-,a2,a3,rfl,D,a4,a5⟩⟩
 ·exact absurd ⟨by omega,by omega,rfl⟩ a1
 ·exact⟨hb,_,_,λ_=>noB,rfl,.inl ⟨a2,rfl⟩,λ_=>rfl,λh=>by cases h⟩
 ·exact⟨hb,_,_,λ_=>noB,rfl,.inr (.inl ⟨a2,a3,rfl⟩),λ_=>rfl,λh=>absurd h a3⟩
 ·exact⟨hb,_,_,_,rfl,.inr (.inr ⟨a2,a3,rfl,D,a4,rfl⟩),λh=>absurd rfl h,λ_=>a5⟩
theorem b3e (h c n:Nat)(t:Int)(w:World)(hn:n<=512)(S:Nat->Sh)(T:Nat->BA)(E:Nat->Int)(hS:ShAt w h n S)(hF:∀i,i<n->FetchR w (S i) t (T i) (E i))(hs:∀i,i<n->(T i).size<=9223372036854775807):
 Calls prog 18 #[.slice (some ⟨h,0,none⟩) n c,.int .i64 t] w λe w'=>Below w.heap.size w w'/\∃v1 v2 er F,e=.returned (.tuple #[v1,v2,.int .i64 er])/\LdR n T E er F/\(er≠0->v1=.slice none 0 0/\v2=.slice none 0 0)/\
  (er=0->w'.ownsRow w.heap.size 9 1 v1 n (strs n F)/\w'.ownsRow w.heap.size 3 1 v2 (misL (λi=>decide (E i=0)) n).length (nmsL (misL (λi=>decide (E i=0)) n))):=by
 by_cases aG:4<=n/\n<=10
 ·have k1:¬(n:Int)<4:=by omega
  have k2:¬(10:Int)<(n:Int):=by omega
  have dY:Hid (4<=n/\n<=10):=aG;have HS:Hid (ShAt w h n S):=hS;have HF:Hid (∀i,i<n->FetchR w (S i) t (T i) (E i)):=hF;have gH:Hid (∀i,i<n->(T i).size<=9223372036854775807):=hs;obtain⟨U,hU⟩:∃U,(λi=>decide (E i=0))=U:=⟨_,rfl⟩;have HU:Hid (∀i,U i=decide (E i=0)):=λi=>by rw[<-hU]
  rw[hU];have HU2:Hid ((λi=>decide (E i=0))=U):=hU;clear aG hS hF hs hU;go_enter func18,ntmps18;go_wp2_with fail;go_loopw[7,8,9,10] (λv7 v8 v9 i wr=>∃k:Nat,k<=n/\i=.int .i64 (k:Int)/\Hid (Ga w wr v7 v8 v9 k T U)/\Hid (∀i,i<k->E i≠21)) (λ_ _ _ i _=>n-(intOf i).toNat)
  case atStart=>exact⟨0,Nat.zero_le _,rfl,R3.start w,λi hi=>by omega⟩
  case round=>
   obtain⟨k,hk,rfl,HG,HB⟩:=hrel;by_cases p9:k<n
   ·have hk':(k:Int)<(n:Int):=(by omega);have hk10:k<=100:=(by have:=dY.out;omega);have bV:Hid (FetchR _ _ _ _ _):=(HF.out k p9).below (R3.low HG.out);have bC:Hid (∀z,Below w.heap.size w z->z.rangeAt h (k*6) (S k).L):=λz hz=>HS.out z hz k p9;obtain⟨Tk,cT⟩:∃x,T k=x:=⟨_,rfl⟩;obtain⟨Ek,eZ⟩:∃x,E k=x:=⟨_,rfl⟩;rw[cT,eZ]at bV;have qQ:Hid (U k=decide (Ek=0)):=(by show _=_;rw[HU.out,eZ]);have lC:Hid (T k=Tk):=cT;have HEK:Hid (E k=Ek):=eZ;have HB2:Hid (Ek≠21->∀i,i<k+1->E i≠21):=λh i hi=>by
     by_cases e:i=k
     ·rw[e,eZ];exact h
     ·exact HB.out i (by omega)
    simp only[Sh.L]at bC;unfold FetchR at bV;generalize(S k).g=sg at bC bV;generalize(S k).i=si at bC bV;generalize(S k).n=sn at bC bV;generalize(S k).key=sk at bC bV;generalize(S k).top=sp at bC bV;generalize(S k).u=su at bC bV;have cu:wr.cell? ⟨h,k*6+5,none⟩=some (.bool su):=bC.out wr (R3.low HG.out) 5 _ rfl;clear cT eZ p9 HB
    cases su with
    |false=>
     obtain⟨rfl,rfl⟩:=bV.out.2 rfl;obtain⟨a9,c9,w9,a7,c7,w7,a8,c8,w8,r9,r7,r8,hg⟩:=Ga.no HG.out hk10 lC.out (by rw[qQ.out];rfl);have HG8:Hid (Ga w w8 _ _ _ (k+1) T U):=hg;clear hg HG bV bC qQ lC HEK;go_wp2_with(first
      |(at_builtin;refine Lib.wpList_append_run _ rfl _ _ 55 55 rfl _ _ rfl rfl _ _ r9 ?_)
      |(at_builtin;refine Lib.wpList_append_run _ rfl _ _ 23 23 rfl _ _ rfl rfl _ _ r7 ?_)
      |(at_builtin;refine Lib.wpList_append_run _ rfl _ _ 107 107 rfl _ _ rfl rfl _ _ r8 ?_))
     go_roundw
     case rel=>exact⟨k+1,by omega,by go_num,HG8.out,HB2.out (by decide)⟩
     case measure=>simp[intOf];omega
    |true=>
     have oK:Hid (∀z,Below _ _ z->Calls _ _ _ z _):=bV.out.1 rfl;go_upto_region 12 with fail
     have HG2:Hid (Ga w wr.drew _ _ _ k T U):=R3.below HG.out (qw _ _).drew;have kN:Hid (World.rangeAt wr.drew h (k*6) _):=bC.out wr.drew (R3.low HG2.out);have oI:Hid (wr.drew.rangeAt h (k*6) [.pointer (some ⟨sg,0,none⟩),.int .i64 si,.int .i64 sn,.string sk]/\wr.drew.cell? ⟨h,k*6+4,none⟩=some (.string sp)):=⟨λj v hv=>kN.out j v (by
      match j,hv with
      |0,hv=>exact hv
      |1,hv=>exact hv
      |2,hv=>exact hv
      |3,hv=>exact hv),kN.out 4 _ rfl⟩
     have hR0:=oI.out;have iP:Hid (Calls _ _ _ _ _):=oK.out _ (qw _ _).drew;clear HG oK;refine wp_region_noPanic ?_;refine wp_region_held_drew (S:=λy:World=>y.rangeAt h (k*6) [.pointer (some ⟨sg,0,none⟩),.int .i64 si,.int .i64 sn,.string sk]/\y.cell? ⟨h,k*6+4,none⟩=some (.string sp)) (by kernel_rfl) hR0 (λp8=>?_);refine tkH 0 ?_;go_simp;refine tkH 1 ?_;go_simp;refine tkH 2 ?_;go_simp;refine tkH 3 ?_;go_simp;refine wpAnyH_take (i:=4) (v:=.agg #[.pointer (some ⟨sg,0,none⟩),.int .i64 si,.int .i64 sn,.string sk]) rfl (by kernel_rfl) (by kernel_rfl) (by kernel_rfl) (λ_ _ _ h=>h) (yieldsIf_load_mid rfl 52 _ rfl h (k*6) rfl [.pointer (some ⟨sg,0,none⟩),.int .i64 si,.int .i64 sn,.string sk] _ (λ_ h=>h.1) underlying52 rfl (by kernel_rfl)) (by assumption) ?_;go_simp;refine tkH 5 ?_;go_simp;refine tkH 6 ?_;go_simp;refine tkH 7 ?_;go_simp;refine tkH 8 ?_;go_simp;refine tkH 9 ?_;go_simp;refine tkH 10 ?_;go_simp;refine rdH 11 λK hK=>?_;go_simp;go_at_call 47;refine iP.out.mono ?_;rintro x wg ⟨rfl,gD⟩;have HG3:Hid (Ga w wg _ _ _ k T U):=R3.below HG2.out gD;have gU:Hid (World.rangeAt wg h (k*6) _):=bC.out wg (R3.low HG3.out);clear gD hR0 iP oI HG2 kN;refine hK.out _ _ ⟨λj v hv=>gU.out j v (by match j,hv with|0,hv=>exact hv|1,hv=>exact hv|2,hv=>exact hv|3,hv=>exact hv),gU.out 4 _ rfl⟩ (λp8=>?_);clear hK K;refine tkH 12 ?_;go_simp;refine tkH 13 ?_;go_simp;refine tkH 14 ?_;go_simp;refine tkH 15 ?_;go_simp;refine tkH 16 ?_;go_simp;refine wpAnyH_done (by kernel_rfl) ?_ _;refine NoPanic.normal ?_;clear gU bC bV;by_cases h21:Ek=21
     ·subst h21;have fL:Hid (LdR n T E 21 λ_=>noB):=.inr (.inl ⟨dY.out,⟨k,by omega,HEK.out⟩,rfl⟩);go_wp2_with fail;go_ret3
      first
       |exact⟨R3.low HG3.out,_,_,_,λ_=>noB,rfl,fL.out,λ_=>⟨rfl,rfl⟩,λh=>by cases h⟩
       |exact⟨R3.low HG3.out,_,_,_,rfl,λ_=>noB,fL.out,λ_=>⟨rfl,rfl⟩,λh=>by cases h⟩
     ·have HB3:Hid (∀i,i<k+1->E i≠21):=HB2.out h21;have e21:(Ek==21)=false:=(by simp[h21]);by_cases h0:Ek=0
      ·subst h0;obtain⟨a7,c7,w7,a8,c8,w8,r7,r8,hg⟩:=Ga.yes HG3.out hk10 lC.out (by rw[qQ.out];rfl);have HG8:Hid (Ga w w8 _ _ _ (k+1) T U):=hg;clear hg HG3 qQ lC HEK h21;go_wp2_with(first
        |(at_builtin;refine Lib.wpList_append_run _ rfl _ _ 23 23 rfl _ _ rfl rfl _ _ r7 ?_)
        |(at_builtin;refine Lib.wpList_append_run _ rfl _ _ 107 107 rfl _ _ rfl rfl _ _ r8 ?_))
       go_roundw
       case rel=>exact⟨k+1,by omega,by go_num,HG8.out,HB3.out⟩
       case measure=>simp[intOf];omega
      ·have e0:(Ek==0)=false:=(by simp[h0]);have e1:(Ek !=0)=true:=(by simp[h0]);obtain⟨a9,c9,w9,a7,c7,w7,a8,c8,w8,r9,r7,r8,hg⟩:=Ga.no HG3.out hk10 lC.out (by rw[qQ.out];exact decide_eq_false h0);have HG8:Hid (Ga w w8 _ _ _ (k+1) T U):=hg;clear hg HG3 qQ lC HEK h21 h0;go_wp2_with(first
        |(at_builtin;refine Lib.wpList_append_run _ rfl _ _ 55 55 rfl _ _ rfl rfl _ _ r9 ?_)
        |(at_builtin;refine Lib.wpList_append_run _ rfl _ _ 23 23 rfl _ _ rfl rfl _ _ r7 ?_)
        |(at_builtin;refine Lib.wpList_append_run _ rfl _ _ 107 107 rfl _ _ rfl rfl _ _ r8 ?_))
       go_roundw
       case rel=>exact⟨k+1,by omega,by go_num,HG8.out,HB3.out⟩
       case measure=>simp[intOf];omega
   ·obtain rfl:k=n:=(by omega);have hk':¬(k:Int)<(k:Int):=(by omega);obtain⟨a9,c9,rfl⟩:=a2a (R3.ri HG.out);obtain⟨ml,lN⟩:∃ml,(misL U k).length=ml:=⟨_,rfl⟩;have HCT:Hid (ml+cnt U k=k):=(by show _=_;rw[<-lN];exact b7c U k);have HGI:Hid (World.ownsRow _ w.heap.size 3 1 (.slice a9 (misL U k).length c9) (misL U k).length (nmsL (misL U k))):=R3.ri HG.out;rw[lN]at HGI;have uK:Hid (World.ownsRow wr w.heap.size 3 1 (.slice a9 ml c9) (misL U k).length (nmsL (misL U k))):=(by show World.ownsRow _ _ _ _ _ _ _;rw[lN];exact HGI.out);by_cases hm2:2<ml
    ·have hm2':(2:Int)<(ml:Int):=(by omega);have fL:Hid (LdR k T E 24 λ_=>noB):=.inr (.inr ⟨dY.out,HB.out,.inl ⟨by rw[HU2.out];have:=HCT.out;have:=dY.out;omega,rfl⟩⟩);rw[lN];clear lN hm2;go_wp2_with fail;go_ret3
     first
      |exact⟨R3.low HG.out,_,_,_,λ_=>noB,rfl,fL.out,λ_=>⟨rfl,rfl⟩,λh=>by cases h⟩
      |exact⟨R3.low HG.out,_,_,_,rfl,λ_=>noB,fL.out,λ_=>⟨rfl,rfl⟩,λh=>by cases h⟩
    ·have hm2':¬(2:Int)<(ml:Int):=(by omega);have hdc:=c2v (R3.rs HG.out) (R3.rb HG.out) gH.out dY.out;have HDC:Hid (Calls _ _ _ _ _):=hdc;rw[lN];clear lN hm2 hdc;go_wp2_with fail;go_at_call 48;refine HDC.out.mono ?_;rintro x w2 ⟨hb2,v,er,F,rfl,hD,hv0,hv1⟩;have fL:Hid (LdR k T E er F):=.inr (.inr ⟨dY.out,HB.out,by rw[HU2.out];exact hD⟩);have HV1:Hid (er=0->w2.ownsRow _ 9 1 v k (strs k F)):=hv1;have HB2:Hid (Below wr.heap.size wr w2):=hb2;clear hb2 hD hv1 hv0 HDC;by_cases cI:er=0
     ·subst cI;go_wp2_with fail;go_ret3
      first
       |exact⟨(R3.low HG.out).trans (HB2.out.mono (R3.low HG.out).size),_,_,_,F,rfl,fL.out,λh=>absurd rfl h,λ_=>⟨a7g (HV1.out (by trivial)) (R3.low HG.out).size,a0g uK.out HB2.out⟩⟩
       |exact⟨(R3.low HG.out).trans (HB2.out.mono (R3.low HG.out).size),_,_,_,rfl,F,fL.out,λh=>absurd rfl h,λ_=>⟨a7g (HV1.out (by trivial)) (R3.low HG.out).size,a0g uK.out HB2.out⟩⟩
     ·have e1:(er !=0)=true:=(by simp[cI]);go_wp2_with fail;go_ret3
      first
       |exact⟨(R3.low HG.out).trans (HB2.out.mono (R3.low HG.out).size),_,_,_,F,rfl,fL.out,λ_=>⟨rfl,rfl⟩,λh=>absurd h cI⟩
       |exact⟨(R3.low HG.out).trans (HB2.out.mono (R3.low HG.out).size),_,_,_,rfl,F,fL.out,λ_=>⟨rfl,rfl⟩,λh=>absurd h cI⟩
 ·have HK:Hid (LdR n T E 2 λ_=>noB):=.inl ⟨aG,rfl⟩;clear hS hF hs;go_enter func18,ntmps18;by_cases h4:n<4
  ·have h4':(n:Int)<4:=(by omega);clear aG;go_wp2_with fail;go_ret3
   first
    |exact⟨qw _ _,_,_,_,λ_=>noB,rfl,HK.out,λ_=>⟨rfl,rfl⟩,λh=>by cases h⟩
    |exact⟨qw _ _,_,_,_,rfl,λ_=>noB,HK.out,λ_=>⟨rfl,rfl⟩,λh=>by cases h⟩
  ·have h4':¬(n:Int)<4:=(by omega);have h10:(10:Int)<(n:Int):=(by omega);clear aG h4;go_wp2_with fail;go_ret3
   first
    |exact⟨qw _ _,_,_,_,λ_=>noB,rfl,HK.out,λ_=>⟨rfl,rfl⟩,λh=>by cases h⟩
    |exact⟨qw _ _,_,_,_,rfl,λ_=>noB,HK.out,λ_=>⟨rfl,rfl⟩,λh=>by cases h⟩
theorem e0u {n:Nat}{T:Nat->BA}(h:chkB n (λi=>(T i).size) (λi=>teE (T i))=true):(∀c,c<n->(T c).size=(T 0).size)/\(T 0).size<=65536:=by
 have h:=of_decide_eq_true h;obtain⟨h3,h10,h0,h1,h2⟩:=h;obtain⟨-,e1,e2⟩:=a4x.1 h0;have s1:=congrArg ByteArray.size h1;have s2:=congrArg ByteArray.size h2;unfold encS at s1 s2;rw[qp h0,a0j,a0j]at s1 s2;refine⟨λc hc=>?_,e2⟩;by_cases c1:c<n-2
 ·exact e1 c c1
 ·by_cases c2:c=n-2
  ·subst c2;exact s1.symm
  ·obtain rfl:c=n-1:=(by omega);exact s2.symm
theorem e6v {n:Nat}{T:Nat->BA}{E:Nat->Int}{er:Int}{F:Nat->BA}(h:LdR n T E er F)(he:er≠0):whB n T E=false:=by
 cases hw:whB n T E with
 |false=>rfl
 |true=>
  obtain⟨h4,h5,h6⟩:=of_decide_eq_true hw;obtain⟨h7,h8⟩:=e0u h6;have hc:cnt (λi=>decide (E i=0)) n=n:=by
   have a1:=b4g (λi=>decide (E i=0)) n;have a2:=b7c (λi=>decide (E i=0)) n;have a3:misL (λi=>decide (E i=0)) n=[]:=by
    unfold misL;refine List.filter_eq_nil_iff.2 λa ha=>?_;rw[List.mem_range]at ha;simp[h5 a ha]
   rw[a3]at a2;simpa using a2
  rcases h with⟨a1,_⟩|⟨_,⟨i,ai,a2⟩,_⟩|⟨_,_,⟨a3,_⟩|⟨_,a4,_⟩|⟨_,_,a5,_⟩⟩
  ·exact absurd h4 a1
  ·rw[h5 i ai]at a2;cases a2
  ·omega
  ·refine absurd (a9p.2 ⟨λc hc'=>?_,?_⟩) a4
   ·show(T _).size=(T _).size;rw[h7 _ (a3l _ hc').1,h7 _ (a3l _ (by omega)).1]
   ·show(T _).size<=_;rw[h7 _ (a3l _ (by omega)).1];exact h8
  ·exact absurd a5 he
theorem c8n {w:World}{B n:Nat}{v:Value}{T:Nat->BA}(h:w.ownsRow B 9 1 v n (strs n T))(hs:∀i,i<n->(T i).size<=9223372036854775807)(hn:1<=n/\n<=10):
 Calls prog 52 #[v] w λe w'=>Below w.heap.size w w'/\e=.returned (.bool (chkB n (λi=>(T i).size) (λi=>teE (T i)))):=by
 obtain⟨g,c,rfl,h1,h2,hv⟩:=a9l h hn.1;refine b9i (some ⟨g,0,none⟩) n c _ _ w h1 h2 ⟨?_,hs⟩;rcases hv with h0|⟨b,o,e,hc⟩
 ·exact .inl h0
 ·exact .inr ⟨b,o,e,λi hi=>by show _=some (Value.string (strE (T i).size (teE (T i))));rw[b0n];exact hc i hi⟩
theorem c8a (h c n:Nat)(t:Int)(w:World)(hn:n<=512)(S:Nat->Sh)(T:Nat->BA)(E:Nat->Int)(hS:ShAt w h n S)(hF:∀i,i<n->FetchR w (S i) t (T i) (E i))(hs:∀i,i<n->(T i).size<=9223372036854775807):
 Calls prog 22 #[.slice (some ⟨h,0,none⟩) n c,.int .i64 t] w λe w'=>Below w.heap.size w w'/\e=.returned (.bool (whB n T E)):=by
 have HL:Hid (Calls _ _ _ _ _):=b3e h c n t w hn S T E hS hF hs;have HS:Hid (ShAt w h n S):=hS;have HF:Hid (∀i,i<n->FetchR w (S i) t (T i) (E i)):=hF;have gH:Hid (∀i,i<n->(T i).size<=9223372036854775807):=hs;clear hS hF hs;go_enter func22,ntmps22;go_wp2_with fail;go_at_call 18;refine HL.out.mono ?_;rintro e w1 ⟨hb1,v1,v2,er,F,rfl,hD,hv0,hv1⟩;have HB1:Hid (Below w.heap.size w w1):=hb1;by_cases cI:er=0
 ·subst cI;obtain⟨hv1,hv2⟩:=hv1 rfl;have hn4:4<=n/\n<=10:=by
   rcases hD with⟨_,a⟩|⟨a,_⟩|⟨a,_⟩
   ·cases a
   ·exact a
   ·exact a
  obtain⟨a1,c1,rfl,-⟩:=a9l hv1 (by omega);obtain⟨a2,c2,rfl⟩:=a2a hv2;have hn0:(0:Int)<(n:Int):=by omega
  by_cases hm:(misL (λi=>decide (E i=0)) n).length=0
  ·have hE:∀i,i<n->E i=0:=λi hi=>Classical.byContradiction λh0=>by
    have h1:i∈misL (λi=>decide (E i=0)) n:=by
     unfold misL;exact List.mem_filter.2 ⟨List.mem_range.2 hi,by simp[h0]⟩
    rw[List.eq_nil_of_length_eq_zero hm]at h1
    cases h1
   have HE:Hid (∀i,i<n->E i=0):=hE;have HN4:Hid (4<=n/\n<=10):=hn4;have HW:Hid (whB n T E=chkB n (λi=>(T i).size) (λi=>teE (T i))):=by
    show _=_;unfold whB
    cases h:chkB n (λi=>(T i).size) (λi=>teE (T i))with
    |true=>exact decide_eq_true ⟨hn4,hE,rfl⟩
    |false=>exact decide_eq_false λh'=>by cases h'.2.2
   rw[hm];clear hD hv0 hv1 hv2 hE hm hb1 hn4;go_wp2_with fail;go_loopw[8,9] (λv i wr=>∃k:Nat,k<=n/\i=.int .i64 (k:Int)/\Hid (Hold w1.heap.size w1 wr (star (rowK 9 1 v k (strs k T)) a0i))) (λ_ i _=>n-(intOf i).toNat)
   case atStart=>exact⟨0,Nat.zero_le _,rfl,(a1k w1.heap.size w1 w1 (ql _) (qw _ _)).mono λF h=>a2g h⟩
   case round=>
    obtain⟨k,hk,rfl,HH⟩:=hrel;have oL:Hid (Below w.heap.size w wr):=HB1.out.trans (HH.out.low.mono HB1.out.size);by_cases p9:k<n
    ·have hk':(k:Int)<(n:Int):=(by omega);have bV:Hid (FetchR _ _ _ _ _):=HF.out k p9;have bC:Hid (∀z,Below w.heap.size w z->z.rangeAt h (k*6) (S k).L):=λz hz=>HS.out z hz k p9;have HK10:Hid (k<=1000):=(by have:=HN4.out;show _<=_;omega);obtain⟨Tk,cT⟩:∃x,T k=x:=⟨_,rfl⟩;have lC:Hid (T k=Tk):=cT;rw[cT,HE.out k p9]at bV;simp only[Sh.L]at bC;unfold FetchR at bV;generalize(S k).g=sg at bC bV;generalize(S k).i=si at bC bV;generalize(S k).n=sn at bC bV;generalize(S k).key=sk at bC bV;generalize(S k).top=sp at bC bV;generalize(S k).u=su at bC bV;obtain rfl:su=true:=by
      cases su with
      |true=>rfl
      |false=>have:=(bV.out.2 rfl).2;cases this
     have oK:Hid (∀z,Below _ _ z->Calls _ _ _ z _):=bV.out.1 rfl;clear cT p9;go_upto_region 8 with fail
     have kQ:Hid (Below w.heap.size w wr.drew):=oL.out.trans ((qw _ _).drew.mono oL.out.size);have kN:Hid (World.rangeAt wr.drew h (k*6) _):=bC.out wr.drew kQ.out;have hR0:wr.drew.rangeAt h (k*6) [.pointer (some ⟨sg,0,none⟩),.int .i64 si,.int .i64 sn,.string sk]/\wr.drew.cell? ⟨h,k*6+4,none⟩=some (.string sp):=⟨λj v hv=>kN.out j v (by
      match j,hv with
      |0,hv=>exact hv
      |1,hv=>exact hv
      |2,hv=>exact hv
      |3,hv=>exact hv),kN.out 4 _ rfl⟩
     have iP:Hid (Calls _ _ _ _ _):=oK.out _ kQ.out;refine wp_region_noPanic ?_;refine wp_region_held_drew (S:=λy:World=>y.rangeAt h (k*6) [.pointer (some ⟨sg,0,none⟩),.int .i64 si,.int .i64 sn,.string sk]/\y.cell? ⟨h,k*6+4,none⟩=some (.string sp)) (by kernel_rfl) hR0 (λp8=>?_);refine tkH 0 ?_;go_simp;refine tkH 1 ?_;go_simp;refine tkH 2 ?_;go_simp;refine tkH 3 ?_;go_simp;refine wpAnyH_take (i:=4) (v:=.agg #[.pointer (some ⟨sg,0,none⟩),.int .i64 si,.int .i64 sn,.string sk]) rfl (by kernel_rfl) (by kernel_rfl) (by kernel_rfl) (λ_ _ _ h=>h) (yieldsIf_load_mid rfl 52 _ rfl h (k*6) rfl [.pointer (some ⟨sg,0,none⟩),.int .i64 si,.int .i64 sn,.string sk] _ (λ_ h=>h.1) underlying52 rfl (by kernel_rfl)) (by assumption) ?_;go_simp;refine tkH 5 ?_;go_simp;refine tkH 6 ?_;go_simp;refine tkH 7 ?_;go_simp;refine tkH 8 ?_;go_simp;refine tkH 9 ?_;go_simp;refine tkH 10 ?_;go_simp;refine rdH 11 λK hK=>?_;go_simp;go_at_call 47;refine iP.out.mono ?_;rintro x wg ⟨rfl,gD⟩;have oM:Hid (Below w.heap.size w wg):=kQ.out.trans (gD.mono kQ.out.size);have gU:Hid (World.rangeAt wg h (k*6) _):=bC.out wg oM.out;have HH2:Hid (Hold w1.heap.size w1 wg (star (rowK 9 1 _ k (strs k T)) a0i)):=(HH.out.below ((a0d _ _ _ _ _).star a0c) (qw _ _).drew).below ((a0d _ _ _ _ _).star a0c) gD;clear gD hR0 iP kN kQ;refine hK.out _ _ ⟨λj v hv=>gU.out j v (by match j,hv with|0,hv=>exact hv|1,hv=>exact hv|2,hv=>exact hv|3,hv=>exact hv),gU.out 4 _ rfl⟩ (λp8=>?_);clear hK K;refine tkH 12 ?_;go_simp;refine tkH 13 ?_;go_simp;refine tkH 14 ?_;go_simp;refine tkH 15 ?_;go_simp;refine tkH 16 ?_;go_simp;refine wpAnyH_done (by kernel_rfl) ?_ _;refine NoPanic.normal ?_;clear gU bC bV oK HH;obtain⟨a',c',w5,r6,h5⟩:=a2t a0c HH2.out HK10.out Tk lC.out;have HH5:Hid (Hold w1.heap.size w1 w5 (star (rowK 9 1 (.slice a' (k+1) c') (k+1) (strs (k+1) T)) a0i)):=h5;clear h5 HH2;go_wp2_with(at_builtin;refine Lib.wpList_append_run _ rfl _ _ 23 23 rfl _ _ rfl rfl _ _ r6 ?_);go_roundw
     case rel=>exact⟨k+1,by omega,by go_num,HH5.out⟩
     case measure=>simp[intOf];omega
    ·obtain rfl:k=n:=(by omega);have hk':¬(k:Int)<(k:Int):=(by omega);have fI:=c8n HH.out.rowBack gH.out (by have:=HN4.out;omega);have mU:Hid (Calls _ _ _ _ _):=fI;clear fI;generalize chkB k (λi=>(T i).size) (λi=>teE (T i))=q at*;go_wp2_with(go_at_call 52;refine mU.out.mono ?_;rintro x w6 ⟨hb6,rfl⟩;have HB6:Hid (Below w.heap.size w w6):=oL.out.trans (hb6.mono oL.out.size);clear hb6);go_ret;rw[HW.out];exact⟨HB6.out,rfl⟩
  ·have HW:Hid (whB n T E=false):=b8o λh'=>hm (by
    have a3:misL (λi=>decide (E i=0)) n=[]:=by
     unfold misL;refine List.filter_eq_nil_iff.2 λa ha=>?_;rw[List.mem_range]at ha;simp[h'.2 a ha]
    rw[a3];rfl)
   generalize(misL (λi=>decide (E i=0)) n).length=ml at*;have hm2:(0:Int)<(ml:Int):=(by omega);clear hD hv0 hv1 hv2 hb1 hm;go_wp2_with fail;go_ret;rw[HW.out];exact⟨HB1.out,rfl⟩
 ·have HW:Hid (whB n T E=false):=e6v hD cI;have sW:(er !=0)=true:=by simp[cI]
  clear hD hv0 hv1 hb1;go_wp2_with fail;go_ret;rw[HW.out];exact⟨HB1.out,rfl⟩
theorem d7v (h c n:Nat)(t ch:Int)(w:World)(hn:n<=512)(S:Nat->Sh)(T:Nat->BA)(E:Nat->Int)(hS:ShAt w h n S)(hF:∀i,i<n->FetchR w (S i) t (T i) (E i))(hs:∀i,i<n->(T i).size<=9223372036854775807):
 Calls prog 20 #[.slice (some ⟨h,0,none⟩) n c,.int .i64 t,.int .i64 ch] w λe w'=>Below w.heap.size w w'/\∃s er,e=.returned (.tuple #[.string s,.int .i64 er])/\OnR n T E ch s er:=by
 by_cases aG:4<=n/\n<=10
 ·have k1:¬(n:Int)<4:=by omega
  have k2:¬(10:Int)<(n:Int):=by omega
  by_cases hc:0<=ch/\ch<(n:Int)
  ·obtain⟨k,rfl⟩:∃k:Nat,ch=(k:Int):=⟨ch.toNat,by omega⟩;have p9:k<n:=(by omega);have k3:¬(k:Int)<0:=(by omega);have k4:¬(n:Int)<=(k:Int):=(by omega);have k5:(k:Int)<(n:Int):=(by omega);have HK:Hid (4<=n/\n<=10):=aG;have fC:Hid (k<n):=p9;have HL:Hid (∀z,Below w.heap.size w z->Calls _ _ _ z _):=λz (hz:Below w.heap.size w z)=>b3e h c n t z hn S T E (hS.below hz) (λi hi=>(hF i hi).below hz) hs;obtain⟨Tk,cT⟩:∃x,T k=x:=⟨_,rfl⟩;obtain⟨Ek,eZ⟩:∃x,E k=x:=⟨_,rfl⟩;have dQ:Hid (T k=Tk/\E k=Ek):=⟨cT,eZ⟩;have bV:Hid (FetchR _ _ _ _ _):=hF k p9;have bC:Hid (∀z,Below w.heap.size w z->z.rangeAt h (k*6) (S k).L):=λz hz=>hS z hz k p9;rw[cT,eZ]at bV;simp only[Sh.L]at bC;unfold FetchR at bV;generalize(S k).g=sg at bC bV;generalize(S k).i=si at bC bV;generalize(S k).n=sn at bC bV;generalize(S k).key=sk at bC bV;generalize(S k).top=sp at bC bV;generalize(S k).u=su at bC bV;have cu:w.cell? ⟨h,k*6+5,none⟩=some (.bool su):=bC.out w (qw _ _) 5 _ rfl;have HB0:Hid (Below w.heap.size w w):=qw _ _;clear aG hc hS hF hs cT eZ p9;go_enter func20,ntmps20
   cases su with
   |false=>
    have HN:Hid (¬(E k=0\/E k=21)):=(by show ¬_;rw[dQ.out.2,(bV.out.2 rfl).2];decide);clear bC bV;go_wp2_with fail;go_at_call 18;refine(HL.out _ HB0.out).mono ?_;rintro e w2 ⟨hb2,v1,v2,er,F,rfl,hD,hv0,hv1⟩;have HB2:Hid (Below w.heap.size w w2):=HB0.out.trans (hb2.mono HB0.out.size);have HD:Hid (OnR n T E (k:Int) (if er=0 then F k else noB) er):=.inr ⟨k,rfl,HK.out,fC.out,.inr ⟨HN.out,F,hD,rfl⟩⟩;by_cases cI:er=0
    ·subst cI;obtain⟨hv1,-⟩:=hv1 rfl;obtain⟨a1,d1,rfl⟩:=a2a hv1;obtain⟨o1,c4⟩:∃o1,a1=some ⟨o1,0,none⟩/\w2.cell? ⟨o1,k,none⟩=some (.string (F k)):=by
      rcases hv1.2 with⟨e0,_⟩|⟨g,cap,cur,e0,_⟩
      ·cases e0;have:=HK.out;omega
      ·cases e0
       refine⟨g,rfl,?_⟩;have:=hv1.cellAt k (by have:=fC.out;omega);rw[this];exact a0s n F k fC.out
     obtain⟨rfl,c5⟩:=c4;rw[qp rfl]at HD;clear hb2 hD hv0 hv1;go_wp2_with fail;go_ret2;exact⟨HB2.out,_,_,rfl,HD.out⟩
    ·rw[qn cI]at HD;have sW:(er !=0)=true:=(by simp[cI]);clear hb2 hD hv0 hv1;go_wp2_with fail;go_ret2;exact⟨HB2.out,_,_,rfl,HD.out⟩
   |true=>
    have oK:Hid (∀z,Below _ _ z->Calls _ _ _ z _):=bV.out.1 rfl;go_upto_region 4 with fail
    have kQ:Hid (Below w.heap.size w w.drew):=HB0.out.trans ((qw _ _).drew.mono HB0.out.size);have kN:Hid (World.rangeAt w.drew h (k*6) _):=bC.out w.drew kQ.out;have hR0:w.drew.rangeAt h (k*6) [.pointer (some ⟨sg,0,none⟩),.int .i64 si,.int .i64 sn,.string sk]/\w.drew.cell? ⟨h,k*6+4,none⟩=some (.string sp):=⟨λj v hv=>kN.out j v (by
     match j,hv with
     |0,hv=>exact hv
     |1,hv=>exact hv
     |2,hv=>exact hv
     |3,hv=>exact hv),kN.out 4 _ rfl⟩
    have iP:Hid (Calls _ _ _ _ _):=oK.out _ kQ.out;refine wp_region_noPanic ?_;refine wp_region_held_drew (S:=λy:World=>y.rangeAt h (k*6) [.pointer (some ⟨sg,0,none⟩),.int .i64 si,.int .i64 sn,.string sk]/\y.cell? ⟨h,k*6+4,none⟩=some (.string sp)) (by kernel_rfl) hR0 (λp8=>?_);refine tkH 0 ?_;go_simp;refine tkH 1 ?_;go_simp;refine tkH 2 ?_;go_simp;refine tkH 3 ?_;go_simp;refine wpAnyH_take (i:=4) (v:=.agg #[.pointer (some ⟨sg,0,none⟩),.int .i64 si,.int .i64 sn,.string sk]) rfl (by kernel_rfl) (by kernel_rfl) (by kernel_rfl) (λ_ _ _ h=>h) (yieldsIf_load_mid rfl 52 _ rfl h (k*6) rfl [.pointer (some ⟨sg,0,none⟩),.int .i64 si,.int .i64 sn,.string sk] _ (λ_ h=>h.1) underlying52 rfl (by kernel_rfl)) (by assumption) ?_;go_simp;refine tkH 5 ?_;go_simp;refine tkH 6 ?_;go_simp;refine tkH 7 ?_;go_simp;refine tkH 8 ?_;go_simp;refine tkH 9 ?_;go_simp;refine tkH 10 ?_;go_simp;refine rdH 11 λK hK=>?_;go_simp;go_at_call 47;refine iP.out.mono ?_;rintro x wg ⟨rfl,gD⟩;have oM:Hid (Below w.heap.size w wg):=kQ.out.trans (gD.mono kQ.out.size);have gU:Hid (World.rangeAt wg h (k*6) _):=bC.out wg oM.out;clear gD hR0 iP kN kQ;refine hK.out _ _ ⟨λj v hv=>gU.out j v (by match j,hv with|0,hv=>exact hv|1,hv=>exact hv|2,hv=>exact hv|3,hv=>exact hv),gU.out 4 _ rfl⟩ (λp8=>?_);clear hK K;refine tkH 12 ?_;go_simp;refine tkH 13 ?_;go_simp;refine tkH 14 ?_;go_simp;refine tkH 15 ?_;go_simp;refine tkH 16 ?_;go_simp;refine wpAnyH_done (by kernel_rfl) ?_ _;refine NoPanic.normal ?_;clear gU bC bV oK;by_cases h0:Ek=0
    ·subst h0;go_wp2_with fail;go_ret2;exact⟨oM.out,_,_,rfl,.inr ⟨k,rfl,HK.out,fC.out,.inl ⟨.inl dQ.out.2,dQ.out.1.symm,dQ.out.2.symm⟩⟩⟩
    ·by_cases h21:Ek=21
     ·subst h21;go_wp2_with fail;go_ret2;exact⟨oM.out,_,_,rfl,.inr ⟨k,rfl,HK.out,fC.out,.inl ⟨.inr dQ.out.2,dQ.out.1.symm,dQ.out.2.symm⟩⟩⟩
     ·have e0:(Ek==0)=false:=(by simpa using h0);have e21:(Ek==21)=false:=(by simpa using h21);have HN:Hid (¬(E k=0\/E k=21)):=(by show ¬_;rw[dQ.out.2];omega);clear h0 h21;go_wp2_with fail;go_at_call 18;refine(HL.out _ oM.out).mono ?_;rintro e w2 ⟨hb2,v1,v2,er,F,rfl,hD,hv0,hv1⟩;have HB2:Hid (Below w.heap.size w w2):=oM.out.trans (hb2.mono oM.out.size);have HD:Hid (OnR n T E (k:Int) (if er=0 then F k else noB) er):=.inr ⟨k,rfl,HK.out,fC.out,.inr ⟨HN.out,F,hD,rfl⟩⟩;by_cases cI:er=0
      ·subst cI;obtain⟨hv1,-⟩:=hv1 rfl;obtain⟨a1,d1,rfl⟩:=a2a hv1;obtain⟨o1,c4⟩:∃o1,a1=some ⟨o1,0,none⟩/\w2.cell? ⟨o1,k,none⟩=some (.string (F k)):=by
        rcases hv1.2 with⟨e0,_⟩|⟨g,cap,cur,e0,_⟩
        ·cases e0;have:=HK.out;omega
        ·cases e0
         refine⟨g,rfl,?_⟩;have:=hv1.cellAt k (by have:=fC.out;omega);rw[this];exact a0s n F k fC.out
       obtain⟨rfl,c5⟩:=c4;rw[qp rfl]at HD;clear hb2 hD hv0 hv1;go_wp2_with fail;go_ret2;exact⟨HB2.out,_,_,rfl,HD.out⟩
      ·rw[qn cI]at HD;have sW:(er !=0)=true:=(by simp[cI]);clear hb2 hD hv0 hv1;go_wp2_with fail;go_ret2;exact⟨HB2.out,_,_,rfl,HD.out⟩
  ·have HN:Hid (¬((4<=n/\n<=10)/\0<=ch/\ch<(n:Int))):=λh=>hc h.2;clear hS hF hs aG;by_cases h1:ch<0
   ·clear hc;go_enter func20,ntmps20;go_wp2_with fail;go_ret2;exact⟨qw _ _,_,_,rfl,.inl ⟨HN.out,rfl,rfl⟩⟩
   ·have h2:(n:Int)<=ch:=(by omega);clear hc;go_enter func20,ntmps20;go_wp2_with fail;go_ret2;exact⟨qw _ _,_,_,rfl,.inl ⟨HN.out,rfl,rfl⟩⟩
 ·have HN:Hid (¬((4<=n/\n<=10)/\0<=ch/\ch<(n:Int))):=λh=>aG h.1;clear hS hF hs;by_cases h4:n<4
  ·have h4':(n:Int)<4:=(by omega);clear aG;go_enter func20,ntmps20;go_wp2_with fail;go_ret2;exact⟨qw _ _,_,_,rfl,.inl ⟨HN.out,rfl,rfl⟩⟩
  ·have h4':¬(n:Int)<4:=(by omega);have h10:(10:Int)<(n:Int):=(by omega);clear aG h4;go_enter func20,ntmps20;go_wp2_with fail;go_ret2;exact⟨qw _ _,_,_,rfl,.inl ⟨HN.out,rfl,rfl⟩⟩
structure Hp (N:Nat)(b b':Bs):Prop where
 p:b'.p=b.p
 n:∀j,j<N->(b.D j).n=140/\(b'.D j).n=140
 q:∀j,j<N->(b.D j).q=[]/\(b'.D j).q=[]
 dead:∀j,j<N->(b'.D j).dead=(b.D j).dead
 l:∀j,j<N->(b.D j).dead=false->(b'.D j).l=(b.D j).l
 sz:∀j,j<N->∀a,((b.D j).l a).size<=2048
 sz':∀j,j<N->∀a,((b'.D j).l a).size<=2048
def cuB (b:Bs):Bs:=⟨b.D,b.s,some 0⟩
section
variable {N d:Nat}{b b':Bs}{P:Nat->BA}{u:Nat->Bool}
theorem Hd.hp (h:Hd N b b'):Hp N b b':=⟨by rw[h.p,h.p'],h.n,h.q,h.dead,h.l,h.sz,h.sz'⟩
theorem Hd.cut (h:Hd N b b'):Hp N (cuB b) (cuB b'):=⟨rfl,h.n,h.q,h.dead,h.l,h.sz,h.sz'⟩
theorem Hp.okn (h:Hp N b b'):Okn N b:=λj hj=>⟨(h.n j hj).1,h.sz j hj,λw hw=>by rw[(h.q j hj).1]at hw;cases hw⟩
theorem Hp.okn' (h:Hp N b b'):Okn N b':=λj hj=>⟨(h.n j hj).2,h.sz' j hj,λw hw=>by rw[(h.q j hj).2]at hw;cases hw⟩
theorem Hp.gt (h:Hp N b b'){i:Nat}(hi:i<N)(d:Nat)(key top:BA)(t:Int):gtE b' i d key top t=gtE b i d key top t/\gtT b' i d key top t=gtT b i d key top t:=by
 have he:Go.Proofs.YtokknmkleceooaaGreatDoor.eR b'.p (b'.D i)=Go.Proofs.YtokknmkleceooaaGreatDoor.eR b.p (b.D i):=by unfold Go.Proofs.YtokknmkleceooaaGreatDoor.eR;rw[h.p,h.dead i hi]
 by_cases hr:Go.Proofs.YtokknmkleceooaaGreatDoor.eR b.p (b.D i)=0
 ·obtain⟨h1,h2⟩:=e9c hr;have hd:rdS b'.p (b'.D i)=rdS b.p (b.D i):=by
   funext a;unfold rdS;rw[h.p,h.l i hi h2,h.dead i hi,(h.n i hi).1,(h.n i hi).2,(h.q i hi).1,(h.q i hi).2]
  unfold gtE gtT;rw[he,hd];exact⟨rfl,rfl⟩
 ·have hx:∀(rd rd':Nat->BA) (s:Nat) (op:BA->Int),slGE rd (Go.Proofs.YtokknmkleceooaaGreatDoor.eR b.p (b.D i)) d s top op=slGE rd' (Go.Proofs.YtokknmkleceooaaGreatDoor.eR b.p (b.D i)) d s top op:=λrd rd' s op=>by
   unfold slGE;rw[qn hr,qn hr]
  have hy:∀(rd rd':Nat->BA) (s:Nat) (op:BA->BA),slGT rd (Go.Proofs.YtokknmkleceooaaGreatDoor.eR b.p (b.D i)) d s top op=slGT rd' (Go.Proofs.YtokknmkleceooaaGreatDoor.eR b.p (b.D i)) d s top op:=λrd rd' s op=>by
   unfold slGT;rw[qn λh=>hr h.1,qn λh=>hr h.1]
  unfold gtE gtT;rw[he];refine⟨?_,?_⟩
  ·split
   ·exact hx _ _ _ _
   ·rfl
  ·split
   ·exact hy _ _ _ _
   ·rfl
section
variable {B:Nat}{w0 z z':World}{g gr n hl hm c:Nat}{vl vm vc:Value}{S S':Nat->Sh}{F:Nat->BA}{R:Asn}
theorem Lw.cut (hR:Firm R)(h:Lw B w0 z g gr N b b' vl vm vc S S' F R):Calls prog 15 #[.pointer (some ⟨g,0,none⟩),.int .i64 0] z λe w'=>e=.returned (.tuple #[])/\Lw B w0 w' g gr N (cuB b) b' vl vm vc S S' F R:=
 e1g (hR.star ((a2z _ _ _ _ _).star ((a0d _ _ _ _ _).star ((a0d _ _ _ _ _).star (a0d _ _ _ _ _))))) h 0 (by decide)
theorem Lw.rcut (hR:Firm R)(h:Lw B w0 z g gr N b b' vl vm vc S S' F R):Calls prog 16 #[.pointer (some ⟨gr,0,none⟩),.int .i64 0] z λe w'=>e=.returned (.tuple #[])/\Lw B w0 w' g gr N b (cuB b') vl vm vc S S' F R:=by
 refine(d8b ((a2f _ _ _ _ _).star (hR.star ((a0d _ _ _ _ _).star ((a0d _ _ _ _ _).star (a0d _ _ _ _ _))))) (Hold.pull3 h) 0 (by decide)).mono ?_;rintro e w' ⟨rfl,h2⟩;exact⟨rfl,Hold.back3 h2⟩
theorem Lw.rfetch (h:Lw B w0 z g gr N b b' vl vm vc S S' F R)(hO:Hp N b b')(hN:N<=12)(hn:2^d=n)(hd:1<=d/\d<=4)(ht:RTabs z)(t:Int){i:Nat}(hi:i<N):FetchR z ((shX g n P u i).at gr) t (feT b d P u t i) (feE b d P u t i):=by
 subst hn;refine⟨λhu z' hz=>?_,λhu=>?_⟩
 ·replace hu:u i=true:=hu;have h1:=rgetN hO.okn' (λj hj=>by rw[(hO.q j hj).2];decide) hi hN hd (key:=kB19) rfl (P i) t (h.rk.below hz) (ht.below hz ht.lt);rw[(hO.gt hi d kB19 (P i) t).1,(hO.gt hi d kB19 (P i) t).2]at h1;unfold feT feE;rw[qp hu,qp hu];exact h1
 ·replace hu:u i=false:=hu;unfold feT feE;rw[qn (by rw[hu];decide),qn (by rw[hu];decide)];exact⟨rfl,rfl⟩
theorem Lw.rload (h:Lw B w0 z g gr N b b' vl (.slice (some ⟨hm,0,none⟩) N c) vc S (λi=>(shX g n P u i).at gr) F R)(hO:Hp N b b')(hN:N<=12)(hn:2^d=n)(hd:1<=d/\d<=4)(ht:RTabs z)(t:Int):
 Calls prog 18 #[.slice (some ⟨hm,0,none⟩) N c,.int .i64 t] z λe w'=>Below z.heap.size z w'/\∃v1 v2 er G,e=.returned (.tuple #[v1,v2,.int .i64 er])/\LdR N (feT b d P u t) (feE b d P u t) er G/\(er≠0->v1=.slice none 0 0/\v2=.slice none 0 0)/\
  (er=0->w'.ownsRow z.heap.size 9 1 v1 N (strs N G)/\w'.ownsRow z.heap.size 3 1 v2 (misL (λi=>decide (feE b d P u t i=0)) N).length (nmsL (misL (λi=>decide (feE b d P u t i=0)) N))):=
 b3e hm c N t z (by omega) (λi=>(shX g n P u i).at gr) (feT b d P u t) (feE b d P u t) (a5v h.m (ql _)) (λi hi=>h.rfetch hO hN hn hd ht t hi) (λi hi=>a5z hO.okn hi t)
theorem Lw.rone (h:Lw B w0 z g gr N b b' vl (.slice (some ⟨hm,0,none⟩) N c) vc S (λi=>(shX g n P u i).at gr) F R)(hO:Hp N b b')(hN:N<=12)(hn:2^d=n)(hd:1<=d/\d<=4)(ht:RTabs z)(t ch:Int):
 Calls prog 20 #[.slice (some ⟨hm,0,none⟩) N c,.int .i64 t,.int .i64 ch] z λe w'=>Below z.heap.size z w'/\∃s er,e=.returned (.tuple #[.string s,.int .i64 er])/\OnR N (feT b d P u t) (feE b d P u t) ch s er:=
 d7v hm c N t ch z (by omega) (λi=>(shX g n P u i).at gr) (feT b d P u t) (feE b d P u t) (a5v h.m (ql _)) (λi hi=>h.rfetch hO hN hn hd ht t hi) (λi hi=>a5z hO.okn hi t)
theorem Lw.rwhole (h:Lw B w0 z g gr N b b' vl (.slice (some ⟨hm,0,none⟩) N c) vc S (λi=>(shX g n P u i).at gr) F R)(hO:Hp N b b')(hN:N<=12)(hn:2^d=n)(hd:1<=d/\d<=4)(ht:RTabs z)(t:Int):
 Calls prog 22 #[.slice (some ⟨hm,0,none⟩) N c,.int .i64 t] z λe w'=>Below z.heap.size z w'/\e=.returned (.bool (whB N (feT b d P u t) (feE b d P u t))):=
 c8a hm c N t z (by omega) (λi=>(shX g n P u i).at gr) (feT b d P u t) (feE b d P u t) (a5v h.m (ql _)) (λi hi=>h.rfetch hO hN hn hd ht t hi) (λi hi=>a5z hO.okn hi t)
theorem Lw.few (h:Lw B w0 z g gr N b b' (.slice (some ⟨hl,0,none⟩) N c) vm vc (shX g n P u) S' F R)(hO:Okn N b)(hN:N<=12)(hn:2^d=n)(hd:1<=d/\d<=4)(ht:Tabs z)(t:Int){r:Nat}(hr:r<4)(hrN:r<=N):
 Calls prog 17 #[.slice (some ⟨hl,0,none⟩) r c,.int .i64 t] z λe w'=>Below z.heap.size z w'/\∃v1 v2,e=.returned (.tuple #[v1,v2,.int .i64 2]):=by
 refine(b7g hl c r t z (by omega) (shX g n P u) (feT b d P u t) (feE b d P u t) (a5v h.l hrN) (λi hi=>h.fetch hO hN hn hd ht t (by omega)) (λi hi=>a5z hO (by omega) t)).mono ?_;rintro e w' ⟨hb,v1,v2,er,G,rfl,hD,_⟩;rcases hD with⟨_,rfl⟩|⟨a,_⟩|⟨a,_⟩
 ·exact⟨hb,v1,v2,rfl⟩
 ·omega
 ·omega
end
end
theorem d8n {w:World}{b T K N:Nat}{g c:Nat}{xs:List Value}(h:w.ownsRow b T K (.slice (some ⟨g,0,none⟩) N c) N xs):N<=c/\c<=9223372036854775807:=by
 rcases h.2 with⟨h0,h1⟩|⟨g,cap,cur,e,_,_,h2,h3,_⟩
 ·cases h0
 ·cases e
  unfold maxLen at h3;exact⟨h2,by omega⟩
theorem d3v {w w2:World}{B:Nat}{v1 v2:Value}{er:Int}{N:Nat}{G:Nat->BA}{U:Nat->Bool}(hz:er≠0->v1=.slice none 0 0/\v2=.slice none 0 0)(hv:er=0->w.ownsRow B 9 1 v1 N (strs N G)/\w.ownsRow B 3 1 v2 (misL U N).length (nmsL (misL U N)))(hb:Below w.heap.size w w2){n1 m1:Nat}(hn:n1=if er=0 then N else 0)(hm:m1=if er=0 then(misL U N).length else 0):
 ∃a1 c1 a2 c2,v1=.slice a1 n1 c1/\v2=.slice a2 m1 c2/\Vals w2 a1 n1 (λi=>.string (G i))/\Vals w2 a2 m1 (λj=>.int .i64 (((misL U N).getD j 0:Nat):Int)):=by
 by_cases h0:er=0
 ·rw[qp h0]at hn hm;subst hn hm;obtain⟨h1,h2⟩:=hv h0;obtain⟨a1,c1,e1,_,e2⟩:=a0v h1 (λi=>.string (G i)) (λi hi=>a0s n1 G i hi);obtain⟨a2,c2,e3,_,e4⟩:=a0v h2 (λj=>.int .i64 (((misL U n1).getD j 0:Nat):Int)) (λi hi=>by unfold nmsL;simp[hi]);exact⟨a1,c1,a2,c2,e1,e3,e2.below hb (ql _),e4.below hb (ql _)⟩
 ·rw[qn h0]at hn hm;subst hn hm;obtain⟨h1,h2⟩:=hz h0;exact⟨none,0,none,0,h1,h2,.inl rfl,.inl rfl⟩
def plT (s:Nat)(x:Int)(q:Nat):Int:=if q=0 then(s:Int)else x
def plL (s:Nat)(x:Int):List Value:=[.int .i64 (s:Int),.int .i64 x]
theorem e7s (s:Nat)(x:Int){q:Nat}(h:q<2):(plL s x)[q]?=some (.int .i64 (plT s x q)):=by
 rcases(by omega:q=0\/q=1)with rfl|rfl<;>rfl
end Go.Proofs.YtokknmkleceooaaGreatDoor
