/- A product of matrices, times texts, is one matrix behind the other: the law's walk. -/
import Derived.Test.YthcbnffhkbbkpaaMatStrs
import Derived.BigRegion
namespace Go.Proofs.Ythcbnffhkbbkpaa
open Go.RowKit Go.PlainAid
set_option linter.unusedVariables false

theorem TPair.cells {w : World} {v v' : Value} {n : Nat} (h : TPair w v v' n) : n ≤ 16 ∧ ∃ a a' c c', v = .slice a n c ∧ v' = .slice a' n c' ∧ ∀ x, Below w.heap.size w x → ∀ i, i < n → ∃ b o b' o' s, a = some ⟨b, o, none⟩ ∧ a' = some ⟨b', o', none⟩ ∧ x.cell? ⟨b, o + i, none⟩ = some (.string s) ∧ x.cell? ⟨b', o' + i, none⟩ = some (.string s) := by
  obtain ⟨hn, a, a', c, c', M, Y, rfl, rfl, h1, h2⟩ := h
  refine ⟨hn, a, a', c, c', rfl, rfl, fun x hx i hi => ?_⟩
  obtain ⟨b, o, e, h⟩ := (h1.below hx).cell (by omega)
  obtain ⟨b', o', e', h'⟩ := (h2.below hx).cell (by omega)
  exact ⟨b, o, b', o', _, e, e', h i hi, h' i hi⟩
theorem own_some {w : World} {base k c1 : Nat} {a1 : Option Addr} {xs : List Value} (h : w.ownsRow base 9 1 (.slice a1 k c1) k xs) (hk : 0 < k) : ∃ g, a1 = some ⟨g, 0, none⟩ ∧ base ≤ g := by
  rcases h.2 with ⟨h0, h1⟩ | ⟨g, cap, cur, e, hb, _⟩
  · omega
  · cases e; exact ⟨g, rfl, hb⟩
theorem extract_size_le (s : ByteArray) (n : Nat) : (s.extract 0 n).size ≤ n ∧ (s.extract 0 n).size ≤ s.size := by
  rw [ByteArray.size_extract]; omega
theorem TxtAt.elems {w : World} {a : Option Addr} {n : Nat} {M : Nat → Nat} {X Y : Mx} (h : TxtAt w a n M X) (he : ∀ r c, X r c = Y r c) : TxtAt w a n M Y := by
  have : X = Y := by funext r c; exact he r c
  rw [← this]; exact h

/-- Either no product, or one. -/
def MulOk (n m : Nat) (LA LB : Nat → Nat) (A B : Mx) (v : Value) (er : Int) (w : World) : Prop :=
  er ≠ 0 ∨ (er = 0 ∧ Gd n LA ∧ Gd m LB ∧ LA 0 = m ∧ ∃ a', v = .slice a' n n ∧ MatAt w a' n (fun _ => LB 0) (mulM m A B))
theorem mul_sum (a b : Option Addr) (n m ca cb : Nat) (LA LB : Nat → Nat) (A B : Mx) (w : World) (hA : MatAt w a n LA A) (hB : MatAt w b m LB B) (hn : n ≤ maxLen) (hm : m ≤ maxLen) :
    Calls Try.prog 21 #[.slice a n ca, .slice b m cb] w fun e w' => Below w.heap.size w w' ∧ ∃ v er, e = .returned (.tuple #[v, .int .i64 er]) ∧ MulOk n m LA LB A B v er w' := by
  refine (mul_any a b n m ca cb LA LB A B w hA hB hn hm).mono ?_
  rintro e w' ⟨hb, ⟨hno, rfl⟩ | ⟨gA, gB, hs, rfl⟩ | ⟨gA, gB, hs, a', rfl, hM⟩⟩
  · exact ⟨hb, _, _, rfl, .inl (by decide)⟩
  · exact ⟨hb, _, _, rfl, .inl (by decide)⟩
  · exact ⟨hb, _, _, rfl, .inr ⟨rfl, gA, gB, hs, a', rfl, hM⟩⟩
/-- Both ways. -/
theorem both_ways (a b : Option Addr) (n m ca cb : Nat) (LA LB : Nat → Nat) (A B : Mx) (ap : Option Addr) (l x : Option Addr) (k cl cx : Nat) (M : Nat → Nat) (Y : Mx) (w : World)
    (hA : MatAt w a n LA A) (hn : n ≤ maxLen) (gA : Gd n LA) (gB : Gd m LB) (hs : LA 0 = m) (hP : MatAt w ap n (fun _ => LB 0) (mulM m A B)) (hT : TxtAt w l k M Y) (hcl : k ≤ cl) (hclm : cl ≤ 9223372036854775807)
    (hk : k = LB 0) (hM : ∀ c, c < k → M c = M 0) (h5 : M 0 ≤ 65536) (hX : TxtAt w x m (fun _ => M 0) (mulM k B Y)) (hcx : m ≤ cx) (hcxm : cx ≤ 9223372036854775807) :
    Calls Try.prog 18 #[.slice a n ca, .slice x m cx] w fun e w' => Below w.heap.size w w' ∧ ∃ ay, e = .returned (.tuple #[.slice ay n n, .int .i64 0]) ∧
      Calls Try.prog 18 #[.slice ap n n, .slice l k cl] w' fun e' w3 => Below w'.heap.size w' w3 ∧ ∃ az, e' = .returned (.tuple #[.slice az n n, .int .i64 0]) ∧ TPair w3 (.slice ay n n) (.slice az n n) n := by
  have gP : Gd n (fun _ => LB 0) := ⟨gA.1, gA.2.1, gB.2.2.1, gB.2.2.2.1, fun _ _ => rfl⟩
  refine (apply_ok a x n m ca cx LA (fun _ => M 0) A (mulM k B Y) w hn hA hcx hcxm hX gA hs.symm (fun _ _ => rfl) h5).mono ?_
  rintro e w' ⟨hb, ay, rfl, hTy⟩
  refine ⟨hb, ay, rfl, (apply_ok ap l n k n cl (fun _ => LB 0) M (mulM m A B) Y w' hn (hP.below hb) hcl hclm (hT.below hb) gP hk hM h5).mono ?_⟩
  rintro e w3 ⟨hb3, az, rfl, hTz⟩
  exact ⟨hb3, az, rfl, gA.2.1, _, _, _, _, fun _ => M 0, mulM m A (mulM k B Y), rfl, rfl, hTy.below hb3, hTz.elems fun r c => mulM_assoc m k A B Y r c⟩

set_option maxHeartbeats 4000000 in
theorem textsLaw_arg (a : Option Addr) (n ca : Nat) (b : Option Addr) (m cb : Nat) (l : Option Addr) (len cap : Nat) (w : World) (hA : RawArg w a n ca) (hB : RawArg w b m cb) (hL : StrsArg w l len cap) :
    Calls Try.prog 8 #[.slice a n ca, .slice b m cb, .slice l len cap] w fun e w' => e = .returned (.bool true) ∧ Below w.heap.size w w' := by
  obtain ⟨LA, A, AR, CR, hn, hMA, -⟩ := hA
  obtain ⟨LB, B, BR, DR, hm, hMB, -⟩ := hB
  obtain ⟨T, hlc, hcm, hln, hTv, hTs⟩ := hL
  obtain ⟨k, hk, hkl, hk20⟩ := cut_at len 20 (by decide)
  have hk20' : k ≤ 20 := by omega
  have hvk : Vals w l k (fun i => .string (T i)) := by
    rcases hTv with h0 | ⟨b, o, e, h⟩
    · exact .inl (by omega)
    · exact .inr ⟨b, o, e, fun i hi => h i (by omega)⟩
  have HRUN : Hid (∀ x, Below w.heap.size w x → ∃ a1 c1 w1, (∀ ty, (Builtin.append_ #[37, 37] ty #[.slice none 0 0, .slice l k cap]).run Try.prog x = .ok (.slice a1 k c1) w1) ∧ w1.ownsRow x.heap.size 9 1 (.slice a1 k c1) k (strsL k T) ∧ Below x.heap.size x w1) := fun x hx => by
    obtain ⟨v1, w1, hrun, hown, hb1⟩ := app_strs x l k cap T (hvk.below hx (Nat.le_refl _)) (fun h => ⟨hln h, by have := hln h; omega⟩) (by omega)
    obtain ⟨a1, c1, e1, -, -⟩ := owns_form hown _ (fun i hi => strsL_at _ _ i hi)
    subst e1
    exact ⟨a1, c1, w1, hrun, hown, hb1⟩
  have hmul := mul_sum a b n m ca cb LA LB A B w ⟨AR, CR, hMA⟩ ⟨BR, DR, hMB⟩ hn hm
  unfold maxLen at hcm
  have HMA : Hid (MatIn w a n LA A AR CR) := hMA
  have HMB : Hid (MatIn w b m LB B BR DR) := hMB
  have HN : Hid (n ≤ maxLen) := hn
  have HM : Hid (m ≤ maxLen) := hm
  have HTS : Hid (∀ i, i < k → (T i).size ≤ 9223372036854775807) := fun i hi => by have := hTs i (by omega); unfold maxLen at this; omega
  have k0 : (0 : Int) ≤ (k : Int) := by omega
  have kc : (k : Int) ≤ (cap : Int) := by omega
  clear hMA hMB hTv hTs hvk hn hm
  cases l with
  | none =>
    obtain rfl : cap = 0 := hln rfl
    obtain rfl : len = 0 := by omega
    obtain rfl : k = 0 := by omega
    go_enter Try.func8, Try.ntmps8
    go_wp2_with fail
    go_at_call 21
    refine hmul.mono ?_
    rintro e w0 ⟨hb0, vp, erp, rfl, hok⟩
    have HOK : Hid (MulOk n m LA LB A B vp erp w0) := hok
    obtain ⟨a1, c1, w1, hrun, hown0, hb01⟩ := HRUN.out w0 hb0
    have HOWN : Hid (w1.ownsRow w0.heap.size 9 1 (.slice a1 0 c1) 0 (strsL 0 T)) := hown0
    have hb1 : Below w0.heap.size w0 w1 := hb01
    clear hmul hok hown0 hb01
    go_wp2_with (at_builtin; refine Lib.wpList_append_run _ rfl _ _ 37 37 rfl _ _ rfl rfl _ _ (hrun _) ?_)
    go_wp2_with fail
    go_loopw [31] (fun i wr => i = .int .i64 0 ∧ wr = w1) (fun i _ => 0)
    case atStart => exact ⟨rfl, rfl⟩
    case round =>
      obtain ⟨rfl, rfl⟩ := hrel
      have hor := HOWN.out
      have HF1 : Hid (∀ j, j < 0 → (T j).size ≤ 40) := fun j hj => by omega
      have hbc := hb1
      obtain ⟨a2, c2, e2, hc2, hc2m, hT⟩ := txt_of_strs hor (fun i hi => by have := HF1.out i (by omega); omega)
      cases e2
      have hb0c := hb0.trans (hbc.mono hb0.size)
      have hp := apply_any b a1 m 0 cb c1 LB _ B _ _ HM.out ⟨BR, DR, HMB.out.below hb0c⟩ hc2 hc2m hT
      have HT : Hid (TxtAt _ a1 0 _ _) := hT
      have h5 : Hid (∀ i, i < 0 → (T i).size ≤ 65536) := fun i hi => by have := HF1.out i (by omega); omega
      clear hT hor
      go_wp2_with fail
      go_at_call 18
      refine hp.mono ?_
      rintro e w3 ⟨hb3, v3, er3, rfl, hpost⟩
      have hbc3 := hbc.trans (hb3.mono hbc.size)
      have hb03 := hb0.trans (hbc3.mono hb0.size)
      have HP : Hid (AppPost m 0 LB _ B _ v3 er3 w3) := hpost
      clear hp hpost
      by_cases hz1 : erp = 0
      · by_cases hz2 : er3 = 0
        · subst hz1 hz2
          rcases HOK.out with h | ⟨-, gA, gB, hs, ap, rfl, hMP⟩
          · exact absurd rfl h
          rcases HP.out with ⟨-, -, h⟩ | ⟨-, -, -, h⟩ | ⟨-, -, -, -, h⟩ | ⟨-, ⟨hk', hM'⟩, h65, -, ax, cx, rfl, hcx, hcxm, hTX⟩
          · cases h
          · cases h
          · cases h
          have hw := fun x (hx : Below w3.heap.size w3 x) => both_ways a b n m ca cb LA LB A B ap a1 ax 0 c1 cx _ _ x ⟨AR, CR, (HMA.out.below hb03).below hx⟩ HN.out gA gB hs ((hMP.below hbc3).below hx) ((HT.out.below hb3).below hx) hc2 hc2m hk' hM' h65 (hTX.below hx) hcx hcxm
          have hn16 : n ≤ 16 := gA.2.1
          clear hs hMP gA gB hk' hM' h65 hTX hcx hcxm hb3 hbc3
          go_wp2_with fail
          go_at_call 16
          refine (wakes_any _).mono ?_
          rintro e w4 ⟨rfl, hb4⟩
          have hw4 := hw w4 hb4
          have hb04 := hb03.trans (hb4.mono hb03.size)
          clear hw hb4 hb03
          go_wp2_with fail
          go_at_call 18
          refine hw4.mono ?_
          rintro e w5 ⟨hb5, ay, rfl, hsecond⟩
          clear hw4
          go_wp2_with fail
          go_at_call 18
          refine hsecond.mono ?_
          rintro e w6 ⟨hb6, az, rfl, hTP⟩
          have hb05 := hb04.trans (hb5.mono hb04.size)
          have hb06 := hb05.trans (hb6.mono hb05.size)
          obtain ⟨-, a3, a4, c3, c4, e3, e4, hcs⟩ := hTP.cells
          cases e3
          cases e4
          have HCS : Hid (∀ x, Below w6.heap.size w6 x → ∀ i, i < n → ∃ b o b' o' s, ay = some ⟨b, o, none⟩ ∧ az = some ⟨b', o', none⟩ ∧ x.cell? ⟨b, o + i, none⟩ = some (.string s) ∧ x.cell? ⟨b', o' + i, none⟩ = some (.string s)) := hcs
          have t0 : ((n : Int) != (n : Int)) = false := by simp
          clear hsecond hb5 hb05 hb04 hTP hcs hb6
          go_wp2_with fail
          go_loopw [93] (fun i wr => ∃ j : Nat, j ≤ n ∧ i = .int .i64 j ∧ Below w6.heap.size w6 wr) (fun i _ => (n : Nat) - (intOf i).toNat)
          case atStart => exact ⟨0, Nat.zero_le _, rfl, Below.refl _ _⟩
          case round =>
            obtain ⟨j, hj, rfl, hbj⟩ := hrel
            by_cases hjq : j < n
            · obtain ⟨b, o, b', o', s, rfl, rfl, g1, g2⟩ := HCS.out _ hbj j hjq
              have jq : (j : Int) < (n : Int) := by omega
              go_wp2_with fail
              go_quiet (fail)
              go_wp2_with fail
              go_roundw
              case rel => exact ⟨j + 1, by omega, by go_num, below_drewN hbj _⟩
              case measure => simp [intOf]; omega
            · go_wp2_with fail
              go_ret
              exact ⟨rfl, hb06.trans (hbj.mono hb06.size)⟩
        · subst hz1
          have t2 : (er3 != 0) = true := by simpa using hz2
          clear hz2 hb3
          go_wp2_with fail
          go_at_call 16
          refine (wakes_any _).mono ?_
          rintro e w4 ⟨rfl, hb4⟩
          have hb04 := hb03.trans (hb4.mono hb03.size)
          clear hb4
          go_wp2_with fail
          go_at_call 16
          refine (wakes_any _).mono ?_
          rintro e w5 ⟨rfl, hb5⟩
          go_wp2_with fail
          go_ret
          exact ⟨rfl, hb04.trans (hb5.mono hb04.size)⟩
      · have t2 : (erp != 0) = true := by simpa using hz1
        clear hz1 hb3
        go_wp2_with fail
        go_at_call 16
        refine (wakes_any _).mono ?_
        rintro e w4 ⟨rfl, hb4⟩
        have hb04 := hb03.trans (hb4.mono hb03.size)
        clear hb4
        go_wp2_with fail
        go_at_call 16
        refine (wakes_any _).mono ?_
        rintro e w5 ⟨rfl, hb5⟩
        go_wp2_with fail
        go_ret
        exact ⟨rfl, hb04.trans (hb5.mono hb04.size)⟩
  | some al =>
    go_enter Try.func8, Try.ntmps8
    go_wp2_with fail
    go_at_call 21
    refine hmul.mono ?_
    rintro e w0 ⟨hb0, vp, erp, rfl, hok⟩
    have HOK : Hid (MulOk n m LA LB A B vp erp w0) := hok
    obtain ⟨a1, c1, w1, hrun, hown0, hb01⟩ := HRUN.out w0 hb0
    have HOWN : Hid (w1.ownsRow w0.heap.size 9 1 (.slice a1 k c1) k (strsL k T)) := hown0
    have hb1 : Below w0.heap.size w0 w1 := hb01
    clear hmul hok hown0 hb01
    go_wp2_with (at_builtin; refine Lib.wpList_append_run _ rfl _ _ 37 37 rfl _ _ rfl rfl _ _ (hrun _) ?_)
    go_wp2_with fail
    clear hk kc k0 hkl hk20 hlc hln hrun
    go_loopw [31] (fun i wr => ∃ c : Nat, c ≤ k ∧ i = .int .i64 c ∧ Below w0.heap.size w0 wr ∧ ∃ f : Nat → ByteArray, (∀ j, j < c → (f j).size ≤ 40) ∧ (∀ j, j < k → (f j).size ≤ 9223372036854775807) ∧ wr.ownsRow w0.heap.size 9 1 (.slice a1 k c1) k (strsL k f)) (fun i _ => (k : Nat) - (intOf i).toNat)
    case atStart => exact ⟨0, Nat.zero_le _, rfl, hb1, T, fun j hj => by omega, HTS.out, HOWN.out⟩
    case round =>
      obtain ⟨c, hcc, rfl, hbc, f, hf1, hf2, hor⟩ := hrel
      have HF1 : Hid (∀ j, j < c → (f j).size ≤ 40) := hf1
      have HF2 : Hid (∀ j, j < k → (f j).size ≤ 9223372036854775807) := hf2
      clear hf1 hf2
      by_cases hlt : c < k
      · obtain ⟨g, rfl, hgb⟩ := own_some hor (by omega)
        obtain ⟨s, hs⟩ : ∃ s, f c = s := ⟨_, rfl⟩
        have hsz : s.size ≤ 9223372036854775807 := by rw [← hs]; exact HF2.out c hlt
        have hcell : wr.cell? ⟨g, c, none⟩ = some (.string s) := by rw [hor.cellAt c (by omega), strsL_at _ f c hlt, hs]
        have hfr := hor.frozenAt c
        obtain ⟨n1, hn1, hn1l, hn140⟩ := cut_at s.size 40 (by decide)
        have hst := (hor.stored c (.string (s.extract 0 n1))).1
        rw [strsL_set _ f c _ hlt] at hst
        have hb5 : Below w0.heap.size w0 (wr.setCell ⟨g, c, none⟩ (.string (s.extract 0 n1))).drew := (hbc.setCell hgb _).drew
        have hsx := extract_size_le s n1
        generalize hs1 : s.extract 0 n1 = s1 at hst hb5 hsx
        have HS1 : Hid (s.extract 0 n1 = s1) := hs1
        have hn1i : (n1 : Int) ≤ (s.size : Int) := by omega
        have ck : (c : Int) < (k : Int) := by omega
        have HO5 : Hid ((wr.setCell ⟨g, c, none⟩ (.string s1)).drew.ownsRow w0.heap.size 9 1 (.slice (some ⟨g, 0, none⟩) k c1) k (strsL k fun j => if j = c then s1 else f j)) := hst.drew
        have HSX : Hid (s1.size ≤ 40) := (by omega : s1.size ≤ 40)
        clear hs1 hst hor hs hsx hn140 hn1l
        go_wp2_with fail
        go_region
        rw [HS1.out]
        go_wp2_with fail
        go_roundw
        case rel => exact ⟨c + 1, by omega, by go_num, hb5, _, fun j hj => by
          by_cases e : j = c
          · simp only [if_pos e]; exact HSX.out
          · simp only [if_neg e]; exact HF1.out j (by omega), fun j hj => by
          by_cases e : j = c
          · simp only [if_pos e]; have := HSX.out; omega
          · simp only [if_neg e]; exact HF2.out j hj, HO5.out⟩
        case measure => simp [intOf]; omega
      · obtain rfl : k = c := by omega
        obtain ⟨a2, c2, e2, hc2, hc2m, hT⟩ := txt_of_strs hor (fun i hi => by have := HF1.out i (by omega); omega)
        cases e2
        have hb0c := hb0.trans (hbc.mono hb0.size)
        have hp := apply_any b a1 m k cb c1 LB _ B _ _ HM.out ⟨BR, DR, HMB.out.below hb0c⟩ hc2 hc2m hT
        have HT : Hid (TxtAt _ a1 k _ _) := hT
        have h5 : Hid (∀ i, i < k → (f i).size ≤ 65536) := fun i hi => by have := HF1.out i (by omega); omega
        clear hT hor
        go_wp2_with fail
        go_at_call 18
        refine hp.mono ?_
        rintro e w3 ⟨hb3, v3, er3, rfl, hpost⟩
        have hbc3 := hbc.trans (hb3.mono hbc.size)
        have hb03 := hb0.trans (hbc3.mono hb0.size)
        have HP : Hid (AppPost m k LB _ B _ v3 er3 w3) := hpost
        clear hp hpost
        by_cases hz1 : erp = 0
        · by_cases hz2 : er3 = 0
          · subst hz1 hz2
            rcases HOK.out with h | ⟨-, gA, gB, hs, ap, rfl, hMP⟩
            · exact absurd rfl h
            rcases HP.out with ⟨-, -, h⟩ | ⟨-, -, -, h⟩ | ⟨-, -, -, -, h⟩ | ⟨-, ⟨hk', hM'⟩, h65, -, ax, cx, rfl, hcx, hcxm, hTX⟩
            · cases h
            · cases h
            · cases h
            have hw := fun x (hx : Below w3.heap.size w3 x) => both_ways a b n m ca cb LA LB A B ap a1 ax k c1 cx _ _ x ⟨AR, CR, (HMA.out.below hb03).below hx⟩ HN.out gA gB hs ((hMP.below hbc3).below hx) ((HT.out.below hb3).below hx) hc2 hc2m hk' hM' h65 (hTX.below hx) hcx hcxm
            have hn16 : n ≤ 16 := gA.2.1
            clear hs hMP gA gB hk' hM' h65 hTX hcx hcxm hb3 hbc3
            go_wp2_with fail
            go_at_call 16
            refine (wakes_any _).mono ?_
            rintro e w4 ⟨rfl, hb4⟩
            have hw4 := hw w4 hb4
            have hb04 := hb03.trans (hb4.mono hb03.size)
            clear hw hb4 hb03
            go_wp2_with fail
            go_at_call 18
            refine hw4.mono ?_
            rintro e w5 ⟨hb5, ay, rfl, hsecond⟩
            clear hw4
            go_wp2_with fail
            go_at_call 18
            refine hsecond.mono ?_
            rintro e w6 ⟨hb6, az, rfl, hTP⟩
            have hb05 := hb04.trans (hb5.mono hb04.size)
            have hb06 := hb05.trans (hb6.mono hb05.size)
            obtain ⟨-, a3, a4, c3, c4, e3, e4, hcs⟩ := hTP.cells
            cases e3
            cases e4
            have HCS : Hid (∀ x, Below w6.heap.size w6 x → ∀ i, i < n → ∃ b o b' o' s, ay = some ⟨b, o, none⟩ ∧ az = some ⟨b', o', none⟩ ∧ x.cell? ⟨b, o + i, none⟩ = some (.string s) ∧ x.cell? ⟨b', o' + i, none⟩ = some (.string s)) := hcs
            have t0 : ((n : Int) != (n : Int)) = false := by simp
            clear hsecond hb5 hb05 hb04 hTP hcs hb6
            go_wp2_with fail
            go_loopw [93] (fun i wr => ∃ j : Nat, j ≤ n ∧ i = .int .i64 j ∧ Below w6.heap.size w6 wr) (fun i _ => (n : Nat) - (intOf i).toNat)
            case atStart => exact ⟨0, Nat.zero_le _, rfl, Below.refl _ _⟩
            case round =>
              obtain ⟨j, hj, rfl, hbj⟩ := hrel
              by_cases hjq : j < n
              · obtain ⟨b, o, b', o', s, rfl, rfl, g1, g2⟩ := HCS.out _ hbj j hjq
                have jq : (j : Int) < (n : Int) := by omega
                go_wp2_with fail
                go_quiet (fail)
                go_wp2_with fail
                go_roundw
                case rel => exact ⟨j + 1, by omega, by go_num, below_drewN hbj _⟩
                case measure => simp [intOf]; omega
              · go_wp2_with fail
                go_ret
                exact ⟨rfl, hb06.trans (hbj.mono hb06.size)⟩
          · subst hz1
            have t2 : (er3 != 0) = true := by simpa using hz2
            clear hz2 hb3
            go_wp2_with fail
            go_at_call 16
            refine (wakes_any _).mono ?_
            rintro e w4 ⟨rfl, hb4⟩
            have hb04 := hb03.trans (hb4.mono hb03.size)
            clear hb4
            go_wp2_with fail
            go_at_call 16
            refine (wakes_any _).mono ?_
            rintro e w5 ⟨rfl, hb5⟩
            go_wp2_with fail
            go_ret
            exact ⟨rfl, hb04.trans (hb5.mono hb04.size)⟩
        · have t2 : (erp != 0) = true := by simpa using hz1
          clear hz1 hb3
          go_wp2_with fail
          go_at_call 16
          refine (wakes_any _).mono ?_
          rintro e w4 ⟨rfl, hb4⟩
          have hb04 := hb03.trans (hb4.mono hb03.size)
          clear hb4
          go_wp2_with fail
          go_at_call 16
          refine (wakes_any _).mono ?_
          rintro e w5 ⟨rfl, hb5⟩
          go_wp2_with fail
          go_ret
          exact ⟨rfl, hb04.trans (hb5.mono hb04.size)⟩
end Go.Proofs.Ythcbnffhkbbkpaa
