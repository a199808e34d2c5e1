/- Every matrix times every texts: the law's walk. -/
import Derived.Test.YthcbnffhkbbkpaaMatStrs
import Derived.BigRegion
namespace Go.Proofs.Ythcbnffhkbbkpaa
open Go.RowKit Go.PlainAid
set_option linter.unusedVariables false

theorem TPair.cells {w : World} {v v' : Value} {n : Nat} (h : TPair w v v' n) : n ≤ 16 ∧ ∃ a a' c c', v = .slice a n c ∧ v' = .slice a' n c' ∧ ∀ x, Below w.heap.size w x → ∀ i, i < n → ∃ b o b' o' s, a = some ⟨b, o, none⟩ ∧ a' = some ⟨b', o', none⟩ ∧ x.cell? ⟨b, o + i, none⟩ = some (.string s) ∧ x.cell? ⟨b', o' + i, none⟩ = some (.string s) := by
  obtain ⟨hn, a, a', c, c', M, Y, rfl, rfl, h1, h2⟩ := h
  refine ⟨hn, a, a', c, c', rfl, rfl, fun x hx i hi => ?_⟩
  obtain ⟨b, o, e, h⟩ := (h1.below hx).cell (by omega)
  obtain ⟨b', o', e', h'⟩ := (h2.below hx).cell (by omega)
  exact ⟨b, o, b', o', _, e, e', h i hi, h' i hi⟩
theorem own_some {w : World} {base k c1 : Nat} {a1 : Option Addr} {xs : List Value} (h : w.ownsRow base 9 1 (.slice a1 k c1) k xs) (hk : 0 < k) : ∃ g, a1 = some ⟨g, 0, none⟩ ∧ base ≤ g := by
  rcases h.2 with ⟨h0, h1⟩ | ⟨g, cap, cur, e, hb, _⟩
  · omega
  · cases e; exact ⟨g, rfl, hb⟩
theorem extract_size_le (s : ByteArray) (n : Nat) : (s.extract 0 n).size ≤ n ∧ (s.extract 0 n).size ≤ s.size := by
  rw [ByteArray.size_extract]; omega

set_option maxHeartbeats 4000000 in
theorem appliesLaw_arg (a : Option Addr) (n ca : Nat) (l : Option Addr) (len cap : Nat) (cut : Int) (w : World) (hA : RawArg w a n ca) (hL : StrsArg w l len cap) (hc : (Lit.int .i64 cut).wf = true) :
    Calls Try.prog 5 #[.slice a n ca, .slice l len cap, .int .i64 cut] w fun e w' => e = .returned (.bool true) ∧ Below w.heap.size w w' := by
  obtain ⟨LA, A, AR, CR, hn, hMA, -⟩ := hA
  obtain ⟨T, hlc, hcm, hln, hTv, hTs⟩ := hL
  have hcut := bounds_i64 hc
  obtain ⟨k, hk, hkl, hk20⟩ := cut_at len 20 (by decide)
  have hk20' : k ≤ 20 := by omega
  have hvk : Vals w l k (fun i => .string (T i)) := by
    rcases hTv with h0 | ⟨b, o, e, h⟩
    · exact .inl (by omega)
    · exact .inr ⟨b, o, e, fun i hi => h i (by omega)⟩
  obtain ⟨v1, w1, hrun, hown, hb1⟩ := app_strs w l k cap T hvk (fun h => ⟨hln h, by have := hln h; omega⟩) (by omega)
  unfold maxLen at hcm
  have HMA : Hid (MatIn w a n LA A AR CR) := hMA
  have HN : Hid (n ≤ maxLen) := hn
  have HTS : Hid (∀ i, i < k → (T i).size ≤ 9223372036854775807) := fun i hi => by have := hTs i (by omega); unfold maxLen at this; omega
  obtain ⟨a1, c1, e1, -, -⟩ := owns_form hown _ (fun i hi => strsL_at _ _ i hi)
  subst e1
  have k0 : (0 : Int) ≤ (k : Int) := by omega
  have kc : (k : Int) ≤ (cap : Int) := by omega
  clear hMA hTv hTs hvk hc hn
  cases l with
  | none =>
    obtain rfl : cap = 0 := hln rfl
    obtain rfl : len = 0 := by omega
    obtain rfl : k = 0 := by omega
    have HOWN : Hid (w1.ownsRow w.heap.size 9 1 (.slice a1 0 c1) 0 (strsL 0 T)) := hown
    go_enter Try.func5, Try.ntmps5
    go_wp2_with (at_builtin; refine Lib.wpList_append_run _ rfl _ _ 37 37 rfl _ _ rfl rfl _ _ (hrun _) ?_)
    go_wp2_with fail
    clear hown
    go_loopw [21] (fun i wr => i = .int .i64 0 ∧ wr = w1) (fun i _ => 0)
    case atStart => exact ⟨rfl, rfl⟩
    case round =>
      obtain ⟨rfl, rfl⟩ := hrel
      have hor := HOWN.out
      have HF1 : Hid (∀ j, j < 0 → (T j).size ≤ 60) := fun j hj => by omega
      have hbc := hb1
      obtain ⟨a2, c2, e2, hc2, hc2m, hT⟩ := txt_of_strs hor (fun i hi => by have := HF1.out i (by omega); omega)
      cases e2
      have hp := apply_pair a a1 n 0 ca c1 LA _ A _ _ HN.out ⟨AR, CR, HMA.out.below hbc⟩ hc2 hc2m hT (fun i hi => by have := HF1.out i (by omega); show (T i).size ≤ _; omega)
      clear hT hor
      go_wp2_with fail
      go_at_call 18
      refine hp.mono ?_
      rintro e w3 ⟨hb3, v3, er, rfl, hI2⟩
      have hb03 := hbc.trans (hb3.mono hbc.size)
      clear hp hb3
      go_wp2_with fail
      go_at_call 19
      refine (hI2 _ (Below.refl _ _)).mono ?_
      rintro e w4 ⟨hb4, v4, q, rfl, hP⟩
      have hb04 := hb03.trans (hb4.mono hb03.size)
      obtain ⟨hq, a3, a4, c3, c4, rfl, rfl, hcs⟩ := hP.cells
      have HCS : Hid (∀ x, Below w4.heap.size w4 x → ∀ i, i < q → ∃ b o b' o' s, a3 = some ⟨b, o, none⟩ ∧ a4 = some ⟨b', o', none⟩ ∧ x.cell? ⟨b, o + i, none⟩ = some (.string s) ∧ x.cell? ⟨b', o' + i, none⟩ = some (.string s)) := hcs
      have t0 : ((q : Int) != (q : Int)) = false := by simp
      have t1 : (er == er) = true := by simp
      clear hI2 hb4 hb03 hP hcs
      go_wp2_with fail
      go_loopw [75] (fun i wr => ∃ j : Nat, j ≤ q ∧ i = .int .i64 j ∧ Below w4.heap.size w4 wr) (fun i _ => (q : Nat) - (intOf i).toNat)
      case atStart => exact ⟨0, Nat.zero_le _, rfl, Below.refl _ _⟩
      case round =>
        obtain ⟨j, hj, rfl, hbj⟩ := hrel
        by_cases hjq : j < q
        · obtain ⟨b, o, b', o', s, rfl, rfl, g1, g2⟩ := HCS.out _ hbj j hjq
          have jq : (j : Int) < (q : Int) := by omega
          go_wp2_with fail
          go_quiet (fail)
          go_wp2_with fail
          go_roundw
          case rel => exact ⟨j + 1, by omega, by go_num, below_drewN hbj _⟩
          case measure => simp [intOf]; omega
        · go_wp2_with fail
          go_at_call 16
          refine (wakes_any _).mono ?_
          rintro e w8 ⟨rfl, hb8⟩
          have hb48 := hbj.trans (hb8.mono hbj.size)
          go_wp2_with fail
          go_ret
          exact ⟨by simp, hb04.trans (hb48.mono hb04.size)⟩
  | some al =>
    have HOWN : Hid (w1.ownsRow w.heap.size 9 1 (.slice a1 k c1) k (strsL k T)) := hown
    go_enter Try.func5, Try.ntmps5
    go_wp2_with (at_builtin; refine Lib.wpList_append_run _ rfl _ _ 37 37 rfl _ _ rfl rfl _ _ (hrun _) ?_)
    go_wp2_with fail
    clear hk kc k0 hkl hk20 hlc hln hrun
    clear hown
    go_loopw [21] (fun i wr => ∃ c : Nat, c ≤ k ∧ i = .int .i64 c ∧ Below w.heap.size w wr ∧ ∃ f : Nat → ByteArray, (∀ j, j < c → (f j).size ≤ 60) ∧ (∀ j, j < k → (f j).size ≤ 9223372036854775807) ∧ wr.ownsRow w.heap.size 9 1 (.slice a1 k c1) k (strsL k f)) (fun i _ => (k : Nat) - (intOf i).toNat)
    case atStart => exact ⟨0, Nat.zero_le _, rfl, hb1, T, fun j hj => by omega, HTS.out, HOWN.out⟩
    case round =>
      obtain ⟨c, hcc, rfl, hbc, f, hf1, hf2, hor⟩ := hrel
      have HF1 : Hid (∀ j, j < c → (f j).size ≤ 60) := hf1
      have HF2 : Hid (∀ j, j < k → (f j).size ≤ 9223372036854775807) := hf2
      clear hf1 hf2
      by_cases hlt : c < k
      · obtain ⟨g, rfl, hgb⟩ := own_some hor (by omega)
        obtain ⟨s, hs⟩ : ∃ s, f c = s := ⟨_, rfl⟩
        have hsz : s.size ≤ 9223372036854775807 := by rw [← hs]; exact HF2.out c hlt
        have hcell : wr.cell? ⟨g, c, none⟩ = some (.string s) := by rw [hor.cellAt c (by omega), strsL_at _ f c hlt, hs]
        have hfr := hor.frozenAt c
        obtain ⟨n1, hn1, hn1l, hn160⟩ := cut_at s.size 60 (by decide)
        have hst := (hor.stored c (.string (s.extract 0 n1))).1
        rw [strsL_set _ f c _ hlt] at hst
        have hb5 : Below w.heap.size w (wr.setCell ⟨g, c, none⟩ (.string (s.extract 0 n1))).drew := (hbc.setCell hgb _).drew
        have hsx := extract_size_le s n1
        generalize hs1 : s.extract 0 n1 = s1 at hst hb5 hsx
        have HS1 : Hid (s.extract 0 n1 = s1) := hs1
        have hn1i : (n1 : Int) ≤ (s.size : Int) := by omega
        have ck : (c : Int) < (k : Int) := by omega
        have HO5 : Hid ((wr.setCell ⟨g, c, none⟩ (.string s1)).drew.ownsRow w.heap.size 9 1 (.slice (some ⟨g, 0, none⟩) k c1) k (strsL k fun j => if j = c then s1 else f j)) := hst.drew
        have HSX : Hid (s1.size ≤ 60) := (by omega : s1.size ≤ 60)
        clear hs1 hst hor hs hsx hn160 hn1l
        by_cases hcn : 0 ≤ cut
        · go_wp2_with fail
          go_region
          clear hcell hfr
          rw [HS1.out]
          generalize (wr.setCell ⟨g, c, none⟩ (.string s1)).drew = w5 at hb5 HO5 ⊢
          have hcell : w5.cell? ⟨g, c, none⟩ = some (.string s1) := by rw [HO5.out.cellAt c (by omega), strsL_at _ _ c hlt]; simp
          have hfr := HO5.out.frozenAt c
          have hs1z := HSX.out
          obtain ⟨n2, hn2, hn2l, -⟩ := cut_at s1.size cut hcn
          have hst := (HO5.out.stored c (.string (s1.extract 0 n2))).1
          rw [strsL_set _ _ c _ hlt] at hst
          have hb6 : Below w.heap.size w (w5.setCell ⟨g, c, none⟩ (.string (s1.extract 0 n2))).drew := (hb5.setCell hgb _).drew
          have hsx := extract_size_le s1 n2
          have hn2i : (n2 : Int) ≤ (s1.size : Int) := by omega
          have HSY : Hid ((s1.extract 0 n2).size ≤ 60) := (by omega : (s1.extract 0 n2).size ≤ 60)
          have HO6 : Hid ((w5.setCell ⟨g, c, none⟩ (.string (s1.extract 0 n2))).drew.ownsRow w.heap.size 9 1 (.slice (some ⟨g, 0, none⟩) k c1) k (strsL k fun j => if j = c then s1.extract 0 n2 else if j = c then s1 else f j)) := hst.drew
          clear hst hsx hn2l hsz hn1 hn1i HS1
          go_wp2_with fail
          go_region
          go_wp2_with fail
          go_roundw
          case rel => exact ⟨c + 1, by omega, by go_num, hb6, _, fun j hj => by
            by_cases e : j = c
            · simp only [if_pos e]; exact HSY.out
            · simp only [if_neg e]; exact HF1.out j (by omega), fun j hj => by
            by_cases e : j = c
            · simp only [if_pos e]; have := HSY.out; omega
            · simp only [if_neg e]; exact HF2.out j hj, HO6.out⟩
          case measure => simp [intOf]; omega
        · go_wp2_with fail
          go_region
          rw [HS1.out]
          go_wp2_with fail
          go_roundw
          case rel => exact ⟨c + 1, by omega, by go_num, hb5, _, fun j hj => by
            by_cases e : j = c
            · simp only [if_pos e]; exact HSX.out
            · simp only [if_neg e]; exact HF1.out j (by omega), fun j hj => by
            by_cases e : j = c
            · simp only [if_pos e]; have := HSX.out; omega
            · simp only [if_neg e]; exact HF2.out j hj, HO5.out⟩
          case measure => simp [intOf]; omega
      · obtain rfl : k = c := by omega
        obtain ⟨a2, c2, e2, hc2, hc2m, hT⟩ := txt_of_strs hor (fun i hi => by have := HF1.out i (by omega); omega)
        cases e2
        have hp := apply_pair a a1 n k ca c1 LA _ A _ _ HN.out ⟨AR, CR, HMA.out.below hbc⟩ hc2 hc2m hT (fun i hi => by have := HF1.out i (by omega); show (f i).size ≤ _; omega)
        clear hT hor
        go_wp2_with fail
        go_at_call 18
        refine hp.mono ?_
        rintro e w3 ⟨hb3, v3, er, rfl, hI2⟩
        have hb03 := hbc.trans (hb3.mono hbc.size)
        clear hp hb3
        go_wp2_with fail
        go_at_call 19
        refine (hI2 _ (Below.refl _ _)).mono ?_
        rintro e w4 ⟨hb4, v4, q, rfl, hP⟩
        have hb04 := hb03.trans (hb4.mono hb03.size)
        obtain ⟨hq, a3, a4, c3, c4, rfl, rfl, hcs⟩ := hP.cells
        have HCS : Hid (∀ x, Below w4.heap.size w4 x → ∀ i, i < q → ∃ b o b' o' s, a3 = some ⟨b, o, none⟩ ∧ a4 = some ⟨b', o', none⟩ ∧ x.cell? ⟨b, o + i, none⟩ = some (.string s) ∧ x.cell? ⟨b', o' + i, none⟩ = some (.string s)) := hcs
        have t0 : ((q : Int) != (q : Int)) = false := by simp
        have t1 : (er == er) = true := by simp
        clear hI2 hb4 hb03 hP hcs
        go_wp2_with fail
        go_loopw [75] (fun i wr => ∃ j : Nat, j ≤ q ∧ i = .int .i64 j ∧ Below w4.heap.size w4 wr) (fun i _ => (q : Nat) - (intOf i).toNat)
        case atStart => exact ⟨0, Nat.zero_le _, rfl, Below.refl _ _⟩
        case round =>
          obtain ⟨j, hj, rfl, hbj⟩ := hrel
          by_cases hjq : j < q
          · obtain ⟨b, o, b', o', s, rfl, rfl, g1, g2⟩ := HCS.out _ hbj j hjq
            have jq : (j : Int) < (q : Int) := by omega
            go_wp2_with fail
            go_quiet (fail)
            go_wp2_with fail
            go_roundw
            case rel => exact ⟨j + 1, by omega, by go_num, below_drewN hbj _⟩
            case measure => simp [intOf]; omega
          · go_wp2_with fail
            go_at_call 16
            refine (wakes_any _).mono ?_
            rintro e w8 ⟨rfl, hb8⟩
            have hb48 := hbj.trans (hb8.mono hbj.size)
            go_wp2_with fail
            go_ret
            exact ⟨by simp, hb04.trans (hb48.mono hb04.size)⟩
end Go.Proofs.Ythcbnffhkbbkpaa
