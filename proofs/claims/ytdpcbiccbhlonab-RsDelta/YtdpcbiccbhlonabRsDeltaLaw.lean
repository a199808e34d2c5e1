/- Changing one data chunk after the other: the law's walk. -/
import Derived.Test.YtdpcbiccbhlonabRsAll
import Derived.Test.YtdpcbiccbhlonabRsUpd
import Derived.BigRegion
namespace Go.Proofs.Ytdpcbiccbhlonab
open Go.RowKit Go.PlainAid
set_option linter.unusedVariables false

def setD (i : Nat) (n : Nat → E) (D : Mx) : Mx := fun j c => if j = i then n c else D j c
theorem mul_set {k i : Nat} (hi : i < k) (A : Nat → E) (d : Nat → E) (n : E) : S k (fun j => A j * (if j = i then n else d j)) = S k (fun j => A j * d j) + A i * (d i + n) := by
  have e : ∀ j, j < k → A j * (if j = i then n else d j) = A j * d j + (if j = i then A i * (d i + n) else 0) := fun j hj => by
    by_cases h : j = i
    · subst h
      rw [if_pos rfl, if_pos rfl, E.mul_add, ← E.add_assoc, E.add_self, E.zero_add]
    · rw [if_neg h, if_neg h, E.add_zero]
  rw [S_congr e, S_add]
  congr 1
  rw [S_one hi (fun j hj h => if_neg h), if_pos rfl]
theorem mulM_set {k i : Nat} (hi : i < k) (r c : Nat) (D : Mx) (n : Nat → E) : mulM k powM (setD i n D) r c = mulM k powM D r c + powM r i * (D i c + n c) :=
  mul_set hi (fun j => powM r j) (fun j => D j c) (n c)
theorem upd_set {k i m : Nat} (hi : i < k) (h8 : i < 8) (hm : m ≤ 65536) (D : Mx) (n : Nat → E) (Y : Mx) (h0 : Y 0 = mulM k powM D 0) (h1 : Y 1 = mulM k powM D 1) (h2 : Y 2 = D i) (h3 : Y 3 = n) :
    updE (i : Int) (fun _ => m) = 0 ∧ updP (i : Int) (fun _ => m) Y = strE m (mulM k powM (setD i n D) 0) ∧ updQ (i : Int) (fun _ => m) Y = strE m (mulM k powM (setD i n D) 1) := by
  have hE : updE (i : Int) (fun _ => m) = 0 := by
    unfold updE; rw [if_pos ⟨by omega, by omega⟩]
    exact mea_zero.2 ⟨fun _ _ => rfl, hm⟩
  refine ⟨hE, ?_, ?_⟩
  · unfold updP; rw [if_pos hE]
    refine strE_congr fun c hc => ?_
    rw [h0, h2, h3, mulM_set hi, powM_zero, E.one_mul]
  · unfold updQ; rw [if_pos hE, Int.toNat_natCast]
    refine strE_congr fun c hc => ?_
    rw [h1, h2, h3, mulM_set hi, powM_one]
theorem enc_of {k m : Nat} (k1 : 1 ≤ k) (k8 : k ≤ 8) (hm : m ≤ 65536) (D : Mx) : encE k (fun _ => m) = 0 ∧ encS k (fun _ => m) D 0 = strE m (mulM k powM D 0) ∧ encS k (fun _ => m) D 1 = strE m (mulM k powM D 1) := by
  have hE : encE k (fun _ => m) = 0 := encE_zero.2 ⟨⟨k1, k8⟩, fun _ _ => rfl, hm⟩
  exact ⟨hE, if_pos hE, if_pos hE⟩

set_option maxHeartbeats 4000000 in
theorem deltaLaw_arg (l : Option Addr) (len cap : Nat) (ch : Option Addr) (clen ccap : Nat) (w : World) (hL : StrsArg w l len cap) (hH : StrsArg w ch clen ccap) :
    Calls Try.prog 3 #[.slice l len cap, .slice ch clen ccap] w fun e w' => e = .returned (.bool true) ∧ Below w.heap.size w w' := by
  have hcut := cut_any l len cap 60 true w hL (by decide)
  have hwk := fun x => rsWakes_any x
  clear hL
  obtain ⟨T, hlc, hcm, hln, hTv, hTs⟩ := hH
  unfold maxLen at hcm
  obtain ⟨kk, hkk, hkl, hk30⟩ := cut_at clen 30 (by decide)
  obtain ⟨i0, hi0, hz0, hz1, hz2⟩ := info_parts Try.info5
  cases ch with
  | none =>
    have h0 := hln rfl
    obtain rfl : ccap = 0 := h0
    obtain rfl : clen = 0 := by omega
    obtain rfl : kk = 0 := by omega
    clear hTv hTs hkk hln
    go_enter Try.func3, Try.ntmps3
    go_wp2_with fail
    go_at_call 5
    refine hcut.mono ?_
    rintro e w1 ⟨hb1, v, f, rfl, hC⟩
    have k12 : min len 12 ≤ 12 := by omega
    generalize min len 12 = k at hC k12 ⊢
    obtain ⟨a, c, rfl, hc1, hc2, hT⟩ := hC.txt (by decide)
    clear hcut
    by_cases hk : 1 ≤ k ∧ k ≤ 8
    · have hs := hC.2.2 rfl
      have hf0 := hC.2.1 0 (by omega)
      obtain ⟨m, hm⟩ : ∃ m, (f 0).size = m := ⟨_, rfl⟩
      have hm6 : m ≤ 60 := by omega
      have hown0 : w1.ownsRow w.heap.size 9 1 (.slice a k c) k (strsL k fun i => strE m ((fun i => teE (f i)) i)) := by
        have e : (strsL k fun i => strE m ((fun i => teE (f i)) i)) = strsL k f := strsL_congr fun i hi => by
          have : (f i).size = m := by rw [hs i hi, hm]
          simp only []
          rw [← this, strE_te]
        rw [e]; exact hC.1
      rcases hown0.2 with ⟨-, h1⟩ | ⟨g, c', cur, hg0, -⟩
      · omega
      cases hg0
      obtain ⟨D0, hD0⟩ : ∃ D0 : Mx, (fun i => teE (f i)) = D0 := ⟨_, rfl⟩
      rw [hD0] at hown0
      have HO : Hid (∀ x y D, w.heap.size ≤ x.heap.size → x.ownsRow w.heap.size 9 1 (.slice (some ⟨g, 0, none⟩) k c) k (strsL k fun i => strE m (D i)) → Below x.heap.size x y → Calls Try.prog 7 #[.slice (some ⟨g, 0, none⟩) k c] y fun e w' => Below y.heap.size y w' ∧ e = .returned (.tuple #[.string (strE m (mulM k powM D 0)), .string (strE m (mulM k powM D 1)), .int .i64 0])) := fun x y D hx ho hb => by
        have ho' := owns_below ho hb
        obtain ⟨aa, cc, e, -, -, hTT⟩ := txt_of_owns ho' (by omega)
        cases e
        have := encode_any (some ⟨g, 0, none⟩) k c (fun _ => m) D y hc1 hc2 hTT
        obtain ⟨q1, q2, q3⟩ := enc_of hk.1 hk.2 (show m ≤ 65536 by omega) D
        rw [q1, q2, q3] at this
        exact this
      have henc := HO.out w1 w1 D0 hb1.size hown0 (Below.refl _ _)
      have HK : Hid (1 ≤ k ∧ k ≤ 8) := hk
      have t0 : ((k : Int) == 0) = false := by simp; omega
      have t1 : ¬ (8 : Int) < (k : Int) := by omega
      clear hC hT hk hs hf0 hm hD0
      go_wp2_with fail
      go_at_call 7
      refine henc.mono ?_
      rintro e w2 ⟨hb2, rfl⟩
      have hown2 := owns_below hown0 hb2
      have hb02 := hb1.trans (hb2.mono hb1.size)
      clear henc hown0 hb1 hb2
      go_wp2_with fail
      go_loopw [6, 7, 40] (fun p q i wr => ∃ D : Mx, p = .string (strE m (mulM k powM D 0)) ∧ q = .string (strE m (mulM k powM D 1)) ∧ i = .int .i64 0 ∧ Below w.heap.size w wr ∧ wr.ownsRow w.heap.size 9 1 (.slice (some ⟨g, 0, none⟩) k c) k (strsL k fun i => strE m (D i))) (fun _ _ _ _ => 0)
      case atStart => exact ⟨D0, rfl, rfl, rfl, hb02, hown2⟩
      case round =>
        obtain ⟨D, rfl, rfl, rfl, hbr, hownr⟩ := hrel
        have hencr := HO.out wr wr D hbr.size hownr (Below.refl _ _)
        go_wp2_with fail
        go_at_call 7
        refine hencr.mono ?_
        rintro e w3 ⟨hb3, rfl⟩
        have hb03 := hbr.trans (hb3.mono hbr.size)
        clear hencr
        generalize strE m (mulM k powM D 0) = p
        generalize strE m (mulM k powM D 1) = q
        go_wp2_with fail
        go_at_call 6
        refine (hwk _).mono ?_
        rintro e w4 ⟨rfl, hb4⟩
        go_wp2_with fail
        go_ret
        exact ⟨by simp, hb03.trans (hb4.mono hb03.size)⟩
    · by_cases h0 : k = 0
      · subst h0
        clear hC hT hk
        go_wp2_with fail
        go_at_call 6
        refine (hwk _).mono ?_
        rintro e w5 ⟨rfl, hb5⟩
        go_wp2_with fail
        go_ret
        exact ⟨rfl, hb1.trans (hb5.mono hb1.size)⟩
      · have t0 : ((k : Int) == 0) = false := by simp; omega
        have t1 : (8 : Int) < (k : Int) := by omega
        clear hC hT hk h0
        go_wp2_with fail
        go_at_call 6
        refine (hwk _).mono ?_
        rintro e w5 ⟨rfl, hb5⟩
        go_wp2_with fail
        go_ret
        exact ⟨rfl, hb1.trans (hb5.mono hb1.size)⟩
  | some a0 =>
    have HV : Hid (∀ x, Below w.heap.size w x → ∀ i, i < clen → ∃ b o, a0 = ⟨b, o, none⟩ ∧ x.cell? ⟨b, o + i, none⟩ = some (.string (T i)) ∧ (T i).size ≤ 9223372036854775807) := fun x hx i hi => by
      rcases hTv with h0 | ⟨b, o, e, h⟩
      · omega
      · cases e
        have h' := h i hi
        have := hTs i hi
        unfold maxLen at this
        exact ⟨b, o, rfl, (hx.cell (p := ⟨b, o + i, none⟩) (cell_lt h')).trans h', by omega⟩
    clear hTv hTs hln
    go_enter Try.func3, Try.ntmps3
    go_wp2_with fail
    go_at_call 5
    refine hcut.mono ?_
    rintro e w1 ⟨hb1, v, f, rfl, hC⟩
    have k12 : min len 12 ≤ 12 := by omega
    generalize min len 12 = k at hC k12 ⊢
    obtain ⟨a, c, rfl, hc1, hc2, hT⟩ := hC.txt (by decide)
    clear hcut
    by_cases hk : 1 ≤ k ∧ k ≤ 8
    · have hs := hC.2.2 rfl
      have hf0 := hC.2.1 0 (by omega)
      obtain ⟨m, hm⟩ : ∃ m, (f 0).size = m := ⟨_, rfl⟩
      have hm6 : m ≤ 60 := by omega
      have hown0 : w1.ownsRow w.heap.size 9 1 (.slice a k c) k (strsL k fun i => strE m ((fun i => teE (f i)) i)) := by
        have e : (strsL k fun i => strE m ((fun i => teE (f i)) i)) = strsL k f := strsL_congr fun i hi => by
          have : (f i).size = m := by rw [hs i hi, hm]
          simp only []
          rw [← this, strE_te]
        rw [e]; exact hC.1
      rcases hown0.2 with ⟨-, h1⟩ | ⟨g, c', cur, hg0, -⟩
      · omega
      cases hg0
      obtain ⟨D0, hD0⟩ : ∃ D0 : Mx, (fun i => teE (f i)) = D0 := ⟨_, rfl⟩
      rw [hD0] at hown0
      have HO : Hid (∀ x y D, w.heap.size ≤ x.heap.size → x.ownsRow w.heap.size 9 1 (.slice (some ⟨g, 0, none⟩) k c) k (strsL k fun i => strE m (D i)) → Below x.heap.size x y → Calls Try.prog 7 #[.slice (some ⟨g, 0, none⟩) k c] y fun e w' => Below y.heap.size y w' ∧ e = .returned (.tuple #[.string (strE m (mulM k powM D 0)), .string (strE m (mulM k powM D 1)), .int .i64 0])) := fun x y D hx ho hb => by
        have ho' := owns_below ho hb
        obtain ⟨aa, cc, e, -, -, hTT⟩ := txt_of_owns ho' (by omega)
        cases e
        have := encode_any (some ⟨g, 0, none⟩) k c (fun _ => m) D y hc1 hc2 hTT
        obtain ⟨q1, q2, q3⟩ := enc_of hk.1 hk.2 (show m ≤ 65536 by omega) D
        rw [q1, q2, q3] at this
        exact this
      have henc := HO.out w1 w1 D0 hb1.size hown0 (Below.refl _ _)
      have HK : Hid (1 ≤ k ∧ k ≤ 8) := hk
      have t0 : ((k : Int) == 0) = false := by simp; omega
      have t1 : ¬ (8 : Int) < (k : Int) := by omega
      clear hC hT hk hs hf0 hm hD0
      go_wp2_with fail
      go_at_call 7
      refine henc.mono ?_
      rintro e w2 ⟨hb2, rfl⟩
      have hown2 := owns_below hown0 hb2
      have hb02 := hb1.trans (hb2.mono hb1.size)
      clear henc hown0 hb1 hb2
      go_wp2_with fail
      go_loopw [6, 7, 40] (fun p q i wr => ∃ (r : Nat) (D : Mx), r ≤ kk ∧ p = .string (strE m (mulM k powM D 0)) ∧ q = .string (strE m (mulM k powM D 1)) ∧ i = .int .i64 r ∧ Below w.heap.size w wr ∧ wr.ownsRow w.heap.size 9 1 (.slice (some ⟨g, 0, none⟩) k c) k (strsL k fun i => strE m (D i))) (fun _ _ i _ => (kk : Nat) - (intOf i).toNat)
      case atStart => exact ⟨0, D0, Nat.zero_le _, rfl, rfl, rfl, hb02, hown2⟩
      case round =>
        clear hb02 hown2
        obtain ⟨r, D, hr, rfl, rfl, rfl, hbr, hownr⟩ := hrel
        by_cases hlt : r < kk
        · obtain ⟨b, o, rfl, e1, hs9⟩ := HV.out wr hbr r (by omega)
          generalize T r = s at e1 hs9
          obtain ⟨q, hq, hqs, hq60⟩ := cut_at s.size 60 (by decide)
          have hex : (s.extract 0 q).size = q := by rw [ByteArray.size_extract]; omega
          have rk : (r : Int) < (kk : Int) := by omega
          have hk0 := HK.out
          obtain ⟨p, hp, hpk⟩ : ∃ p, r % k = p ∧ p < k := ⟨_, rfl, Nat.mod_lt _ (by omega)⟩
          have hmod : Int.tmod (r : Int) (k : Int) = (p : Int) := by rw [← hp]; rfl
          have hc0 : wr.cell? ⟨g, 0, none⟩ = some (.string (strE m (D 0))) := by rw [hownr.cellAt 0 (by omega), strsL_at _ _ 0 (by omega)]
          have HCp : Hid (∀ x, Below wr.heap.size wr x → x.cell? ⟨g, p, none⟩ = some (.string (strE m (D p))) ∧ x.frozen? ⟨g, p, none⟩ = false) := fun x hx => by
            have h' := owns_below hownr hx
            exact ⟨by rw [h'.cellAt p (by omega), strsL_at _ _ p hpk], h'.frozenAt p⟩
          have ht0s := strE_size m (D 0)
          obtain ⟨t0', ht0⟩ : ∃ t, strE m (D 0) = t := ⟨_, rfl⟩
          rw [ht0] at hc0 ht0s
          obtain ⟨Z, hZ⟩ : ∃ Z, madeCells (Value.int .u8 0).cells (60 * i0.size) = Z := ⟨_, rfl⟩
          have hmk : ∀ x : World, (Instr.makeSlice 28 (.int .i64 60) (.int .i64 60)).run Try.prog x = .ok (.slice (some ⟨x.heap.size, 0, none⟩) 60 60) (x.alloc (.cells Z 5 (0, 0))) := fun x => by
            have := run_make (P := Try.prog) x 28 5 i0 (.int .u8 0) Try.underlying28 hi0 hz0 .i64 .i64 60 60 (by decide) (Int.le_refl _) (by rw [hz2]; decide) (by decide)
            rw [show Int.toNat 60 = 60 from rfl, hZ] at this
            exact this
          obtain ⟨zs, hzs⟩ : ∃ zs, strOfNums (List.replicate 60 0) = zs := ⟨_, rfl⟩
          have hzsz : zs.size = 60 := by rw [← hzs, strOfNums_size, List.length_replicate]
          have hcv : ∀ x : World, (convert 28 9 (.slice (some ⟨x.heap.size, 0, none⟩) 60 60)).run Try.prog (x.alloc (.cells Z 5 (0, 0))) = .ok (.string zs) (x.alloc (.cells Z 5 (0, 0))) := fun x => by
            have := run_convert_bytes_arg (P := Try.prog) (x.alloc (.cells Z 5 (0, 0))) 28 5 Try.underlying28 Try.underlying5 x.heap.size 0 60 60 (List.replicate 60 0) (List.length_replicate ..) (fun i hi => ?_) 9 Try.underlying9
            · rw [hzs] at this; exact this
            · rw [← hZ, hz1]
              have : (madeCells (Value.int .u8 0).cells (60 * 1)).toList = List.replicate 60 (.int .u8 0) := by rw [Nat.mul_one]; exact toList_madeCells_one _ _
              have hl : (madeCells (Value.int .u8 0).cells (60 * 1))[i]? = some (.int .u8 0) := by
                rw [← Array.getElem?_toList, this, List.getElem?_replicate, if_pos hi]
              rw [Nat.zero_add, List.getD_eq_getElem?_getD, List.getElem?_replicate, if_pos hi]
              rw [cell_of_row (x.alloc (.cells (madeCells (Value.int .u8 0).cells (60 * 1)) 5 (0, 0))) x.heap.size i _ 5 (0, 0) (heap_alloc_new x _), hl]
              rfl
          have hd2 : Below wr.heap.size wr (wr.alloc (.cells Z 5 (0, 0))).drew := ((Below.refl _ _).alloc (Nat.le_refl _) _).drew
          have hcv' : (convert 28 9 (.slice (some ⟨wr.heap.size, 0, none⟩) 60 60)).run Try.prog (wr.alloc (.cells Z 5 (0, 0))).drew = .ok (.string zs) (wr.alloc (.cells Z 5 (0, 0))).drew := hcv wr.drew
          have hcA : (wr.alloc (.cells Z 5 (0, 0))).cell? ⟨g, 0, none⟩ = some (.string t0') := (((Below.refl wr.heap.size wr).alloc (Nat.le_refl _) (.cells Z 5 (0, 0))).cell (p := ⟨g, 0, none⟩) (cell_lt hc0)).trans hc0
          have kz : ((k : Int) == 0) = false := by simp; omega
          have k0 : (0 : Int) < (k : Int) := by omega
          have pk : (p : Int) < (k : Int) := by omega
          clear hZ hzs hcv hp
          go_wp2_with fail
          go_region
          have hns : ((s.extract 0 q ++ zs).extract 0 m).size = m := by rw [ByteArray.size_extract, ByteArray.size_append]; omega
          generalize (s.extract 0 q ++ zs).extract 0 m = now at hns ⊢
          have hne : strE m (teE now) = now := by rw [← hns, strE_te]
          have hupd : ∀ x, Calls Try.prog 8 #[.string (strE m (mulM k powM D 0)), .string (strE m (mulM k powM D 1)), .int .i64 (p : Int), .string (strE m (D p)), .string now] x fun e w' => Below x.heap.size x w' ∧ e = .returned (.tuple #[.string (strE m (mulM k powM (setD p (teE now) D) 0)), .string (strE m (mulM k powM (setD p (teE now) D) 1)), .int .i64 0]) := fun x => by
            have h := update_any (p : Int) (fun _ => m) (four (mulM k powM D 0) (mulM k powM D 1) (D p) (teE now)) x (fun c hc => by show m ≤ _; omega) (by omega) (by omega)
            obtain ⟨q1, q2, q3⟩ := upd_set hpk (show p < 8 by omega) (show m ≤ 65536 by omega) D (teE now) (four (mulM k powM D 0) (mulM k powM D 1) (D p) (teE now)) rfl rfl rfl rfl
            rw [q1, q2, q3] at h
            have h' : Calls Try.prog 8 #[.string (strE m (mulM k powM D 0)), .string (strE m (mulM k powM D 1)), .int .i64 (p : Int), .string (strE m (D p)), .string (strE m (teE now))] x _ := h
            rw [hne] at h'
            exact h'
          have hown5 := owns_below hownr hd2
          have hb5 : Below w.heap.size w (wr.alloc (.cells Z 5 (0, 0))).drew := hbr.trans (hd2.mono hbr.size)
          have HC5 : Hid (∀ x, Below (wr.alloc (.cells Z 5 (0, 0))).drew.heap.size (wr.alloc (.cells Z 5 (0, 0))).drew x → x.cell? ⟨g, p, none⟩ = some (.string (strE m (D p))) ∧ x.frozen? ⟨g, p, none⟩ = false) := fun x hx => HCp.out x (hd2.trans (hx.mono hd2.size))
          generalize (wr.alloc (.cells Z 5 (0, 0))).drew = w5 at hown5 hb5 HC5 ⊢
          have HE : Hid (∀ j, (if j = p then now else strE m (D j)) = strE m (setD p (teE now) D j)) := fun j => by
            by_cases h : j = p
            · rw [if_pos h]; exact hne.symm.trans (strE_congr fun c hc => by simp only [setD, if_pos h])
            · rw [if_neg h]; exact strE_congr fun c hc => by simp only [setD, if_neg h]
          have hgw := (hown5.lt g rfl).1
          have cp5 := (HC5.out w5 (Below.refl _ _)).1
          obtain ⟨P', hP'⟩ : ∃ P', strE m (mulM k powM (setD p (teE now) D) 0) = P' := ⟨_, rfl⟩
          obtain ⟨Q', hQ'⟩ : ∃ Q', strE m (mulM k powM (setD p (teE now) D) 1) = Q' := ⟨_, rfl⟩
          have HPQ : Hid (strE m (mulM k powM (setD p (teE now) D) 0) = P' ∧ strE m (mulM k powM (setD p (teE now) D) 1) = Q') := ⟨hP', hQ'⟩
          rw [hP', hQ'] at hupd
          generalize strE m (mulM k powM D 0) = P0 at hupd ⊢
          generalize strE m (mulM k powM D 1) = Q0 at hupd ⊢
          clear hcA hcv' hmk hd2 hownr hbr hc0 hne hP' hQ' HCp ht0
          go_wp2_with fail
          go_at_call 8
          refine (hupd _).mono ?_
          rintro e w6 ⟨hb6, rfl⟩
          obtain ⟨c6, f6⟩ := HC5.out w6 hb6
          have hown6 := owns_below hown5 hb6
          have hst := (hown6.stored p (.string now)).1
          rw [strsL_set _ _ p now hpk, strsL_congr fun j hj => HE.out j] at hst
          have hb06 := hb5.trans (hb6.mono hb5.size)
          clear hupd hown5 hown6 cp5 HC5
          go_wp2_with fail
          go_roundw
          case rel => exact ⟨r + 1, setD p (teE now) D, by omega, by rw [HPQ.out.1], by rw [HPQ.out.2], by go_num, hb06.setCell (p := ⟨g, p, none⟩) hgw _, hst⟩
          case measure => simp [intOf]; omega
        · have hrk : kk = r := by omega
          subst hrk
          have hencr := HO.out wr wr D hbr.size hownr (Below.refl _ _)
          go_wp2_with fail
          go_at_call 7
          refine hencr.mono ?_
          rintro e w3 ⟨hb3, rfl⟩
          have hb03 := hbr.trans (hb3.mono hbr.size)
          clear hencr
          generalize strE m (mulM k powM D 0) = p
          generalize strE m (mulM k powM D 1) = q
          go_wp2_with fail
          go_at_call 6
          refine (hwk _).mono ?_
          rintro e w4 ⟨rfl, hb4⟩
          go_wp2_with fail
          go_ret
          exact ⟨by simp, hb03.trans (hb4.mono hb03.size)⟩
    · by_cases h0 : k = 0
      · subst h0
        clear hC hT hk
        go_wp2_with fail
        go_at_call 6
        refine (hwk _).mono ?_
        rintro e w5 ⟨rfl, hb5⟩
        go_wp2_with fail
        go_ret
        exact ⟨rfl, hb1.trans (hb5.mono hb1.size)⟩
      · have t0 : ((k : Int) == 0) = false := by simp; omega
        have t1 : (8 : Int) < (k : Int) := by omega
        clear hC hT hk h0
        go_wp2_with fail
        go_at_call 6
        refine (hwk _).mono ?_
        rintro e w5 ⟨rfl, hb5⟩
        go_wp2_with fail
        go_ret
        exact ⟨rfl, hb1.trans (hb5.mono hb1.size)⟩
end Go.Proofs.Ytdpcbiccbhlonab
