/- A matrix times texts: the document's answer. -/
import Derived.Test.YthcbnffhkbbkpaaMatApply
namespace Go.Proofs.Ythcbnffhkbbkpaa
open Go.RowKit Go.PlainAid
set_option linter.unusedVariables false

/-- Texts, one behind the other. -/
def strsL (k : Nat) (f : Nat → ByteArray) : List Value := (List.range k).map fun i => .string (f i)
theorem strsL_length (k : Nat) (f : Nat → ByteArray) : (strsL k f).length = k := by simp [strsL]
theorem strsL_at (k : Nat) (f : Nat → ByteArray) (i : Nat) (h : i < k) : (strsL k f)[i]? = some (.string (f i)) := by simp [strsL, h]
theorem strsL_succ (k : Nat) (f : Nat → ByteArray) : strsL (k + 1) f = strsL k f ++ [.string (f k)] := by
  unfold strsL; rw [List.range_succ, List.map_append]; rfl

section
variable {ops : Array Oper} {rest : List Oper} {o : Oper} {a : Act} {Q : Exit → Act → World → Prop}
/-- A text appended to texts. -/
theorem push_str_at (hgd : o.guard = none) (s x : Operand) (ho : o.op = .call { callee := .builtin .append, args := #[s, x], argTypes := #[37, 37] })
    (w0 : World) (base : Nat) (v : Value) (k : Nat) (f : Nat → ByteArray) (hA : w0.ownsRow base 9 1 v k (strsL k f)) (hs : a.eval s = v) (b : Value) (hbv : b = .string (f k))
    (sz : Nat) (hx : a.eval x = .slice (some ⟨sz, 0, none⟩) 1 1) (hsz : sz = w0.heap.size) (hk : k < 1000000000) (hbase : base ≤ w0.heap.size)
    (h : ∀ v' w', w'.ownsRow base 9 1 v' (k + 1) (strsL (k + 1) f) → Below base w0 w' → wpList Try.prog ops Q rest (a.put o.dst v') w') :
    wpList Try.prog ops Q (o :: rest) a (w0.alloc (.cells #[b] 9 (0, 0))) := by
  subst hsz
  subst hbv
  obtain ⟨i0, hi, hz0, hz1, hz2⟩ := info_parts Try.info9
  refine wpList_append_own _ hgd s x 37 ho base 9 i0 (.string ⟨#[]⟩) 1 16 Try.underlying37 hi hz0 hz1 hz2 rfl (by decide) v k _ hs (hA.alloc _) ⟨w0.heap.size, 0, none⟩ 1 1 [.string (f k)] hx rfl ?_ ?_ ?_ ?_ ?_ ?_
  · intro j u hu
    match j, hu with
    | 0, hu => simp at hu; subst hu; simp [Addr.add]
  · intro u hu; simp at hu; subst hu; rfl
  · unfold maxLen; omega
  · omega
  · simp; omega
  · intro v' w' hown hgrow _
    have hb0 : Below w0.heap.size w0 (w0.alloc (.cells #[.string (f k)] 9 (0, 0))) := (Below.refl _ _).alloc (Nat.le_refl _) _
    refine h v' w' (by rw [strsL_succ]; exact hown) ?_
    exact (hb0.mono hbase).grown hgrow (by simp; omega) (fun g hg => (hA.lt g hg).1)
end
theorem txt_of_owns {w : World} {base n : Nat} {v : Value} {m : Nat} {X : Mx} (h : w.ownsRow base 9 1 v n (strsL n fun r => strE m (X r))) (hm : m ≤ 65536) : ∃ a c, v = .slice a n c ∧ n ≤ c ∧ c ≤ 9223372036854775807 ∧ TxtAt w a n (fun _ => m) X := by
  obtain ⟨a, c, rfl, _, hv⟩ := owns_form h _ (fun i hi => strsL_at _ _ i hi)
  refine ⟨a, c, rfl, ?_, ?_, hv, fun _ _ => by show m ≤ _; omega⟩
  · rcases h.2 with ⟨h0, h1⟩ | ⟨g, cap, cur, e, _, _, h1, _⟩
    · omega
    · cases e; exact h1
  · rcases h.2 with ⟨h0, h1⟩ | ⟨g, cap, cur, e, _, _, _, h1, _⟩
    · cases h0; omega
    · cases e; unfold maxLen at h1; omega

set_option maxHeartbeats 2000000 in
theorem refApply_ok (a l : Option Addr) (n k ca cl : Nat) (L M : Nat → Nat) (A Y : Mx) (w : World) (hn : n ≤ maxLen) (hA : MatAt w a n L A) (hT : TxtAt w l k M Y)
    (gA : Gd n L) (hk : k = L 0) (hM : ∀ c, c < k → M c = M 0) (h5 : M 0 ≤ 65536) :
    Calls Try.prog 19 #[.slice a n ca, .slice l k cl] w fun e w' => Below w.heap.size w w' ∧ ∃ vo, e = .returned (.tuple #[vo, .int .i64 0]) ∧ w'.ownsRow w.heap.size 9 1 vo n (strsL n fun r => strE (M 0) (mulM k A Y r)) := by
  have hg := refGood_any a n ca L A w hn hA true (good_yes gA)
  obtain ⟨ba, oa, rfl, hR⟩ := rows_in hA gA
  rw [← hk] at hR
  have k1 : 1 ≤ k := by rw [hk]; exact gA.2.2.1
  have k16 : k ≤ 16 := by rw [hk]; exact gA.2.2.2.1
  have n1 : 1 ≤ n := gA.1
  have n16 : n ≤ 16 := gA.2.1
  obtain ⟨bl, ol, rfl, hcl0⟩ := hT.cell k1
  obtain ⟨m, hm⟩ : ∃ m, M 0 = m := ⟨_, rfl⟩
  rw [hm] at h5 ⊢
  have HR : Hid (RowsIn w ba oa n k A) := hR
  have HT : Hid (∀ x, Below w.heap.size w x → ∀ c, c < k → ∃ s : ByteArray, s.size = m ∧ x.cell? ⟨bl, ol + c, none⟩ = some (.string s) ∧ ∀ i, i < m → bt s i = ((Y c i).v : Int)) := fun x hx c hc => by
    have h := hcl0 c hc
    have e : M c = m := by rw [hM c hc, hm]
    rw [e] at h
    exact ⟨_, strE_size m (Y c), (hx.cell (p := ⟨bl, ol + c, none⟩) (cell_lt h)).trans h, fun i hi => bt_strE m (Y c) i hi⟩
  have n0 : (0 : Int) < (n : Int) := by omega
  have n0' : 0 < n := by omega
  have k0 : (0 : Int) < (k : Int) := by omega
  have k0' : 0 < k := by omega
  have t0 : ((k : Int) != (k : Int)) = false := by simp
  have t1 : ((m : Int) != (m : Int)) = false := by simp
  have hs5 : ¬ (65536 : Int) < (m : Int) := by omega
  clear hR gA hk hM hm hcl0 hn hA hT
  go_enter Try.func19, Try.ntmps19
  go_wp2_with fail
  go_at_call 32
  refine hg.mono ?_
  rintro e w1 ⟨rfl, q1, rfl⟩
  have hb1 : Below w.heap.size w (w.drewN q1) := below_drewN (Below.refl _ _) _
  generalize w.drewN q1 = w1 at hb1 ⊢
  obtain ⟨xb, xo, xc, hc0, -⟩ := HR.out _ hb1 0 n0'
  rw [Nat.add_zero] at hc0
  clear hg
  go_wp2_with fail
  go_loopw [7] (fun i wr => ∃ c : Nat, c ≤ k ∧ i = .int .i64 c ∧ Below w.heap.size w wr) (fun i _ => (k : Nat) - (intOf i).toNat)
  case atStart => exact ⟨0, Nat.zero_le _, rfl, hb1⟩
  case round =>
    obtain ⟨c, hc, rfl, hbc⟩ := hrel
    by_cases hlt : c < k
    · obtain ⟨s, hs, e1, -⟩ := HT.out wr hbc c hlt
      obtain ⟨s', hs', e2, -⟩ := HT.out wr hbc 0 k0'
      rw [Nat.add_zero] at e2
      have ck : (c : Int) < (k : Int) := by omega
      clear hc0 hb1
      go_wp2_with fail
      go_quiet (fail)
      go_wp2_with fail
      go_roundw
      case rel => exact ⟨c + 1, by omega, by go_num, below_drewN hbc _⟩
      case measure => simp [intOf]; omega
    · have hck : k = c := by omega
      subst hck
      obtain ⟨s', hs', e2, -⟩ := HT.out wr hbc 0 k0'
      rw [Nat.add_zero] at e2
      clear hc0 hb1
      go_wp2_with fail
      clear e2 hs'
      go_loopw [8, 9] (fun o i wr => ∃ r : Nat, r ≤ n ∧ i = .int .i64 r ∧ Below w.heap.size w wr ∧ wr.ownsRow w.heap.size 9 1 o r (strsL r fun r => strE m (mulM k A Y r))) (fun _ i _ => (n : Nat) - (intOf i).toNat)
      case atStart => exact ⟨0, Nat.zero_le _, rfl, hbc, World.ownsRow_nil _ _ _ _⟩
      case round =>
        obtain ⟨r, hr, rfl, hbr, hor⟩ := hrel
        by_cases hrn : r < n
        · clear hbc
          go_wp2_with fail
          obtain ⟨wo, hwo⟩ : ∃ wo, wo = wr := ⟨_, rfl⟩
          have HWO : Hid (wo = wr) := hwo
          have hoo := hor
          rw [← hwo] at hoo
          have hbo : Below w.heap.size w wo := by rw [hwo]; exact hbr
          clear hwo
          go_loopw [10, 11] (fun v i wi => ∃ j : Nat, j ≤ m ∧ i = .int .i64 j ∧ Below wo.heap.size wo wi ∧ wi.ownsRow wo.heap.size 5 1 v j (bytesL j (mulM k A Y r))) (fun _ i _ => (m : Nat) - (intOf i).toNat)
          case atStart => exact ⟨0, Nat.zero_le _, rfl, by rw [HWO.out]; exact Below.refl _ _, World.ownsRow_nil _ _ _ _⟩
          case round =>
            obtain ⟨j, hj, rfl, hbj, hoj⟩ := hrel
            have hbwj : Below w.heap.size w wr := hbo.trans (hbj.mono hbo.size)
            obtain ⟨s', hs', e2, -⟩ := HT.out wr hbwj 0 k0'
            rw [Nat.add_zero] at e2
            by_cases hjm : j < m
            · go_wp2_with fail
              obtain ⟨wm, hwm⟩ : ∃ wm, wm = wr := ⟨_, rfl⟩
              have HWM : Hid (wm = wr) := hwm
              have hom := hoj
              rw [← hwm] at hom
              have hbm : Below wo.heap.size wo wm := by rw [hwm]; exact hbj
              clear hwm e2 hs'
              go_loopw [12, 13] (fun s i wk => ∃ c : Nat, c ≤ k ∧ i = .int .i64 c ∧ s = .int .u8 ((S c (fun c => A r c * Y c j)).v : Int) ∧ Below wm.heap.size wm wk) (fun _ i _ => (k : Nat) - (intOf i).toNat)
              case atStart => exact ⟨0, Nat.zero_le _, rfl, rfl, by rw [HWM.out]; exact Below.refl _ _⟩
              case round =>
                obtain ⟨c, hc, rfl, rfl, hbk⟩ := hrel
                have hbwk : Below w.heap.size w wr := (hbo.trans (hbm.mono hbo.size)).trans (hbk.mono (Nat.le_trans hbo.size hbm.size))
                by_cases hck : c < k
                · obtain ⟨b1, o1, c1, e1, f1⟩ := HR.out wr hbwk r hrn
                  obtain ⟨s, hs, e2, f2⟩ := HT.out wr hbwk c hck
                  have f1' := f1 c hck
                  have f2' := f2 j hjm
                  have HS : Hid (∀ x, Below wr.heap.size wr x → x.cell? ⟨ba, oa + r, none⟩ = some (.slice (some ⟨b1, o1, none⟩) k c1) ∧ x.cell? ⟨b1, o1 + c, none⟩ = some (.int .u8 ((A r c).v : Int)) ∧ x.cell? ⟨bl, ol + c, none⟩ = some (.string s)) := fun x hx =>
                    ⟨(hx.cell (p := ⟨ba, oa + r, none⟩) (cell_lt e1)).trans e1, (hx.cell (p := ⟨b1, o1 + c, none⟩) (cell_lt f1')).trans f1', (hx.cell (p := ⟨bl, ol + c, none⟩) (cell_lt e2)).trans e2⟩
                  have hd : Below wr.heap.size wr wr.drew := (Below.refl _ _).drew
                  have hmul := fun x => refMul_E (A r c) (Y c j) x
                  have hadd := fun x => refAdd_E (S c (fun c => A r c * Y c j)) (A r c * Y c j) x
                  have rn : (r : Int) < (n : Int) := by omega
                  have km : (c : Int) < (k : Int) := by omega
                  have jm : (j : Int) < (m : Int) := by omega
                  have hbs := get_bt s
                  have hjs : j < s.size := by omega
                  generalize (A r c).v = x1 at f1' hmul HS
                  generalize (Y c j).v = x2 at f2' hmul
                  generalize hx3 : (A r c * Y c j) = x3 at hmul hadd
                  have HSS : Hid (S (c + 1) (fun c => A r c * Y c j) = S c (fun c => A r c * Y c j) + x3) := (by rw [← hx3]; rfl : S (c + 1) (fun c => A r c * Y c j) = S c (fun c => A r c * Y c j) + x3)
                  clear hx3 f1 f2
                  go_wp2_with fail
                  go_region_held3 (fun x => x.cell? ⟨ba, oa + r, none⟩ = some (.slice (some ⟨b1, o1, none⟩) k c1) ∧ x.cell? ⟨b1, o1 + c, none⟩ = some (.int .u8 (x1 : Int)) ∧ x.cell? ⟨bl, ol + c, none⟩ = some (.string s)) (first | exact HS.out _ hd | exact HS.out _ (by assumption)) (first | (go_at_call 26; refine (hmul _).mono ?_; rintro e w5 ⟨rfl, hb5⟩; have hx5 : Below wr.heap.size wr w5 := hd.trans hb5))
                  go_wp2_with fail
                  go_at_call 38
                  refine (hadd _).mono ?_
                  rintro e w6 ⟨rfl, hb6⟩
                  go_wp2_with fail
                  go_roundw
                  case rel => exact ⟨c + 1, by omega, by go_num, by rw [HSS.out], hbk.trans ((hx5.mono hbk.size).trans (hb6.mono (Nat.le_trans hbk.size hx5.size)))⟩
                  case measure => simp [intOf]; omega
                · have hkm' : k = c := by omega
                  subst hkm'
                  have hok := owns_below hom hbk
                  have HE : Hid (Value.int .u8 ((S k (fun c => A r c * Y c j)).v : Int) = byteV (mulM k A Y r j)) := (rfl : Value.int .u8 ((S k (fun c => A r c * Y c j)).v : Int) = byteV (mulM k A Y r j))
                  go_wp2_with (at_builtin; refine push_byte_at rfl _ _ rfl _ wo.heap.size _ j (mulM k A Y r) hok rfl _ HE.out _ rfl rfl (by omega) (Nat.le_trans hbm.size hbk.size) ?_)
                  intro v' w6 ho6 hb6
                  go_wp2_with fail
                  go_roundw
                  case rel => exact ⟨j + 1, by omega, by go_num, hbm.trans ((hbk.mono hbm.size).trans hb6), ho6⟩
                  case measure => simp [intOf]; omega
            · have hjm' : m = j := by omega
              subst hjm'
              obtain ⟨ar, cr, hv8, _, hrow⟩ := owns_form hoj _ (fun i hi => bytesL_at _ _ i hi)
              subst hv8
              have hconv := conv_at (w := wr) (cap := cr) hrow
              have hoi := owns_below hoo hbj
              have HV : Hid (Value.string (strE m (mulM k A Y r)) = Value.string (strE m (mulM k A Y r))) := (rfl : Value.string (strE m (mulM k A Y r)) = _)
              go_wp2_with (at_builtin; refine push_str_at rfl _ _ rfl _ w.heap.size _ r (fun r => strE m (mulM k A Y r)) hoi rfl _ HV.out _ rfl rfl (by omega) (Nat.le_trans hbo.size hbj.size) ?_)
              intro vo' w4 hA4 hb4
              go_wp2_with fail
              go_roundw
              case rel => exact ⟨r + 1, by omega, by go_num, hbo.trans ((hbj.mono hbo.size).trans hb4), hA4⟩
              case measure => simp [intOf]; omega
        · have hrn' : n = r := by omega
          subst hrn'
          go_wp2_with fail
          go_ret2
          exact ⟨hbr, _, rfl, hor⟩
end Go.Proofs.Ythcbnffhkbbkpaa
