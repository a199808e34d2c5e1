/- A row times texts; a matrix times texts: the program's own answers. -/
import Derived.Test.YthcbnffhkbbkpaaMatLines
namespace Go.Proofs.Ythcbnffhkbbkpaa
open Go.RowKit Go.PlainAid
set_option linter.unusedVariables false

/-- A row times the first k texts. -/
def rowTxt (m : Nat) (f : Nat → E) (Y : Mx) (k : Nat) : ByteArray := strE m fun i => S k fun c => f c * Y c i
theorem scale_E (x : E) (m : Nat) (y : Nat → E) (w : World) (hm : m ≤ 65536) :
    Calls Try.prog 10 #[.int .u8 (x.v : Int), .string (strE m y)] w fun e w' => e = .returned (.string (strE m fun i => x * y i)) ∧ Below w.heap.size w w' := by
  have := gfScale_any x.v x.h (strE m y) w (by rw [strE_size]; unfold maxLen; omega) (by rw [strE_size]; omega)
  rw [scaleB_strE] at this
  exact this
theorem xor_E (m : Nat) (x y : Nat → E) (w : World) (hm : m ≤ 65536) :
    Calls Try.prog 51 #[.string (strE m x), .string (strE m y)] w fun e w' => e = .returned (.string (strE m fun i => x i + y i)) ∧ Below w.heap.size w w' := by
  have := xor_any (strE m x) (strE m y) w (by rw [strE_size]; unfold maxLen; omega) (by rw [strE_size]; unfold maxLen; omega) (by rw [strE_size]; omega)
  rw [xorB_strE] at this
  exact this

set_option maxHeartbeats 1000000 in
theorem combine_any (ar lt : Option Addr) (n cr cl m : Nat) (f : Nat → E) (Y : Mx) (w : World) (h1 : 1 ≤ n) (hn : n ≤ 16) (hcl : n ≤ cl) (hclm : cl ≤ 9223372036854775807) (hm : m ≤ 65536) (hR : RowAt w ar n f) (hT : Vals w lt n (fun c => .string (strE m (Y c)))) :
    Calls Try.prog 37 #[.slice ar n cr, .slice lt n cl] w fun e w' => e = .returned (.string (rowTxt m f Y n)) ∧ Below w.heap.size w w' := by
  rcases hR with h0 | ⟨br, orr, rfl, hR⟩
  · omega
  rcases hT with h0 | ⟨bt', ot, rfl, hT⟩
  · omega
  have HR : Hid (∀ x, Below w.heap.size w x → ∀ i, i < n → x.cell? ⟨br, orr + i, none⟩ = some (.int .u8 ((f i).v : Int))) := fun x hx i hi => (hx.cell (p := ⟨br, orr + i, none⟩) (cell_lt (hR i hi))).trans (hR i hi)
  have HT : Hid (∀ x, Below w.heap.size w x → ∀ i, i < n → x.cell? ⟨bt', ot + i, none⟩ = some (.string (strE m (Y i)))) := fun x hx i hi => (hx.cell (p := ⟨bt', ot + i, none⟩) (cell_lt (hT i hi))).trans (hT i hi)
  have hsc := fun x => scale_E (f 0) m (Y 0) x hm
  have e0 : (strE m fun i => f 0 * Y 0 i) = rowTxt m f Y 1 := strE_congr fun i _ => by show _ = S 0 _ + _; show _ = (0 : E) + _; rw [E.zero_add]
  rw [e0] at hsc
  have HS : Hid (∀ x, Below w.heap.size w x → x.cell? ⟨br, orr, none⟩ = some (.int .u8 ((f 0).v : Int)) ∧ x.cell? ⟨bt', ot, none⟩ = some (.string (strE m (Y 0)))) := fun x hx => ⟨by have := HR.out x hx 0 (by omega); rwa [Nat.add_zero] at this, by have := HT.out x hx 0 (by omega); rwa [Nat.add_zero] at this⟩
  have hd : Below w.heap.size w w.drew := (Below.refl _ _).drew
  have n0 : (0 : Int) < (n : Int) := by omega
  have n0' : 0 < n := by omega
  have n1 : (1 : Int) ≤ (n : Int) := by omega
  clear hR hT e0
  generalize (f 0).v = x0 at hsc HS
  generalize strE m (Y 0) = s0 at hsc HS
  by_cases hc1 : cl = 1
  · subst hc1
    obtain rfl : n = 1 := by omega
    go_enter Try.func37, Try.ntmps37
    go_wp2_with fail
    go_region_held3 (fun x => x.cell? ⟨br, orr, none⟩ = some (.int .u8 (x0 : Int)) ∧ x.cell? ⟨bt', ot, none⟩ = some (.string s0)) (first | exact HS.out _ hd | exact HS.out _ (Below.refl _ _) | exact HS.out _ (by assumption)) (first | (go_at_call 10; refine (hsc _).mono ?_; rintro e w5 ⟨rfl, hb5⟩; have hx5 : Below w.heap.size w w5 := hd.trans hb5))
    clear HS hsc
    go_wp2_with fail
    go_loop [5, 18] (fun s i => i = .int .i64 0 ∧ s = .string (rowTxt m f Y 1)) (fun _ _ => 0)
    case atStart => exact ⟨rfl, rfl⟩
    case round =>
      obtain ⟨rfl, rfl⟩ := hrel
      go_wp2_with fail
      go_ret
      exact ⟨rfl, hx5⟩
  · have hc2 : 1 < cl := by omega
    have hc3 : ¬ cl = 1 := hc1
    go_enter Try.func37, Try.ntmps37
    go_wp2_with fail
    go_region_held3 (fun x => x.cell? ⟨br, orr, none⟩ = some (.int .u8 (x0 : Int)) ∧ x.cell? ⟨bt', ot, none⟩ = some (.string s0)) (first | exact HS.out _ hd | exact HS.out _ (Below.refl _ _) | exact HS.out _ (by assumption)) (first | (go_at_call 10; refine (hsc _).mono ?_; rintro e w5 ⟨rfl, hb5⟩; have hx5 : Below w.heap.size w w5 := hd.trans hb5))
    clear HS hsc
    go_wp2_with fail
    obtain ⟨N, hN⟩ : ∃ N, n - 1 = N := ⟨_, rfl⟩
    rw [hN]
    have HN : Hid (n = N + 1) := (by omega : n = N + 1)
    have hN16 : N ≤ 15 := by omega
    clear hN
    go_loopw [5, 18] (fun s i wr => ∃ k : Nat, k ≤ N ∧ i = .int .i64 k ∧ s = .string (rowTxt m f Y (k + 1)) ∧ Below w.heap.size w wr) (fun _ i _ => (N : Nat) - (intOf i).toNat)
    case atStart => exact ⟨0, Nat.zero_le _, rfl, rfl, hx5⟩
    case round =>
      obtain ⟨k, hk, rfl, rfl, hbk⟩ := hrel
      by_cases hlt : k < N
      · have hk1 : k + 1 < n := by have := HN.out; omega
        have hk1' : (k : Int) + 1 < (n : Int) := by omega
        have c1 := HR.out wr hbk (k + 1) hk1
        have c2 := HT.out wr hbk (k + 1) hk1
        have e1 : ot + (k + 1) = ot + 1 + k := by omega
        rw [e1] at c2
        have hs1 := fun x => scale_E (f (k + 1)) m (Y (k + 1)) x hm
        have hs2 := fun x => xor_E m (fun i => S (k + 1) fun c => f c * Y c i) (fun i => f (k + 1) * Y (k + 1) i) x hm
        have hs3 : ∀ x, Calls Try.prog 51 #[.string (rowTxt m f Y (k + 1)), .string (strE m fun i => f (k + 1) * Y (k + 1) i)] x fun e w' => e = .returned (.string (rowTxt m f Y (k + 1 + 1))) ∧ Below x.heap.size x w' := hs2
        clear hs2 e1
        generalize (f (k + 1)).v = x1 at c1 hs1
        generalize (strE m fun i => f (k + 1) * Y (k + 1) i) = s2 at hs1 hs3
        generalize strE m (Y (k + 1)) = s1 at c2 hs1
        have hkN : (k : Int) < (N : Int) := by omega
        go_wp2_with fail
        go_at_call 10
        refine (hs1 _).mono ?_
        rintro e w6 ⟨rfl, hb6⟩
        go_wp2_with fail
        go_at_call 51
        refine (hs3 _).mono ?_
        rintro e w7 ⟨rfl, hb7⟩
        go_wp2_with fail
        go_roundw
        case rel => exact ⟨k + 1, by omega, by go_num, rfl, hbk.trans ((hb6.mono hbk.size).trans (hb7.mono (Nat.le_trans hbk.size hb6.size)))⟩
        case measure => simp [intOf]; omega
      · have hkn : k = N := by omega
        subst hkn
        go_wp2_with fail
        go_ret
        exact ⟨by rw [HN.out]; rfl, hbk⟩
end Go.Proofs.Ythcbnffhkbbkpaa
