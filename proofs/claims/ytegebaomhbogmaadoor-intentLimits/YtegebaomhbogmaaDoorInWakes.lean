/- The laws' own helpers of layer 15: equal, same, wakes; the program's Empty. -/
import Derived.Test.YtegebaomhbogmaaDoorInBack
import Derived.BigQuiet
namespace Go.Proofs.YtegebaomhbogmaaDoor
open Go.RowKit Go.PlainAid
set_option linter.unusedVariables false
set_option maxRecDepth 20000

theorem text_self (t : ByteArray) : (t.toList == t.toList) = true := by rw [eq_text]; exact decide_eq_true rfl
set_option maxHeartbeats 1000000 in
theorem equal15_any {w : World} {a b : Option Addr} {n ca cb : Nat} {f : Nat → ByteArray} (ha : Cs w a n f) (hb : Cs w b n f) (hn : n ≤ 1000) : Calls Tryd.prog 11 #[.slice a n ca, .slice b n cb] w fun e w' => e = .returned (.bool true) ∧ Below w.heap.size w w' := by
  have HA : Hid (Cs w a n f) := ha
  have HB : Hid (Cs w b n f) := hb
  have ht := text_self
  clear ha hb
  go_enter Tryd.func11, Tryd.ntmps11
  go_wp2
  go_loopw [13] (fun i wr => ∃ k : Nat, k ≤ n ∧ i = .int .i64 (k : Int) ∧ Hid (Below w.heap.size w wr)) (fun i _ => n - (intOf i).toNat)
  case atStart => exact ⟨0, Nat.zero_le _, rfl, Below.refl _ _⟩
  case round =>
    obtain ⟨k, hk, rfl, hlo⟩ := hrel
    by_cases hlt : k < n
    · have hk' : (k : Int) < (n : Int) := by omega
      obtain ⟨b1, o1, e1, c1⟩ := HA.out.at hlo.out k hlt
      obtain ⟨b2, o2, e2, c2⟩ := HB.out.at hlo.out k hlt
      subst e1
      subst e2
      have htk := ht (f k)
      have hlo2 : Hid (Below w.heap.size w wr.drew) := hlo.out.drew
      generalize f k = t at *
      clear ht hlo
      go_wp2
      go_region
      go_wp2
      go_roundw
      case rel => exact ⟨k + 1, by omega, by go_num, hlo2.out⟩
      case measure => simp [intOf]; omega
    · obtain rfl : k = n := by omega
      have hk' : ¬ (k : Int) < (k : Int) := by omega
      go_wp2
      go_ret
      exact ⟨rfl, hlo.out⟩
set_option maxHeartbeats 1000000 in
theorem same15_any {w : World} {a b : Option Addr} {n ca cb : Nat} {A : Nat → Int} {C : Nat → ByteArray} (ha : Wx w a n A C) (hb : Wx w b n A C) (hn : n ≤ 1000) : Calls Tryd.prog 18 #[.slice a n ca, .slice b n cb] w fun e w' => e = .returned (.bool true) ∧ Below w.heap.size w w' := by
  have HA : Hid (Wx w a n A C) := ha
  have HB : Hid (Wx w b n A C) := hb
  have ht := text_self
  clear ha hb
  go_enter Tryd.func18, Tryd.ntmps18
  go_wp2
  go_loopw [13] (fun i wr => ∃ k : Nat, k ≤ n ∧ i = .int .i64 (k : Int) ∧ Hid (Below w.heap.size w wr)) (fun i _ => n - (intOf i).toNat)
  case atStart => exact ⟨0, Nat.zero_le _, rfl, Below.refl _ _⟩
  case round =>
    obtain ⟨k, hk, rfl, hlo⟩ := hrel
    by_cases hlt : k < n
    · have hk' : (k : Int) < (n : Int) := by omega
      obtain ⟨b1, o1, e1, r1⟩ := HA.out.at hlo.out k hlt
      obtain ⟨b2, o2, e2, r2⟩ := HB.out.at hlo.out k hlt
      subst e1
      subst e2
      have c1 : wr.cell? ⟨b1, o1 + k * 2, none⟩ = some (.int .i64 (A k)) := by have := r1 0 _ rfl; simpa using this
      have d1 : wr.cell? ⟨b1, o1 + k * 2 + 1, none⟩ = some (.string (C k)) := r1 1 _ rfl
      have c2 : wr.cell? ⟨b2, o2 + k * 2, none⟩ = some (.int .i64 (A k)) := by have := r2 0 _ rfl; simpa using this
      have d2 : wr.cell? ⟨b2, o2 + k * 2 + 1, none⟩ = some (.string (C k)) := r2 1 _ rfl
      have htk := ht (C k)
      have hlo2 : Hid (∀ n, Below w.heap.size w (wr.drewN n)) := fun n => ⟨hlo.out.os, hlo.out.tape, hlo.out.output, hlo.out.size, hlo.out.block⟩
      generalize C k = t at *
      generalize A k = ak at *
      have hg1 : (ak != ak) = false := by simp
      clear ht hlo r1 r2
      go_wp2
      go_quiet (fail)
      go_wp2
      go_roundw
      case rel => exact ⟨k + 1, by omega, by go_num, hlo2.out _⟩
      case measure => simp [intOf]; omega
    · obtain rfl : k = n := by omega
      have hk' : ¬ (k : Int) < (k : Int) := by omega
      go_wp2
      go_ret
      exact ⟨rfl, hlo.out⟩
theorem iempty_any {w : World} (ht : Tabs w) : Calls Tryd.prog 12 #[] w fun e w' => e = .returned (.string (lgD 0 zA zC)) ∧ Below w.heap.size w w' := by
  have hp := iput_any (w := w) (a := none) (n := 0) (cap := 0) (A := zA) (C := zC) (.inl rfl) (by decide) ht
  generalize lgN 0 zA zC = N at *
  generalize lgD 0 zA zC = D at *
  generalize lgE 0 zA zC = E at *
  clear ht
  go_enter Tryd.func12, Tryd.ntmps12
  go_wp2_with (go_at_call 8; refine hp.mono ?_; rintro e w1 ⟨a', c', rfl, -, -, hb1⟩; have L1 : Hid (Below w.heap.size w w1) := hb1; clear hb1 hp)
  go_ret
  exact ⟨rfl, L1.out⟩
set_option maxHeartbeats 1000000 in
theorem wakes15_any {w : World} (ht : Tabs w) : Calls Tryd.prog 10 #[] w fun e w' => e = .returned (.bool true) ∧ Below w.heap.size w w' := by
  have hB : Below w.heap.size w (w.alloc (.cells #[.int .i64 120, .string xB] 49)) := (Below.refl _ _).alloc (Nat.le_refl _) _
  have hp := iput_any (w := w.alloc (.cells #[.int .i64 120, .string xB] 49)) (a := some ⟨w.heap.size, 0, none⟩) (n := 1) (cap := 1) (A := wA) (C := wC) ((Blk.new w 49 #[.int .i64 120, .string xB]).wx (A := wA) (C := wC) (n := 1)) (by decide) (ht.below hB ht.lt)
  rw [w_lg, lgN_ok w_lg] at hp
  obtain ⟨y1, y2⟩ := bk_yes (n := 1) (m := 2) (f := celF 1 wA wC) w_lg (fun _ _ => rfl) (by decide)
  obtain ⟨z1, z2⟩ := (bk_first (n := 1) (f := celF 1 wA wC) w_lg (fun _ _ => rfl)).2.2.2.2 0 (by decide)
  have hf : LogFit 2 (celF 1 wA wC) := bk_fit w_lg (fun _ _ => rfl) (by decide) (fun i h1 h2 => by omega)
  have HG : Hid (∀ z a c, Cs z a 2 (celF 1 wA wC) → Below w.heap.size w z → Calls Tryd.prog 15 #[.slice a 2 c, .string (lgD 1 wA wC)] z fun e w' => ∃ a' c', e = .returned (.tuple #[.slice a' 1 c', .int .i64 0]) ∧ Wx w' a' 1 (gtA (celF 1 wA wC)) (gtC (celF 1 wA wC)) ∧ Below z.heap.size z w') := fun z a c hc hb => by
    have := iget_any (cap := c) hc hf (lgD 1 wA wC) (ht.below hb ht.lt)
    rw [y1, y2] at this
    exact this
  have HS : Hid (∀ z, Calls Tryd.prog 17 #[.string n1B] z fun e w' => e = .returned (.tuple #[.int .i64 2, .int .i64 0]) ∧ Below z.heap.size z w') := fun z => by
    have := isize_any n1B (by decide) z
    rw [one_sz.1, one_sz.2] at this
    exact this
  have HE : Hid (∀ z a, Wx z a 1 (gtA (celF 1 wA wC)) (gtC (celF 1 wA wC)) → ∃ b o, a = some ⟨b, o, none⟩ ∧ b < z.heap.size ∧ z.cell? ⟨b, o, none⟩ = some (.int .i64 120) ∧ z.cell? ⟨b, o + 1, none⟩ = some (.string xB)) := fun z a h => by
    rcases h with h | ⟨b, o, e, hl, hr⟩
    · omega
    · have r0 := hr 0 (by decide)
      rw [z1, z2, show wA 0 = 120 from rfl, show wC 0 = xB from rfl] at r0
      exact ⟨b, o, e, hl, by have := r0 0 _ rfl; simpa using this, by have := r0 1 _ rfl; simpa using this⟩
  have HB : Hid (Below w.heap.size w (w.alloc (.cells #[.int .i64 120, .string xB] 49))) := hB
  have hx := text_self xB
  have HX : Hid (xB = ⟨#[120]⟩) := rfl
  have HO : Hid (n1B = ⟨#[0, 0, 0, 0, 0, 0, 0, 1]⟩) := rfl
  generalize lgD 1 wA wC = D at *
  generalize celF 1 wA wC = F at *
  clear ht hB hf y1 y2 z1 z2
  unfold xB n1B at *
  clear HX HO
  go_enter Tryd.func10, Tryd.ntmps10
  go_wp2_with (first
    | (go_at_call 8; refine hp.mono ?_; rintro e w1 ⟨a1, c1, rfl, hc1, -, hb1⟩; have L1 : Hid (Below w.heap.size w w1) := HB.out.trans (hb1.mono (by simp)); have C1 : Hid (Cs w1 a1 2 F) := hc1; clear hb1 hp hc1 HB)
    | (go_at_call 15; refine (HG.out _ _ _ C1.out L1.out).mono ?_; rintro e w2 ⟨a2, c2, rfl, hx2, hb2⟩; have L2 : Hid (Below w.heap.size w w2) := L1.out.trans (hb2.mono L1.out.size); obtain ⟨b, o, rfl, hl, d0, d1⟩ := HE.out _ _ hx2; clear hb2 HG L1 C1 hx2)
    | (go_at_call 17; refine (HS.out _).mono ?_; rintro e w3 ⟨rfl, hb3⟩; have L3 : Hid (Below w.heap.size w w3) := L2.out.trans (hb3.mono L2.out.size); have d2 := (hb3.cell (p := ⟨b, o, none⟩) hl).trans d0; have d3 := (hb3.cell (p := ⟨b, o + 1, none⟩) hl).trans d1; clear hb3 HS L2 d0 d1 hl))
  go_ret
  exact ⟨rfl, L3.out⟩
/-- What the laws need of a world all the while: the tables, and nothing of the caller's turned. -/
structure Tb (W w : World) : Prop where
  low : Below W.heap.size W w
  t : Tabs w
  r : RTabs w
theorem Tb.below {W w w' : World} (h : Tb W w) (hb : Below w.heap.size w w') : Tb W w' := ⟨h.low.trans (hb.mono h.low.size), h.t.below hb h.t.lt, h.r.below hb h.r.lt⟩
theorem int_self (n : Int) : (n == n) = true := by simp
end Go.Proofs.YtegebaomhbogmaaDoor
