/- The product of two matrices: the program's own answer. -/
import Derived.Test.YthcbnffhkbbkpaaMatMake
import Derived.Deep.RegionHeld3
namespace Go.Proofs.Ythcbnffhkbbkpaa
open Go.RowKit
set_option linter.unusedVariables false

theorem MatIn.cell {w : World} {a : Option Addr} {n : Nat} {L : Nat → Nat} {X : Mx} {AR : Nat → Option Addr} {CR : Nat → Nat} (h : MatIn w a n L X AR CR) (r c : Nat) (hr : r < n) (hc : c < L r) :
    ∃ b o b' o', a = some ⟨b, o, none⟩ ∧ AR r = some ⟨b', o', none⟩ ∧ w.cell? ⟨b, o + r, none⟩ = some (.slice (some ⟨b', o', none⟩) (L r) (CR r)) ∧ w.cell? ⟨b', o' + c, none⟩ = some (.int .u8 ((X r c).v : Int)) := by
  obtain ⟨h1, h2⟩ := h
  rcases h1 with h0 | ⟨b, o, rfl, h1⟩
  · omega
  · rcases (h2 r hr).2 with h0 | ⟨b', o', e, h3⟩
    · omega
    · refine ⟨b, o, b', o', rfl, e, ?_, h3 c hc⟩
      have := h1 r hr
      simp only [e] at this
      exact this

set_option maxHeartbeats 400000 in
theorem mul1_any (r c : Nat) (pa pb : Nat) (a b : Option Addr) (n m ca cb la : Nat) (LA LB : Nat → Nat) (A B : Mx) (w : World) (hpa : w.cell? ⟨pa, 0, none⟩ = some (.slice a n ca)) (hpb : w.cell? ⟨pb, 0, none⟩ = some (.slice b la cb))
    (hA : MatAt w a n LA A) (hB : MatAt w b la LB B) (hn : n ≤ 16) (hla : la ≤ 16) (h1 : LA r = la) (h2 : ∀ k, k < la → LB k = m) (hr : r < n) (hc : c < m) (hm : m ≤ 16) (hl1 : 1 ≤ la) :
    Calls Try.prog 42 #[.int .i64 (r : Int), .int .i64 (c : Int), .pointer (some ⟨pa, 0, none⟩), .pointer (some ⟨pb, 0, none⟩)] w fun e w' => e = .returned (byteV (mulM la A B r c)) ∧ w' = w := by
  obtain ⟨AR, CR, hA⟩ := hA
  obtain ⟨BR, DR, hB⟩ := hB
  obtain ⟨ba, oa, br, or, rfl, hARr, hcr, _⟩ := hA.cell r 0 hr (by omega)
  have hae : ∀ k, k < la → w.cell? ⟨br, or + k, none⟩ = some (.int .u8 ((A r k).v : Int)) := fun k hk => by
    obtain ⟨_, _, b', o', h3, h4, h5, h6⟩ := hA.cell r k hr (by omega)
    rw [hARr] at h4
    cases h4
    exact h6
  rw [h1] at hcr
  have HAE : Hid (∀ k, k < la → w.cell? ⟨br, or + k, none⟩ = some (.int .u8 ((A r k).v : Int))) := hae
  generalize CR r = crr at hcr
  have hz : byteV (mulM la A B r c) = .int .u8 ((S la (fun k => A r k * B k c)).v : Int) := rfl
  rw [hz]
  clear hz hae
  have HB : Hid (MatIn w b la LB B BR DR) := hB
  have H2 : Hid (∀ k, k < la → LB k = m) := h2
  clear hB h2 hA hARr h1
  go_enter Try.func42, Try.ntmps42
  go_wp2_with fail
  go_loop [7, 15] (fun s i => ∃ k : Nat, k ≤ la ∧ i = .int .i64 k ∧ s = .int .u8 ((S k (fun k => A r k * B k c)).v : Int)) (fun _ i => (la : Nat) - (intOf i).toNat)
  case atStart => exact ⟨0, Nat.zero_le _, rfl, rfl⟩
  case round =>
    obtain ⟨k, hk, rfl, rfl⟩ := hrel
    by_cases hlt : k < la
    · have hx := HAE.out k hlt
      obtain ⟨bb, ob, b', o', rfl, _, hcb, hxb⟩ := HB.out.cell k c hlt (by rw [H2.out k hlt]; exact hc)
      rw [H2.out k hlt] at hcb
      have hmul := gfMul_E (A r k) (B k c) w
      have hadd := gfAdd_E (S k (fun k => A r k * B k c)) (A r k * B k c) w
      generalize (A r k).v = x1 at hx hmul
      generalize (B k c).v = x2 at hxb hmul
      generalize hx3 : (A r k * B k c) = x3 at hmul hadd
      have hs : S (k + 1) (fun k => A r k * B k c) = S k (fun k => A r k * B k c) + x3 := by rw [← hx3]; rfl
      have HS : Hid (S (k + 1) (fun k => A r k * B k c) = S k (fun k => A r k * B k c) + x3) := hs
      clear hs hx3
      generalize DR k = drk at hcb
      go_wp2_with fail
      go_at_call 23
      refine hmul.mono ?_
      rintro e w' ⟨rfl, rfl⟩
      go_wp2_with fail
      go_at_call 24
      refine hadd.mono ?_
      rintro e w' ⟨rfl, rfl⟩
      go_wp2_with fail
      go_round
      case rel => exact ⟨k + 1, by omega, by go_num, by rw [HS.out]⟩
      case measure => simp [intOf]; omega
    · have hkn : k = la := by omega
      subst hkn
      go_wp2_with fail
      go_ret
      exact ⟨rfl, rfl⟩

theorem good_yes {n : Nat} {L : Nat → Nat} (h : Gd n L) : (true = true ↔ Gd n L) := ⟨fun _ => h, fun _ => rfl⟩
theorem good_no {n : Nat} {L : Nat → Nat} (h : ¬ Gd n L) : (false = true ↔ Gd n L) := by simp [h]

set_option maxHeartbeats 1000000 in
theorem mul_any (a b : Option Addr) (n m ca cb : Nat) (LA LB : Nat → Nat) (A B : Mx) (w : World) (hA : MatAt w a n LA A) (hB : MatAt w b m LB B) (hn : n ≤ maxLen) (hm : m ≤ maxLen) :
    Calls Try.prog 21 #[.slice a n ca, .slice b m cb] w fun e w' => Below w.heap.size w w' ∧
      ((¬ (Gd n LA ∧ Gd m LB) ∧ e = .returned (.tuple #[.slice none 0 0, .int .i64 4])) ∨
       (Gd n LA ∧ Gd m LB ∧ LA 0 ≠ m ∧ e = .returned (.tuple #[.slice none 0 0, .int .i64 7])) ∨
       (Gd n LA ∧ Gd m LB ∧ LA 0 = m ∧ ∃ a', e = .returned (.tuple #[.slice a' n n, .int .i64 0]) ∧ MatAt w' a' n (fun _ => LB 0) (mulM m A B))) := by
  have hba : Below w.heap.size w ((w.alloc (.cells #[.slice a n ca] 27 (0, 0))).alloc (.cells #[.slice b m cb] 27 (0, 0))) := ((Below.refl _ _).alloc (Nat.le_refl _) _).alloc (by simp) _
  have hsb : ((w.alloc (.cells #[.slice a n ca] 27 (0, 0))).alloc (.cells #[.slice b m cb] 27 (0, 0))).heap.size = w.heap.size + 2 := by simp
  have hpa : ((w.alloc (.cells #[.slice a n ca] 27 (0, 0))).alloc (.cells #[.slice b m cb] 27 (0, 0))).cell? ⟨w.heap.size, 0, none⟩ = some (.slice a n ca) := by go_simp
  have hpb : ((w.alloc (.cells #[.slice a n ca] 27 (0, 0))).alloc (.cells #[.slice b m cb] 27 (0, 0))).cell? ⟨w.heap.size + 1, 0, none⟩ = some (.slice b m cb) := by go_simp
  generalize hwb : (w.alloc (.cells #[.slice a n ca] 27 (0, 0))).alloc (.cells #[.slice b m cb] 27 (0, 0)) = wb at hba hsb hpa hpb
  have HWB : Hid ((w.alloc (.cells #[.slice a n ca] 27 (0, 0))).alloc (.cells #[.slice b m cb] 27 (0, 0)) = wb) := hwb
  clear hwb
  have hmf : ∀ (fn : Fn) (first cap : Array Value) (w : World), (Instr.makeFunc fn first cap).run Try.prog w = .ok (.func fn first cap) w := fun _ _ _ _ => rfl
  have hAb := hA.below hba
  have hBb := hB.below hba
  by_cases gA : Gd n LA
  · by_cases gB : Gd m LB
    · have hg := fun w1 h => good_any a n ca LA A w1 hn h true (good_yes gA)
      have hg2 := fun w1 h => good_any b m cb LB B w1 hm h true (good_yes gB)
      obtain ⟨AR, CR, hAi⟩ := id hAb
      obtain ⟨BR, DR, hBi⟩ := id hBb
      obtain ⟨ba, oa, ba', oa', rfl, _, ha0, _⟩ := hAi.cell 0 0 (by have := gA.1; omega) (by have := gA.2.2.1; omega)
      obtain ⟨bb, ob, bb', ob', rfl, _, hb0, _⟩ := hBi.cell 0 0 (by have := gB.1; omega) (by have := gB.2.2.1; omega)
      rw [Nat.add_zero] at ha0 hb0
      generalize CR 0 = cr0 at ha0
      generalize DR 0 = dr0 at hb0
      obtain ⟨l0, hl0⟩ : ∃ l0, LA 0 = l0 := ⟨_, rfl⟩
      obtain ⟨m0, hm0⟩ : ∃ m0, LB 0 = m0 := ⟨_, rfl⟩
      rw [hl0] at ha0
      rw [hm0] at hb0
      have g1 := gA.1
      have g2 := gA.2.1
      have g3 := gA.2.2.1
      have g4 := gA.2.2.2.1
      have g5 := gB.1
      have g6 := gB.2.1
      have g7 := gB.2.2.1
      have g8 := gB.2.2.2.1
      rw [hl0] at g3 g4
      rw [hm0] at g7 g8
      have n0 : (0 : Int) < (n : Int) := by omega
      have m0' : (0 : Int) < (m : Int) := by omega
      have m1' : 0 < m := by omega
      have HL : Hid (LA 0 = l0) := hl0
      have HM : Hid (LB 0 = m0) := hm0
      have GA : Hid (Gd n LA) := gA
      have GB : Hid (Gd m LB) := gB
      clear hl0 hm0 gA gB hAi hBi
      by_cases hs : l0 = m
      · subst hs
        have t1 : ((l0 : Int) != (l0 : Int)) = false := by simp
        go_enter Try.func21, Try.ntmps21
        go_wp2_with fail
        rw [HWB.out]
        go_at_call 27
        refine (hg _ hAb).mono ?_
        rintro e w1 ⟨rfl, hb1⟩
        have hpb1 : w1.cell? ⟨w.heap.size + 1, 0, none⟩ = some (.slice (some ⟨bb, ob, none⟩) l0 cb) := (hb1.cell (p := ⟨w.heap.size + 1, 0, none⟩) (by simp [hsb])).trans hpb
        go_wp2_with fail
        go_at_call 27
        refine (hg2 _ (hBb.below hb1)).mono ?_
        rintro e w2 ⟨rfl, hb2⟩
        have hb12 : Below wb.heap.size wb w2 := hb1.trans (hb2.mono hb1.size)
        have p1 : w2.cell? ⟨w.heap.size + 1, 0, none⟩ = some (.slice (some ⟨bb, ob, none⟩) l0 cb) := (hb12.cell (p := ⟨w.heap.size + 1, 0, none⟩) (by simp [hsb])).trans hpb
        have p2 : w2.cell? ⟨w.heap.size, 0, none⟩ = some (.slice (some ⟨ba, oa, none⟩) n ca) := (hb12.cell (p := ⟨w.heap.size, 0, none⟩) (by simp [hsb])).trans hpa
        have p3 : w2.cell? ⟨ba, oa, none⟩ = some (.slice (some ⟨ba', oa', none⟩) l0 cr0) := (hb12.cell (p := ⟨ba, oa, none⟩) (cell_lt ha0)).trans ha0
        have p4 : w2.cell? ⟨bb, ob, none⟩ = some (.slice (some ⟨bb', ob', none⟩) m0 dr0) := (hb12.cell (p := ⟨bb, ob, none⟩) (cell_lt hb0)).trans hb0
        have hA2 := hAb.below hb12
        have hB2 := hBb.below hb12
        have hbw : Below w.heap.size w w2 := hba.trans (hb12.mono hba.size)
        clear hpa hpb hpb1 ha0 hb0
        go_wp2_with fail
        go_quiet (fail)
        go_wp2_with fail
        have hf : ∀ x, Below w2.heap.size w2 x → Calls Try.prog 40 #[.int .i64 (n : Int), .int .i64 (m0 : Int), .func (.func 42) #[] #[.pointer (some ⟨w.heap.size, 0, none⟩), .pointer (some ⟨w.heap.size + 1, 0, none⟩)]] x fun e w' => ∃ g G, e = .returned (.slice (some ⟨g, 0, none⟩) n n) ∧ OwnM w' x.heap.size g n m0 n G (mulM l0 A B) ∧ Below x.heap.size x w' := fun x hx =>
          fill_any 42 (by decide) #[.pointer (some ⟨w.heap.size, 0, none⟩), .pointer (some ⟨w.heap.size + 1, 0, none⟩)] n m0 g1 g2 g7 g8 (mulM l0 A B) x fun r hr c hc w3 hb3 =>
            have hb4 : Below w2.heap.size w2 w3 := hx.trans (hb3.mono hx.size)
            mul1_any r c w.heap.size (w.heap.size + 1) (some ⟨ba, oa, none⟩) (some ⟨bb, ob, none⟩) n m0 ca cb l0 LA LB A B w3
              ((hb4.cell (p := ⟨w.heap.size, 0, none⟩) (cell_lt p2)).trans p2) ((hb4.cell (p := ⟨w.heap.size + 1, 0, none⟩) (cell_lt p1)).trans p1)
              (hA2.below hb4) (hB2.below hb4) g2 g6 (by rw [GA.out.2.2.2.2 r hr, HL.out]) (fun k hk => by rw [GB.out.2.2.2.2 k hk, HM.out]) hr hc g8 g5
        have hS : ∀ x, Below w2.heap.size w2 x → Below w2.heap.size w2 x ∧ x.cell? ⟨w.heap.size, 0, none⟩ = some (.slice (some ⟨ba, oa, none⟩) n ca) ∧ x.cell? ⟨w.heap.size + 1, 0, none⟩ = some (.slice (some ⟨bb, ob, none⟩) l0 cb) ∧ x.cell? ⟨bb, ob, none⟩ = some (.slice (some ⟨bb', ob', none⟩) m0 dr0) := fun x hx =>
          ⟨hx, (hx.cell (p := ⟨w.heap.size, 0, none⟩) (cell_lt p2)).trans p2, (hx.cell (p := ⟨w.heap.size + 1, 0, none⟩) (cell_lt p1)).trans p1, (hx.cell (p := ⟨bb, ob, none⟩) (cell_lt p4)).trans p4⟩
        have HS : Hid (∀ x, Below w2.heap.size w2 x → Below w2.heap.size w2 x ∧ x.cell? ⟨w.heap.size, 0, none⟩ = some (.slice (some ⟨ba, oa, none⟩) n ca) ∧ x.cell? ⟨w.heap.size + 1, 0, none⟩ = some (.slice (some ⟨bb, ob, none⟩) l0 cb) ∧ x.cell? ⟨bb, ob, none⟩ = some (.slice (some ⟨bb', ob', none⟩) m0 dr0)) := hS
        have HF := hf
        clear hS hf p1 p2 p3 p4 hA2 hB2 hg hg2 hAb hBb hb1 hb2 hA hB
        have hd : Below w2.heap.size w2 (w2.drewN nq).drew := (below_drewN (Below.refl _ _) nq).drew
        have hd' : Below w2.heap.size w2 (w2.drewN (nq + 1)) := below_drewN (Below.refl _ _) _
        go_region_held3 (fun x => Below w2.heap.size w2 x ∧ x.cell? ⟨w.heap.size, 0, none⟩ = some (.slice (some ⟨ba, oa, none⟩) n ca) ∧ x.cell? ⟨w.heap.size + 1, 0, none⟩ = some (.slice (some ⟨bb, ob, none⟩) l0 cb) ∧ x.cell? ⟨bb, ob, none⟩ = some (.slice (some ⟨bb', ob', none⟩) m0 dr0)) (first | exact HS.out _ hd | exact HS.out _ hd' | exact HS.out _ (by assumption)) (first | (go_at_call 40; refine (HF _ (by first | exact hd | exact hd')).mono ?_; rintro e w3 ⟨g, G, rfl, hO, hb⟩; have hb5 : Below w2.heap.size w2 w3 := hd.trans (hb.mono hd.size)))
        all_goals
          go_wp2_with fail
          go_ret2
          refine ⟨hbw.trans (hb5.mono hbw.size), .inr (.inr ⟨GA.out, GB.out, HL.out, _, rfl, ?_⟩)⟩
          rw [HM.out]
          exact hO.mat (by unfold maxLen; omega)
      · have t1 : ((l0 : Int) != (m : Int)) = true := by simp; omega
        go_enter Try.func21, Try.ntmps21
        go_wp2_with fail
        rw [HWB.out]
        go_at_call 27
        refine (hg _ hAb).mono ?_
        rintro e w1 ⟨rfl, hb1⟩
        have hpb1 : w1.cell? ⟨w.heap.size + 1, 0, none⟩ = some (.slice (some ⟨bb, ob, none⟩) m cb) := (hb1.cell (p := ⟨w.heap.size + 1, 0, none⟩) (by simp [hsb])).trans hpb
        go_wp2_with fail
        go_at_call 27
        refine (hg2 _ (hBb.below hb1)).mono ?_
        rintro e w2 ⟨rfl, hb2⟩
        have hb12 : Below wb.heap.size wb w2 := hb1.trans (hb2.mono hb1.size)
        have p1 : w2.cell? ⟨w.heap.size + 1, 0, none⟩ = some (.slice (some ⟨bb, ob, none⟩) m cb) := (hb12.cell (p := ⟨w.heap.size + 1, 0, none⟩) (by simp [hsb])).trans hpb
        have p2 : w2.cell? ⟨w.heap.size, 0, none⟩ = some (.slice (some ⟨ba, oa, none⟩) n ca) := (hb12.cell (p := ⟨w.heap.size, 0, none⟩) (by simp [hsb])).trans hpa
        have p3 : w2.cell? ⟨ba, oa, none⟩ = some (.slice (some ⟨ba', oa', none⟩) l0 cr0) := (hb12.cell (p := ⟨ba, oa, none⟩) (cell_lt ha0)).trans ha0
        have hbw : Below w.heap.size w w2 := hba.trans (hb12.mono hba.size)
        clear hpa hpb hpb1 ha0 hb0
        go_wp2_with fail
        go_quiet (fail)
        go_wp2_with fail
        go_ret2
        exact ⟨below_drewN hbw _, .inr (.inl ⟨GA.out, GB.out, by rw [HL.out]; exact hs, rfl⟩)⟩
    · have hg := fun w1 h => good_any a n ca LA A w1 hn h true (good_yes gA)
      have hg2 := fun w1 h => good_any b m cb LB B w1 hm h false (good_no gB)
      go_enter Try.func21, Try.ntmps21
      go_wp2_with fail
      rw [HWB.out]
      go_at_call 27
      refine (hg _ hAb).mono ?_
      rintro e w1 ⟨rfl, hb1⟩
      have hpb1 : w1.cell? ⟨w.heap.size + 1, 0, none⟩ = some (.slice b m cb) := (hb1.cell (p := ⟨w.heap.size + 1, 0, none⟩) (by simp [hsb])).trans hpb
      go_wp2_with fail
      go_at_call 27
      refine (hg2 _ (hBb.below hb1)).mono ?_
      rintro e w2 ⟨rfl, hb2⟩
      go_wp2_with fail
      go_ret2
      exact ⟨(hba.trans (hb1.mono hba.size)).trans (hb2.mono (Nat.le_trans hba.size hb1.size)), .inl ⟨fun h => gB h.2, rfl⟩⟩
  · have hg := fun w1 h => good_any a n ca LA A w1 hn h false (good_no gA)
    go_enter Try.func21, Try.ntmps21
    go_wp2_with fail
    rw [HWB.out]
    go_at_call 27
    refine (hg _ hAb).mono ?_
    rintro e w1 ⟨rfl, hb1⟩
    go_wp2_with fail
    go_ret2
    exact ⟨hba.trans (hb1.mono hba.size), .inl ⟨fun h => gA h.1, rfl⟩⟩
end Go.Proofs.Ythcbnffhkbbkpaa
