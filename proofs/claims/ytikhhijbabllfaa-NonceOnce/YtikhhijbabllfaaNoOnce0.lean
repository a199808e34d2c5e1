/- What NonceOnce keeps: the epochs that were used, and what was told. -/
import Derived.Test.YtikhhijbabllfaaNoWakes
import Derived.Test.YtikhhijbabllfaaNoRead
import Derived.Test.YtikhhijbabllfaaMapb
namespace Go.Proofs.Ytikhhijbabllfaa
open Go.RowKit Go.PlainAid
open Go.Maps (Keyed IsMap)
set_option linter.unusedVariables false
set_option maxRecDepth 20000

theorem key9s : Keyed Try.prog 9 := Go.Maps.string_keyed Try.underlying9
theorem key32 : Keyed Try.prog 47 := Go.Maps.int_keyed Try.underlying47
theorem lit_u32 {x : Int} (h0 : 0 ≤ x) (h1 : x ≤ 4294967295) : (Lit.int .u32 x).wf = true := by
  have e1 : IntKind.u32.min = 0 := rfl
  have e2 : IntKind.u32.max = 4294967295 := rfl
  simp only [Lit.wf, e1, e2, Bool.and_eq_true, decide_eq_true_eq]
  omega
/-- The keys of epochs, and of what was told. -/
def UsedOf (U : Int → Prop) (y : Lit) : Prop := ∃ x, y = .int .u32 x ∧ U x
def MetOf (V : Int → Int → Prop) (y : Lit) : Prop := ∃ x q, y = .string (nonB x q).data.toList ∧ V x q
/-- Behind j epochs. -/
def Oc (W w : World) (m1 m2 j : Nat) : Prop := ∃ U V, (∀ x, U x → 1 ≤ x ∧ x ≤ 4294967295) ∧ (∀ x q, V x q → U x ∧ 0 ≤ q ∧ q < 4294967296) ∧ Hold W.heap.size W w (star (mapA 9 m1 (30 * j) (MetOf V)) (star (mapA 47 m2 j (UsedOf U)) nought))
/-- .. with the epoch x, which is new. -/
def On (W w : World) (m1 m2 j : Nat) (x : Int) : Prop := ∃ U V, (∀ x, U x → 1 ≤ x ∧ x ≤ 4294967295) ∧ U x ∧ (∀ y q, V y q → U y ∧ 0 ≤ q ∧ q < 4294967296 ∧ y ≠ x) ∧ Hold W.heap.size W w (star (mapA 9 m1 (30 * j) (MetOf V)) (star (mapA 47 m2 (j + 1) (UsedOf U)) nought))
/-- .. and its source at the number s, all of it below p told. -/
def Oi (W w : World) (m1 m2 j g : Nat) (x s p : Int) (i : Nat) : Prop := ∃ U V, (∀ x, U x → 1 ≤ x ∧ x ≤ 4294967295) ∧ U x ∧ (∀ y q, V y q → U y ∧ 0 ≤ q ∧ q < 4294967296 ∧ (y = x → q < p)) ∧ Hold W.heap.size W w (star (src g x s) (star (mapA 9 m1 (30 * j + i) (MetOf V)) (star (mapA 47 m2 (j + 1) (UsedOf U)) nought)))
section
variable {W w : World} {m1 m2 j g i : Nat} {x s p : Int}
theorem Oc.low (h : Oc W w m1 m2 j) : Below W.heap.size W w ∧ W.heap.size ≤ w.heap.size := by obtain ⟨U, V, _, _, h⟩ := h; exact ⟨h.low, h.size⟩
theorem oc_made (W : World) : Oc W ((W.alloc (.map #[] 0)).alloc (.map #[] 0)) W.heap.size (W.heap.size + 1) 0 := by
  have h0 := hold_nought W.heap.size W W (Nat.le_refl _) (Below.refl _ _)
  have h1 := h0.mapNew firm_nought 9
  have h2 := (h1.mapNew ((firm_mapA _ _ _ _).star firm_nought) 47).swap
  rw [World.size_alloc] at h2
  refine ⟨fun _ => False, fun _ _ => False, fun _ h => h.elim, fun _ _ h => h.elim, (h2.monoL (fun F h => mapA_mono h (Nat.le_refl _) (fun y => ⟨fun h => h.elim, fun ⟨_, _, _, h⟩ => h⟩))).monoR (fun F h => star_monoL h (fun F h => mapA_mono h (Nat.le_refl _) (fun y => ⟨fun h => h.elim, fun ⟨_, _, h⟩ => h⟩)))⟩
theorem oc_skip (h : Oc W w m1 m2 j) : Oc W w m1 m2 (j + 1) := by
  obtain ⟨U, V, h1, h2, h3⟩ := h
  exact ⟨U, V, h1, h2, (h3.monoL (fun F h => mapA_mono h (by omega) (fun _ => Iff.rfl))).monoR (fun F h => star_monoL h (fun F h => mapA_mono h (by omega) (fun _ => Iff.rfl)))⟩
theorem oi_oc (h : Oi W w m1 m2 j g x s p i) (hi : i ≤ 30) : Oc W w m1 m2 (j + 1) := by
  obtain ⟨U, V, h1, hx, h2, h3⟩ := h
  exact ⟨U, V, h1, fun y q hv => ⟨(h2 y q hv).1, (h2 y q hv).2.1, (h2 y q hv).2.2.1⟩, h3.right.monoL (fun F h => mapA_mono h (by omega) (fun _ => Iff.rfl))⟩
theorem oc_look (h : Oc W w m1 m2 j) (hj : j ≤ 10) (h0 : 1 ≤ x) (h1 : x ≤ 4294967295) :
    (Instr.lookup 49 (.map (some m2)) (.int .u32 x) false).run Try.prog w = .ok (.bool true) w ∨ ((Instr.lookup 49 (.map (some m2)) (.int .u32 x) false).run Try.prog w = .ok (.bool false) w ∧ ∃ w', (Instr.mapUpdate 49 (.map (some m2)) (.int .u32 x) (.bool true)).run Try.prog w = .ok () w' ∧ On W w' m1 m2 j x) := by
  obtain ⟨U, V, hU, hV, h⟩ := h
  have hk := Go.Maps.keyOf_int_mk Try.underlying47 (lit_u32 (x := x) (by omega) h1)
  have hl := MapB.look key32 Try.underlying49 h.swap.mapb hk
  by_cases hu : U x
  · exact .inl (hl.1 ⟨x, rfl, hu⟩)
  · refine .inr ⟨hl.2 (fun ⟨y, e, hy⟩ => hu (by obtain rfl := (Lit.int.inj e).2; exact hy)), ?_⟩
    obtain ⟨w', hrun, h'⟩ := Hold.mapPut key32 Try.underlying49 ((firm_mapA _ _ _ _).star firm_nought) h.swap (by omega) hk (show WideAt.IsKeyLit (.int _ _) from trivial)
    refine ⟨w', hrun, fun y => U y ∨ y = x, V, fun y hy => hy.elim (hU y) (fun e => by omega), .inr rfl, fun y q hv => ⟨.inl (hV y q hv).1, (hV y q hv).2.1, (hV y q hv).2.2, fun e => hu (by rw [← e]; exact (hV y q hv).1)⟩, h'.swap.monoR (fun F h => star_monoL h (fun F h => mapA_mono h (Nat.le_refl _) (fun y => ⟨?_, ?_⟩)))⟩
    · rintro (⟨z, rfl, hz⟩ | rfl)
      · exact ⟨z, rfl, .inl hz⟩
      · exact ⟨x, rfl, .inr rfl⟩
    · rintro ⟨z, rfl, hz | rfl⟩
      · exact .inl ⟨z, rfl, hz⟩
      · exact .inr rfl
theorem on_new (h : On W w m1 m2 j x) (h2 : 0 ≤ s) (h3 : s < 4294967296) : Calls Try.prog 7 #[.int .u64 x, .int .u64 s] w fun e w' => ∃ g, e = .returned (.tuple #[.pointer (some ⟨g, 0, none⟩), .int .i64 0]) ∧ Oi W w' m1 m2 j g x s s 0 := by
  obtain ⟨U, V, hU, hx, hV, h⟩ := h
  obtain ⟨x0, x1⟩ := hU x hx
  exact (nnew_ok ((firm_mapA _ _ _ _).star ((firm_mapA _ _ _ _).star firm_nought)) h x s (by omega) (by omega) h2 ((mayE_iff x).2 ⟨by omega, x1⟩) h3).mono fun e w' ⟨g, he, h'⟩ => ⟨g, he, U, V, hU, hx, fun y q hv => ⟨(hV y q hv).1, (hV y q hv).2.1, (hV y q hv).2.2.1, fun e => ((hV y q hv).2.2.2 e).elim⟩, h'⟩
theorem oi_next (h : Oi W w m1 m2 j g x s p i) (h2 : 0 ≤ s) (h3 : s < 4294967296) : Calls Try.prog 10 #[.pointer (some ⟨g, 0, none⟩)] w fun e w' => e = .returned (.tuple #[.string (nonB x s), .int .i64 0]) ∧ Oi W w' m1 m2 j g x (s + 1) p i := by
  obtain ⟨U, V, hU, hx, hV, h⟩ := h
  obtain ⟨x0, x1⟩ := hU x hx
  exact (nnext_ok ((firm_mapA _ _ _ _).star ((firm_mapA _ _ _ _).star firm_nought)) h (by omega) (by omega) h2 h3).mono fun e w' ⟨he, h'⟩ => ⟨he, U, V, hU, hx, hV, h'⟩
theorem oi_used (h : Oi W w m1 m2 j g x 4294967296 p i) : Calls Try.prog 10 #[.pointer (some ⟨g, 0, none⟩)] w fun e w' => e = .returned (.tuple #[.string noB, .int .i64 25]) ∧ w' = w := by
  obtain ⟨U, V, hU, hx, hV, h⟩ := h
  exact nnext_used h
theorem oi_left (h : Oi W w m1 m2 j g x s p i) (h0 : 0 ≤ s) (h1 : s ≤ 4294967296) : Calls Try.prog 11 #[.pointer (some ⟨g, 0, none⟩)] w fun e w' => e = .returned (.int .u64 (4294967296 - s)) ∧ w' = w := by
  obtain ⟨U, V, hU, hx, hV, h⟩ := h
  exact nleft_any h h0 h1
theorem Oi.below {w' : World} (h : Oi W w m1 m2 j g x s p i) (hb : Below w.heap.size w w') : Oi W w' m1 m2 j g x s p i := by
  obtain ⟨U, V, hU, hx, hV, h⟩ := h
  exact ⟨U, V, hU, hx, hV, h.below ((firm_src _ _ _).star ((firm_mapA _ _ _ _).star ((firm_mapA _ _ _ _).star firm_nought))) hb⟩
theorem Oi.ep (h : Oi W w m1 m2 j g x s p i) : 1 ≤ x ∧ x ≤ 4294967295 := by
  obtain ⟨U, V, hU, hx, hV, h⟩ := h
  exact hU x hx
theorem str_lit {a b : ByteArray} (h : Lit.string a.data.toList = Lit.string b.data.toList) : a = b := ByteArray.ext (Array.toList_inj.1 (Lit.string.inj h))
theorem oi_met (h : Oi W w m1 m2 j g x s p i) (h0 : 0 ≤ p) (h1 : p < 4294967296) (hj : j ≤ 10) (hi : i ≤ 30) :
    (Instr.lookup 48 (.map (some m1)) (.string (nonB x p)) false).run Try.prog w = .ok (.bool false) w ∧ ∃ w', (Instr.mapUpdate 48 (.map (some m1)) (.string (nonB x p)) (.bool true)).run Try.prog w = .ok () w' ∧ Oi W w' m1 m2 j g x s (p + 1) (i + 1) := by
  obtain ⟨U, V, hU, hx, hV, h⟩ := h
  obtain ⟨x0, x1⟩ := hU x hx
  have hk := Go.WideMaps.keyOf_string_mk Try.underlying9 (s := nonB x p) (by rw [nonB_size]; decide)
  have hn : ∀ y q, V y q → nonB x p = nonB y q → False := fun y q hv e => by
    obtain ⟨v1, v2, v3, v4⟩ := hV y q hv
    obtain ⟨y0, y1⟩ := hU y v1
    obtain ⟨e1, e2⟩ := nonB_inj (by omega) x1 (by omega) y1 h0 h1 v2 v3 e
    have := v4 e1.symm
    omega
  have hl := MapB.look key9s Try.underlying48 h.swap.mapb hk
  refine ⟨hl.2 (fun ⟨y, q, e, hv⟩ => hn y q hv (str_lit e)), ?_⟩
  obtain ⟨w', hrun, h'⟩ := Hold.mapPut key9s Try.underlying48 ((firm_src _ _ _).star ((firm_mapA _ _ _ _).star firm_nought)) h.swap (by omega) hk (show WideAt.IsKeyLit (.string _) from trivial)
  refine ⟨w', hrun, U, fun y q => V y q ∨ (y = x ∧ q = p), hU, hx, ?_, h'.swap.monoR (fun F h => star_monoL h (fun F h => mapA_mono h (Nat.le_of_eq (by omega)) (fun y => ⟨?_, ?_⟩)))⟩
  · rintro y q (hv | ⟨rfl, rfl⟩)
    · obtain ⟨v1, v2, v3, v4⟩ := hV y q hv
      exact ⟨v1, v2, v3, fun e => by have := v4 e; omega⟩
    · exact ⟨hx, h0, h1, fun _ => by omega⟩
  · rintro (⟨y, q, rfl, hv⟩ | rfl)
    · exact ⟨y, q, rfl, .inl hv⟩
    · exact ⟨x, p, rfl, .inr ⟨rfl, rfl⟩⟩
  · rintro ⟨y, q, rfl, hv | ⟨rfl, rfl⟩⟩
    · exact .inl ⟨y, q, rfl, hv⟩
    · exact .inr rfl
end
end Go.Proofs.Ytikhhijbabllfaa
