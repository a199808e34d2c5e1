/- Maps to truth values, of exactly so many keys, beside other memory. -/
import Derived.Test.YtokknmkleceooaaGreatDoorStCall
import Derived.Maps.OwnSet
import Derived.StringKeys
namespace Go.Proofs.YtokknmkleceooaaGreatDoor
open Go.RowKit Go.PlainAid
open Go.Maps (Keyed IsMap Tidy)
set_option linter.unusedVariables false
set_option maxRecDepth 20000

/-- The map at block b has just the n keys in J, each true. -/
def MapV (T : TypeId) (w : World) (b n : Nat) (J : Value → Prop) : Prop := ∃ D : DataW Unit, w.ownsMap Tryz.prog T (plainElem Tryz.prog 4) b n D ∧ Tidy D ∧ Maps.size D = n ∧ ∀ v l, keyOf Tryz.prog T v = some l → ((J v → D.atKey l (.lit (.bool false)) = .lit (.bool true) ∧ Maps.has D l = true) ∧ (¬ J v → D.atKey l (.lit (.bool false)) = .lit (.bool false) ∧ Maps.has D l = false))
def mapV (T : TypeId) (b n : Nat) (J : Value → Prop) : Asn := fun w F => MapV T w b n J ∧ ∀ k, F k ↔ k = b
section
variable {T M : TypeId} {w w' : World} {b n : Nat} {J J' : Value → Prop}
theorem MapV.lt (h : MapV T w b n J) : b < w.heap.size := by obtain ⟨D, h1, _⟩ := h; exact h1.lt
theorem MapV.kept {F : Nat → Prop} (h : MapV T w b n J) (hk : Kept F w w') (hb : ¬ F b) : MapV T w' b n J := by
  have hl := h.lt
  obtain ⟨D, ⟨es, clock, h1, h2⟩, h3⟩ := h
  exact ⟨D, ⟨es, clock, (hk.block b hl hb).trans h1, h2⟩, h3⟩
theorem firm_mapV (T : TypeId) (b n : Nat) (J : Value → Prop) : Firm (mapV T b n J) :=
  ⟨fun ⟨h1, h2⟩ hk hd => ⟨h1.kept hk (hd b ((h2 b).2 rfl)), h2⟩, fun ⟨h1, h2⟩ k hk => by rw [(h2 k).1 hk]; exact h1.lt⟩
theorem mapV_made (T : TypeId) (w : World) : MapV T (w.alloc (.map #[] 0)) w.heap.size 0 (fun _ => False) := ⟨.map [], World.ownsMap_made w _ _ _, Go.Maps.tidy_empty, rfl, fun v l _ => ⟨fun h => h.elim, fun _ => ⟨rfl, rfl⟩⟩⟩
theorem MapV.look (K : Keyed Tryz.prog T) (ht : Tryz.prog.underlying M = some (.map T 4)) (h : MapV T w b n J) {key : Value} {x : Lit} (hkey : keyOf Tryz.prog T key = some x) (hJ : ¬ J key) : (Instr.lookup M (.map (some b)) key false).run Tryz.prog w = .ok (.bool false) w := by
  obtain ⟨D, h1, h2, _, h3⟩ := h
  obtain ⟨v, ps, hrun, hv⟩ := h1.lookup K ht (z := .bool false) (by
    obtain ⟨i0, hi, hz0, hz1, hz2⟩ := info_parts (show (Tryz.prog.info? 4).map (fun i => (i.zero, i.size, i.bytes)) = some (some (.bool false), 1, 1) by kernel_rfl)
    simp [zeroValue, typeInfo, hi, hz0]) (plainElem_bool Tryz.underlying4 false) hkey
  rw [((h3 key x hkey).2 hJ).1] at hv
  have hb : v = .bool false := by
    unfold plainElem at hv
    rw [Tryz.underlying4] at hv
    cases v <;> simp at hv ⊢
    exact hv.1
  rw [← hb]; exact hrun
theorem MapV.lookIn (K : Keyed Tryz.prog T) (ht : Tryz.prog.underlying M = some (.map T 4)) (h : MapV T w b n J) {key : Value} {x : Lit} (hkey : keyOf Tryz.prog T key = some x) (hJ : J key) : (Instr.lookup M (.map (some b)) key false).run Tryz.prog w = .ok (.bool true) w := by
  obtain ⟨D, h1, h2, _, h3⟩ := h
  obtain ⟨v, ps, hrun, hv⟩ := h1.lookup K ht (z := .bool false) (by
    obtain ⟨i0, hi, hz0, hz1, hz2⟩ := info_parts (show (Tryz.prog.info? 4).map (fun i => (i.zero, i.size, i.bytes)) = some (some (.bool false), 1, 1) by kernel_rfl)
    simp [zeroValue, typeInfo, hi, hz0]) (plainElem_bool Tryz.underlying4 false) hkey
  rw [((h3 key x hkey).1 hJ).1] at hv
  have hb : v = .bool true := by
    unfold plainElem at hv
    rw [Tryz.underlying4] at hv
    cases v <;> simp at hv ⊢
    exact hv.1
  rw [← hb]; exact hrun
theorem MapV.len (ht : Tryz.prog.underlying M = some (.map T 4)) (h : MapV T w b n J) (ty : TypeId) : (Builtin.len_ #[M] ty #[.map (some b)]).run Tryz.prog w = .ok (.int .i64 (n : Int)) w := by
  obtain ⟨D, h1, h2, h4, h3⟩ := h
  have := h1.len ht ty
  rw [h4] at this; exact this
theorem MapV.put (K : Keyed Tryz.prog T) (ht : Tryz.prog.underlying M = some (.map T 4)) (h : MapV T w b n J) (hn : n ≤ 1000000) {key : Value} {x : Lit} (hkey : keyOf Tryz.prog T key = some x) (hJ : ¬ J key) :
    ∃ w', (Instr.mapUpdate M (.map (some b)) key (.bool true)).run Tryz.prog w = .ok () w' ∧ MapV T w' b (n + 1) (fun y => J y ∨ y = key) ∧ Kept (fun k => k = b) w w' := by
  obtain ⟨D, h1, h2, h4, h3⟩ := h
  obtain ⟨w', hrun, h5, h6⟩ := h1.update K ht (by unfold maxLen; omega) hkey (plainElem_bool Tryz.underlying4 true)
  have hx := K.key hkey
  refine ⟨w', hrun, ⟨_, h5, h2.put hx _, ?_, fun v l hv => ?_⟩, ⟨h6.os, h6.tape, h6.output, h6.size, fun k hk hne => h6.block k hk (fun e => hne (Option.some.inj e))⟩⟩
  · rw [Go.Maps.size_put h2, ((h3 key x hkey).2 hJ).2, h4]; rfl
  · by_cases e : l = x
    · subst e
      have hvk := K.inj hv hkey
      subst hvk
      exact ⟨fun _ => ⟨Go.Maps.atKey_put_same h2.isMap hx _ _, Go.Maps.has_put_same h2.isMap hx _⟩, fun h => (h (.inr rfl)).elim⟩
    · have hne : v ≠ key := fun e2 => e (by rw [e2, hkey] at hv; exact (Option.some.inj hv).symm)
      rw [Go.Maps.atKey_put_other e, Go.Maps.has_put_other e]
      exact ⟨fun h => (h3 v l hv).1 (h.resolve_right hne), fun h => (h3 v l hv).2 (fun h' => h (.inl h'))⟩
end
section
variable {T M : TypeId} {B : Nat} {w0 w : World} {b n : Nat} {J J' : Value → Prop} {R : Asn}
theorem Hold.mapv (h : Hold B w0 w (star (mapV T b n J) R)) : MapV T w b n J := by
  obtain ⟨h1, h2, F, ⟨G, H, h3, h4⟩, h7⟩ := h
  exact h3.1
theorem Hold.mapvNew (hR : Firm R) (h : Hold B w0 w R) (T : TypeId) : Hold B w0 (w.alloc (.map #[] 0)) (star (mapV T w.heap.size 0 (fun _ => False)) R) :=
  Hold.new hR h ((Below.refl _ _).alloc (Nat.le_refl _) _) (G := fun k => k = w.heap.size) ⟨mapV_made T w, fun _ => Iff.rfl⟩ (fun k hk => Nat.le_of_eq hk.symm)
theorem Hold.mapvPut (K : Keyed Tryz.prog T) (ht : Tryz.prog.underlying M = some (.map T 4)) (hR : Firm R) (h : Hold B w0 w (star (mapV T b n J) R)) (hn : n ≤ 1000000) {key : Value} {x : Lit} (hkey : keyOf Tryz.prog T key = some x) (hJ : ¬ J key) :
    ∃ w', (Instr.mapUpdate M (.map (some b)) key (.bool true)).run Tryz.prog w = .ok () w' ∧ Hold B w0 w' (star (mapV T b (n + 1) (fun y => J y ∨ y = key)) R) := by
  obtain ⟨h1, h2, F, ⟨G, H, ⟨m1, m2⟩, h4, h5, h6⟩, h7⟩ := h
  obtain ⟨w', hrun, hs, hk⟩ := m1.put K ht hn hkey hJ
  exact ⟨w', hrun, Hold.turned hR h1 h2 h4 h5 (fun k hk => h7 k ((h6 k).2 hk)) ⟨G, ⟨hs, m2⟩, hk.mono (fun k _ e => (m2 k).2 e), fun k hk => .inl hk⟩⟩
theorem Hold.mapvMono (h : Hold B w0 w (star (mapV T b n J) R)) (hJ : ∀ v, J v ↔ J' v) : Hold B w0 w (star (mapV T b n J') R) := by
  have e : J = J' := funext fun v => propext (hJ v)
  rw [← e]; exact h
end
/-- Keys: two numbers, one number. -/
theorem wf64 {a : Int} (h0 : -9223372036854775808 ≤ a) (h1 : a ≤ 9223372036854775807) : (Lit.int .i64 a).wf = true := by
  exact WalkArith.wf_i64 ⟨h0, h1⟩
theorem key1 : Keyed Tryz.prog 3 := Go.Maps.int_keyed Tryz.underlying3
theorem int_key {a : Int} (ha0 : 0 ≤ a) (ha1 : a ≤ 1000) : ∃ x, keyOf Tryz.prog 3 (.int .i64 a) = some x := ⟨_, Go.Maps.keyOf_int_mk Tryz.underlying3 (wf64 (by omega) (by omega))⟩
end Go.Proofs.YtokknmkleceooaaGreatDoor
