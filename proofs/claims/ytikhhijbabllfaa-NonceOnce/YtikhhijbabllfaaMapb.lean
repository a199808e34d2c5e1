/- Maps to truth values, as sets of keys, beside other memory. -/
import Derived.Test.YtikhhijbabllfaaSep
import Derived.Maps.OwnSet
import Derived.StringKeys
namespace Go.Proofs.Ytikhhijbabllfaa
open Go.RowKit Go.PlainAid
open Go.Maps (Keyed IsMap)
set_option linter.unusedVariables false
set_option maxRecDepth 20000

/-- The map at block b, of at most n entries, whose keys have the type T, tells true of the keys in I alone. -/
def MapB (T : TypeId) (w : World) (b n : Nat) (I : Lit → Prop) : Prop := ∃ D : DataW Unit, w.ownsMap Try.prog T (plainElem Try.prog 4) b n D ∧ IsMap D ∧ ∀ x : Lit, (I x → D.atKey x (.lit (.bool false)) = .lit (.bool true)) ∧ (¬ I x → D.atKey x (.lit (.bool false)) = .lit (.bool false))
/-- .. and that block is its own. -/
def mapA (T : TypeId) (b n : Nat) (I : Lit → Prop) : Asn := fun w F => MapB T w b n I ∧ ∀ k, F k ↔ k = b
section
variable {T M : TypeId} {w w' : World} {b n : Nat} {I J : Lit → Prop}
theorem MapB.lt (h : MapB T w b n I) : b < w.heap.size := by obtain ⟨D, h1, _⟩ := h; exact h1.lt
theorem MapB.kept {F : Nat → Prop} (h : MapB T w b n I) (hk : Kept F w w') (hb : ¬ F b) : MapB T w' b n I := by
  have hl := h.lt
  obtain ⟨D, ⟨es, clock, h1, h2⟩, h3⟩ := h
  exact ⟨D, ⟨es, clock, (hk.block b hl hb).trans h1, h2⟩, h3⟩
theorem firm_mapA (T : TypeId) (b n : Nat) (I : Lit → Prop) : Firm (mapA T b n I) :=
  ⟨fun ⟨h1, h2⟩ hk hd => ⟨h1.kept hk (hd b ((h2 b).2 rfl)), h2⟩, fun ⟨h1, h2⟩ k hk => by rw [(h2 k).1 hk]; exact h1.lt⟩
theorem mapB_made (T : TypeId) (w : World) : MapB T (w.alloc (.map #[] 0)) w.heap.size 0 (fun _ => False) := ⟨.map [], World.ownsMap_made w _ _ _, Go.Maps.isMap_empty, fun x => ⟨fun h => h.elim, fun _ => rfl⟩⟩
theorem MapB.look (K : Keyed Try.prog T) (ht : Try.prog.underlying M = some (.map T 4)) (h : MapB T w b n I) {key : Value} {x : Lit} (hkey : keyOf Try.prog T key = some x) :
    (I x → (Instr.lookup M (.map (some b)) key false).run Try.prog w = .ok (.bool true) w) ∧ (¬ I x → (Instr.lookup M (.map (some b)) key false).run Try.prog w = .ok (.bool false) w) := by
  obtain ⟨D, h1, h2, h3⟩ := h
  obtain ⟨v, ps, hrun, hv⟩ := h1.lookup K ht (z := .bool false) (by
    obtain ⟨i0, hi, hz0, hz1, hz2⟩ := info_parts (show (Try.prog.info? 4).map (fun i => (i.zero, i.size, i.bytes)) = some (some (.bool false), 1, 1) by kernel_rfl)
    simp [zeroValue, typeInfo, hi, hz0]) (plainElem_bool Try.underlying4 false) hkey
  have hb : ∀ c, D.atKey x (.lit (.bool false)) = .lit (.bool c) → v = .bool c := fun c hc => by
    rw [hc] at hv
    unfold plainElem at hv
    rw [Try.underlying4] at hv
    cases v <;> simp at hv ⊢
    exact hv.1
  exact ⟨fun hI => by rw [← hb true ((h3 x).1 hI)]; exact hrun, fun hI => by rw [← hb false ((h3 x).2 hI)]; exact hrun⟩
theorem MapB.put (K : Keyed Try.prog T) (ht : Try.prog.underlying M = some (.map T 4)) (h : MapB T w b n I) (hn : n ≤ 1000000) {key : Value} {x : Lit} (hkey : keyOf Try.prog T key = some x) (hx : WideAt.IsKeyLit x) :
    ∃ w', (Instr.mapUpdate M (.map (some b)) key (.bool true)).run Try.prog w = .ok () w' ∧ MapB T w' b (n + 1) (fun y => I y ∨ y = x) ∧ Kept (fun k => k = b) w w' := by
  obtain ⟨D, h1, ⟨es, rfl⟩, h3⟩ := h
  obtain ⟨w', hrun, h4, h5⟩ := h1.update K ht (by unfold maxLen; omega) hkey (plainElem_bool Try.underlying4 true)
  refine ⟨w', hrun, ⟨_, h4, ⟨_, rfl⟩, fun y => ?_⟩, ⟨h5.os, h5.tape, h5.output, h5.size, fun k hk hne => h5.block k hk (fun e => hne (Option.some.inj e))⟩⟩
  by_cases e : y = x
  · subst e
    exact ⟨fun _ => Go.Maps.atKey_put_same ⟨es, rfl⟩ hx _ _, fun h => (h (.inr rfl)).elim⟩
  · rw [Go.Maps.atKey_put_other e]
    exact ⟨fun h => (h3 y).1 (h.resolve_right e), fun h => (h3 y).2 (fun h' => h (.inl h'))⟩
theorem mapA_mono {F : Nat → Prop} {m : Nat} (h : mapA T b n I w F) (hn : n ≤ m) (hI : ∀ x, I x ↔ J x) : mapA T b m J w F := by
  obtain ⟨⟨D, h1, h2, h3⟩, h4⟩ := h
  exact ⟨⟨D, h1.mono hn, h2, fun x => ⟨fun h => (h3 x).1 ((hI x).2 h), fun h => (h3 x).2 (fun h' => h ((hI x).1 h'))⟩⟩, h4⟩
end
section
variable {T M : TypeId} {B : Nat} {w0 w : World} {b n : Nat} {I J : Lit → Prop} {R : Asn}
theorem Hold.mapb (h : Hold B w0 w (star (mapA T b n I) R)) : MapB T w b n I := by
  obtain ⟨h1, h2, F, ⟨G, H, h3, h4⟩, h7⟩ := h
  exact h3.1
theorem Hold.mapNew (hR : Firm R) (h : Hold B w0 w R) (T : TypeId) : Hold B w0 (w.alloc (.map #[] 0)) (star (mapA T w.heap.size 0 (fun _ => False)) R) :=
  Hold.new hR h ((Below.refl _ _).alloc (Nat.le_refl _) _) (G := fun k => k = w.heap.size) ⟨mapB_made T w, fun _ => Iff.rfl⟩ (fun k hk => Nat.le_of_eq hk.symm)
/-- One more key. -/
theorem Hold.mapPut (K : Keyed Try.prog T) (ht : Try.prog.underlying M = some (.map T 4)) (hR : Firm R) (h : Hold B w0 w (star (mapA T b n I) R)) (hn : n ≤ 1000000) {key : Value} {x : Lit} (hkey : keyOf Try.prog T key = some x) (hx : WideAt.IsKeyLit x) :
    ∃ w', (Instr.mapUpdate M (.map (some b)) key (.bool true)).run Try.prog w = .ok () w' ∧ Hold B w0 w' (star (mapA T b (n + 1) (fun y => I y ∨ y = x)) R) := by
  obtain ⟨h1, h2, F, ⟨G, H, ⟨m1, m2⟩, h4, h5, h6⟩, h7⟩ := h
  obtain ⟨w', hrun, hs, hk⟩ := m1.put K ht hn hkey hx
  exact ⟨w', hrun, Hold.turned hR h1 h2 h4 h5 (fun k hk => h7 k ((h6 k).2 hk)) ⟨G, ⟨hs, m2⟩, hk.mono (fun k _ e => (m2 k).2 e), fun k hk => .inl hk⟩⟩
end
end Go.Proofs.Ytikhhijbabllfaa
