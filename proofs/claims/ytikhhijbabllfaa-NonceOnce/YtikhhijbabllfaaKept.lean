/- Worlds in which nothing but a set of blocks has turned. -/
import Derived.Test.YtikhhijbabllfaaOrd
import Derived.Maps.AppendAt
import Derived.Lib.SliceRun
namespace Go.Proofs.Ytikhhijbabllfaa
open Go.RowKit Go.PlainAid
set_option linter.unusedVariables false

/-- Of what was there no block outside F has turned. -/
structure Kept (F : Nat → Prop) (w w' : World) : Prop where
  os : w'.os = w.os
  tape : w'.tape = w.tape
  output : w'.output = w.output
  size : w.heap.size ≤ w'.heap.size
  block : ∀ k, k < w.heap.size → ¬ F k → w'.heap[k]? = w.heap[k]?
set_option maxRecDepth 20000 in
theorem Kept.refl (F : Nat → Prop) (w : World) : Kept F w w := ⟨rfl, rfl, rfl, Nat.le_refl _, fun _ _ _ => rfl⟩
set_option maxRecDepth 20000 in
theorem Kept.trans {F G : Nat → Prop} {a b c : World} (h : Kept F a b) (k : Kept G b c) (hG : ∀ i, G i → F i ∨ a.heap.size ≤ i) : Kept F a c :=
  ⟨k.os.trans h.os, k.tape.trans h.tape, k.output.trans h.output, Nat.le_trans h.size k.size, fun i hi hne => (k.block i (Nat.lt_of_lt_of_le hi h.size) (fun hg => (hG i hg).elim hne (fun h' => by omega))).trans (h.block i hi hne)⟩
set_option maxRecDepth 20000 in
theorem Kept.mono {F G : Nat → Prop} {a b : World} (h : Kept F a b) (hG : ∀ i, i < a.heap.size → F i → G i) : Kept G a b :=
  ⟨h.os, h.tape, h.output, h.size, fun i hi hne => h.block i hi (fun hf => hne (hG i hi hf))⟩
set_option maxRecDepth 20000 in
theorem Kept.drew {F : Nat → Prop} {a w : World} (h : Kept F a w) : Kept F a w.drew := ⟨h.os, h.tape, h.output, h.size, h.block⟩
set_option maxRecDepth 20000 in
theorem Kept.drewN {F : Nat → Prop} {a w : World} (h : Kept F a w) (n : Nat) : Kept F a (w.drewN n) := ⟨h.os, h.tape, h.output, h.size, h.block⟩
set_option maxRecDepth 20000 in
theorem Kept.ofDrew {F : Nat → Prop} {a w : World} (h : Kept F a.drew w) : Kept F a w := ⟨h.os, h.tape, h.output, h.size, h.block⟩
set_option maxRecDepth 20000 in
theorem Kept.alloc {F : Nat → Prop} {a w : World} (h : Kept F a w) (o : Obj) : Kept F a (w.alloc o) :=
  h.trans (G := fun _ => False) ⟨rfl, rfl, rfl, by simp, fun k hk _ => Below.heap_alloc w o k hk⟩ (fun _ h => h.elim)
set_option maxRecDepth 20000 in
theorem Kept.setCell {F : Nat → Prop} {a w : World} (h : Kept F a w) {g : Nat} (hg : F g ∨ a.heap.size ≤ g) (i : Nat) (v : Value) : Kept F a (w.setCell ⟨g, i, none⟩ v) :=
  h.trans (G := fun k => k = g) ⟨rfl, rfl, rfl, by simp, fun k _ hne => Below.heap_setCell w ⟨g, i, none⟩ v k hne⟩ (fun i e => e ▸ hg)
set_option maxRecDepth 20000 in
theorem Kept.one (w : World) (g i : Nat) (v : Value) : Kept (fun k => k = g) w (w.setCell ⟨g, i, none⟩ v) :=
  ⟨rfl, rfl, rfl, by simp, fun k _ hne => Below.heap_setCell w ⟨g, i, none⟩ v k hne⟩
set_option maxRecDepth 20000 in
theorem Kept.oneRow (w : World) (g : Nat) (cs : Array Value) : Kept (fun k => k = g) w (w.setRow g cs) :=
  ⟨rfl, rfl, rfl, by simp [World.setRow], fun k _ hne => setRow_other w g k cs hne⟩
set_option maxRecDepth 20000 in
theorem Kept.setRow {F : Nat → Prop} {a w : World} (h : Kept F a w) {g : Nat} (hg : F g ∨ a.heap.size ≤ g) (cs : Array Value) : Kept F a (w.setRow g cs) :=
  h.trans (G := fun k => k = g) ⟨rfl, rfl, rfl, by simp [World.setRow], fun k _ hne => setRow_other w g k cs hne⟩ (fun i e => e ▸ hg)
set_option maxRecDepth 20000 in
theorem Kept.grown {F : Nat → Prop} {a w w' : World} (h : Kept F a w) {row : Option Nat} (hg : w.grownBy w' row) (hr : ∀ k, row = some k → F k ∨ a.heap.size ≤ k) : Kept F a w' :=
  h.trans (G := fun k => row = some k) ⟨hg.os, hg.tape, hg.output, hg.size, fun k hk hne => hg.block k hk (fun e => hne e.symm)⟩ hr
set_option maxRecDepth 20000 in
theorem Kept.ofBelow {F : Nat → Prop} {w w' : World} (h : Below w.heap.size w w') : Kept F w w' := ⟨h.os, h.tape, h.output, h.size, fun k hk _ => h.block k hk⟩
set_option maxRecDepth 20000 in
theorem Kept.thenBelow {F : Nat → Prop} {a w w' : World} (h : Kept F a w) (k : Below w.heap.size w w') : Kept F a w' := h.trans (G := fun _ => False) (Kept.ofBelow k) (fun _ h => h.elim)
set_option maxRecDepth 20000 in
/-- Nothing ahead of B has turned, if nothing in F lies there. -/
theorem Kept.below {F : Nat → Prop} {B : Nat} {w0 w w' : World} (hb : Below B w0 w) (h : Kept F w w') (hB : B ≤ w.heap.size) (hF : ∀ k, F k → B ≤ k) : Below B w0 w' :=
  hb.trans ⟨h.os, h.tape, h.output, h.size, fun k hk => h.block k (by omega) (fun hf => by have := hF k hf; omega)⟩
set_option maxRecDepth 20000 in
theorem Kept.cell {F : Nat → Prop} {w w' : World} (h : Kept F w w') {p : Addr} (hp : p.block < w.heap.size) (hn : ¬ F p.block) : w'.cell? p = w.cell? p := World.cell?_of_block (w := w) (h.block p.block hp hn)
set_option maxRecDepth 20000 in
theorem Blk.kept {F : Nat → Prop} {w w' : World} {g : Nat} {T : TypeId} {L : List Value} (h : Blk w g T L) (ho : Kept F w w') (hk : ¬ F g) : Blk w' g T L := by
  have hl := h.lt
  unfold Blk at h ⊢
  rw [ho.block g hl hk]; exact h
set_option maxRecDepth 20000 in
theorem owns_kept {F : Nat → Prop} {w w' : World} {base : Nat} {e : TypeId} {size : Nat} {v : Value} {n : Nat} {xs : List Value} (h : w.ownsRow base e size v n xs) (ho : Kept F w w') (hk : ∀ k, v.ownBlock = some k → ¬ F k) : w'.ownsRow base e size v n xs := by
  refine ⟨h.1, ?_⟩
  rcases h.2 with hn | ⟨g, cap, cur, rfl, hb, hgg, rest⟩
  · exact .inl hn
  · exact .inr ⟨g, cap, cur, rfl, hb, by rw [ho.block g (Array.getElem?_eq_some_iff.1 hgg).1 (hk g rfl)]; exact hgg, rest⟩
set_option maxRecDepth 20000 in
/-- Blocks of unlike types are unlike. -/
theorem Blk.ne {w : World} {g k : Nat} {T U : TypeId} {L M : List Value} (h : Blk w g T L) (h' : Blk w k U M) (hT : T ≠ U) : g ≠ k := by
  rintro rfl
  unfold Blk at h h'
  rw [h] at h'
  cases h'
  exact hT rfl
set_option maxRecDepth 20000 in
theorem Blk.owns_ne {w : World} {g : Nat} {T : TypeId} {L : List Value} (h : Blk w g T L) {base : Nat} {e : TypeId} {size : Nat} {v : Value} {n : Nat} {xs : List Value} (ho : w.ownsRow base e size v n xs) (hT : T ≠ e) : v.ownBlock ≠ some g := by
  intro hv
  rcases ho.2 with ⟨rfl, _⟩ | ⟨g', cap, cur, rfl, hb, hgg, _⟩
  · cases hv
  · cases hv
    unfold Blk at h
    rw [h] at hgg
    cases hgg
    exact hT rfl
/-- A text without bytes. -/
abbrev noB : ByteArray := { data := #[] }
/-- What a call of a disk leaves: the disk turned, nothing else; new memory alone is taken in. -/
def Turned (F : Nat → Prop) (w w' : World) (A : (Nat → Prop) → Prop) : Prop := ∃ F', A F' ∧ Kept F w w' ∧ ∀ k, F' k → F k ∨ w.heap.size ≤ k
set_option maxRecDepth 20000 in
theorem Turned.mono {F : Nat → Prop} {w w' : World} {A B : (Nat → Prop) → Prop} (h : Turned F w w' A) (hAB : ∀ F', A F' → B F') : Turned F w w' B := by
  obtain ⟨F', h1, h2, h3⟩ := h; exact ⟨F', hAB _ h1, h2, h3⟩
end Go.Proofs.Ytikhhijbabllfaa
