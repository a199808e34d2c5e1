/- A disk, and the document's own, as they lie in memory; worlds in which nothing but a set of blocks has turned. -/
import Derived.Test.YtfepmafjkgjmmaaOrd
import Derived.Test.YtfepmafjkgjmmaaDkPlain
import Derived.Maps.AppendAt
import Derived.Lib.SliceRun
namespace Go.Proofs.Ytfepmafjkgjmmaa
open Go.RowKit Go.PlainAid
set_option linter.unusedVariables false

/-- Of what was there no block outside F has turned. -/
structure Kept (F : Nat → Prop) (w w' : World) : Prop where
  os : w'.os = w.os
  tape : w'.tape = w.tape
  output : w'.output = w.output
  size : w.heap.size ≤ w'.heap.size
  block : ∀ k, k < w.heap.size → ¬ F k → w'.heap[k]? = w.heap[k]?
theorem Kept.refl (F : Nat → Prop) (w : World) : Kept F w w := ⟨rfl, rfl, rfl, Nat.le_refl _, fun _ _ _ => rfl⟩
theorem Kept.trans {F G : Nat → Prop} {a b c : World} (h : Kept F a b) (k : Kept G b c) (hG : ∀ i, G i → F i ∨ a.heap.size ≤ i) : Kept F a c :=
  ⟨k.os.trans h.os, k.tape.trans h.tape, k.output.trans h.output, Nat.le_trans h.size k.size, fun i hi hne => (k.block i (Nat.lt_of_lt_of_le hi h.size) (fun hg => (hG i hg).elim hne (fun h' => by omega))).trans (h.block i hi hne)⟩
theorem Kept.mono {F G : Nat → Prop} {a b : World} (h : Kept F a b) (hG : ∀ i, i < a.heap.size → F i → G i) : Kept G a b :=
  ⟨h.os, h.tape, h.output, h.size, fun i hi hne => h.block i hi (fun hf => hne (hG i hi hf))⟩
theorem Kept.drew {F : Nat → Prop} {a w : World} (h : Kept F a w) : Kept F a w.drew := ⟨h.os, h.tape, h.output, h.size, h.block⟩
theorem Kept.drewN {F : Nat → Prop} {a w : World} (h : Kept F a w) (n : Nat) : Kept F a (w.drewN n) := ⟨h.os, h.tape, h.output, h.size, h.block⟩
theorem Kept.ofDrew {F : Nat → Prop} {a w : World} (h : Kept F a.drew w) : Kept F a w := ⟨h.os, h.tape, h.output, h.size, h.block⟩
theorem Kept.alloc {F : Nat → Prop} {a w : World} (h : Kept F a w) (o : Obj) : Kept F a (w.alloc o) :=
  h.trans (G := fun _ => False) ⟨rfl, rfl, rfl, by simp, fun k hk _ => Below.heap_alloc w o k hk⟩ (fun _ h => h.elim)
theorem Kept.setCell {F : Nat → Prop} {a w : World} (h : Kept F a w) {g : Nat} (hg : F g ∨ a.heap.size ≤ g) (i : Nat) (v : Value) : Kept F a (w.setCell ⟨g, i, none⟩ v) :=
  h.trans (G := fun k => k = g) ⟨rfl, rfl, rfl, by simp, fun k _ hne => Below.heap_setCell w ⟨g, i, none⟩ v k hne⟩ (fun i e => e ▸ hg)
theorem Kept.one (w : World) (g i : Nat) (v : Value) : Kept (fun k => k = g) w (w.setCell ⟨g, i, none⟩ v) :=
  ⟨rfl, rfl, rfl, by simp, fun k _ hne => Below.heap_setCell w ⟨g, i, none⟩ v k hne⟩
theorem Kept.oneRow (w : World) (g : Nat) (cs : Array Value) : Kept (fun k => k = g) w (w.setRow g cs) :=
  ⟨rfl, rfl, rfl, by simp [World.setRow], fun k _ hne => setRow_other w g k cs hne⟩
theorem Kept.setRow {F : Nat → Prop} {a w : World} (h : Kept F a w) {g : Nat} (hg : F g ∨ a.heap.size ≤ g) (cs : Array Value) : Kept F a (w.setRow g cs) :=
  h.trans (G := fun k => k = g) ⟨rfl, rfl, rfl, by simp [World.setRow], fun k _ hne => setRow_other w g k cs hne⟩ (fun i e => e ▸ hg)
theorem Kept.grown {F : Nat → Prop} {a w w' : World} (h : Kept F a w) {row : Option Nat} (hg : w.grownBy w' row) (hr : ∀ k, row = some k → F k ∨ a.heap.size ≤ k) : Kept F a w' :=
  h.trans (G := fun k => row = some k) ⟨hg.os, hg.tape, hg.output, hg.size, fun k hk hne => hg.block k hk (fun e => hne e.symm)⟩ hr
theorem Kept.ofBelow {F : Nat → Prop} {w w' : World} (h : Below w.heap.size w w') : Kept F w w' := ⟨h.os, h.tape, h.output, h.size, fun k hk _ => h.block k hk⟩
theorem Kept.thenBelow {F : Nat → Prop} {a w w' : World} (h : Kept F a w) (k : Below w.heap.size w w') : Kept F a w' := h.trans (G := fun _ => False) (Kept.ofBelow k) (fun _ h => h.elim)
/-- Nothing ahead of B has turned, if nothing in F lies there. -/
theorem Kept.below {F : Nat → Prop} {B : Nat} {w0 w w' : World} (hb : Below B w0 w) (h : Kept F w w') (hB : B ≤ w.heap.size) (hF : ∀ k, F k → B ≤ k) : Below B w0 w' :=
  hb.trans ⟨h.os, h.tape, h.output, h.size, fun k hk => h.block k (by omega) (fun hf => by have := hF k hf; omega)⟩
theorem Kept.cell {F : Nat → Prop} {w w' : World} (h : Kept F w w') {p : Addr} (hp : p.block < w.heap.size) (hn : ¬ F p.block) : w'.cell? p = w.cell? p := World.cell?_of_block (w := w) (h.block p.block hp hn)
theorem Blk.kept {F : Nat → Prop} {w w' : World} {g : Nat} {T : TypeId} {L : List Value} (h : Blk w g T L) (ho : Kept F w w') (hk : ¬ F g) : Blk w' g T L := by
  have hl := h.lt
  unfold Blk at h ⊢
  rw [ho.block g hl hk]; exact h
theorem owns_kept {F : Nat → Prop} {w w' : World} {base : Nat} {e : TypeId} {size : Nat} {v : Value} {n : Nat} {xs : List Value} (h : w.ownsRow base e size v n xs) (ho : Kept F w w') (hk : ∀ k, v.ownBlock = some k → ¬ F k) : w'.ownsRow base e size v n xs := by
  refine ⟨h.1, ?_⟩
  rcases h.2 with hn | ⟨g, cap, cur, rfl, hb, hgg, rest⟩
  · exact .inl hn
  · exact .inr ⟨g, cap, cur, rfl, hb, by rw [ho.block g (Array.getElem?_eq_some_iff.1 hgg).1 (hk g rfl)]; exact hgg, rest⟩
/-- Blocks of unlike types are unlike. -/
theorem Blk.ne {w : World} {g k : Nat} {T U : TypeId} {L M : List Value} (h : Blk w g T L) (h' : Blk w k U M) (hT : T ≠ U) : g ≠ k := by
  rintro rfl
  unfold Blk at h h'
  rw [h] at h'
  cases h'
  exact hT rfl
theorem Blk.owns_ne {w : World} {g : Nat} {T : TypeId} {L : List Value} (h : Blk w g T L) {base : Nat} {e : TypeId} {size : Nat} {v : Value} {n : Nat} {xs : List Value} (ho : w.ownsRow base e size v n xs) (hT : T ≠ e) : v.ownBlock ≠ some g := by
  intro hv
  rcases ho.2 with ⟨rfl, _⟩ | ⟨g', cap, cur, rfl, hb, hgg, _⟩
  · cases hv
  · cases hv
    unfold Blk at h
    rw [h] at hgg
    cases hgg
    exact hT rfl

/-- A row of n texts. -/
def strs (n : Nat) (f : Nat → ByteArray) : List Value := (List.range n).map fun i => .string (f i)
theorem strs_length (n : Nat) (f : Nat → ByteArray) : (strs n f).length = n := by simp [strs]
theorem strs_at (n : Nat) (f : Nat → ByteArray) (i : Nat) (h : i < n) : (strs n f)[i]? = some (.string (f i)) := by simp [strs, h]
theorem strs_congr (n : Nat) (f f' : Nat → ByteArray) (h : ∀ i, i < n → f i = f' i) : strs n f = strs n f' := by
  unfold strs; exact List.map_congr_left fun i hi => by rw [h i (List.mem_range.1 hi)]
theorem strs_set (n : Nat) (f : Nat → ByteArray) (k : Nat) (s : ByteArray) : (strs n f).set k (.string s) = strs n (upd f (k, s)) := by
  apply List.ext_getElem
  · simp [strs]
  · intro j h1 h2
    rw [List.getElem_set]
    simp only [strs, List.getElem_map, List.getElem_range, upd]
    by_cases e : k = j
    · rw [if_pos e, if_pos e.symm]
    · rw [if_neg e, if_neg (fun h => e h.symm)]
theorem strs_one (n : Nat) (f : Nat → ByteArray) : ∀ v ∈ strs n f, v.oneCell' = true := by
  intro v hv
  obtain ⟨i, _, rfl⟩ := List.mem_map.1 hv
  rfl
theorem strs_succ (n : Nat) (f : Nat → ByteArray) : strs (n + 1) f = strs n f ++ [.string (f n)] := by
  unfold strs; rw [List.range_succ, List.map_append]; rfl
theorem strs_same {n : Nat} {f f' : Nat → ByteArray} (h : strs n f = strs n f') : ∀ i, i < n → f i = f' i := by
  intro i hi
  have := congrArg (fun L : List Value => L[i]?) h
  simp only [strs_at _ _ i hi] at this
  exact Value.string.inj (Option.some.inj this)
/-- A text without bytes. -/
abbrev noB : ByteArray := { data := #[] }
/-- A row of writes: the cell and the bytes of each. -/
def pairs (q : List Wr) : List Value := q.flatMap fun p => [.int .i64 (p.1 : Int), .string p.2]
theorem pairs_length (q : List Wr) : (pairs q).length = q.length * 2 := by
  induction q with
  | nil => rfl
  | cons p r ih => simp only [pairs, List.flatMap_cons, List.length_append, List.length_cons, List.length_nil] at ih ⊢; omega
theorem pairs_append (a b : List Wr) : pairs (a ++ b) = pairs a ++ pairs b := by simp [pairs]
theorem pairs_at (q : List Wr) : ∀ i p, q[i]? = some p → (pairs q)[i * 2]? = some (.int .i64 (p.1 : Int)) ∧ (pairs q)[i * 2 + 1]? = some (.string p.2) := by
  induction q with
  | nil => intro i p h; simp at h
  | cons a r ih =>
    intro i p h
    cases i with
    | zero => simp at h; subst h; exact ⟨rfl, rfl⟩
    | succ i =>
      have := ih i p (by simpa using h)
      rw [show (i + 1) * 2 = i * 2 + 1 + 1 by omega]
      exact this
theorem pairs_one (q : List Wr) : ∀ v ∈ pairs q, v.oneCell' = true := by
  intro v hv
  obtain ⟨p, _, hp⟩ := List.mem_flatMap.1 hv
  simp at hp
  rcases hp with rfl | rfl <;> rfl
/-- A row of writes that may grow. -/
def Waits (w : World) (T : TypeId) (v : Value) (q : List Wr) : Prop := w.ownsRow 0 T 2 v q.length (pairs q)
theorem Waits.nil (w : World) (T : TypeId) : Waits w T (.slice none 0 0) [] := World.ownsRow_nil _ _ _ _
theorem Waits.kept {F : Nat → Prop} {w w' : World} {T : TypeId} {v : Value} {q : List Wr} (h : Waits w T v q) (ho : Kept F w w') (hk : ∀ k, v.ownBlock = some k → ¬ F k) : Waits w' T v q := owns_kept h ho hk
theorem Waits.form {w : World} {T : TypeId} {v : Value} {q : List Wr} (h : Waits w T v q) : ∃ a cap, v = .slice a q.length cap := by
  rcases h.2 with ⟨rfl, hn⟩ | ⟨g, cap, cur, rfl, _⟩
  · exact ⟨none, 0, by rw [hn]⟩
  · exact ⟨_, _, rfl⟩
theorem Waits.lt {w : World} {T : TypeId} {v : Value} {q : List Wr} (h : Waits w T v q) (k : Nat) (hk : v.ownBlock = some k) : k < w.heap.size := (World.ownsRow.lt h k hk).2
/-- Where one of the writes lies. -/
theorem Waits.at {w : World} {T : TypeId} {v : Value} {q : List Wr} (h : Waits w T v q) {i : Nat} {p : Wr} (hi : q[i]? = some p) :
    ∃ g cap, v = .slice (some ⟨g, 0, none⟩) q.length cap ∧ w.cell? ⟨g, i * 2, none⟩ = some (.int .i64 (p.1 : Int)) ∧ w.cell? ⟨g, i * 2 + 1, none⟩ = some (.string p.2) := by
  obtain ⟨hlt, _⟩ := List.getElem?_eq_some_iff.1 hi
  rcases h.2 with ⟨rfl, hn⟩ | ⟨g, cap, cur, rfl, _⟩
  · omega
  · have h0 := World.ownsRow.cellAt h (i * 2) (by omega)
    have h1 := World.ownsRow.cellAt h (i * 2 + 1) (by omega)
    have hp := pairs_at q i p hi
    exact ⟨g, cap, rfl, h0.trans hp.1, h1.trans hp.2⟩

/-- The disk at block g: n cells, what lasts, the writes that wait, whether it is dead; all of it lies in F. -/
structure DiskIn (w : World) (F : Nat → Prop) (g n : Nat) (l : Nat → ByteArray) (q : List Wr) (dead : Bool) (gc gl : Nat) (v : Value) : Prop where
  inn : F g ∧ F gc ∧ F gl ∧ ∀ k, v.ownBlock = some k → F k
  ne : gc ≠ gl
  low : 1 ≤ n
  high : n ≤ 512
  ats : ∀ p ∈ q, p.1 < n
  top : Blk w g 76 [.slice (some ⟨gc, 0, none⟩) n n, .slice (some ⟨gl, 0, none⟩) n n, v, .bool dead]
  cells : Blk w gc 9 (strs n (app l q))
  lasts : Blk w gl 9 (strs n l)
  row : Waits w 84 v q
  bound : ∀ k, F k → k < w.heap.size
def DiskAt (w : World) (F : Nat → Prop) (g n : Nat) (l : Nat → ByteArray) (q : List Wr) (dead : Bool) : Prop := ∃ gc gl v, DiskIn w F g n l q dead gc gl v
theorem DiskAt.kept {w w' : World} {F G : Nat → Prop} {g n : Nat} {l : Nat → ByteArray} {q : List Wr} {dead : Bool} (h : DiskAt w F g n l q dead) (ho : Kept G w w') (hd : ∀ k, F k → ¬ G k) : DiskAt w' F g n l q dead := by
  obtain ⟨gc, gl, v, h⟩ := h
  exact ⟨gc, gl, v, h.inn, h.ne, h.low, h.high, h.ats, h.top.kept ho (hd _ h.inn.1), h.cells.kept ho (hd _ h.inn.2.1), h.lasts.kept ho (hd _ h.inn.2.2.1), h.row.kept ho (fun k hk => hd _ (h.inn.2.2.2 k hk)), fun k hk => Nat.lt_of_lt_of_le (h.bound k hk) ho.size⟩
theorem DiskAt.bound {w : World} {F : Nat → Prop} {g n : Nat} {l : Nat → ByteArray} {q : List Wr} {dead : Bool} (h : DiskAt w F g n l q dead) : ∀ k, F k → k < w.heap.size := by
  obtain ⟨gc, gl, v, h⟩ := h; exact h.bound
theorem DiskAt.size {w : World} {F : Nat → Prop} {g n : Nat} {l : Nat → ByteArray} {q : List Wr} {dead : Bool} (h : DiskAt w F g n l q dead) : 1 ≤ n ∧ n ≤ 512 := by
  obtain ⟨gc, gl, v, h⟩ := h; exact ⟨h.low, h.high⟩
theorem DiskAt.ats {w : World} {F : Nat → Prop} {g n : Nat} {l : Nat → ByteArray} {q : List Wr} {dead : Bool} (h : DiskAt w F g n l q dead) : ∀ p ∈ q, p.1 < n := by
  obtain ⟨gc, gl, v, h⟩ := h; exact h.ats
theorem DiskAt.congr {w : World} {F : Nat → Prop} {g n : Nat} {l l' : Nat → ByteArray} {q : List Wr} {dead : Bool} (h : DiskAt w F g n l q dead) (e : ∀ i, i < n → l i = l' i) : DiskAt w F g n l' q dead := by
  obtain ⟨gc, gl, v, h⟩ := h
  refine ⟨gc, gl, v, h.inn, h.ne, h.low, h.high, h.ats, h.top, ?_, ?_, h.row, h.bound⟩
  · rw [strs_congr n _ _ fun i hi => (app_congr q n l l' e i hi).symm]; exact h.cells
  · rw [strs_congr n _ _ fun i hi => (e i hi).symm]; exact h.lasts
theorem DiskAt.drew {w : World} {F : Nat → Prop} {g n : Nat} {l : Nat → ByteArray} {q : List Wr} {dead : Bool} (h : DiskAt w F g n l q dead) : DiskAt w.drew F g n l q dead := h.kept (G := fun _ => False) (Kept.refl _ _).drew (fun _ _ h => h)
/-- The document's own disk at block g. -/
structure RefIn (w : World) (F : Nat → Prop) (g n : Nat) (l : Nat → ByteArray) (q : List Wr) (dead : Bool) (gc : Nat) (v : Value) : Prop where
  inn : F g ∧ F gc ∧ ∀ k, v.ownBlock = some k → F k
  low : 1 ≤ n
  high : n ≤ 512
  ats : ∀ p ∈ q, p.1 < n
  top : Blk w g 44 [.slice (some ⟨gc, 0, none⟩) n n, v, .bool dead]
  cells : Blk w gc 9 (strs n l)
  row : Waits w 90 v q
  bound : ∀ k, F k → k < w.heap.size
def RefAt (w : World) (F : Nat → Prop) (g n : Nat) (l : Nat → ByteArray) (q : List Wr) (dead : Bool) : Prop := ∃ gc v, RefIn w F g n l q dead gc v
theorem RefAt.kept {w w' : World} {F G : Nat → Prop} {g n : Nat} {l : Nat → ByteArray} {q : List Wr} {dead : Bool} (h : RefAt w F g n l q dead) (ho : Kept G w w') (hd : ∀ k, F k → ¬ G k) : RefAt w' F g n l q dead := by
  obtain ⟨gc, v, h⟩ := h
  exact ⟨gc, v, h.inn, h.low, h.high, h.ats, h.top.kept ho (hd _ h.inn.1), h.cells.kept ho (hd _ h.inn.2.1), h.row.kept ho (fun k hk => hd _ (h.inn.2.2 k hk)), fun k hk => Nat.lt_of_lt_of_le (h.bound k hk) ho.size⟩
theorem RefAt.bound {w : World} {F : Nat → Prop} {g n : Nat} {l : Nat → ByteArray} {q : List Wr} {dead : Bool} (h : RefAt w F g n l q dead) : ∀ k, F k → k < w.heap.size := by
  obtain ⟨gc, v, h⟩ := h; exact h.bound
theorem RefAt.congr {w : World} {F : Nat → Prop} {g n : Nat} {l l' : Nat → ByteArray} {q : List Wr} {dead : Bool} (h : RefAt w F g n l q dead) (e : ∀ i, i < n → l i = l' i) : RefAt w F g n l' q dead := by
  obtain ⟨gc, v, h⟩ := h
  exact ⟨gc, v, h.inn, h.low, h.high, h.ats, h.top, by rw [strs_congr n _ _ fun i hi => (e i hi).symm]; exact h.cells, h.row, h.bound⟩
/-- What a call of a disk leaves: the disk turned, nothing else; new memory alone is taken in. -/
def Turned (F : Nat → Prop) (w w' : World) (A : (Nat → Prop) → Prop) : Prop := ∃ F', A F' ∧ Kept F w w' ∧ ∀ k, F' k → F k ∨ w.heap.size ≤ k
theorem Turned.mono {F : Nat → Prop} {w w' : World} {A B : (Nat → Prop) → Prop} (h : Turned F w w' A) (hAB : ∀ F', A F' → B F') : Turned F w w' B := by
  obtain ⟨F', h1, h2, h3⟩ := h; exact ⟨F', hAB _ h1, h2, h3⟩
end Go.Proofs.Ytfepmafjkgjmmaa
