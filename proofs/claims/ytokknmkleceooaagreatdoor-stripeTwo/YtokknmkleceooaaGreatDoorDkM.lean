import Derived.WalkKit
import Derived.Test.YtokknmkleceooaaGreatDoorBaseM
import Derived.Maps.AppendAt
import Derived.Lib.SliceRun
import Derived.Laws.MakeOwn
import Derived.Deep.Matrix
import Derived.Deep.Grids
import Derived.SliceStrings
namespace Go.Proofs.YtokknmkleceooaaGreatDoor
set_option maxRecDepth 20000
open Go.RowKit
set_option linter.unusedVariables false
abbrev Wr := Nat × ByteArray
def upd (f : Nat → ByteArray) (p : Wr) : Nat → ByteArray := fun j => if j = p.1 then p.2 else f j
def app (f : Nat → ByteArray) : List Wr → (Nat → ByteArray)
  | [] => f
  | p :: r => app (upd f p) r
theorem app_append (a : List Wr) : ∀ (f : Nat → ByteArray) (b : List Wr), app f (a ++ b) = app (app f a) b := by
  induction a with
  | nil => intro f b; rfl
  | cons p r ih => intro f b; exact ih (upd f p) b
theorem app_snoc (f : Nat → ByteArray) (q : List Wr) (p : Wr) : app f (q ++ [p]) = upd (app f q) p := app_append q f [p]
theorem take_snoc (q : List Wr) (i : Nat) (p : Wr) (h : q[i]? = some p) : q.take (i + 1) = q.take i ++ [p] := by
  rw [List.take_add_one, h]; rfl
theorem app_or (q : List Wr) (at_ : Nat) : ∀ f : Nat → ByteArray, app f q at_ = f at_ ∨ ∃ p ∈ q, p.1 = at_ ∧ app f q at_ = p.2 := by
  induction q with
  | nil => intro f; exact .inl rfl
  | cons a r ih =>
    intro f
    rcases ih (upd f a) with h | ⟨p, hp, h1, h2⟩
    · have e : app f (a :: r) at_ = upd f a at_ := h
      by_cases ha : at_ = a.1
      · exact .inr ⟨a, List.mem_cons_self, ha.symm, by rw [e]; unfold upd; rw [if_pos ha]⟩
      · exact .inl (by rw [e]; unfold upd; rw [if_neg ha])
    · exact .inr ⟨p, List.mem_cons_of_mem _ hp, h1, h2⟩
def others (a : Nat) (q : List Wr) : List Wr := q.filter fun p => !(p.1 == a)
theorem app_others (a : Nat) (s : ByteArray) (q : List Wr) : ∀ f : Nat → ByteArray, app (upd f (a, s)) (others a q) = upd (app f q) (a, s) := by
  induction q with
  | nil => intro f; rfl
  | cons p r ih =>
    intro f
    have h := ih (upd f p)
    by_cases e : p.1 = a
    · have h1 : others a (p :: r) = others a r := by simp [others, e]
      have h2 : upd (upd f p) (a, s) = upd f (a, s) := by
        funext j; unfold upd; simp only
        by_cases ej : j = a
        · rw [if_pos ej, if_pos ej]
        · rw [if_neg ej, if_neg ej, if_neg (by rw [e]; exact ej)]
      rw [h1, ← h2]; exact h
    · have h1 : others a (p :: r) = p :: others a r := by simp [others, e]
      have h2 : upd (upd f p) (a, s) = upd (upd f (a, s)) p := by
        funext j; unfold upd; simp only
        by_cases ej : j = a
        · rw [if_pos ej, if_pos ej, if_neg (fun h => e (h.symm.trans ej))]
        · rw [if_neg ej, if_neg ej]
      rw [h1]
      show app (upd (upd f (a, s)) p) (others a r) = _
      rw [← h2]; exact h
theorem others_mem {a : Nat} {q : List Wr} {p : Wr} (h : p ∈ others a q) : p ∈ q := (List.mem_filter.1 h).1
theorem others_length (a : Nat) (q : List Wr) : (others a q).length ≤ q.length := List.length_filter_le _ _
theorem others_snoc (a : Nat) (q : List Wr) (p : Wr) : others a (q ++ [p]) = others a q ++ (if p.1 = a then [] else [p]) := by
  unfold others
  rw [List.filter_append]
  by_cases e : p.1 = a <;> simp [e]
theorem app_congr (q : List Wr) (n : Nat) : ∀ f f' : Nat → ByteArray, (∀ i, i < n → f i = f' i) → ∀ i, i < n → app f q i = app f' q i := by
  induction q with
  | nil => intro f f' h; exact h
  | cons p r ih =>
    intro f f' h
    refine ih (upd f p) (upd f' p) (fun i hi => ?_)
    unfold upd
    rw [h i hi]
open Go.RowKit Go.PlainAid
def strs (n : Nat) (f : Nat → ByteArray) : List Value := (List.range n).map fun i => .string (f i)
theorem strs_length (n : Nat) (f : Nat → ByteArray) : (strs n f).length = n := by simp [strs]
theorem strs_at (n : Nat) (f : Nat → ByteArray) (i : Nat) (h : i < n) : (strs n f)[i]? = some (.string (f i)) := by simp [strs, h]
theorem strs_congr (n : Nat) (f f' : Nat → ByteArray) (h : ∀ i, i < n → f i = f' i) : strs n f = strs n f' := by
  unfold strs; exact List.map_congr_left fun i hi => by rw [h i (List.mem_range.1 hi)]
theorem strs_set (n : Nat) (f : Nat → ByteArray) (k : Nat) (s : ByteArray) : (strs n f).set k (.string s) = strs n (upd f (k, s)) := by
  apply List.ext_getElem
  · simp [strs]
  · intro j h1 h2
    rw [List.getElem_set]
    simp only [strs, List.getElem_map, List.getElem_range, upd]
    by_cases e : k = j
    · rw [if_pos e, if_pos e.symm]
    · rw [if_neg e, if_neg (fun h => e h.symm)]
theorem strs_one (n : Nat) (f : Nat → ByteArray) : ∀ v ∈ strs n f, v.oneCell' = true := by
  intro v hv
  obtain ⟨i, _, rfl⟩ := List.mem_map.1 hv
  rfl
theorem strs_succ (n : Nat) (f : Nat → ByteArray) : strs (n + 1) f = strs n f ++ [.string (f n)] := by
  unfold strs; rw [List.range_succ, List.map_append]; rfl
def pairs (q : List Wr) : List Value := q.flatMap fun p => [.int .i64 (p.1 : Int), .string p.2]
theorem pairs_length (q : List Wr) : (pairs q).length = q.length * 2 := by
  induction q with
  | nil => rfl
  | cons p r ih => simp only [pairs, List.flatMap_cons, List.length_append, List.length_cons, List.length_nil] at ih ⊢; omega
theorem pairs_append (a b : List Wr) : pairs (a ++ b) = pairs a ++ pairs b := by simp [pairs]
theorem pairs_at (q : List Wr) : ∀ i p, q[i]? = some p → (pairs q)[i * 2]? = some (.int .i64 (p.1 : Int)) ∧ (pairs q)[i * 2 + 1]? = some (.string p.2) := by
  induction q with
  | nil => intro i p h; simp at h
  | cons a r ih =>
    intro i p h
    cases i with
    | zero => simp at h; subst h; exact ⟨rfl, rfl⟩
    | succ i =>
      have := ih i p (by simpa using h)
      rw [show (i + 1) * 2 = i * 2 + 1 + 1 by omega]
      exact this
theorem pairs_one (q : List Wr) : ∀ v ∈ pairs q, v.oneCell' = true := by
  intro v hv
  obtain ⟨p, _, hp⟩ := List.mem_flatMap.1 hv
  simp at hp
  rcases hp with rfl | rfl <;> rfl
def Waits (w : World) (T : TypeId) (v : Value) (q : List Wr) : Prop := w.ownsRow 0 T 2 v q.length (pairs q)
theorem Waits.nil (w : World) (T : TypeId) : Waits w T (.slice none 0 0) [] := World.ownsRow_nil _ _ _ _
theorem Waits.kept {F : Nat → Prop} {w w' : World} {T : TypeId} {v : Value} {q : List Wr} (h : Waits w T v q) (ho : Kept F w w') (hk : ∀ k, v.ownBlock = some k → ¬ F k) : Waits w' T v q := owns_kept h ho hk
theorem Waits.form {w : World} {T : TypeId} {v : Value} {q : List Wr} (h : Waits w T v q) : ∃ a cap, v = .slice a q.length cap := by
  rcases h.2 with ⟨rfl, hn⟩ | ⟨g, cap, cur, rfl, _⟩
  · exact ⟨none, 0, by rw [hn]⟩
  · exact ⟨_, _, rfl⟩
theorem Waits.lt {w : World} {T : TypeId} {v : Value} {q : List Wr} (h : Waits w T v q) (k : Nat) (hk : v.ownBlock = some k) : k < w.heap.size := (World.ownsRow.lt h k hk).2
theorem Waits.at {w : World} {T : TypeId} {v : Value} {q : List Wr} (h : Waits w T v q) {i : Nat} {p : Wr} (hi : q[i]? = some p) :
    ∃ g cap, v = .slice (some ⟨g, 0, none⟩) q.length cap ∧ w.cell? ⟨g, i * 2, none⟩ = some (.int .i64 (p.1 : Int)) ∧ w.cell? ⟨g, i * 2 + 1, none⟩ = some (.string p.2) := by
  obtain ⟨hlt, _⟩ := List.getElem?_eq_some_iff.1 hi
  rcases h.2 with ⟨rfl, hn⟩ | ⟨g, cap, cur, rfl, _⟩
  · omega
  · have h0 := World.ownsRow.cellAt h (i * 2) (by omega)
    have h1 := World.ownsRow.cellAt h (i * 2 + 1) (by omega)
    have hp := pairs_at q i p hi
    exact ⟨g, cap, rfl, h0.trans hp.1, h1.trans hp.2⟩
structure DiskIn (w : World) (F : Nat → Prop) (g n : Nat) (l : Nat → ByteArray) (q : List Wr) (dead : Bool) (gc gl : Nat) (v : Value) : Prop where
  inn : F g ∧ F gc ∧ F gl ∧ ∀ k, v.ownBlock = some k → F k
  ne : gc ≠ gl
  low : 1 ≤ n
  high : n ≤ 512
  ats : ∀ p ∈ q, p.1 < n
  top : Blk w g 130 [.slice (some ⟨gc, 0, none⟩) n n, .slice (some ⟨gl, 0, none⟩) n n, v, .bool dead]
  cells : Blk w gc 9 (strs n (app l q))
  lasts : Blk w gl 9 (strs n l)
  row : Waits w 158 v q
  bound : ∀ k, F k → k < w.heap.size
def DiskAt (w : World) (F : Nat → Prop) (g n : Nat) (l : Nat → ByteArray) (q : List Wr) (dead : Bool) : Prop := ∃ gc gl v, DiskIn w F g n l q dead gc gl v
theorem DiskAt.kept {w w' : World} {F G : Nat → Prop} {g n : Nat} {l : Nat → ByteArray} {q : List Wr} {dead : Bool} (h : DiskAt w F g n l q dead) (ho : Kept G w w') (hd : ∀ k, F k → ¬ G k) : DiskAt w' F g n l q dead := by
  obtain ⟨gc, gl, v, h⟩ := h
  exact ⟨gc, gl, v, h.inn, h.ne, h.low, h.high, h.ats, h.top.kept ho (hd _ h.inn.1), h.cells.kept ho (hd _ h.inn.2.1), h.lasts.kept ho (hd _ h.inn.2.2.1), h.row.kept ho (fun k hk => hd _ (h.inn.2.2.2 k hk)), fun k hk => Nat.lt_of_lt_of_le (h.bound k hk) ho.size⟩
theorem DiskAt.bound {w : World} {F : Nat → Prop} {g n : Nat} {l : Nat → ByteArray} {q : List Wr} {dead : Bool} (h : DiskAt w F g n l q dead) : ∀ k, F k → k < w.heap.size := by
  obtain ⟨gc, gl, v, h⟩ := h; exact h.bound
theorem DiskAt.size {w : World} {F : Nat → Prop} {g n : Nat} {l : Nat → ByteArray} {q : List Wr} {dead : Bool} (h : DiskAt w F g n l q dead) : 1 ≤ n ∧ n ≤ 512 := by
  obtain ⟨gc, gl, v, h⟩ := h; exact ⟨h.low, h.high⟩
theorem DiskAt.ats {w : World} {F : Nat → Prop} {g n : Nat} {l : Nat → ByteArray} {q : List Wr} {dead : Bool} (h : DiskAt w F g n l q dead) : ∀ p ∈ q, p.1 < n := by
  obtain ⟨gc, gl, v, h⟩ := h; exact h.ats
theorem DiskAt.congr {w : World} {F : Nat → Prop} {g n : Nat} {l l' : Nat → ByteArray} {q : List Wr} {dead : Bool} (h : DiskAt w F g n l q dead) (e : ∀ i, i < n → l i = l' i) : DiskAt w F g n l' q dead := by
  obtain ⟨gc, gl, v, h⟩ := h
  refine ⟨gc, gl, v, h.inn, h.ne, h.low, h.high, h.ats, h.top, ?_, ?_, h.row, h.bound⟩
  · rw [strs_congr n _ _ fun i hi => (app_congr q n l l' e i hi).symm]; exact h.cells
  · rw [strs_congr n _ _ fun i hi => (e i hi).symm]; exact h.lasts
theorem DiskAt.drew {w : World} {F : Nat → Prop} {g n : Nat} {l : Nat → ByteArray} {q : List Wr} {dead : Bool} (h : DiskAt w F g n l q dead) : DiskAt w.drew F g n l q dead := h.kept (G := fun _ => False) (Kept.refl _ _).drew (fun _ _ h => h)
structure RefIn (w : World) (F : Nat → Prop) (g n : Nat) (l : Nat → ByteArray) (q : List Wr) (dead : Bool) (gc : Nat) (v : Value) : Prop where
  inn : F g ∧ F gc ∧ ∀ k, v.ownBlock = some k → F k
  low : 1 ≤ n
  high : n ≤ 512
  ats : ∀ p ∈ q, p.1 < n
  top : Blk w g 154 [.slice (some ⟨gc, 0, none⟩) n n, v, .bool dead]
  cells : Blk w gc 9 (strs n l)
  row : Waits w 161 v q
  bound : ∀ k, F k → k < w.heap.size
def RefAt (w : World) (F : Nat → Prop) (g n : Nat) (l : Nat → ByteArray) (q : List Wr) (dead : Bool) : Prop := ∃ gc v, RefIn w F g n l q dead gc v
theorem RefAt.kept {w w' : World} {F G : Nat → Prop} {g n : Nat} {l : Nat → ByteArray} {q : List Wr} {dead : Bool} (h : RefAt w F g n l q dead) (ho : Kept G w w') (hd : ∀ k, F k → ¬ G k) : RefAt w' F g n l q dead := by
  obtain ⟨gc, v, h⟩ := h
  exact ⟨gc, v, h.inn, h.low, h.high, h.ats, h.top.kept ho (hd _ h.inn.1), h.cells.kept ho (hd _ h.inn.2.1), h.row.kept ho (fun k hk => hd _ (h.inn.2.2 k hk)), fun k hk => Nat.lt_of_lt_of_le (h.bound k hk) ho.size⟩
theorem RefAt.bound {w : World} {F : Nat → Prop} {g n : Nat} {l : Nat → ByteArray} {q : List Wr} {dead : Bool} (h : RefAt w F g n l q dead) : ∀ k, F k → k < w.heap.size := by
  obtain ⟨gc, v, h⟩ := h; exact h.bound
theorem RefAt.congr {w : World} {F : Nat → Prop} {g n : Nat} {l l' : Nat → ByteArray} {q : List Wr} {dead : Bool} (h : RefAt w F g n l q dead) (e : ∀ i, i < n → l i = l' i) : RefAt w F g n l' q dead := by
  obtain ⟨gc, v, h⟩ := h
  exact ⟨gc, v, h.inn, h.low, h.high, h.ats, h.top, by rw [strs_congr n _ _ fun i hi => (e i hi).symm]; exact h.cells, h.row, h.bound⟩
def errD (dead : Bool) : Int := if dead = true then 20 else 0
def errA (dead : Bool) (n : Nat) (at_ : Int) : Int := if dead = true then 20 else if at_ < 0 ∨ (n : Int) ≤ at_ then 2 else 0
theorem errA_dead (n : Nat) (at_ : Int) : errA true n at_ = 20 := rfl
theorem errA_low (n : Nat) (at_ : Int) (h : at_ < 0 ∨ (n : Int) ≤ at_) : errA false n at_ = 2 := by unfold errA; rw [if_neg (by decide), if_pos h]
theorem errA_ok (n k : Nat) (h : k < n) : errA false n (k : Int) = 0 := by unfold errA; rw [if_neg (by decide), if_neg (by omega)]
theorem errA_cases (dead : Bool) (n : Nat) (at_ : Int) : dead = true ∨ (dead = false ∧ (at_ < 0 ∨ (n : Int) ≤ at_)) ∨ (dead = false ∧ ∃ k : Nat, at_ = (k : Int) ∧ k < n) := by
  cases dead
  · by_cases h : at_ < 0 ∨ (n : Int) ≤ at_
    · exact .inr (.inl ⟨rfl, h⟩)
    · exact .inr (.inr ⟨rfl, at_.toNat, by omega, by omega⟩)
  · exact .inl rfl
theorem usable_any {F : Nat → Prop} {g n : Nat} {l : Nat → ByteArray} {q : List Wr} {dead : Bool} {w : World} (h : DiskAt w F g n l q dead) :
    Calls Tryz.prog 81 #[.pointer (some ⟨g, 0, none⟩)] w fun e w' => e = .returned (.int .i64 (errD dead)) ∧ w' = w := by
  obtain ⟨gc, gl, v, h⟩ := h
  have c3 := h.top.cell (i := 3) rfl
  clear h
  cases dead
  · go_enter Tryz.func81, Tryz.ntmps81
    go_wp2
    go_ret
    exact ⟨rfl, rfl⟩
  · go_enter Tryz.func81, Tryz.ntmps81
    go_wp2
    go_ret
    exact ⟨rfl, rfl⟩
theorem reach_any {F : Nat → Prop} {g n : Nat} {l : Nat → ByteArray} {q : List Wr} {dead : Bool} {w : World} (h : DiskAt w F g n l q dead) (at_ : Int) :
    Calls Tryz.prog 82 #[.pointer (some ⟨g, 0, none⟩), .int .i64 at_] w fun e w' => e = .returned (.int .i64 (errA dead n at_)) ∧ w' = w := by
  have hu := usable_any h
  have hsz := h.size
  obtain ⟨gc, gl, v, h⟩ := h
  have c0 := h.top.cell (i := 0) rfl
  clear h
  rcases errA_cases dead n at_ with rfl | ⟨rfl, ha⟩ | ⟨rfl, k, rfl, hk⟩
  · rw [errA_dead]
    go_enter Tryz.func82, Tryz.ntmps82
    go_wp2_with (go_at_call 81; refine hu.mono ?_; rintro e w' ⟨rfl, rfl⟩; rw [show errD true = 20 from rfl])
    go_ret
    exact ⟨rfl, rfl⟩
  · rw [errA_low n at_ ha]
    have HA : Hid (at_ < 0 ∨ (n : Int) ≤ at_) := ha
    clear ha
    by_cases h0 : at_ < 0
    · go_enter Tryz.func82, Tryz.ntmps82
      go_wp2_with (go_at_call 81; refine hu.mono ?_; rintro e w' ⟨rfl, rfl⟩; rw [show errD false = 0 from rfl])
      go_ret
      exact ⟨rfl, rfl⟩
    · have h1 : (n : Int) ≤ at_ := HA.out.resolve_left h0
      go_enter Tryz.func82, Tryz.ntmps82
      go_wp2_with (go_at_call 81; refine hu.mono ?_; rintro e w' ⟨rfl, rfl⟩; rw [show errD false = 0 from rfl])
      go_ret
      exact ⟨rfl, rfl⟩
  · rw [errA_ok n k hk]
    have hk' : ¬ (n : Int) ≤ (k : Int) := by omega
    have hk0 : ¬ (k : Int) < 0 := by omega
    go_enter Tryz.func82, Tryz.ntmps82
    go_wp2_with (go_at_call 81; refine hu.mono ?_; rintro e w' ⟨rfl, rfl⟩; rw [show errD false = 0 from rfl])
    go_ret
    exact ⟨rfl, rfl⟩
def readB (l : Nat → ByteArray) (q : List Wr) (dead : Bool) (n : Nat) (at_ : Int) : ByteArray := if errA dead n at_ = 0 then app l q at_.toNat else noB
theorem read_any {F : Nat → Prop} {g n : Nat} {l : Nat → ByteArray} {q : List Wr} {dead : Bool} {w : World} (h : DiskAt w F g n l q dead) (at_ : Int) :
    Calls Tryz.prog 102 #[.pointer (some ⟨g, 0, none⟩), .int .i64 at_] w fun e w' => e = .returned (.tuple #[.string (readB l q dead n at_), .int .i64 (errA dead n at_)]) ∧ w' = w := by
  have hu := reach_any h at_
  have hsz := h.size
  obtain ⟨gc, gl, v, h⟩ := h
  have c0 := h.top.cell (i := 0) rfl
  obtain ⟨E, hE⟩ : ∃ E, errA dead n at_ = E := ⟨_, rfl⟩
  unfold readB
  by_cases h0 : E = 0
  · subst h0
    rcases errA_cases dead n at_ with rfl | ⟨rfl, ha⟩ | ⟨rfl, k, rfl, hk⟩
    · rw [errA_dead] at hE; exact absurd hE (by decide)
    · rw [errA_low n at_ ha] at hE; exact absurd hE (by decide)
    · have ck := h.cells.cell (strs_at n (app l q) k hk)
      rw [hE] at hu
      rw [hE, if_pos rfl, Int.toNat_natCast]
      clear h hE
      obtain ⟨s, hs⟩ : ∃ s, app l q k = s := ⟨_, rfl⟩
      rw [hs] at ck ⊢
      clear hs
      go_enter Tryz.func102, Tryz.ntmps102
      go_wp2_with (go_at_call 82; refine hu.mono ?_; rintro e w' ⟨rfl, rfl⟩)
      go_ret2
      exact ⟨rfl, rfl⟩
  · rw [hE] at hu
    rw [hE, if_neg h0]
    have hb : (E == 0) = false := by simpa using h0
    clear h hE
    go_enter Tryz.func102, Tryz.ntmps102
    go_wp2_with (go_at_call 82; refine hu.mono ?_; rintro e w' ⟨rfl, rfl⟩)
    go_ret2
    exact ⟨rfl, rfl⟩
theorem Tryz.info9 : (Tryz.prog.info? 9).map (fun i => (i.zero, i.size, i.bytes)) = some (some (.string noB), 1, 16) := by kernel_rfl
theorem made_strs (n : Nat) : madeCells (Value.string noB).cells (n * 1) = (strs n fun _ => noB).toArray := by
  apply Array.ext
  · simp [madeCells, strs]
  · intro i h1 h2
    simp [madeCells, strs, Value.cells, Nat.mod_one]
theorem make_strs (n : Nat) (h : n ≤ 512) (w : World) : (Instr.makeSlice 23 (.int .i64 (n : Int)) (.int .i64 (n : Int))).run Tryz.prog w = .ok (.slice (some ⟨w.heap.size, 0, none⟩) n n) (w.alloc (.cells (strs n fun _ => noB).toArray 9)) := by
  obtain ⟨i0, hi, hz0, hz1, hz2⟩ := info_parts Tryz.info9
  have hr := run_make (P := Tryz.prog) w 23 9 i0 (.string noB) Tryz.underlying23 hi hz0 .i64 .i64 n n (by omega) (by omega) (by rw [hz2]; omega) (by omega)
  rw [hz1, Int.toNat_natCast, made_strs] at hr
  exact hr
def newN (c : Int) : Nat := if c < 1 then 1 else if 512 < c then 512 else c.toNat
theorem newN_low (c : Int) : 1 ≤ newN c ∧ newN c ≤ 512 := by
  unfold newN
  split
  · omega
  · split <;> omega
theorem new_at (c : Int) (w : World) : Calls Tryz.prog 68 #[.int .i64 c] w fun e w' => ∃ g, e = .returned (.pointer (some ⟨g, 0, none⟩)) ∧ ∃ F, DiskAt w' F g (newN c) (fun _ => noB) [] false ∧ Below w.heap.size w w' ∧ ∀ k, F k → w.heap.size ≤ k := by
  obtain ⟨n, hn⟩ : ∃ n, newN c = n := ⟨_, rfl⟩
  have hl := newN_low c
  rw [hn] at hl ⊢
  have hmk := make_strs n hl.2
  obtain ⟨Z, hZ⟩ : ∃ Z, (strs n fun _ => noB) = Z := ⟨_, rfl⟩
  rw [hZ] at hmk
  have hfin : ∀ a b : Nat, a ≠ b → (a = w.heap.size ∨ b = w.heap.size) → (a = w.heap.size + 1 ∨ b = w.heap.size + 1) → ∀ wn, wn = ((w.alloc (.cells Z.toArray 9)).alloc (.cells Z.toArray 9)).alloc (.cells #[.slice (some ⟨a, 0, none⟩) n n, .slice (some ⟨b, 0, none⟩) n n, .slice none 0 0, .bool false] 130) →
      ∃ F, DiskAt wn.drew F (w.heap.size + 1 + 1) n (fun _ => noB) [] false ∧ Below w.heap.size w wn.drew ∧ ∀ k, F k → w.heap.size ≤ k := by
    intro a b hne h0 h1 wn rfl
    have hB : Below w.heap.size w (((w.alloc (.cells Z.toArray 9)).alloc (.cells Z.toArray 9)).alloc (.cells #[.slice (some ⟨a, 0, none⟩) n n, .slice (some ⟨b, 0, none⟩) n n, .slice none 0 0, .bool false] 130)) :=
      (((Below.refl _ _).alloc (Nat.le_refl _) _).alloc (by simp) _).alloc (by simp; omega) _
    have b1 := ((Blk.new w 9 Z.toArray).alloc (.cells Z.toArray 9)).alloc (.cells #[.slice (some ⟨a, 0, none⟩) n n, .slice (some ⟨b, 0, none⟩) n n, .slice none 0 0, .bool false] 130)
    have b2 := (Blk.new (w.alloc (.cells Z.toArray 9)) 9 Z.toArray).alloc (.cells #[.slice (some ⟨a, 0, none⟩) n n, .slice (some ⟨b, 0, none⟩) n n, .slice none 0 0, .bool false] 130)
    have b3 := Blk.new ((w.alloc (.cells Z.toArray 9)).alloc (.cells Z.toArray 9)) 130 #[.slice (some ⟨a, 0, none⟩) n n, .slice (some ⟨b, 0, none⟩) n n, .slice none 0 0, .bool false]
    have e1 : (w.alloc (.cells Z.toArray 9)).heap.size = w.heap.size + 1 := by simp
    have e2 : ((w.alloc (.cells Z.toArray 9)).alloc (.cells Z.toArray 9)).heap.size = w.heap.size + 2 := by simp
    rw [e1] at b2
    rw [e2] at b3
    rw [List.toList_toArray] at b1 b2
    refine ⟨fun k => w.heap.size ≤ k ∧ k < w.heap.size + 3, DiskAt.drew ⟨a, b, .slice none 0 0, ⟨⟨by omega, by omega⟩, ⟨by omega, by omega⟩, ⟨by omega, by omega⟩, fun k h => (by cases h)⟩, hne, hl.1, hl.2, fun p hp => (by cases hp), b3, ?_, ?_, Waits.nil _ _, fun k hk => (by rw [World.size_alloc, e2]; exact hk.2)⟩, hB.drew, fun k hk => hk.1⟩
    · show Blk _ a 9 (strs n fun _ => noB)
      rw [hZ]
      rcases h0 with rfl | rfl
      · exact b1
      · obtain rfl : a = w.heap.size + 1 := by omega
        exact b2
    · rw [hZ]
      rcases h0 with rfl | rfl
      · obtain rfl : b = w.heap.size + 1 := by omega
        exact b2
      · exact b1
  have HF : Hid _ := hfin
  clear hfin hZ
  unfold newN at hn
  by_cases h1 : c < 1
  · rw [if_pos h1] at hn
    subst hn
    replace hmk : ∀ w : World, (Instr.makeSlice 23 (.int .i64 1) (.int .i64 1)).run Tryz.prog w = .ok (.slice (some ⟨w.heap.size, 0, none⟩) 1 1) (w.alloc (.cells Z.toArray 9)) := hmk
    go_enter Tryz.func68, Tryz.ntmps68
    go_wp2_with fail
    go_region
    all_goals
      go_wp2_with fail
      go_ret
      first
      | exact ⟨_, rfl, HF.out w.heap.size (w.heap.size + 1) (by omega) (by omega) (by omega) _ rfl⟩
      | exact ⟨_, rfl, HF.out (w.heap.size + 1) w.heap.size (by omega) (by omega) (by omega) _ rfl⟩
  · rw [if_neg h1] at hn
    by_cases h2 : 512 < c
    · rw [if_pos h2] at hn
      subst hn
      replace hmk : ∀ w : World, (Instr.makeSlice 23 (.int .i64 512) (.int .i64 512)).run Tryz.prog w = .ok (.slice (some ⟨w.heap.size, 0, none⟩) 512 512) (w.alloc (.cells Z.toArray 9)) := hmk
      go_enter Tryz.func68, Tryz.ntmps68
      go_wp2_with fail
      go_region
      all_goals
        go_wp2_with fail
        go_ret
        first
        | exact ⟨_, rfl, HF.out w.heap.size (w.heap.size + 1) (by omega) (by omega) (by omega) _ rfl⟩
        | exact ⟨_, rfl, HF.out (w.heap.size + 1) w.heap.size (by omega) (by omega) (by omega) _ rfl⟩
    · rw [if_neg h2] at hn
      obtain rfl : c = (n : Int) := by omega
      clear hn
      go_enter Tryz.func68, Tryz.ntmps68
      go_wp2_with fail
      go_region
      all_goals
        go_wp2_with fail
        go_ret
        first
        | exact ⟨_, rfl, HF.out w.heap.size (w.heap.size + 1) (by omega) (by omega) (by omega) _ rfl⟩
        | exact ⟨_, rfl, HF.out (w.heap.size + 1) w.heap.size (by omega) (by omega) (by omega) _ rfl⟩
theorem refNew_at (c : Int) (w : World) : Calls Tryz.prog 69 #[.int .i64 c] w fun e w' => ∃ g, e = .returned (.pointer (some ⟨g, 0, none⟩)) ∧ ∃ F, RefAt w' F g (newN c) (fun _ => noB) [] false ∧ Below w.heap.size w w' ∧ ∀ k, F k → w.heap.size ≤ k := by
  obtain ⟨n, hn⟩ : ∃ n, newN c = n := ⟨_, rfl⟩
  have hl := newN_low c
  rw [hn] at hl ⊢
  have hmk := make_strs n hl.2
  obtain ⟨Z, hZ⟩ : ∃ Z, (strs n fun _ => noB) = Z := ⟨_, rfl⟩
  rw [hZ] at hmk
  have HF : Hid (∃ F, RefAt ((w.alloc (.cells Z.toArray 9)).alloc (.cells #[.slice (some ⟨w.heap.size, 0, none⟩) n n, .slice none 0 0, .bool false] 154)) F (w.heap.size + 1) n (fun _ => noB) [] false ∧ Below w.heap.size w ((w.alloc (.cells Z.toArray 9)).alloc (.cells #[.slice (some ⟨w.heap.size, 0, none⟩) n n, .slice none 0 0, .bool false] 154)) ∧ ∀ k, F k → w.heap.size ≤ k) := by
    have hB : Below w.heap.size w ((w.alloc (.cells Z.toArray 9)).alloc (.cells #[.slice (some ⟨w.heap.size, 0, none⟩) n n, .slice none 0 0, .bool false] 154)) :=
      ((Below.refl _ _).alloc (Nat.le_refl _) _).alloc (by simp) _
    have b1 := (Blk.new w 9 Z.toArray).alloc (.cells #[.slice (some ⟨w.heap.size, 0, none⟩) n n, .slice none 0 0, .bool false] 154)
    have b3 := Blk.new (w.alloc (.cells Z.toArray 9)) 154 #[.slice (some ⟨w.heap.size, 0, none⟩) n n, .slice none 0 0, .bool false]
    have e1 : (w.alloc (.cells Z.toArray 9)).heap.size = w.heap.size + 1 := by simp
    rw [e1] at b3
    rw [List.toList_toArray] at b1
    exact ⟨fun k => w.heap.size ≤ k ∧ k < w.heap.size + 2, ⟨w.heap.size, .slice none 0 0, ⟨⟨by omega, by omega⟩, ⟨by omega, by omega⟩, fun k h => (by cases h)⟩, hl.1, hl.2, fun p hp => (by cases hp), b3, by rw [hZ]; exact b1, Waits.nil _ _, fun k hk => (by rw [World.size_alloc, e1]; exact hk.2)⟩, hB, fun k hk => hk.1⟩
  clear hZ
  unfold newN at hn
  by_cases h1 : c < 1
  · rw [if_pos h1] at hn
    subst hn
    replace hmk : ∀ w : World, (Instr.makeSlice 23 (.int .i64 1) (.int .i64 1)).run Tryz.prog w = .ok (.slice (some ⟨w.heap.size, 0, none⟩) 1 1) (w.alloc (.cells Z.toArray 9)) := hmk
    go_enter Tryz.func69, Tryz.ntmps69
    go_wp2_with fail
    go_ret
    obtain ⟨F, k1, k2, k3⟩ := HF.out
    exact ⟨_, rfl, F, k1, k2, k3⟩
  · rw [if_neg h1] at hn
    by_cases h2 : 512 < c
    · rw [if_pos h2] at hn
      subst hn
      replace hmk : ∀ w : World, (Instr.makeSlice 23 (.int .i64 512) (.int .i64 512)).run Tryz.prog w = .ok (.slice (some ⟨w.heap.size, 0, none⟩) 512 512) (w.alloc (.cells Z.toArray 9)) := hmk
      go_enter Tryz.func69, Tryz.ntmps69
      go_wp2_with fail
      go_ret
      obtain ⟨F, k1, k2, k3⟩ := HF.out
      exact ⟨_, rfl, F, k1, k2, k3⟩
    · rw [if_neg h2] at hn
      obtain rfl : c = (n : Int) := by omega
      clear hn
      go_enter Tryz.func69, Tryz.ntmps69
      go_wp2_with fail
      go_ret
      obtain ⟨F, k1, k2, k3⟩ := HF.out
      exact ⟨_, rfl, F, k1, k2, k3⟩
theorem Tryz.info158 : (Tryz.prog.info? 158).map (fun i => (i.zero, i.size, i.bytes)) = some (some (.agg #[.int .i64 0, .string noB]), 2, 24) := by kernel_rfl
theorem Tryz.info161 : (Tryz.prog.info? 161).map (fun i => (i.zero, i.size, i.bytes)) = some (some (.agg #[.int .i64 0, .string noB]), 2, 24) := by kernel_rfl
theorem wpList_append_run {P : Program} {ops : Array Oper} {rest : List Oper} {o : Oper} {a : Act} {w : World} {Q : Exit → Act → World → Prop} (hgd : o.guard = none) (s x : Operand) (t tn : TypeId)
    (ho : o.op = .call { callee := .builtin .append, args := #[s, x], argTypes := #[t, tn] }) (vs vx : Value) (hs : a.eval s = vs) (hx : a.eval x = vx)
    (v' : Value) (w' : World) (hr : (Builtin.append_ #[t, tn] o.type #[vs, vx]).run P w = .ok v' w') (h : wpList P ops Q rest (a.put o.dst v') w') : wpList P ops Q (o :: rest) a w :=
  wpList_plain hgd fun K hK => by
    unfold Oper.wp
    simp [execOp, ho, resolve, invoke, builtin, hs, hx, hr, Result.andThen]
    exact hK _ _ h
theorem waits_push (sl T ty : TypeId) (hu : Tryz.prog.underlying sl = some (.slice T)) (hT : (Tryz.prog.info? T).map (fun i => (i.zero, i.size, i.bytes)) = some (some (.agg #[.int .i64 0, .string noB]), 2, 24))
    (w : World) (v : Value) (q : List Wr) (h : Waits w T v q) (p : Wr) (hq : q.length ≤ 1000000) :
    ∃ g' cap' w', (Builtin.append_ #[sl, sl] ty #[v, .slice (some ⟨w.heap.size, 0, none⟩) 1 1]).run Tryz.prog (w.alloc (.cells #[.int .i64 (p.1 : Int), .string p.2] T)) = .ok (.slice (some ⟨g', 0, none⟩) (q.length + 1) cap') w' ∧
      Waits w' T (.slice (some ⟨g', 0, none⟩) (q.length + 1) cap') (q ++ [p]) ∧ (w.alloc (.cells #[.int .i64 (p.1 : Int), .string p.2] T)).grownBy w' v.ownBlock ∧ (some g' = v.ownBlock ∨ w.heap.size ≤ g') := by
  obtain ⟨i0, hi, hz0, hz1, hz2⟩ := info_parts hT
  have hnews : ∀ (j : Nat) u, [Value.int .i64 (p.1 : Int), Value.string p.2][j]? = some u → (w.alloc (.cells #[.int .i64 (p.1 : Int), .string p.2] T)).cell? ((⟨w.heap.size, 0, none⟩ : Addr).add j) = some u := fun j u hj => by
    match j, hj with
    | 0, hj => simp at hj; subst hj; simp only [Addr.add]; exact (Blk.new w T #[.int .i64 (p.1 : Int), .string p.2]).cell rfl
    | 1, hj => simp at hj; subst hj; simp only [Addr.add]; exact (Blk.new w T #[.int .i64 (p.1 : Int), .string p.2]).cell rfl
  obtain ⟨v', w', hrun, hown, hgrow, _, hat⟩ := run_append_own_at (P := Tryz.prog) (w.alloc (.cells #[.int .i64 (p.1 : Int), .string p.2] T)) 0 sl ty T i0 (.agg #[.int .i64 0, .string noB]) 2 24 hu hi hz0 hz1 hz2 rfl (by decide) v q.length (pairs q) (World.ownsRow.alloc h _)
    ⟨w.heap.size, 0, none⟩ 1 1 [.int .i64 (p.1 : Int), .string p.2] rfl hnews (fun u hu => by simp at hu; rcases hu with rfl | rfl <;> rfl) (by unfold maxLen; omega) (by omega) (Nat.zero_le _)
  have hw : Waits w' T v' (q ++ [p]) := by
    unfold Waits
    rw [List.length_append, pairs_append]
    exact hown
  rcases hown.2 with ⟨_, h0⟩ | ⟨g', cap', cur, rfl, _⟩
  · omega
  · refine ⟨g', cap', w', hrun, hw, hgrow, ?_⟩
    rcases hat with h | h
    · exact .inl h
    · have h2 : g' = (w.alloc (.cells #[.int .i64 (p.1 : Int), .string p.2] T)).heap.size := Option.some.inj h
      rw [World.size_alloc] at h2
      exact .inr (by omega)
def errW (dead : Bool) (n : Nat) (at_ : Int) (s : ByteArray) : Int := if errA dead n at_ = 0 then (if 2048 < s.size then 5 else 0) else errA dead n at_
def putQ (q : List Wr) (dead : Bool) (n : Nat) (at_ : Int) (s : ByteArray) : List Wr := if errW dead n at_ s = 0 then q ++ [(at_.toNat, s)] else q
theorem errW_cases (dead : Bool) (n : Nat) (at_ : Int) (s : ByteArray) : (∃ E, errA dead n at_ = E ∧ E ≠ 0 ∧ errW dead n at_ s = E) ∨ (errA dead n at_ = 0 ∧ errW dead n at_ s = 5 ∧ 2048 < s.size) ∨ (dead = false ∧ errW dead n at_ s = 0 ∧ s.size ≤ 2048 ∧ ∃ k : Nat, at_ = (k : Int) ∧ k < n) := by
  unfold errW
  by_cases h : errA dead n at_ = 0
  · rw [if_pos h]
    by_cases hs : 2048 < s.size
    · exact .inr (.inl ⟨h, by rw [if_pos hs], hs⟩)
    · refine .inr (.inr ?_)
      rcases errA_cases dead n at_ with rfl | ⟨rfl, ha⟩ | ⟨rfl, hk⟩
      · rw [errA_dead] at h; exact absurd h (by decide)
      · rw [errA_low n at_ ha] at h; exact absurd h (by decide)
      · exact ⟨rfl, by rw [if_neg hs], by omega, hk⟩
  · exact .inl ⟨_, rfl, h, by rw [if_neg h]⟩
theorem DiskIn.turn {w w' : World} {F : Nat → Prop} {g n : Nat} {l : Nat → ByteArray} {q : List Wr} {dead : Bool} (h : DiskAt w F g n l q dead) : Turned F w w (fun F' => DiskAt w F' g n l q dead) := ⟨F, h, Kept.refl _ _, fun k hk => .inl hk⟩
theorem dkWrite_any {F : Nat → Prop} {g n : Nat} {l : Nat → ByteArray} {q : List Wr} {dead : Bool} {w : World} (h : DiskAt w F g n l q dead) (at_ : Int) (s : ByteArray) (hq : q.length ≤ 1000000) :
    Calls Tryz.prog 122 #[.pointer (some ⟨g, 0, none⟩), .int .i64 at_, .string s] w fun e w' => e = .returned (.int .i64 (errW dead n at_ s)) ∧ Turned F w w' (fun F' => DiskAt w' F' g n l (putQ q dead n at_ s) dead) := by
  have hu := reach_any h at_
  have h' := h
  obtain ⟨gc, gl, v, h⟩ := h
  unfold putQ
  rcases errW_cases dead n at_ s with ⟨E, hE, h0, hW⟩ | ⟨hE, hW, hs⟩ | ⟨rfl, hW, hs, k, rfl, hk⟩
  · rw [hW, if_neg h0]
    rw [hE] at hu
    have hb : (E == 0) = false := by simpa using h0
    have HT : Hid _ := DiskIn.turn (w' := w) h'
    clear h hE hW h0 h'
    go_enter Tryz.func122, Tryz.ntmps122
    go_wp2_with (go_at_call 82; refine hu.mono ?_; rintro e w' ⟨rfl, rfl⟩)
    go_ret
    exact ⟨rfl, HT.out⟩
  · rw [hW, if_neg (by decide)]
    rw [hE] at hu
    have HT : Hid _ := DiskIn.turn (w' := w) h'
    clear h hE hW h'
    go_enter Tryz.func122, Tryz.ntmps122
    go_wp2_with (go_at_call 82; refine hu.mono ?_; rintro e w' ⟨rfl, rfl⟩)
    go_ret
    exact ⟨rfl, HT.out⟩
  · rw [hW, if_pos rfl, Int.toNat_natCast]
    rw [errA_ok n k hk] at hu
    have hs' : ¬ 2048 < s.size := by omega
    have c0 := h.top.cell (i := 0) rfl
    have c2 := h.top.cell (i := 2) rfl
    have ck := h.cells.cell (strs_at n (app l q) k hk)
    have fk := h.cells.frozen k
    have hgc := h.top.ne h.cells (by decide)
    have hgl := h.top.ne h.lasts (by decide)
    have hvc := h.cells.owns_ne h.row (by decide)
    have hvl := h.lasts.owns_ne h.row (by decide)
    have hvg := h.top.owns_ne h.row (by decide)
    have K1 : Kept F w (w.setCell ⟨gc, k, none⟩ (.string s)) := (Kept.refl F w).setCell (.inl h.inn.2.1) _ _
    have K1' : Kept (fun i => i = gc) w (w.setCell ⟨gc, k, none⟩ (.string s)) := Kept.one _ _ _ _
    have T1 := h.top.kept K1' hgc
    have C1 := h.cells.setCell k (.string s)
    rw [strs_set] at C1
    have L1 := h.lasts.kept K1' (fun e => h.ne e.symm)
    have W1 := h.row.kept K1' (fun i hi e => hvc (by rw [hi, e]))
    obtain ⟨g', cap', w2, hrun, W2, hgrow, hat⟩ := waits_push 128 158 128 Tryz.underlying128 Tryz.info158 _ v q W1 (k, s) hq
    have K2' : Kept (fun i => v.ownBlock = some i) (w.setCell ⟨gc, k, none⟩ (.string s)) w2 := ((Kept.refl _ _).alloc _).grown hgrow (fun i hi => .inl hi)
    have T2 := T1.kept K2' hvg
    have C2 := C1.kept K2' hvc
    have L2 := L1.kept K2' hvl
    have K2 : Kept F w w2 := K1.trans K2' (fun i hi => .inl (h.inn.2.2.2 i hi))
    have d2 := T2.cell (i := 2) rfl
    have f2 := T2.frozen 2
    have T3 := T2.setCell 2 (.slice (some ⟨g', 0, none⟩) (q.length + 1) cap')
    have K3' : Kept (fun i => i = g) w2 (w2.setCell ⟨g, 2, none⟩ (.slice (some ⟨g', 0, none⟩) (q.length + 1) cap')) := Kept.one _ _ _ _
    have K3 := K2.setCell (.inl h.inn.1) 2 (.slice (some ⟨g', 0, none⟩) (q.length + 1) cap')
    have C3 := C2.kept K3' (fun e => hgc e.symm)
    have L3 := L2.kept K3' (fun e => hgl e.symm)
    have W3 := W2.kept K3' (fun i hi e => by
      have := T2.owns_ne W2 (by decide)
      rw [hi, e] at this
      exact this rfl)
    have hlt := W3.lt g' rfl
    have HT : Hid (Turned F w (w2.setCell ⟨g, 2, none⟩ (.slice (some ⟨g', 0, none⟩) (q.length + 1) cap')) (fun F' => DiskAt (w2.setCell ⟨g, 2, none⟩ (.slice (some ⟨g', 0, none⟩) (q.length + 1) cap')) F' g n l (q ++ [(k, s)]) false)) := by
      refine ⟨fun i => F i ∨ i = g', ⟨gc, gl, .slice (some ⟨g', 0, none⟩) (q.length + 1) cap', ⟨.inl h.inn.1, .inl h.inn.2.1, .inl h.inn.2.2.1, fun i hi => .inr (by cases hi; rfl)⟩, h.ne, h.low, h.high, ?_, T3, ?_, L3, W3, ?_⟩, K3, ?_⟩
      · intro p hp
        rcases List.mem_append.1 hp with hp | hp
        · exact h.ats p hp
        · rw [List.mem_singleton.1 hp]; exact hk
      · rw [app_snoc]; exact C3
      · rintro i (hi | rfl)
        · exact Nat.lt_of_lt_of_le (h.bound i hi) K3.size
        · exact hlt
      · rintro i (hi | rfl)
        · exact .inl hi
        · rcases hat with e | e
          · exact .inl (h.inn.2.2.2 _ e.symm)
          · exact .inr (by simpa using e)
    have h2c := T1.cell (i := 2) rfl
    rw [World.size_setCell] at hrun
    clear h' h hW K1 K1' T1 C1 L1 W1 W2 hgrow K2' T2 C2 L2 K2 T3 K3' K3 C3 L3 W3 hlt hvc hvl hvg hgc hgl hat
    go_enter Tryz.func122, Tryz.ntmps122
    go_wp2_with (first | (go_at_call 82; refine hu.mono ?_; rintro e w' ⟨rfl, rfl⟩) | (at_builtin; refine wpList_append_run rfl _ _ 128 128 rfl _ _ rfl rfl _ _ hrun ?_))
    go_ret
    exact ⟨rfl, HT.out⟩
theorem RefIn.turn {w : World} {F : Nat → Prop} {g n : Nat} {l : Nat → ByteArray} {q : List Wr} {dead : Bool} (h : RefAt w F g n l q dead) : Turned F w w (fun F' => RefAt w F' g n l q dead) := ⟨F, h, Kept.refl _ _, fun k hk => .inl hk⟩
theorem copy_strs (w : World) (ga gb n : Nat) (f f' : Nat → ByteArray) (ha : Blk w ga 9 (strs n f)) (hb : Blk w gb 9 (strs n f')) (hn : 1 ≤ n) :
    (Builtin.copy_ #[23, 23] 3 #[.slice (some ⟨ga, 0, none⟩) n n, .slice (some ⟨gb, 0, none⟩) n n]).run Tryz.prog w = .ok (.int .i64 (n : Int)) (w.setRow ga (strs n f').toArray) := by
  have hr := run_copy_row (P := Tryz.prog) w 23 23 3 9 ga 0 n n ⟨gb, 0, none⟩ n n (strs n f).toArray 9 (strs n f') Tryz.underlying23 (by kernel_rfl) ha (by rw [strs_length]; exact (Nat.min_self n).symm) (fun j v hv => by
    rw [Addr.add_mid, Nat.zero_add]; exact hb.cell hv) (by simp [strs_length]) (strs_one n f')
  rw [hr]
  simp [strs_length, goInt]
  rw [List.drop_eq_nil_of_le (by rw [strs_length]; exact Nat.le_refl _), List.append_nil]
theorem dkSettle_any {F : Nat → Prop} {g n gc gl : Nat} {f l : Nat → ByteArray} {dead : Bool} {v : Value} {w : World} (hF : F g ∧ F gc ∧ F gl) (hne : gc ≠ gl) (h1 : 1 ≤ n) (h2 : n ≤ 512)
    (ht : Blk w g 130 [.slice (some ⟨gc, 0, none⟩) n n, .slice (some ⟨gl, 0, none⟩) n n, v, .bool dead]) (hc : Blk w gc 9 (strs n f)) (hl : Blk w gl 9 (strs n l)) (hb : ∀ k, F k → k < w.heap.size) :
    Calls Tryz.prog 60 #[.pointer (some ⟨g, 0, none⟩)] w fun e w' => e = .returned (.tuple #[]) ∧ Turned F w w' (fun F' => DiskAt w' F' g n l [] dead) := by
  have c0 := ht.cell (i := 0) rfl
  have c1 := ht.cell (i := 1) rfl
  have hgc := ht.ne hc (by decide)
  have hgl := ht.ne hl (by decide)
  have hrun := copy_strs w.drew gc gl n f l hc hl h1
  have K1 : Kept (fun k => k = gc) w (w.drew.setRow gc (strs n l).toArray) := (Kept.oneRow _ _ _).ofDrew
  have T1 := ht.kept K1 hgc
  have C1 : Blk (w.drew.setRow gc (strs n l).toArray) gc 9 (strs n l) := hc.drew.setRow
  have L1 := hl.kept K1 (fun e => hne e.symm)
  obtain ⟨Z, hZ⟩ : ∃ Z, (strs n l).toArray = Z := ⟨_, rfl⟩
  rw [hZ] at hrun K1 T1 C1 L1
  have d2 := T1.cell (i := 2) rfl
  have f2 := T1.frozen 2
  have d0 := T1.cell (i := 0) rfl
  have d1 := T1.cell (i := 1) rfl
  have T2 := T1.setCell 2 (.slice none 0 0)
  have K2 : Kept (fun k => k = g) (w.drew.setRow gc Z) ((w.drew.setRow gc Z).setCell ⟨g, 2, none⟩ (.slice none 0 0)) := Kept.one _ _ _ _
  have C2 := C1.kept K2 (fun e => hgc e.symm)
  have L2 := L1.kept K2 (fun e => hgl e.symm)
  have K3 : Kept F w ((w.drew.setRow gc Z).setCell ⟨g, 2, none⟩ (.slice none 0 0)) := (K1.mono (fun i _ e => by rw [e]; exact hF.2.1)).setCell (.inl hF.1) _ _
  have HT : Hid (Turned F w ((w.drew.setRow gc Z).setCell ⟨g, 2, none⟩ (.slice none 0 0)) (fun F' => DiskAt ((w.drew.setRow gc Z).setCell ⟨g, 2, none⟩ (.slice none 0 0)) F' g n l [] dead)) :=
    ⟨F, ⟨gc, gl, .slice none 0 0, ⟨hF.1, hF.2.1, hF.2.2, fun k hk => (by cases hk)⟩, hne, h1, h2, fun p hp => (by cases hp), T2, C2, L2, Waits.nil _ _, fun k hk => Nat.lt_of_lt_of_le (hb k hk) K3.size⟩, K3, fun k hk => .inl hk⟩
  clear ht hc hl hb K1 T1 C1 L1 T2 K2 C2 L2 K3 hgc hgl hZ hF hne
  go_enter Tryz.func60, Tryz.ntmps60
  go_wp2_with fail
  refine wp_region_noPanic ?_
  refine wp_region_held_drew (S := fun z => z.cell? ⟨g, 0, none⟩ = some (.slice (some ⟨gc, 0, none⟩) n n) ∧ z.cell? ⟨g, 1, none⟩ = some (.slice (some ⟨gl, 0, none⟩) n n)) (by kernel_rfl) ⟨c0, c1⟩ (fun hHeld => ?_)
  refine tkH 0 ?_; go_simp
  refine tkH 1 ?_; go_simp
  refine tkH 2 ?_; go_simp
  refine tkH 3 ?_; go_simp
  refine tkH 4 ?_; go_simp
  refine tkH 5 ?_; go_simp
  refine tkH 6 ?_; go_simp
  refine tkH 7 ?_; go_simp
  refine rdH 8 fun K hK => ?_
  refine step_copy_run rfl _ _ 23 23 rfl _ _ rfl rfl _ _ hrun ?_
  refine hK.out _ _ ⟨d0, d1⟩ (fun hHeld => ?_)
  clear hK K
  refine wpAnyH_done (by kernel_rfl) ?_ _
  refine NoPanic.normal ?_
  go_wp2_with fail
  go_end0
  exact ⟨rfl, HT.out⟩
theorem run_clear_row (w : World) (t e ty : TypeId) (z : Value) (ht : Tryz.prog.underlying t = some (.slice e)) (hv : ∀ w, (zeroValue e).run Tryz.prog w = .ok z w) (g off n c : Nat) (hn : 0 < n) (cur : Array Value) (T : TypeId)
    (hg : w.heap[g]? = some (.cells cur T (0, 0))) (hfit : off + n * z.cells.size ≤ cur.size) (h1 : ∀ v ∈ (Builtin.zeroCells z.cells n).toList, v.oneCell' = true) :
    (Builtin.clear_ #[t] ty #[.slice (some ⟨g, off, none⟩) n c]).run Tryz.prog w = .ok (.tuple #[]) (w.setRow g (cur.toList.take off ++ (Builtin.zeroCells z.cells n).toList ++ cur.toList.drop (off + n * z.cells.size)).toArray) := by
  have hst := run_storeCells_at Tryz.prog g off T (Builtin.zeroCells z.cells n).toList 0 cur w hg (by rw [Array.length_toList, size_zeroCells]; omega) h1
  simp only [Nat.add_zero, Array.length_toList, size_zeroCells] at hst
  obtain ⟨m, rfl⟩ : ∃ m, n = m + 1 := ⟨n - 1, by omega⟩
  simp [Builtin.clear_, run_underlying ht, hv, hst]
theorem zero_string : ∀ w : World, (zeroValue 9).run Tryz.prog w = .ok (.string noB) w := by
  obtain ⟨i0, hi, hz0, hz1, hz2⟩ := info_parts Tryz.info9
  intro w
  simp [zeroValue, typeInfo, hi, hz0]
theorem clear_strs (w : World) (gl n : Nat) (f : Nat → ByteArray) (h : Blk w gl 9 (strs n f)) (hn : 1 ≤ n) :
    ∀ ty, (Builtin.clear_ #[23] ty #[.slice (some ⟨gl, 0, none⟩) n n]).run Tryz.prog w = .ok (.tuple #[]) (w.setRow gl (strs n fun _ => noB).toArray) := by
  intro ty
  have hz : (Builtin.zeroCells (Value.string noB).cells n).toList = strs n fun _ => noB := by
    apply List.ext_getElem
    · simp [Builtin.zeroCells, strs, Value.cells]
    · intro i h1 h2
      simp [Builtin.zeroCells, strs, Value.cells, Nat.mod_one]
  have hr := run_clear_row w 23 9 ty (.string noB) Tryz.underlying23 zero_string gl 0 n n (by omega) (strs n f).toArray 9 h (by simp [strs_length, Value.cells]) (by rw [hz]; exact strs_one n _)
  rw [hz] at hr
  rw [hr]
  simp [Value.cells]
  rw [List.drop_eq_nil_of_le (by rw [strs_length]; exact Nat.le_refl _), List.append_nil]
def flushL (l : Nat → ByteArray) (q : List Wr) (dead : Bool) : Nat → ByteArray := if dead = true then l else app l q
def flushQ (q : List Wr) (dead : Bool) : List Wr := if dead = true then q else []
theorem flush_any {F : Nat → Prop} {g n : Nat} {l : Nat → ByteArray} {q : List Wr} {dead : Bool} {w : World} (h : DiskAt w F g n l q dead) :
    Calls Tryz.prog 123 #[.pointer (some ⟨g, 0, none⟩)] w fun e w' => e = .returned (.int .i64 (errD dead)) ∧ Turned F w w' (fun F' => DiskAt w' F' g n (flushL l q dead) (flushQ q dead) dead) := by
  have hu := usable_any h
  have h' := h
  obtain ⟨gc, gl, v, h⟩ := h
  cases dead
  · rw [show flushL l q false = app l q from rfl, show flushQ q false = [] from rfl, show errD false = 0 from rfl]
    rw [show errD false = 0 from rfl] at hu
    have c0 := h.top.cell (i := 0) rfl
    have c1 := h.top.cell (i := 1) rfl
    have hgc := h.top.ne h.cells (by decide)
    have hgl := h.top.ne h.lasts (by decide)
    have hrun := copy_strs w.drew gl gc n l (app l q) h.lasts h.cells h.low
    have K1 : Kept (fun k => k = gl) w (w.drew.setRow gl (strs n (app l q)).toArray) := (Kept.oneRow _ _ _).ofDrew
    have T1 := h.top.kept K1 hgl
    have L1 : Blk (w.drew.setRow gl (strs n (app l q)).toArray) gl 9 (strs n (app l q)) := h.lasts.drew.setRow
    have C1 := h.cells.kept K1 h.ne
    obtain ⟨Z, hZ⟩ : ∃ Z, (strs n (app l q)).toArray = Z := ⟨_, rfl⟩
    rw [hZ] at hrun K1 T1 C1 L1
    have d2 := T1.cell (i := 2) rfl
    have f2 := T1.frozen 2
    have d0 := T1.cell (i := 0) rfl
    have d1 := T1.cell (i := 1) rfl
    have T2 := T1.setCell 2 (.slice none 0 0)
    have K2 : Kept (fun k => k = g) (w.drew.setRow gl Z) ((w.drew.setRow gl Z).setCell ⟨g, 2, none⟩ (.slice none 0 0)) := Kept.one _ _ _ _
    have C2 := C1.kept K2 (fun e => hgc e.symm)
    have L2 := L1.kept K2 (fun e => hgl e.symm)
    have K3 : Kept F w ((w.drew.setRow gl Z).setCell ⟨g, 2, none⟩ (.slice none 0 0)) := (K1.mono (fun i _ e => by rw [e]; exact h.inn.2.2.1)).setCell (.inl h.inn.1) _ _
    have HT : Hid (Turned F w ((w.drew.setRow gl Z).setCell ⟨g, 2, none⟩ (.slice none 0 0)) (fun F' => DiskAt ((w.drew.setRow gl Z).setCell ⟨g, 2, none⟩ (.slice none 0 0)) F' g n (app l q) [] false)) :=
      ⟨F, ⟨gc, gl, .slice none 0 0, ⟨h.inn.1, h.inn.2.1, h.inn.2.2.1, fun k hk => (by cases hk)⟩, h.ne, h.low, h.high, fun p hp => (by cases hp), T2, C2, L2, Waits.nil _ _, fun k hk => Nat.lt_of_lt_of_le (h.bound k hk) K3.size⟩, K3, fun k hk => .inl hk⟩
    clear h h' K1 T1 C1 L1 T2 K2 C2 L2 K3 hgc hgl hZ
    go_enter Tryz.func123, Tryz.ntmps123
    go_wp2_with (go_at_call 81; refine hu.mono ?_; rintro e w' ⟨rfl, rfl⟩)
    refine wp_region_noPanic ?_
    refine wp_region_held_drew (S := fun z => z.cell? ⟨g, 0, none⟩ = some (.slice (some ⟨gc, 0, none⟩) n n) ∧ z.cell? ⟨g, 1, none⟩ = some (.slice (some ⟨gl, 0, none⟩) n n)) (by kernel_rfl) ⟨c0, c1⟩ (fun hHeld => ?_)
    refine tkH 0 ?_; go_simp
    refine tkH 1 ?_; go_simp
    refine tkH 2 ?_; go_simp
    refine tkH 3 ?_; go_simp
    refine tkH 4 ?_; go_simp
    refine tkH 5 ?_; go_simp
    refine tkH 6 ?_; go_simp
    refine tkH 7 ?_; go_simp
    refine rdH 8 fun K hK => ?_
    refine step_copy_run rfl _ _ 23 23 rfl _ _ rfl rfl _ _ hrun ?_
    refine hK.out _ _ ⟨d0, d1⟩ (fun hHeld => ?_)
    clear hK K
    refine wpAnyH_done (by kernel_rfl) ?_ _
    refine NoPanic.normal ?_
    go_wp2_with fail
    go_ret
    exact ⟨rfl, HT.out⟩
  · rw [show flushL l q true = l from rfl, show flushQ q true = q from rfl, show errD true = 20 from rfl]
    rw [show errD true = 20 from rfl] at hu
    have HT : Hid _ := DiskIn.turn (w' := w) h'
    clear h h'
    go_enter Tryz.func123, Tryz.ntmps123
    go_wp2_with (go_at_call 81; refine hu.mono ?_; rintro e w' ⟨rfl, rfl⟩)
    go_ret
    exact ⟨rfl, HT.out⟩
theorem Turned.trans {F : Nat → Prop} {a b c : World} {A : (Nat → Prop) → Prop} (h : Kept F a b) (k : Turned F b c A) : Turned F a c A := by
  obtain ⟨F', h1, h2, h3⟩ := k
  exact ⟨F', h1, h.trans h2 (fun i hi => .inl hi), fun k hk => (h3 k hk).imp id (fun h' => Nat.le_trans h.size h')⟩
theorem fail_any {F : Nat → Prop} {g n : Nat} {l : Nat → ByteArray} {q : List Wr} {dead : Bool} {w : World} (h : DiskAt w F g n l q dead) :
    Calls Tryz.prog 25 #[.pointer (some ⟨g, 0, none⟩)] w fun e w' => e = .returned (.tuple #[]) ∧ Turned F w w' (fun F' => DiskAt w' F' g n (fun _ => noB) [] true) := by
  obtain ⟨gc, gl, v, h⟩ := h
  have c1 := h.top.cell (i := 1) rfl
  have c3 := h.top.cell (i := 3) rfl
  have f3 := h.top.frozen 3
  have hgc := h.top.ne h.cells (by decide)
  have hgl := h.top.ne h.lasts (by decide)
  have T1 := h.top.setCell 3 (.bool true)
  have K1 : Kept (fun k => k = g) w (w.setCell ⟨g, 3, none⟩ (.bool true)) := Kept.one _ _ _ _
  have C1 := h.cells.kept K1 (fun e => hgc e.symm)
  have L1 := h.lasts.kept K1 (fun e => hgl e.symm)
  have d1 := T1.cell (i := 1) rfl
  have hrun := clear_strs _ gl n l L1 h.low
  have K2 : Kept (fun k => k = gl) (w.setCell ⟨g, 3, none⟩ (.bool true)) ((w.setCell ⟨g, 3, none⟩ (.bool true)).setRow gl (strs n fun _ => noB).toArray) := Kept.oneRow _ _ _
  have T2 := T1.kept K2 hgl
  have C2 := C1.kept K2 h.ne
  have L2 : Blk ((w.setCell ⟨g, 3, none⟩ (.bool true)).setRow gl (strs n fun _ => noB).toArray) gl 9 (strs n fun _ => noB) := L1.setRow
  have K3 : Kept F w ((w.setCell ⟨g, 3, none⟩ (.bool true)).setRow gl (strs n fun _ => noB).toArray) := (K1.mono (fun i _ e => by rw [e]; exact h.inn.1)).setRow (.inl h.inn.2.2.1) _
  have hset := dkSettle_any (F := F) ⟨h.inn.1, h.inn.2.1, h.inn.2.2.1⟩ h.ne h.low h.high T2 C2 L2 (fun k hk => Nat.lt_of_lt_of_le (h.bound k hk) K3.size)
  obtain ⟨Z, hZ⟩ : ∃ Z, (strs n fun _ => noB).toArray = Z := ⟨_, rfl⟩
  rw [hZ] at hrun K3 hset
  have HK : Hid _ := K3
  have hset' := hset
  clear h T1 K1 C1 L1 K2 T2 C2 L2 K3 hgc hgl hZ hset
  go_enter Tryz.func25, Tryz.ntmps25
  go_wp2_with (go_at_call 60; refine hset'.mono ?_; rintro e w' ⟨rfl, hT⟩)
  go_end0
  exact ⟨rfl, Turned.trans HK.out hT⟩
def TextsAt (w : World) (v : Value) (m : Nat) (f : Nat → ByteArray) : Prop := ∃ a cap, v = .slice a m cap ∧ m ≤ cap ∧ (m = 0 ∨ ∃ b o, a = some ⟨b, o, none⟩ ∧ b < w.heap.size ∧ ∀ i, i < m → w.cell? ⟨b, o + i, none⟩ = some (.string (f i)))
theorem image_any {F : Nat → Prop} {g n : Nat} {l : Nat → ByteArray} {q : List Wr} {w : World} (h : DiskAt w F g n l q false) :
    Calls Tryz.prog 39 #[.pointer (some ⟨g, 0, none⟩)] w fun e w' => e = .returned (.slice (some ⟨w.heap.size, 0, none⟩) n n) ∧ Blk w' w.heap.size 9 (strs n (app l q)) ∧ Below w.heap.size w w' := by
  have hu := usable_any h
  rw [show errD false = 0 from rfl] at hu
  obtain ⟨gc, gl, v, h⟩ := h
  have c0 := h.top.cell (i := 0) rfl
  have hmk := make_strs n h.high
  have b1 := Blk.new w 9 (strs n fun _ => noB).toArray
  have C1 := h.cells.alloc (.cells (strs n fun _ => noB).toArray 9)
  have d0 := (h.top.alloc (.cells (strs n fun _ => noB).toArray 9)).cell (i := 0) rfl
  rw [List.toList_toArray] at b1
  have hrun := copy_strs _ w.heap.size gc n _ _ b1 C1 h.low
  have b2 : Blk ((w.alloc (.cells (strs n fun _ => noB).toArray 9)).setRow w.heap.size (strs n (app l q)).toArray) w.heap.size 9 (strs n (app l q)) := b1.setRow
  have hB : Below w.heap.size w ((w.alloc (.cells (strs n fun _ => noB).toArray 9)).setRow w.heap.size (strs n (app l q)).toArray) := below_setRow ((Below.refl _ _).alloc (Nat.le_refl _) _) (Nat.le_refl _) _
  obtain ⟨Z, hZ⟩ : ∃ Z, (strs n fun _ => noB).toArray = Z := ⟨_, rfl⟩
  obtain ⟨Y, hY⟩ : ∃ Y, (strs n (app l q)).toArray = Y := ⟨_, rfl⟩
  rw [hZ] at hmk d0 hrun b2 hB
  rw [hY] at hrun b2 hB
  have HB : Hid _ := And.intro b2 hB
  clear h b1 C1 b2 hB hZ hY
  go_enter Tryz.func39, Tryz.ntmps39
  go_wp2_with (go_at_call 81; refine hu.mono ?_; rintro e w' ⟨rfl, rfl⟩)
  go_ret
  exact ⟨rfl, HB.out⟩
def BoolsAt (w : World) (v : Value) (m : Nat) (k : Nat → Bool) : Prop := (∃ a cap, v = .slice a m cap ∧ (m = 0 ∨ ∃ b o, a = some ⟨b, o, none⟩ ∧ b < w.heap.size ∧ ∀ i, i < m → w.cell? ⟨b, o + i, none⟩ = some (.bool (k i)))) ∧ ∀ i, m ≤ i → k i = false
def Away (F : Nat → Prop) (v : Value) : Prop := ∀ a n c, v = .slice (some a) n c → n ≠ 0 → ¬ F a.block
theorem BoolsAt.kept {F : Nat → Prop} {w w' : World} {v : Value} {m : Nat} {k : Nat → Bool} (h : BoolsAt w v m k) (ho : Kept F w w') (ha : Away F v) : BoolsAt w' v m k := by
  obtain ⟨⟨a, cap, rfl, h1⟩, h2⟩ := h
  refine ⟨⟨a, cap, rfl, ?_⟩, h2⟩
  rcases h1 with h1 | ⟨b, o, rfl, hb, hc⟩
  · exact .inl h1
  · exact .inr ⟨b, o, rfl, Nat.lt_of_lt_of_le hb ho.size, fun i hi => (ho.cell (p := ⟨b, o + i, none⟩) hb (show ¬ F b from ha ⟨b, o, none⟩ m cap rfl (by omega))).trans (hc i hi)⟩
theorem BoolsAt.below {w w' : World} {v : Value} {m : Nat} {k : Nat → Bool} (h : BoolsAt w v m k) (hb : Below w.heap.size w w') : BoolsAt w' v m k := h.kept (F := fun _ => False) (Kept.ofBelow hb) (fun _ _ _ _ _ h => h)
theorem TextsAt.kept {F : Nat → Prop} {w w' : World} {v : Value} {m : Nat} {f : Nat → ByteArray} (h : TextsAt w v m f) (ho : Kept F w w') (ha : Away F v) : TextsAt w' v m f := by
  obtain ⟨a, cap, rfl, hc0, h1⟩ := h
  refine ⟨a, cap, rfl, hc0, ?_⟩
  rcases h1 with h1 | ⟨b, o, rfl, hb, hc⟩
  · exact .inl h1
  · exact .inr ⟨b, o, rfl, Nat.lt_of_lt_of_le hb ho.size, fun i hi => (ho.cell (p := ⟨b, o + i, none⟩) hb (show ¬ F b from ha ⟨b, o, none⟩ m cap rfl (by omega))).trans (hc i hi)⟩
theorem TextsAt.below {w w' : World} {v : Value} {m : Nat} {f : Nat → ByteArray} (h : TextsAt w v m f) (hb : Below w.heap.size w w') : TextsAt w' v m f := h.kept (F := fun _ => False) (Kept.ofBelow hb) (fun _ _ _ _ _ h => h)
def restL (m : Nat) (f : Nat → ByteArray) (i : Nat) : ByteArray := if i < m ∧ (f i).size ≤ 2048 then f i else noB
def restoreL (l : Nat → ByteArray) (dead : Bool) (m : Nat) (f : Nat → ByteArray) : Nat → ByteArray := if dead = true then l else restL m f
theorem closure_any (a : Nat) (p : Wr) (ga : Nat) (w : World) (h : Blk w ga 3 [.int .i64 (a : Int)]) :
    Calls Tryz.prog 84 #[.agg #[.int .i64 (p.1 : Int), .string p.2], .pointer (some ⟨ga, 0, none⟩)] w fun e w' => e = .returned (.bool (decide (p.1 = a))) ∧ w' = w.alloc (.cells #[.int .i64 (p.1 : Int), .string p.2] 158) := by
  have c0 := (h.alloc (.cells #[.int .i64 (p.1 : Int), .string p.2] 158)).cell (i := 0) rfl
  have hb : (((p.1 : Nat) : Int) == (a : Int)) = decide (p.1 = a) := by
    by_cases e : p.1 = a
    · rw [e]; simp
    · rw [decide_eq_false e, beq_eq_false_iff_ne]; omega
  obtain ⟨B, hB⟩ : ∃ B, decide (p.1 = a) = B := ⟨_, rfl⟩
  rw [hB] at hb ⊢
  obtain ⟨pa, ps⟩ := p
  clear h hB
  go_enter Tryz.func84, Tryz.ntmps84
  go_wp2_with fail
  go_ret
  exact ⟨rfl, rfl⟩
def IdxIs (q : List Wr) (a : Nat) (r : Int) : Prop := (r = -1 ∧ ∀ p ∈ q, p.1 ≠ a) ∨ ∃ j : Nat, r = (j : Int) ∧ j < q.length ∧ (∃ p, q[j]? = some p ∧ p.1 = a) ∧ ∀ i p, i < j → q[i]? = some p → p.1 ≠ a
theorem dkIndex_any (a : Nat) (ga : Nat) (q : List Wr) (v : Value) (w : World) (h : Blk w ga 3 [.int .i64 (a : Int)]) (hw : Waits w 158 v q) (hq : q.length ≤ 1000000) :
    Calls Tryz.prog 131 #[v, .func (.func 84) #[] #[.pointer (some ⟨ga, 0, none⟩)]] w fun e w' => ∃ r : Int, e = .returned (.int .i64 r) ∧ Below w.heap.size w w' ∧ IdxIs q a r := by
  have HW : Hid (Waits w 158 v q) := hw
  have HG : Hid (Blk w ga 3 [.int .i64 (a : Int)]) := h
  obtain ⟨av, cap, hv⟩ := hw.form
  subst hv
  clear hw h
  go_enter Tryz.func131, Tryz.ntmps131
  go_wp2_with fail
  go_loopw [8] (fun i wr => ∃ j : Nat, j ≤ q.length ∧ i = .int .i64 (j : Int) ∧ Hid (Below w.heap.size w wr ∧ ∀ i p, i < j → q[i]? = some p → p.1 ≠ a)) (fun i _ => q.length - (intOf i).toNat)
  case atStart => exact ⟨0, Nat.zero_le _, rfl, Below.refl _ _, fun i p hi => by omega⟩
  case round =>
    obtain ⟨j, hj, rfl, hrr⟩ := hrel
    by_cases hlt : j < q.length
    · obtain ⟨p, hp⟩ : ∃ p, q[j]? = some p := ⟨_, List.getElem?_eq_getElem hlt⟩
      have W1 := Waits.kept (w := w) HW.out (Kept.ofBelow (F := fun _ => False) hrr.out.1) (fun _ _ h => h)
      obtain ⟨gw, cap2, hvv, ca, cb⟩ := W1.at hp
      cases hvv
      have hcl := closure_any a p ga wr (HG.out.below hrr.out.1 HG.out.lt)
      have hlen : j * 2 + 1 < q.length * 2 := by omega
      have hj' : (j : Int) < (q.length : Int) := by omega
      have hb2 := hrr.out.1.alloc hrr.out.1.size (.cells #[.int .i64 (p.1 : Int), .string p.2] 158)
      by_cases hpa : p.1 = a
      · rw [decide_eq_true hpa] at hcl
        have HF : Hid (Below w.heap.size w (wr.alloc (.cells #[.int .i64 (p.1 : Int), .string p.2] 158)) ∧ IdxIs q a (j : Int)) :=
          ⟨hb2, .inr ⟨j, rfl, hlt, ⟨p, hp, hpa⟩, hrr.out.2⟩⟩
        obtain ⟨pa, ps⟩ := p
        clear hrr hp W1 hb2 hpa
        go_wp2_with (go_at_call 84; refine hcl.mono ?_; rintro e w' ⟨rfl, hw'⟩; rw [hw']; clear hw' w')
        go_ret
        exact ⟨_, rfl, HF.out⟩
      · rw [decide_eq_false hpa] at hcl
        have HF : Hid (Below w.heap.size w (wr.alloc (.cells #[.int .i64 (p.1 : Int), .string p.2] 158)) ∧ ∀ i p, i < j + 1 → q[i]? = some p → p.1 ≠ a) :=
          ⟨hb2, fun i x hi hx => by
            by_cases e : i = j
            · subst e; rw [hp] at hx; cases hx; exact hpa
            · exact hrr.out.2 i x (by omega) hx⟩
        obtain ⟨pa, ps⟩ := p
        clear hrr hp W1 hb2 hpa
        go_wp2_with (go_at_call 84; refine hcl.mono ?_; rintro e w' ⟨rfl, hw'⟩; rw [hw']; clear hw' w')
        go_roundw
        case rel => exact ⟨j + 1, by omega, by go_num, HF⟩
        case measure => simp [intOf]; omega
    · obtain rfl : j = q.length := by omega
      have HF : Hid (Below w.heap.size w wr ∧ IdxIs q a (-1)) :=
        ⟨hrr.out.1, .inl ⟨rfl, fun x hx => by
          obtain ⟨i, hi⟩ := List.getElem?_of_mem hx
          exact hrr.out.2 i x (List.getElem?_eq_some_iff.1 hi).1 hi⟩⟩
      clear hrr
      go_wp2_with fail
      go_ret
      exact ⟨_, rfl, HF.out⟩
def MidRow (w : World) (gw cap : Nat) (q : List Wr) (a j : Nat) : Prop := ∃ L : List Value, Blk w gw 158 L ∧ L.length = cap * 2 ∧ L.take ((others a (q.take j)).length * 2) = pairs (others a (q.take j)) ∧
  ∀ m p, j ≤ m → q[m]? = some p → L[m * 2]? = some (.int .i64 (p.1 : Int)) ∧ L[m * 2 + 1]? = some (.string p.2)
theorem others_le (a j : Nat) (q : List Wr) : (others a (q.take j)).length ≤ j := Nat.le_trans (others_length a _) (by rw [List.length_take]; omega)
theorem others_skip (a j : Nat) (q : List Wr) (p : Wr) (h : q[j]? = some p) (hp : p.1 = a) : others a (q.take (j + 1)) = others a (q.take j) := by
  rw [take_snoc q j p h, others_snoc, if_pos hp, List.append_nil]
theorem others_put (a j : Nat) (q : List Wr) (p : Wr) (h : q[j]? = some p) (hp : p.1 ≠ a) : others a (q.take (j + 1)) = others a (q.take j) ++ [p] := by
  rw [take_snoc q j p h, others_snoc, if_neg hp]
theorem others_all (a : Nat) : ∀ q : List Wr, (∀ p ∈ q, p.1 ≠ a) → others a q = q := by
  intro q h
  unfold others
  rw [List.filter_eq_self]
  intro p hp
  simpa using h p hp
theorem MidRow.start {w : World} {gw cap : Nat} {q : List Wr} {a j : Nat} (h : Waits w 158 (.slice (some ⟨gw, 0, none⟩) q.length cap) q) (hp : ∃ p, q[j]? = some p ∧ p.1 = a) (hn : ∀ i p, i < j → q[i]? = some p → p.1 ≠ a) :
    others a (q.take (j + 1)) = q.take j ∧ MidRow w gw cap q a (j + 1) := by
  obtain ⟨p, hp, hpa⟩ := hp
  have e : others a (q.take (j + 1)) = q.take j := by
    rw [others_skip a j q p hp hpa]
    exact others_all a _ fun x hx => by
      obtain ⟨i, hi⟩ := List.getElem?_of_mem hx
      obtain ⟨hlt, _⟩ := List.getElem?_eq_some_iff.1 hi
      rw [List.length_take] at hlt
      rw [List.getElem?_take_of_lt (by omega)] at hi
      exact hn i x (by omega) hi
  refine ⟨e, ?_⟩
  have hlt := (List.getElem?_eq_some_iff.1 hp).1
  rcases h.2 with ⟨h0, _⟩ | ⟨g', cap', cur, hv, _, hg, hnc, hcm, hcs, htake⟩
  · cases h0
  · cases hv
    refine ⟨cur.toList, by unfold Blk; rw [Array.toArray_toList]; exact hg, by rw [Array.length_toList]; exact hcs, ?_, fun m x hm hx => ?_⟩
    · rw [e, List.length_take, Nat.min_eq_left (by omega)]
      have h1 : pairs (q.take j) = (pairs q).take (j * 2) := by
        have h2 : pairs q = pairs (q.take j) ++ pairs (q.drop j) := by rw [← pairs_append, List.take_append_drop]
        rw [h2, List.take_append_of_le_length (by rw [pairs_length, List.length_take]; omega)]
        exact (List.take_of_length_le (by rw [pairs_length, List.length_take]; omega)).symm
      rw [h1, ← htake, List.take_take, Nat.min_eq_left (by omega)]
    · have h1 := pairs_at q m x hx
      have hml := (List.getElem?_eq_some_iff.1 hx).1
      rw [← htake, List.getElem?_take_of_lt (by omega), List.getElem?_take_of_lt (by omega)] at h1
      exact h1
theorem MidRow.alloc {w : World} {gw cap : Nat} {q : List Wr} {a j : Nat} (h : MidRow w gw cap q a j) (o : Obj) : MidRow (w.alloc o) gw cap q a j := by
  obtain ⟨L, h1, h2⟩ := h
  exact ⟨L, h1.alloc o, h2⟩
theorem MidRow.skip {w : World} {gw cap : Nat} {q : List Wr} {a j : Nat} (h : MidRow w gw cap q a j) {p : Wr} (hp : q[j]? = some p) (hpa : p.1 = a) : MidRow w gw cap q a (j + 1) := by
  obtain ⟨L, h1, h2, h3, h4⟩ := h
  exact ⟨L, h1, h2, by rw [others_skip a j q p hp hpa]; exact h3, fun m x hm hx => h4 m x (by omega) hx⟩
theorem MidRow.put {w : World} {gw cap : Nat} {q : List Wr} {a j : Nat} (h : MidRow w gw cap q a j) {p : Wr} (hp : q[j]? = some p) (hpa : p.1 ≠ a) (hc : q.length ≤ cap) :
    MidRow ((w.setCell ⟨gw, (others a (q.take j)).length * 2, none⟩ (.int .i64 (p.1 : Int))).setCell ⟨gw, (others a (q.take j)).length * 2 + 1, none⟩ (.string p.2)) gw cap q a (j + 1) := by
  obtain ⟨L, h1, h2, h3, h4⟩ := h
  have hle := others_le a j q
  have hlt := (List.getElem?_eq_some_iff.1 hp).1
  obtain ⟨c, hcc⟩ : ∃ c, (others a (q.take j)).length = c := ⟨_, rfl⟩
  rw [hcc] at h3 hle ⊢
  refine ⟨_, (h1.setCell _ _).setCell _ _, by simp [h2], ?_, fun m x hm hx => ?_⟩
  · rw [others_put a j q p hp hpa, pairs_append, ← h3, List.length_append, hcc]
    apply List.ext_getElem?
    intro i
    rcases Nat.lt_or_ge i (c * 2) with h | h
    · rw [List.getElem?_take_of_lt (by simp; omega), List.getElem?_set_ne (by omega), List.getElem?_set_ne (by omega), List.getElem?_append_left (by rw [List.length_take, h2]; omega), List.getElem?_take_of_lt h]
    · rw [List.getElem?_append_right (by rw [List.length_take, h2]; omega)]
      have e : (L.take (c * 2)).length = c * 2 := by rw [List.length_take, h2]; omega
      rw [e]
      by_cases e0 : i = c * 2
      · subst e0
        rw [List.getElem?_take_of_lt (by simp <;> omega), List.getElem?_set_ne (by omega), List.getElem?_set_self (by rw [h2]; omega), Nat.sub_self]
        rfl
      · by_cases e1 : i = c * 2 + 1
        · subst e1
          rw [List.getElem?_take_of_lt (by simp; omega), List.getElem?_set_self (by simp [h2]; omega), show c * 2 + 1 - c * 2 = 1 by omega]
          rfl
        · rw [List.getElem?_eq_none (by simp [h2]; omega), List.getElem?_eq_none (by rw [pairs_length]; simp; omega)]
  · have := h4 m x (by omega) hx
    rw [List.getElem?_set_ne (by omega), List.getElem?_set_ne (by omega), List.getElem?_set_ne (by omega), List.getElem?_set_ne (by omega)]
    exact this
theorem MidRow.cells {w : World} {gw cap : Nat} {q : List Wr} {a j : Nat} (h : MidRow w gw cap q a j) (i : Nat) (hi : i < cap * 2) : (∃ u, w.cell? ⟨gw, i, none⟩ = some u) ∧ w.frozen? ⟨gw, i, none⟩ = false := by
  obtain ⟨L, h1, h2, _⟩ := h
  exact ⟨h1.hasCell i (by omega), h1.frozen i⟩
theorem MidRow.at {w : World} {gw cap : Nat} {q : List Wr} {a j : Nat} (h : MidRow w gw cap q a j) {p : Wr} (hp : q[j]? = some p) : w.cell? ⟨gw, j * 2, none⟩ = some (.int .i64 (p.1 : Int)) ∧ w.cell? ⟨gw, j * 2 + 1, none⟩ = some (.string p.2) := by
  obtain ⟨L, h1, h2, _, h4⟩ := h
  have := h4 j p (Nat.le_refl _) hp
  exact ⟨h1.cell this.1, h1.cell this.2⟩
theorem zero_write : ∀ w : World, (zeroValue 158).run Tryz.prog w = .ok (.agg #[.int .i64 0, .string noB]) w := by
  obtain ⟨i0, hi, hz0, hz1, hz2⟩ := info_parts Tryz.info158
  intro w
  simp [zeroValue, typeInfo, hi, hz0]
theorem MidRow.clear {w : World} {gw cap : Nat} {q : List Wr} {a : Nat} (h : MidRow w gw cap q a q.length) (hc : q.length ≤ cap) (hm : cap ≤ maxLen) (hlt : (others a q).length < q.length) :
    ∃ Z, (∀ ty, (Builtin.clear_ #[128] ty #[.slice (some ⟨gw, (others a q).length * 2, none⟩) (q.length - (others a q).length) (cap - (others a q).length)]).run Tryz.prog w = .ok (.tuple #[]) (w.setRow gw Z)) ∧ Waits (w.setRow gw Z) 158 (.slice (some ⟨gw, 0, none⟩) (others a q).length cap) (others a q) := by
  obtain ⟨L, h1, h2, h3, _⟩ := h
  rw [List.take_length] at h3
  obtain ⟨c, hcc⟩ : ∃ c, (others a q).length = c := ⟨_, rfl⟩
  have hr := fun ty => run_clear_row w 128 158 ty (.agg #[.int .i64 0, .string noB]) Tryz.underlying128 zero_write gw (c * 2) (q.length - c) (cap - c) (by omega) L.toArray 158 h1 (by simp [Value.cells, h2]; omega) (by
    intro v hv
    simp only [Builtin.zeroCells, Value.cells] at hv
    rw [Array.mem_toList_iff, Array.mem_map] at hv
    obtain ⟨i, _, rfl⟩ := hv
    have : i % 2 = 0 ∨ i % 2 = 1 := by omega
    simp only [List.size_toArray, List.length_cons, List.length_nil]
    rcases this with h | h <;> rw [show (0 + 1 + 1 : Nat) = 2 from rfl, h] <;> rfl)
  rw [hcc] at h3 hlt ⊢
  refine ⟨_, hr, ?_⟩
  have hlenZ : (Builtin.zeroCells (Value.agg #[.int .i64 0, .string noB]).cells (q.length - c)).toList.length = (q.length - c) * 2 := by rw [Array.length_toList, size_zeroCells]; rfl
  refine ⟨by rw [pairs_length], .inr ⟨gw, cap, _, by rw [hcc], Nat.zero_le _, setRow_heap w gw _ _ 158 _ h1, by omega, hm, ?_, ?_⟩⟩
  · have e2 : (Value.agg #[.int .i64 0, .string noB]).cells.size = 2 := rfl
    rw [List.size_toArray, List.length_append, List.length_append, List.length_take, List.length_drop, hlenZ, e2, List.toList_toArray, h2]
    omega
  · rw [hcc, List.toList_toArray, List.toList_toArray, List.append_assoc, List.take_append_of_le_length (by rw [List.length_take, h2]; omega), List.take_of_length_le (by rw [List.length_take]; omega), h3]
theorem others_lt (a : Nat) (q : List Wr) (p : Wr) (h : p ∈ q) (hp : p.1 = a) : (others a q).length < q.length := by
  unfold others
  rw [List.length_filter_lt_length_iff_exists]
  exact ⟨p, h, by simp [hp]⟩
set_option maxHeartbeats 1000000 in
theorem deleteFunc_any (a : Nat) (ga : Nat) (q : List Wr) (v : Value) (w : World) (h : Blk w ga 3 [.int .i64 (a : Int)]) (hw : Waits w 158 v q) (hq : q.length ≤ 1000000) :
    Calls Tryz.prog 83 #[v, .func (.func 84) #[] #[.pointer (some ⟨ga, 0, none⟩)]] w fun e w' => ∃ b c, e = .returned (.slice b (others a q).length c) ∧ Waits w' 158 (.slice b (others a q).length c) (others a q) ∧ Kept (fun k => v.ownBlock = some k) w w' ∧ (Value.slice b (others a q).length c).ownBlock = v.ownBlock := by
  have hidx := dkIndex_any a ga q v w h hw hq
  have HW : Hid (Waits w 158 v q) := hw
  have HG : Hid (Blk w ga 3 [.int .i64 (a : Int)]) := h
  obtain ⟨av, cap, hv⟩ := hw.form
  subst hv
  clear hw h
  go_enter Tryz.func83, Tryz.ntmps83
  go_wp2_with (go_at_call 131; refine hidx.mono ?_; rintro e w1 ⟨r, rfl, hb1, hr⟩; clear hidx; rcases hr with ⟨rfl, hall⟩ | ⟨j0, rfl, hj0, hp0, hno⟩)
  · go_wp2_with fail
    go_ret
    refine ⟨av, cap, ?_, ?_, Kept.ofBelow hb1, by cases av <;> rfl⟩
    · rw [others_all a q hall]; rfl
    · rw [others_all a q hall]; exact HW.out.kept (Kept.ofBelow (F := fun _ => False) hb1) (fun _ _ h => h)
  · have hlt0 : (others a q).length < q.length := by
      obtain ⟨p, hp, hpa⟩ := hp0
      exact others_lt a q p (List.mem_of_getElem? hp) hpa
    obtain ⟨gw, cap2, hvv, -, -⟩ := (HW.out.at (List.getElem?_eq_getElem hj0))
    cases hvv
    have W1 : Waits w1 158 (.slice (some ⟨gw, 0, none⟩) q.length cap) q := HW.out.kept (Kept.ofBelow (F := fun _ => False) hb1) (fun _ _ h => h)
    have G1 := HG.out.below hb1 HG.out.lt
    have hst := MidRow.start W1 hp0 hno
    have hcap : q.length ≤ cap ∧ cap ≤ maxLen := by
      rcases HW.out.2 with ⟨h0, _⟩ | ⟨g', cap', cur, hv, _, hg, hnc, hcm, _⟩
      · cases h0
      · cases hv; exact ⟨hnc, hcm⟩
    have hne : ga ≠ gw := fun e => HG.out.owns_ne HW.out (by decide) (by rw [e]; rfl)
    have hj0' : (j0 : Int) ≠ -1 := by omega
    have hj0b : (((j0 : Int)) == -1) = false := by rw [beq_eq_false_iff_ne]; omega
    have hlen0 : (others a (q.take (j0 + 1))).length = j0 := by rw [hst.1, List.length_take]; omega
    have HS : Hid (Kept (fun k => k = gw) w1 w1 ∧ MidRow w1 gw cap q a (j0 + 1)) := ⟨Kept.refl _ _, hst.2⟩
    have HK1 : Hid (Kept (fun k => (Value.slice (some ⟨gw, 0, none⟩) q.length cap).ownBlock = some k) w w1) := Kept.ofBelow hb1
    have HG1 : Hid (Blk w1 ga 3 [.int .i64 (a : Int)]) := G1
    have HL0 : Hid ((others a q).length < q.length) := hlt0
    have HC : Hid (q.length ≤ cap ∧ cap ≤ maxLen) := hcap
    have HL : Hid ((others a (q.take (j0 + 1))).length = j0) := hlen0
    clear hlt0 hcap hlen0 W1 G1 hst hp0 hno hb1
    go_wp2_with fail
    go_loopw [5, 6] (fun ci jv wr => ∃ j : Nat, j0 + 1 ≤ j ∧ j ≤ q.length ∧ ci = .int .i64 ((others a (q.take j)).length : Int) ∧ jv = .int .i64 (j : Int) ∧ Hid (Kept (fun k => k = gw) w1 wr ∧ MidRow wr gw cap q a j)) (fun _ i _ => q.length - (intOf i).toNat)
    case atStart => exact ⟨j0 + 1, Nat.le_refl _, by omega, by rw [HL.out], by go_num, HS⟩
    case round =>
      obtain ⟨j, hj1, hj, rfl, rfl, hrr⟩ := hrel
      obtain ⟨c, hc⟩ : ∃ c, (others a (q.take j)).length = c := ⟨_, rfl⟩
      have hcj : c ≤ j := by rw [← hc]; exact others_le a j q
      by_cases hlt : j < q.length
      · obtain ⟨p, hp⟩ : ∃ p, q[j]? = some p := ⟨_, List.getElem?_eq_getElem hlt⟩
        obtain ⟨ca, cb⟩ := hrr.out.2.at hp
        have hcl := closure_any a p ga (wr.alloc (.cells #[.int .i64 (p.1 : Int), .string p.2] 158)) ((HG1.out.kept hrr.out.1 hne).alloc _)
        have hlen : j * 2 + 1 < q.length * 2 := by omega
        have hj' : (j : Int) < (q.length : Int) := by omega
        have M2 := (hrr.out.2.alloc (.cells #[.int .i64 (p.1 : Int), .string p.2] 158)).alloc (.cells #[.int .i64 (p.1 : Int), .string p.2] 158)
        have K2 := (hrr.out.1.alloc (.cells #[.int .i64 (p.1 : Int), .string p.2] 158)).alloc (.cells #[.int .i64 (p.1 : Int), .string p.2] 158)
        have hcap := HC.out
        by_cases hpa : p.1 = a
        · rw [decide_eq_true hpa] at hcl
          have HF : Hid (Kept (fun k => k = gw) w1 ((wr.alloc (.cells #[.int .i64 (p.1 : Int), .string p.2] 158)).alloc (.cells #[.int .i64 (p.1 : Int), .string p.2] 158)) ∧ MidRow ((wr.alloc (.cells #[.int .i64 (p.1 : Int), .string p.2] 158)).alloc (.cells #[.int .i64 (p.1 : Int), .string p.2] 158)) gw cap q a (j + 1)) := ⟨K2, M2.skip hp hpa⟩
          have HE : Hid ((others a (q.take (j + 1))).length = c) := by rw [others_skip a j q p hp hpa]; exact hc
          rw [hc]
          obtain ⟨pa, ps⟩ := p
          clear hrr hp M2 K2 hpa hc hcap
          go_wp2_with (go_at_call 84; refine hcl.mono ?_; rintro e w' ⟨rfl, hw'⟩; rw [hw']; clear hw' w')
          refine ⟨?_, ?measure⟩
          · (repeat apply Exists.intro)
            refine ⟨?rel, rfl⟩
            case rel => exact ⟨j + 1, by omega, by omega, by rw [HE.out], by go_num, HF⟩
          case measure => simp [intOf]; omega
        · rw [decide_eq_false hpa] at hcl
          have M3 := M2.put hp hpa hcap.1
          have HE : Hid ((others a (q.take (j + 1))).length = c + 1) := by
            have e : (others a (q.take (j + 1))).length = c + 1 := by rw [others_put a j q p hp hpa, List.length_append, hc]; rfl
            exact e
          rw [hc] at M3 ⊢
          obtain ⟨⟨ua, e0⟩, f0⟩ := M2.cells (c * 2) (by omega)
          obtain ⟨⟨ub, e1⟩, f1⟩ := M2.cells (c * 2 + 1) (by omega)
          have HF : Hid (Kept (fun k => k = gw) w1 ((((wr.alloc (.cells #[.int .i64 (p.1 : Int), .string p.2] 158)).alloc (.cells #[.int .i64 (p.1 : Int), .string p.2] 158)).setCell ⟨gw, c * 2, none⟩ (.int .i64 (p.1 : Int))).setCell ⟨gw, c * 2 + 1, none⟩ (.string p.2)) ∧ MidRow ((((wr.alloc (.cells #[.int .i64 (p.1 : Int), .string p.2] 158)).alloc (.cells #[.int .i64 (p.1 : Int), .string p.2] 158)).setCell ⟨gw, c * 2, none⟩ (.int .i64 (p.1 : Int))).setCell ⟨gw, c * 2 + 1, none⟩ (.string p.2)) gw cap q a (j + 1)) :=
            ⟨(K2.setCell (.inl rfl) _ _).setCell (.inl rfl) _ _, M3⟩
          have hcq : (c : Int) < (q.length : Int) := by omega
          obtain ⟨pa, ps⟩ := p
          clear hrr hp M2 K2 M3 hpa hc hcap
          go_wp2_with (go_at_call 84; refine hcl.mono ?_; rintro e w' ⟨rfl, hw'⟩; rw [hw']; clear hw' w')
          refine ⟨?_, ?measure⟩
          · (repeat apply Exists.intro)
            refine ⟨?rel, rfl⟩
            case rel => exact ⟨j + 1, by omega, by omega, by rw [HE.out]; go_num, by go_num, HF⟩
          case measure => simp [intOf]; omega
      · obtain rfl : j = q.length := by omega
        rw [List.take_length] at hc ⊢
        obtain ⟨Z, hrun, hW⟩ := hrr.out.2.clear HC.out.1 HC.out.2 HL0.out
        have hltc : c < q.length := by rw [← hc]; exact HL0.out
        have hcap := HC.out
        rw [hc] at hrun hW ⊢
        have HF : Hid (Waits (wr.setRow gw Z) 158 (.slice (some ⟨gw, 0, none⟩) c cap) (others a q) ∧ Kept (fun k => (Value.slice (some ⟨gw, 0, none⟩) q.length cap).ownBlock = some k) w (wr.setRow gw Z)) :=
          ⟨hW, HK1.out.trans (hrr.out.1.setRow (.inl rfl) Z) (fun i e => .inl (by rw [e]; rfl))⟩
        have HCC : Hid ((others a q).length = c) := hc
        have hcc1 : (cap = c) = False := eq_false (by omega)
        have hcc2 : (c : Int) ≤ (q.length : Int) := by omega
        have hcc3 : (c : Int) ≤ (cap : Int) := by omega
        clear hc hrr hW
        go_wp2_with fail
        go_ret
        rw [HCC.out]
        exact ⟨some ⟨gw, 0, none⟩, cap, rfl, HF.out.1, HF.out.2, rfl⟩
def tampB (dead : Bool) (n : Nat) (at_ : Int) (s : ByteArray) : Bool := decide (errW dead n at_ s = 0)
def tampL (l : Nat → ByteArray) (dead : Bool) (n : Nat) (at_ : Int) (s : ByteArray) : Nat → ByteArray := if errW dead n at_ s = 0 then upd l (at_.toNat, s) else l
def tampQ (q : List Wr) (dead : Bool) (n : Nat) (at_ : Int) (s : ByteArray) : List Wr := if errW dead n at_ s = 0 then others at_.toNat q else q
set_option maxHeartbeats 1000000 in
theorem tamper_any {F : Nat → Prop} {g n : Nat} {l : Nat → ByteArray} {q : List Wr} {dead : Bool} {w : World} (h : DiskAt w F g n l q dead) (at_ : Int) (s : ByteArray) (hq : q.length ≤ 1000000) :
    Calls Tryz.prog 40 #[.pointer (some ⟨g, 0, none⟩), .int .i64 at_, .string s] w fun e w' => e = .returned (.bool (tampB dead n at_ s)) ∧ Turned F w w' (fun F' => DiskAt w' F' g n (tampL l dead n at_ s) (tampQ q dead n at_ s) dead) := by
  have K0 : Kept (fun _ => False) w (w.alloc (.cells #[.int .i64 at_] 3)) := (Kept.refl _ _).alloc _
  have h' := h.kept K0 (fun _ _ h => h)
  have hu := reach_any h' at_
  have HT0 : Hid (Turned F w (w.alloc (.cells #[.int .i64 at_] 3)) (fun F' => DiskAt (w.alloc (.cells #[.int .i64 at_] 3)) F' g n l q dead)) := ⟨F, h', K0.mono (fun i _ h => h.elim), fun k hk => .inl hk⟩
  unfold tampB tampL tampQ
  rcases errW_cases dead n at_ s with ⟨E, hE, h0, hW⟩ | ⟨hE, hW, hs⟩ | ⟨rfl, hW, hs, k, rfl, hk⟩
  · rw [hW, if_neg h0, if_neg h0, decide_eq_false h0]
    rw [hE] at hu
    have hb : (E == 0) = false := by simpa using h0
    have hb' : (E = 0) = False := eq_false h0
    clear h h' K0 hE hW h0
    go_enter Tryz.func40, Tryz.ntmps40
    go_wp2_with (go_at_call 82; refine hu.mono ?_; rintro e w' ⟨rfl, rfl⟩)
    go_ret
    exact ⟨rfl, HT0.out⟩
  · rw [hW, if_neg (by decide), if_neg (by decide), decide_eq_false (by decide)]
    rw [hE] at hu
    clear h h' K0 hE hW
    go_enter Tryz.func40, Tryz.ntmps40
    go_wp2_with (go_at_call 82; refine hu.mono ?_; rintro e w' ⟨rfl, rfl⟩)
    go_ret
    exact ⟨rfl, HT0.out⟩
  · rw [hW, if_pos rfl, if_pos rfl, decide_eq_true rfl, Int.toNat_natCast]
    rw [errA_ok n k hk] at hu
    have hs' : ¬ 2048 < s.size := by omega
    have hB := h.bound
    clear h HT0
    obtain ⟨gc, gl, v, h⟩ := h'
    have G0 : Blk (w.alloc (.cells #[.int .i64 (k : Int)] 3)) w.heap.size 3 [.int .i64 (k : Int)] := Blk.new w 3 #[.int .i64 (k : Int)]
    have hgc := h.top.ne h.cells (by decide)
    have hgl := h.top.ne h.lasts (by decide)
    have hvc := h.cells.owns_ne h.row (by decide)
    have hvl := h.lasts.owns_ne h.row (by decide)
    have hac := G0.ne h.cells (by decide)
    have hal := G0.ne h.lasts (by decide)
    have HK0 : Hid (Kept F w (w.alloc (.cells #[.int .i64 (k : Int)] 3))) := K0.mono (fun i _ h => h.elim)
    have HB : Hid _ := hB
    have c0 := h.top.cell (i := 0) rfl
    have c1 := h.top.cell (i := 1) rfl
    have ca1 := G0.cell (i := 0) rfl
    have ec := h.cells.cell (strs_at n _ k hk)
    have fc := h.cells.frozen k
    have el := h.lasts.cell (strs_at n _ k hk)
    have fl := h.lasts.frozen k
    have hk' : (k : Int) < (n : Int) := by omega
    clear K0 hB hW
    -- behind the two stores, in whichever order
    have fact : ∀ w3, (w3 = (((w.alloc (.cells #[.int .i64 (k : Int)] 3)).setCell ⟨gc, k, none⟩ (.string s)).setCell ⟨gl, k, none⟩ (.string s)).drew ∨ w3 = (((w.alloc (.cells #[.int .i64 (k : Int)] 3)).setCell ⟨gl, k, none⟩ (.string s)).setCell ⟨gc, k, none⟩ (.string s)).drew) →
        Hid (Blk w3 g 130 [.slice (some ⟨gc, 0, none⟩) n n, .slice (some ⟨gl, 0, none⟩) n n, v, .bool false] ∧ Blk w3 gc 9 (strs n (upd (app l q) (k, s))) ∧ Blk w3 gl 9 (strs n (upd l (k, s))) ∧ Waits w3 158 v q ∧ Blk w3 w.heap.size 3 [.int .i64 (k : Int)] ∧ Kept F w w3) := by
      intro w3 hw3
      have C1 := h.cells.setCell k (.string s)
      have L1 := h.lasts.setCell k (.string s)
      rw [strs_set] at C1 L1
      have kc := Kept.one (w.alloc (.cells #[.int .i64 (k : Int)] 3)) gc k (.string s)
      have kl := Kept.one (w.alloc (.cells #[.int .i64 (k : Int)] 3)) gl k (.string s)
      rcases hw3 with rfl | rfl
      · have kl' := Kept.one ((w.alloc (.cells #[.int .i64 (k : Int)] 3)).setCell ⟨gc, k, none⟩ (.string s)) gl k (.string s)
        have L2 := (h.lasts.kept kc (fun e => h.ne e.symm)).setCell k (.string s)
        rw [strs_set] at L2
        exact ⟨((h.top.kept kc hgc).kept kl' hgl).drew, (C1.kept kl' h.ne).drew, L2.drew, ((h.row.kept kc (fun i hi e => hvc (by rw [hi, e]))).kept kl' (fun i hi e => hvl (by rw [hi, e]))).kept (Kept.refl (fun _ => False) _).drew (fun _ _ h => h),
          ((G0.kept kc hac).kept kl' hal).drew, ((HK0.out.setCell (.inl h.inn.2.1) _ _).setCell (.inl h.inn.2.2.1) _ _).drew⟩
      · have kc' := Kept.one ((w.alloc (.cells #[.int .i64 (k : Int)] 3)).setCell ⟨gl, k, none⟩ (.string s)) gc k (.string s)
        have C2 := (h.cells.kept kl h.ne).setCell k (.string s)
        rw [strs_set] at C2
        exact ⟨((h.top.kept kl hgl).kept kc' hgc).drew, C2.drew, (L1.kept kc' (fun e => h.ne e.symm)).drew, ((h.row.kept kl (fun i hi e => hvl (by rw [hi, e]))).kept kc' (fun i hi e => hvc (by rw [hi, e]))).kept (Kept.refl (fun _ => False) _).drew (fun _ _ h => h),
          ((G0.kept kl hal).kept kc' hac).drew, ((HK0.out.setCell (.inl h.inn.2.2.1) _ _).setCell (.inl h.inn.2.1) _ _).drew⟩
    have HFA : Hid _ := fact
    have HH : Hid _ := h
    clear fact G0 h
    have hcne : (gc = gl) = False := eq_false HH.out.ne
    have hcne' : (gl = gc) = False := eq_false (fun e => HH.out.ne e.symm)
    go_enter Tryz.func40, Tryz.ntmps40
    go_wp2_with (go_at_call 82; refine hu.mono ?_; rintro e w' ⟨rfl, hw'⟩; rw [hw']; clear hw' w')
    go_region
    have hf := HFA.out _ (.inl rfl)
    clear HFA hu c0 c1 ca1 ec fc el fl
    generalize (((w.alloc (.cells #[.int .i64 (k : Int)] 3)).setCell ⟨gc, k, none⟩ (.string s)).setCell ⟨gl, k, none⟩ (.string s)).drew = w3 at hf ⊢
    have hdel := deleteFunc_any k w.heap.size q v w3 hf.out.2.2.2.2.1 hf.out.2.2.2.1 hq
    have c2 := hf.out.1.cell (i := 2) rfl
    go_wp2_with (go_at_call 83; refine hdel.mono ?_; rintro e w4 ⟨b, c, rfl, hW, hK, hob⟩; clear hdel; have T4 := hf.out.1.kept hK (hf.out.1.owns_ne hf.out.2.2.2.1 (by decide)); have d2 := T4.cell (i := 2) rfl; have f2 := T4.frozen 2)
    go_ret
    refine ⟨rfl, ?_⟩
    obtain ⟨-, C3, L3, W3, -, K3⟩ := hf.out
    have hg4 := T4.setCell 2 (.slice b (others k q).length c)
    have K5 := Kept.one w4 g 2 (.slice b (others k q).length c)
    have C4 := (C3.kept hK (C3.owns_ne W3 (by decide))).kept K5 (fun e => hgc e.symm)
    have L4 := (L3.kept hK (L3.owns_ne W3 (by decide))).kept K5 (fun e => hgl e.symm)
    have W5 := hW.kept K5 (fun i hi e => T4.owns_ne hW (by decide) (by rw [hi, e]))
    have K6 : Kept F w (w4.setCell ⟨g, 2, none⟩ (.slice b (others k q).length c)) := (K3.trans hK (fun i hi => .inl (HH.out.inn.2.2.2 i hi))).setCell (.inl HH.out.inn.1) _ _
    refine ⟨F, ⟨gc, gl, .slice b (others k q).length c, ⟨HH.out.inn.1, HH.out.inn.2.1, HH.out.inn.2.2.1, fun i hi => HH.out.inn.2.2.2 i (by rw [← hob]; exact hi)⟩, HH.out.ne, HH.out.low, HH.out.high, fun p hp => HH.out.ats p (others_mem hp), hg4, ?_, L4, W5, fun i hi => Nat.lt_of_lt_of_le (HB.out i hi) K6.size⟩, K6, fun i hi => .inl hi⟩
    rw [app_others]
    exact C4
theorem RefIn.done {w w' : World} {F : Nat → Prop} {g n : Nat} {l l' : Nat → ByteArray} {q : List Wr} {dead : Bool} {gc : Nat} {v : Value} (h : RefIn w F g n l q dead gc v) (K : Kept (fun i => i = gc) w w') (C : Blk w' gc 9 (strs n l')) :
    Turned F w (w'.setCell ⟨g, 1, none⟩ (.slice none 0 0)) (fun F' => RefAt (w'.setCell ⟨g, 1, none⟩ (.slice none 0 0)) F' g n l' [] dead) := by
  have hgc := h.top.ne h.cells (by decide)
  have T := (h.top.kept K hgc).setCell 1 (.slice none 0 0)
  have C2 := C.kept (Kept.one w' g 1 (.slice none 0 0)) (fun e => hgc e.symm)
  have K2 : Kept F w (w'.setCell ⟨g, 1, none⟩ (.slice none 0 0)) := (K.mono (fun i _ e => by rw [e]; exact h.inn.2.1)).setCell (.inl h.inn.1) _ _
  exact ⟨F, ⟨gc, .slice none 0 0, ⟨h.inn.1, h.inn.2.1, fun k hk => (by cases hk)⟩, h.low, h.high, fun p hp => (by cases hp), T, C2, Waits.nil _ _, fun k hk => Nat.lt_of_lt_of_le (h.bound k hk) K2.size⟩, K2, fun k hk => .inl hk⟩
theorem refFail_any {F : Nat → Prop} {g n : Nat} {l : Nat → ByteArray} {q : List Wr} {dead : Bool} {w : World} (h : RefAt w F g n l q dead) :
    Calls Tryz.prog 42 #[.pointer (some ⟨g, 0, none⟩)] w fun e w' => e = .returned (.tuple #[]) ∧ Turned F w w' (fun F' => RefAt w' F' g n l [] true) := by
  obtain ⟨gc, v, h⟩ := h
  have c2 := h.top.cell (i := 2) rfl
  have f2 := h.top.frozen 2
  have T1 := h.top.setCell 2 (.bool true)
  have c1 := T1.cell (i := 1) rfl
  have f1 := T1.frozen 1
  have hgc := h.top.ne h.cells (by decide)
  have C1 := h.cells.kept (Kept.one w g 2 (.bool true)) (fun e => hgc e.symm)
  have T2 := T1.setCell 1 (.slice none 0 0)
  have C2 := C1.kept (Kept.one (w.setCell ⟨g, 2, none⟩ (.bool true)) g 1 (.slice none 0 0)) (fun e => hgc e.symm)
  have K2 : Kept F w ((w.setCell ⟨g, 2, none⟩ (.bool true)).setCell ⟨g, 1, none⟩ (.slice none 0 0)) := ((Kept.refl F w).setCell (.inl h.inn.1) _ _).setCell (.inl h.inn.1) _ _
  have HT : Hid (Turned F w ((w.setCell ⟨g, 2, none⟩ (.bool true)).setCell ⟨g, 1, none⟩ (.slice none 0 0)) (fun F' => RefAt ((w.setCell ⟨g, 2, none⟩ (.bool true)).setCell ⟨g, 1, none⟩ (.slice none 0 0)) F' g n l [] true)) :=
    ⟨F, ⟨gc, .slice none 0 0, ⟨h.inn.1, h.inn.2.1, fun k hk => (by cases hk)⟩, h.low, h.high, fun p hp => (by cases hp), T2, C2, Waits.nil _ _, fun k hk => Nat.lt_of_lt_of_le (h.bound k hk) K2.size⟩, K2, fun k hk => .inl hk⟩
  clear h T1 C1 T2 C2 K2 hgc
  go_enter Tryz.func42, Tryz.ntmps42
  go_wp2_with fail
  go_end0
  exact ⟨rfl, HT.out⟩
def parL (l : Nat → ByteArray) (m : Nat) (f : Nat → ByteArray) (j i : Nat) : ByteArray := if i < j then restL m f i else l i
theorem parL_zero (l : Nat → ByteArray) (m : Nat) (f : Nat → ByteArray) : parL l m f 0 = l := by funext i; unfold parL; rw [if_neg (by omega)]
theorem parL_end (l : Nat → ByteArray) (m : Nat) (f : Nat → ByteArray) (n : Nat) : ∀ i, i < n → parL l m f n i = restL m f i := by intro i hi; unfold parL; rw [if_pos hi]
theorem parL_step (l : Nat → ByteArray) (m : Nat) (f : Nat → ByteArray) (j : Nat) : upd (parL l m f j) (j, restL m f j) = parL l m f (j + 1) := by
  funext i
  unfold upd parL
  simp only
  by_cases e : i = j
  · subst e; rw [if_pos rfl, if_pos (by omega)]
  · rw [if_neg e]
    by_cases h1 : i < j
    · rw [if_pos h1, if_pos (by omega)]
    · rw [if_neg h1, if_neg (by omega)]
theorem upd_upd (f : Nat → ByteArray) (k : Nat) (s t : ByteArray) : upd (upd f (k, s)) (k, t) = upd f (k, t) := by
  funext i
  unfold upd
  simp only
  by_cases e : i = k
  · rw [if_pos e, if_pos e]
  · rw [if_neg e, if_neg e, if_neg e]
set_option maxHeartbeats 1000000 in
theorem refRestore_any {F : Nat → Prop} {g n : Nat} {l : Nat → ByteArray} {q : List Wr} {dead : Bool} {w : World} (h : RefAt w F g n l q dead) (v : Value) (m : Nat) (f : Nat → ByteArray) (hv : TextsAt w v m f) (hm : m ≤ 1000000000) (ha : Away F v) :
    Calls Tryz.prog 38 #[.pointer (some ⟨g, 0, none⟩), v] w fun e w' => e = .returned (.tuple #[]) ∧ Turned F w w' (fun F' => RefAt w' F' g n (restoreL l dead m f) (flushQ q dead) dead) := by
  have HT0 : Hid _ := RefIn.turn h
  obtain ⟨gc, vw, h⟩ := h
  have c2 := h.top.cell (i := 2) rfl
  cases dead
  · rw [show restoreL l false m f = restL m f from rfl, show flushQ q false = [] from rfl]
    have hv' := hv
    obtain ⟨av, capv, rfl, hcm, hv0⟩ := hv'
    have HV0 : Hid _ := hv0
    have HV : Hid (TextsAt w (.slice av m capv) m f) := hv
    have HH : Hid _ := h
    have HA : Hid _ := ha
    have hgc := h.top.ne h.cells (by decide)
    have hn5 := h.high
    clear hv hv0 ha h HT0
    go_enter Tryz.func38, Tryz.ntmps38
    go_wp2_with fail
    go_loopw [4] (fun i wr => ∃ j : Nat, j ≤ n ∧ i = .int .i64 (j : Int) ∧ Hid (Kept (fun i => i = gc) w wr ∧ Blk wr gc 9 (strs n (parL l m f j)))) (fun i _ => n - (intOf i).toNat)
    case atStart => exact ⟨0, Nat.zero_le _, rfl, Kept.refl _ _, by rw [parL_zero]; exact HH.out.cells⟩
    case round =>
      obtain ⟨j, hj, rfl, hrr⟩ := hrel
      have T1 := HH.out.top.kept hrr.out.1 hgc
      have c0 := T1.cell (i := 0) rfl
      have c1 := T1.cell (i := 1) rfl
      have f1 := T1.frozen 1
      by_cases hlt : j < n
      · have hj' : (j : Int) < (n : Int) := by omega
        have ec := hrr.out.2.cell (strs_at n _ j hlt)
        have fc := hrr.out.2.frozen j
        have C2 := hrr.out.2.setCell j (.string noB)
        rw [strs_set] at C2
        have T2 := T1.kept (Kept.one wr gc j (.string noB)) hgc
        have d0 := T2.cell (i := 0) rfl
        by_cases hjm : j < m
        · obtain ⟨b, o, hav, hb, hc⟩ := HV0.out.resolve_left (fun h => by omega)
          subst hav
          have hbc : b ≠ gc := fun e => HA.out ⟨b, o, none⟩ m capv rfl (by omega) (by rw [show (⟨b, o, none⟩ : Addr).block = b from rfl, e]; exact HH.out.inn.2.1)
          have hcj : (wr.setCell ⟨gc, j, none⟩ (.string noB)).cell? ⟨b, o + j, none⟩ = some (.string (f j)) := by
            rw [(Kept.one wr gc j (.string noB)).cell (p := ⟨b, o + j, none⟩) (Nat.lt_of_lt_of_le hb hrr.out.1.size) hbc, hrr.out.1.cell (p := ⟨b, o + j, none⟩) hb hbc]
            exact hc j hjm
          have hjm' : (j : Int) < (m : Int) := by omega
          by_cases hs : (f j).size ≤ 2048
          · have hR : restL m f j = f j := by unfold restL; rw [if_pos ⟨hjm, hs⟩]
            obtain ⟨s, hse⟩ : ∃ s, f j = s := ⟨_, rfl⟩
            have HR : Hid (Kept (fun i => i = gc) w ((wr.setCell ⟨gc, j, none⟩ (.string noB)).setCell ⟨gc, j, none⟩ (.string s)).drew ∧ Blk ((wr.setCell ⟨gc, j, none⟩ (.string noB)).setCell ⟨gc, j, none⟩ (.string s)).drew gc 9 (strs n (parL l m f (j + 1)))) := by
              refine ⟨((hrr.out.1.setCell (.inl rfl) _ _).setCell (.inl rfl) _ _).drew, ?_⟩
              rw [← parL_step, hR, hse, ← upd_upd _ j noB s, ← strs_set]
              exact (C2.setCell _ _).drew
            have ec2 := C2.cell (strs_at n _ j hlt)
            have fc2 := C2.frozen j
            rw [hse] at hcj hs
            clear hrr T1 T2 C2 c2 f1 HV0 HV HA hc hse hR c1
            go_wp2_with fail
            go_region
            go_wp2_with fail
            go_roundw
            case rel => exact ⟨j + 1, by omega, by go_num, HR⟩
            case measure => simp [intOf]; omega
          · have hR : restL m f j = noB := by unfold restL; rw [if_neg (fun h => hs h.2)]
            obtain ⟨s, hse⟩ : ∃ s, f j = s := ⟨_, rfl⟩
            have HR : Hid (Kept (fun i => i = gc) w (wr.setCell ⟨gc, j, none⟩ (.string noB)) ∧ Blk (wr.setCell ⟨gc, j, none⟩ (.string noB)) gc 9 (strs n (parL l m f (j + 1)))) := by
              refine ⟨hrr.out.1.setCell (.inl rfl) _ _, ?_⟩
              rw [← parL_step, hR]
              exact C2
            rw [hse] at hcj hs
            clear hrr T1 T2 C2 c2 f1 HV0 HV HA hc hse hR c1
            go_wp2_with fail
            go_roundw
            case rel => exact ⟨j + 1, by omega, by go_num, HR⟩
            case measure => simp [intOf]; omega
        · have hjm' : ¬ (j : Int) < (m : Int) := by omega
          have hR : restL m f j = noB := by unfold restL; rw [if_neg (fun h => hjm h.1)]
          have HR : Hid (Kept (fun i => i = gc) w (wr.setCell ⟨gc, j, none⟩ (.string noB)) ∧ Blk (wr.setCell ⟨gc, j, none⟩ (.string noB)) gc 9 (strs n (parL l m f (j + 1)))) := by
            refine ⟨hrr.out.1.setCell (.inl rfl) _ _, ?_⟩
            rw [← parL_step, hR]
            exact C2
          clear hrr T1 T2 C2 c2 f1 HV0 HV HA hR c1
          go_wp2_with fail
          go_roundw
          case rel => exact ⟨j + 1, by omega, by go_num, HR⟩
          case measure => simp [intOf]; omega
      · obtain rfl : j = n := by omega
        have hL := hrr.out.2
        rw [strs_congr j _ _ (parL_end l m f j)] at hL
        have HT : Hid _ := RefIn.done HH.out hrr.out.1 hL
        clear hL hrr T1 HV0 HV HA
        go_wp2_with fail
        go_end0
        exact ⟨rfl, HT.out⟩
  · rw [show restoreL l true m f = l from rfl, show flushQ q true = q from rfl]
    clear h hv ha
    go_enter Tryz.func38, Tryz.ntmps38
    go_wp2_with fail
    refine bodyPost_ret (results_none rfl _ _ _) rfl ⟨rfl, HT0.out⟩
set_option maxHeartbeats 1000000 in
theorem refTamper_any {F : Nat → Prop} {g n : Nat} {l : Nat → ByteArray} {q : List Wr} {dead : Bool} {w : World} (h : RefAt w F g n l q dead) (at_ : Int) (s : ByteArray) (hq : q.length ≤ 1000000) :
    Calls Tryz.prog 41 #[.pointer (some ⟨g, 0, none⟩), .int .i64 at_, .string s] w fun e w' => e = .returned (.bool (tampB dead n at_ s)) ∧ Turned F w w' (fun F' => RefAt w' F' g n (tampL l dead n at_ s) (tampQ q dead n at_ s) dead) := by
  have HT0 : Hid _ := RefIn.turn h
  obtain ⟨gc, v, h⟩ := h
  have c2 := h.top.cell (i := 2) rfl
  have c0 := h.top.cell (i := 0) rfl
  have hn2 := h.high
  unfold tampB tampL tampQ
  rcases errA_cases dead n at_ with rfl | ⟨rfl, ha⟩ | ⟨rfl, k, rfl, hk⟩
  · have hW : errW true n at_ s = 20 := rfl
    rw [hW, if_neg (by decide), if_neg (by decide), decide_eq_false (by decide)]
    clear h hW
    go_enter Tryz.func41, Tryz.ntmps41
    go_wp2_with fail
    go_ret
    exact ⟨rfl, HT0.out⟩
  · have hW : errW false n at_ s = 2 := by unfold errW; rw [errA_low n at_ ha, if_neg (by decide)]
    rw [hW, if_neg (by decide), if_neg (by decide), decide_eq_false (by decide)]
    have HA : Hid (at_ < 0 ∨ (n : Int) ≤ at_) := ha
    clear h hW ha
    by_cases h0 : at_ < 0
    · go_enter Tryz.func41, Tryz.ntmps41
      go_wp2_with fail
      go_ret
      exact ⟨rfl, HT0.out⟩
    · have h1 : (n : Int) ≤ at_ := HA.out.resolve_left h0
      go_enter Tryz.func41, Tryz.ntmps41
      go_wp2_with fail
      go_ret
      exact ⟨rfl, HT0.out⟩
  · have hk' : ¬ (n : Int) ≤ (k : Int) := by omega
    have hk0 : ¬ (k : Int) < 0 := by omega
    by_cases hs : 2048 < s.size
    · have hW : errW false n (k : Int) s = 5 := by unfold errW; rw [errA_ok n k hk, if_pos rfl, if_pos hs]
      rw [hW, if_neg (by decide), if_neg (by decide), decide_eq_false (by decide)]
      clear h hW
      go_enter Tryz.func41, Tryz.ntmps41
      go_wp2_with fail
      go_ret
      exact ⟨rfl, HT0.out⟩
    · have hW : errW false n (k : Int) s = 0 := by unfold errW; rw [errA_ok n k hk, if_pos rfl, if_neg hs]
      rw [hW, if_pos rfl, if_pos rfl, decide_eq_true rfl, Int.toNat_natCast]
      have hgc := h.top.ne h.cells (by decide)
      have hvc := h.cells.owns_ne h.row (by decide)
      have hvg := h.top.owns_ne h.row (by decide)
      have c1 := h.top.cell (i := 1) rfl
      obtain ⟨av, cap, hv⟩ := h.row.form
      subst hv
      have HH : Hid _ := h
      clear h HT0 hW c1
      go_enter Tryz.func41, Tryz.ntmps41
      go_wp2_with fail
      go_loopw [7, 8] (fun vo i wr => ∃ j : Nat, j ≤ q.length ∧ i = .int .i64 (j : Int) ∧ ∃ b c, vo = .slice b (others k (q.take j)).length c ∧ Hid (Below w.heap.size w wr ∧ Waits wr 161 (.slice b (others k (q.take j)).length c) (others k (q.take j)) ∧ ∀ i, (Value.slice b (others k (q.take j)).length c).ownBlock = some i → w.heap.size ≤ i)) (fun _ i _ => q.length - (intOf i).toNat)
      case atStart => exact ⟨0, Nat.zero_le _, rfl, none, 0, by rw [List.take_zero]; rfl, Below.refl _ _, by rw [List.take_zero]; exact Waits.nil _ _, fun i hi => by cases hi⟩
      case round =>
        obtain ⟨j, hj, rfl, b, c, rfl, hrr⟩ := hrel
        have T1 := HH.out.top.below hrr.out.1 HH.out.top.lt
        have c0 := T1.cell (i := 0) rfl
        have c1 := T1.cell (i := 1) rfl
        have f1 := T1.frozen 1
        by_cases hlt : j < q.length
        · obtain ⟨p, hp⟩ : ∃ p, q[j]? = some p := ⟨_, List.getElem?_eq_getElem hlt⟩
          have W1 := HH.out.row.kept (Kept.ofBelow (F := fun _ => False) hrr.out.1) (fun _ _ h => h)
          obtain ⟨gw, cap2, hvv, ca, cb⟩ := W1.at hp
          cases hvv
          have hlen : j * 2 + 1 < q.length * 2 := by omega
          have hj' : (j : Int) < (q.length : Int) := by omega
          obtain ⟨cc, hcc⟩ : ∃ cc, (others k (q.take j)).length = cc := ⟨_, rfl⟩
          have hccj : cc ≤ j := by rw [← hcc]; exact others_le k j q
          by_cases hpk : p.1 = k
          · have hb : (((p.1 : Nat) : Int) == (k : Int)) = true := by rw [hpk]; simp
            have he := others_skip k j q p hp hpk
            rw [← he] at hrr ⊢
            clear W1 T1 hp c2 f1 hpk hcc he
            obtain ⟨pa, ps⟩ := p
            go_wp2_with fail
            go_roundw
            case rel => exact ⟨j + 1, by omega, by go_num, b, c, rfl, hrr⟩
            case measure => simp [intOf]; omega
          · have hb : (((p.1 : Nat) : Int) == (k : Int)) = false := by rw [beq_eq_false_iff_ne]; omega
            have he := others_put k j q p hp hpk
            obtain ⟨g', cap', w2, hrun, W2, hgrow, hat⟩ := waits_push 152 161 152 Tryz.underlying152 Tryz.info161 wr _ _ hrr.out.2.1 p (by rw [hcc]; omega)
            have HE : Hid ((others k (q.take (j + 1))).length = cc + 1) := by
              have e : (others k (q.take (j + 1))).length = cc + 1 := by rw [he, List.length_append, hcc]; rfl
              exact e
            rw [← he] at W2
            have HR : Hid (Below w.heap.size w w2 ∧ Waits w2 161 (.slice (some ⟨g', 0, none⟩) (cc + 1) cap') (others k (q.take (j + 1))) ∧ ∀ i, (Value.slice (some ⟨g', 0, none⟩) (cc + 1) cap').ownBlock = some i → w.heap.size ≤ i) := by
              refine ⟨(hrr.out.1.alloc hrr.out.1.size _).grown hgrow (by rw [World.size_alloc]; have := hrr.out.1.size; omega) (fun i hi => hrr.out.2.2 i hi), by rw [← hcc]; exact W2, fun i hi => ?_⟩
              cases hi
              rcases hat with e | e
              · exact hrr.out.2.2 g' e.symm
              · have := hrr.out.1.size; exact Nat.le_trans this e
            rw [hcc] at hrun ⊢
            obtain ⟨pa, ps⟩ := p
            clear W1 T1 hp c2 f1 hpk hcc he W2 hgrow hat hrr
            go_wp2_with (at_builtin; refine wpList_append_run rfl _ _ 152 152 rfl _ _ rfl rfl _ _ hrun ?_)
            go_roundw
            case rel => exact ⟨j + 1, by omega, by go_num, some ⟨g', 0, none⟩, cap', by rw [HE.out], by rw [HE.out]; exact HR⟩
            case measure => simp [intOf]; omega
        · obtain rfl : j = q.length := by omega
          rw [List.take_length] at hrr ⊢
          have C1 := HH.out.cells.below hrr.out.1 HH.out.cells.lt
          have hog := T1.owns_ne hrr.out.2.1 (by decide)
          have hoc := C1.owns_ne hrr.out.2.1 (by decide)
          have T2 := T1.setCell 1 (.slice b (others k q).length c)
          have K1 := Kept.one wr g 1 (.slice b (others k q).length c)
          have C2 := C1.kept K1 (fun e => hgc e.symm)
          have W2 := hrr.out.2.1.kept K1 (fun i hi e => hog (by rw [hi, e]))
          have d0 := T2.cell (i := 0) rfl
          have ec := C2.cell (strs_at n _ k hk)
          have fc := C2.frozen k
          have C3 := C2.setCell k (.string s)
          rw [strs_set] at C3
          have K2 := Kept.one (wr.setCell ⟨g, 1, none⟩ (.slice b (others k q).length c)) gc k (.string s)
          have T3 := T2.kept K2 hgc
          have W3 := W2.kept K2 (fun i hi e => hoc (by rw [hi, e]))
          have KK : Kept F w ((wr.setCell ⟨g, 1, none⟩ (.slice b (others k q).length c)).setCell ⟨gc, k, none⟩ (.string s)) := ((Kept.ofBelow hrr.out.1).setCell (.inl HH.out.inn.1) _ _).setCell (.inl HH.out.inn.2.1) _ _
          have HT : Hid (Turned F w ((wr.setCell ⟨g, 1, none⟩ (.slice b (others k q).length c)).setCell ⟨gc, k, none⟩ (.string s)) (fun F' => RefAt ((wr.setCell ⟨g, 1, none⟩ (.slice b (others k q).length c)).setCell ⟨gc, k, none⟩ (.string s)) F' g n (upd l (k, s)) (others k q) false)) := by
            refine ⟨fun i => F i ∨ (Value.slice b (others k q).length c).ownBlock = some i, ⟨gc, .slice b (others k q).length c, ⟨.inl HH.out.inn.1, .inl HH.out.inn.2.1, fun i hi => .inr hi⟩, HH.out.low, HH.out.high, fun p hp => HH.out.ats p (others_mem hp), T3, C3, W3, ?_⟩, KK, ?_⟩
            · rintro i (hi | hi)
              · exact Nat.lt_of_lt_of_le (HH.out.bound i hi) KK.size
              · exact W3.lt i hi
            · rintro i (hi | hi)
              · exact .inl hi
              · exact .inr (hrr.out.2.2 i hi)
          have hkn : (k : Int) < (n : Int) := by omega
          clear T1 T2 T3 C1 C2 C3 W2 W3 K1 K2 KK hrr c2
          go_wp2_with fail
          go_ret
          exact ⟨rfl, HT.out⟩
def more (n : Int) : Nat := (max 0 n % 30).toNat
def Own (B : Nat) (w0 w : World) (g n : Nat) (l : Nat → ByteArray) (q : List Wr) (dead : Bool) : Prop := B ≤ w.heap.size ∧ Below B w0 w ∧ ∃ F, DiskAt w F g n l q dead ∧ ∀ k, F k → B ≤ k
theorem Own.turn {B : Nat} {w0 w w' : World} {F : Nat → Prop} {g n : Nat} {l : Nat → ByteArray} {q : List Wr} {dead : Bool} (hB : B ≤ w.heap.size) (hb : Below B w0 w) (hF : ∀ k, F k → B ≤ k) (hT : Turned F w w' (fun F' => DiskAt w' F' g n l q dead)) : Own B w0 w' g n l q dead := by
  obtain ⟨F', h1, h2, h3⟩ := hT
  exact ⟨Nat.le_trans hB h2.size, h2.below hb hB hF, F', h1, fun k hk => (h3 k hk).elim (hF k) (fun h => Nat.le_trans hB h)⟩
theorem Own.below {B : Nat} {w0 w w' : World} {g n : Nat} {l : Nat → ByteArray} {q : List Wr} {dead : Bool} (h : Own B w0 w g n l q dead) (hb : Below w.heap.size w w') : Own B w0 w' g n l q dead := by
  obtain ⟨h1, h2, F, h3, h4⟩ := h
  exact ⟨Nat.le_trans h1 hb.size, h2.trans (hb.mono h1), F, h3.kept (Kept.ofBelow (F := fun _ => False) hb) (fun _ _ h => h), h4⟩
theorem Own.size {B : Nat} {w0 w : World} {g n : Nat} {l : Nat → ByteArray} {q : List Wr} {dead : Bool} (h : Own B w0 w g n l q dead) : B ≤ w.heap.size := h.1
open Go.ChangeShapes Go.WideShapes Go.ChangeAt Go.RowKit Go.PlainAid
structure ActD where
  d : Int
  a : Int
  s : ByteArray
  n : Int
  x : Bool
  kb : Option Addr
  km : Nat
  kc : Nat
  kk : Nat → Bool
abbrev ActD.row (A : ActD) : Value := .slice A.kb A.km A.kc
def BoolsOk (W : World) (a : Option Addr) (m c : Nat) (k : Nat → Bool) : Prop := BoolsAt W (.slice a m c) m k ∧ m ≤ c ∧ c ≤ maxLen
theorem BoolsOk.below {w w' : World} {a : Option Addr} {m c : Nat} {k : Nat → Bool} (h : BoolsOk w a m c k) (hb : Below w.heap.size w w') : BoolsOk w' a m c k := ⟨h.1.below hb, h.2⟩
def dsk (g n : Nat) (l : Nat → ByteArray) (q : List Wr) (dead : Bool) : Asn := fun w F => DiskAt w F g n l q dead
theorem firm_dsk (g n : Nat) (l : Nat → ByteArray) (q : List Wr) (dead : Bool) : Firm (dsk g n l q dead) := ⟨fun h hk hd => DiskAt.kept h hk hd, fun h => DiskAt.bound h⟩
def rf (g n : Nat) (l : Nat → ByteArray) (q : List Wr) (dead : Bool) : Asn := fun w F => RefAt w F g n l q dead
theorem firm_rf (g n : Nat) (l : Nat → ByteArray) (q : List Wr) (dead : Bool) : Firm (rf g n l q dead) := ⟨fun h hk hd => RefAt.kept h hk hd, fun h => RefAt.bound h⟩
def txt (v : Value) (m : Nat) (f : Nat → ByteArray) : Asn := fun w F => TextsAt w v m f ∧ (∀ a n c, v = .slice (some a) n c → n ≠ 0 → F a.block) ∧ ∀ k, F k → k < w.heap.size
theorem firm_txt (v : Value) (m : Nat) (f : Nat → ByteArray) : Firm (txt v m f) := ⟨fun h hk hd => ⟨h.1.kept hk (fun a n c e e0 => hd _ (h.2.1 a n c e e0)), h.2.1, fun k hf => Nat.lt_of_lt_of_le (h.2.2 k hf) hk.size⟩, fun h => h.2.2⟩
section
variable {B : Nat} {w0 w : World} {g n : Nat} {l : Nat → ByteArray} {q : List Wr} {dead : Bool} {R : Asn}
theorem Hold.dsk (h : Hold B w0 w (star (dsk g n l q dead) R)) : ∃ F, DiskAt w F g n l q dead := by
  obtain ⟨h1, h2, F, ⟨G, H, h3, h4⟩, h7⟩ := h; exact ⟨G, h3⟩
theorem Hold.rf (h : Hold B w0 w (star (rf g n l q dead) R)) : ∃ F, RefAt w F g n l q dead := by
  obtain ⟨h1, h2, F, ⟨G, H, h3, h4⟩, h7⟩ := h; exact ⟨G, h3⟩
theorem h_write (hR : Firm R) (h : Hold B w0 w (star (Go.Proofs.YtokknmkleceooaaGreatDoor.dsk g n l q dead) R)) (at_ : Int) (s : ByteArray) (hq : q.length ≤ 1000000) : Calls Tryz.prog 122 #[.pointer (some ⟨g, 0, none⟩), .int .i64 at_, .string s] w fun e w' => e = .returned (.int .i64 (errW dead n at_ s)) ∧ Hold B w0 w' (star (Go.Proofs.YtokknmkleceooaaGreatDoor.dsk g n l (putQ q dead n at_ s) dead) R) :=
  h.call hR (P' := Go.Proofs.YtokknmkleceooaaGreatDoor.dsk g n l (putQ q dead n at_ s) dead) (E := fun e => e = .returned (.int .i64 (errW dead n at_ s))) fun G hG _ => dkWrite_any hG at_ s hq
theorem h_flush (hR : Firm R) (h : Hold B w0 w (star (Go.Proofs.YtokknmkleceooaaGreatDoor.dsk g n l q dead) R)) : Calls Tryz.prog 123 #[.pointer (some ⟨g, 0, none⟩)] w fun e w' => e = .returned (.int .i64 (errD dead)) ∧ Hold B w0 w' (star (Go.Proofs.YtokknmkleceooaaGreatDoor.dsk g n (flushL l q dead) (flushQ q dead) dead) R) :=
  h.call hR (P' := Go.Proofs.YtokknmkleceooaaGreatDoor.dsk g n (flushL l q dead) (flushQ q dead) dead) (E := fun e => e = .returned (.int .i64 (errD dead))) fun G hG _ => flush_any hG
theorem h_fail (hR : Firm R) (h : Hold B w0 w (star (Go.Proofs.YtokknmkleceooaaGreatDoor.dsk g n l q dead) R)) : Calls Tryz.prog 25 #[.pointer (some ⟨g, 0, none⟩)] w fun e w' => e = .returned (.tuple #[]) ∧ Hold B w0 w' (star (Go.Proofs.YtokknmkleceooaaGreatDoor.dsk g n (fun _ => noB) [] true) R) :=
  h.call hR (P' := Go.Proofs.YtokknmkleceooaaGreatDoor.dsk g n (fun _ => noB) [] true) (E := fun e => e = .returned (.tuple #[])) fun G hG _ => fail_any hG
theorem h_rfail (hR : Firm R) (h : Hold B w0 w (star (Go.Proofs.YtokknmkleceooaaGreatDoor.rf g n l q dead) R)) : Calls Tryz.prog 42 #[.pointer (some ⟨g, 0, none⟩)] w fun e w' => e = .returned (.tuple #[]) ∧ Hold B w0 w' (star (Go.Proofs.YtokknmkleceooaaGreatDoor.rf g n l [] true) R) :=
  h.call hR (P' := Go.Proofs.YtokknmkleceooaaGreatDoor.rf g n l [] true) (E := fun e => e = .returned (.tuple #[])) fun G hG _ => refFail_any hG
theorem h_tamper (hR : Firm R) (h : Hold B w0 w (star (Go.Proofs.YtokknmkleceooaaGreatDoor.dsk g n l q dead) R)) (at_ : Int) (s : ByteArray) (hq : q.length ≤ 1000000) : Calls Tryz.prog 40 #[.pointer (some ⟨g, 0, none⟩), .int .i64 at_, .string s] w fun e w' => e = .returned (.bool (tampB dead n at_ s)) ∧ Hold B w0 w' (star (Go.Proofs.YtokknmkleceooaaGreatDoor.dsk g n (tampL l dead n at_ s) (tampQ q dead n at_ s) dead) R) :=
  h.call hR (P' := Go.Proofs.YtokknmkleceooaaGreatDoor.dsk g n (tampL l dead n at_ s) (tampQ q dead n at_ s) dead) (E := fun e => e = .returned (.bool (tampB dead n at_ s))) fun G hG _ => tamper_any hG at_ s hq
theorem h_rtamper (hR : Firm R) (h : Hold B w0 w (star (Go.Proofs.YtokknmkleceooaaGreatDoor.rf g n l q dead) R)) (at_ : Int) (s : ByteArray) (hq : q.length ≤ 1000000) : Calls Tryz.prog 41 #[.pointer (some ⟨g, 0, none⟩), .int .i64 at_, .string s] w fun e w' => e = .returned (.bool (tampB dead n at_ s)) ∧ Hold B w0 w' (star (Go.Proofs.YtokknmkleceooaaGreatDoor.rf g n (tampL l dead n at_ s) (tampQ q dead n at_ s) dead) R) :=
  h.call hR (P' := Go.Proofs.YtokknmkleceooaaGreatDoor.rf g n (tampL l dead n at_ s) (tampQ q dead n at_ s) dead) (E := fun e => e = .returned (.bool (tampB dead n at_ s))) fun G hG _ => refTamper_any hG at_ s hq
end
theorem BoolsAt.cut {w : World} {a : Option Addr} {m c : Nat} {k : Nat → Bool} (h : BoolsAt w (.slice a m c) m k) (j : Nat) (hj : j ≤ m) : BoolsAt w (.slice a j c) j (fun i => if i < j then k i else false) := by
  obtain ⟨⟨a', cap, e, h1⟩, h2⟩ := h
  cases e
  refine ⟨⟨a, c, rfl, ?_⟩, fun i hi => if_neg (by omega)⟩
  rcases h1 with h1 | ⟨b, o, rfl, hl, hc⟩
  · exact .inl (by omega)
  · exact .inr ⟨b, o, rfl, hl, fun i hi => by simp only [if_pos hi]; exact hc i (by omega)⟩
theorem TextsAt.congr {w : World} {v : Value} {m : Nat} {f f' : Nat → ByteArray} (h : TextsAt w v m f) (e : ∀ i, i < m → f i = f' i) : TextsAt w v m f' := by
  obtain ⟨a, cap, rfl, h0, h1⟩ := h
  refine ⟨a, cap, rfl, h0, ?_⟩
  rcases h1 with h1 | ⟨b, o, rfl, hb, hc⟩
  · exact .inl h1
  · exact .inr ⟨b, o, rfl, hb, fun i hi => by rw [← e i hi]; exact hc i hi⟩
theorem putQ_length (q : List Wr) (dead : Bool) (n : Nat) (a : Int) (s : ByteArray) : (putQ q dead n a s).length ≤ q.length + 1 := by
  unfold putQ
  split
  · simp
  · omega
theorem flushQ_length (q : List Wr) (dead : Bool) : (flushQ q dead).length ≤ q.length + 1 := by
  unfold flushQ
  split
  · omega
  · simp
theorem h_new {B : Nat} {w0 w : World} {R : Asn} (hR : Firm R) (h : Hold B w0 w R) (c : Int) : Calls Tryz.prog 68 #[.int .i64 c] w fun e w' => ∃ g, e = .returned (.pointer (some ⟨g, 0, none⟩)) ∧ Hold B w0 w' (star (dsk g (newN c) (fun _ => noB) [] false) R) := by
  refine (new_at c w).mono ?_
  rintro e w' ⟨g, rfl, F, h1, h2, h3⟩
  exact ⟨g, rfl, Hold.new hR h h2 (G := F) h1 h3⟩
theorem h_rnew {B : Nat} {w0 w : World} {R : Asn} (hR : Firm R) (h : Hold B w0 w R) (c : Int) : Calls Tryz.prog 69 #[.int .i64 c] w fun e w' => ∃ g, e = .returned (.pointer (some ⟨g, 0, none⟩)) ∧ Hold B w0 w' (star (rf g (newN c) (fun _ => noB) [] false) R) := by
  refine (refNew_at c w).mono ?_
  rintro e w' ⟨g, rfl, F, h1, h2, h3⟩
  exact ⟨g, rfl, Hold.new hR h h2 (G := F) h1 h3⟩
theorem TextsAt.cut {w : World} {a : Option Addr} {m c : Nat} {f : Nat → ByteArray} (h : TextsAt w (.slice a m c) m f) (j : Nat) (hj : j ≤ m) : TextsAt w (.slice a j c) j f := by
  obtain ⟨a', cap, e, h0, h1⟩ := h
  cases e
  refine ⟨a, c, rfl, by omega, ?_⟩
  rcases h1 with h1 | ⟨b, o, rfl, hl, hc⟩
  · exact .inl (by omega)
  · exact .inr ⟨b, o, rfl, hl, fun i hi => hc i (by omega)⟩
end Go.Proofs.YtokknmkleceooaaGreatDoor
