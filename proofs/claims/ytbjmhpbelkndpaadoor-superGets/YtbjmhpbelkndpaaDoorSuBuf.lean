/- A text that is written piece by piece, beside other memory. -/
import Derived.Test.YtbjmhpbelkndpaaDoorBuild
import Derived.Shelf.Strings.BuilderK
import Derived.Test.YtbjmhpbelkndpaaDoorSuRows
namespace Go.Proofs.YtbjmhpbelkndpaaDoor
open Go.RowKit Go.PlainAid Go.Shelf
set_option linter.unusedVariables false

def BufK (w : World) (b : Nat) (s : ByteArray) : Prop := Lib.IsBuilderF 77 5 b b (Lib.strCells s) w
theorem BufK.lt {w : World} {b : Nat} {s : ByteArray} (h : BufK w b s) : b < w.heap.size := by
  rcases h with h | h
  · exact h.lt
  · exact h.lt
theorem BuilderAtF_below {T e : TypeId} {B b : Nat} {p : Value} {bs : List Value} {w w' : World} (h : Lib.BuilderAtF T e B b p bs w) (hb : Below w.heap.size w w') : Lib.BuilderAtF T e B b p bs w' := by
  have hlt := h.lt
  obtain ⟨hB, v, hbk, hown, hne⟩ := h
  refine ⟨hB, v, by rw [hb.block b hlt]; exact hbk, hown.kept (row := none) ⟨hb.os, hb.tape, hb.output, hb.size, fun k hk _ => hb.block k hk⟩ ?_, hne⟩
  cases v.ownBlock with
  | none => exact .inl rfl
  | some g => exact .inr (by simp)
theorem BufK.below {w w' : World} {b : Nat} {s : ByteArray} (h : BufK w b s) (hb : Below w.heap.size w w') : BufK w' b s := by
  rcases h with h | h
  · exact .inl (BuilderAtF_below h hb)
  · exact .inr (BuilderAtF_below h hb)
theorem BufK.new (w : World) : BufK (w.alloc (.cells #[.pointer none, .slice none 0 0] 77)) w.heap.size ⟨#[]⟩ := Lib.IsBuilderF.of (BufAt.new w)
theorem bufK_write (b : Nat) (s t : ByteArray) (w : World) (h : BufK w b s) (hsz : s.size + t.size ≤ 1000000000) :
    Calls Tryd.prog 32 #[.pointer (some ⟨b, 0, none⟩), .string t] w fun e w' => e = .returned (.tuple #[.int .i64 t.size, .nilIface]) ∧ BufK w' b (s ++ t) ∧ Below b w w' ∧ Lib.OthersKept 5 (some b) w w' := by
  refine (Any.Builder_WriteString_k wrLays wrExtra b b (Lib.strCells s) t w h (by rw [Lib.strCells_length]; omega) (Nat.le_of_lt h.lt)).mono ?_
  rintro e w' ⟨rfl, hB, hb, ho⟩
  exact ⟨rfl, .inr (by rw [strCells_append]; exact hB), hb, ho⟩
theorem bufK_string (b : Nat) (s : ByteArray) (w : World) (h : BufK w b s) :
    Calls Tryd.prog 36 #[.pointer (some ⟨b, 0, none⟩)] w fun e w' => e = .returned (.string s) ∧ Below b w w' := by
  have h' : Lib.IsBuilderF 77 5 b b (Lib.byteCells s.data.toList) w := h
  exact (Any.Builder_String_any_k stLays stExtra b b s.data.toList w h' (Nat.le_of_lt h.lt)).mono fun e w' ⟨he, _, hb, _⟩ => ⟨he, hb⟩
/-- A row of numbers that is read only. -/
def Ux (w : World) (g n : Nat) (f : Nat → Int) : Prop := ∃ cur : Array Value, w.heap[g]? = some (.cells cur 22 (0, 0)) ∧ ∀ i, i < n → cur[i]? = some (.int .u64 (f i))
theorem Ux.lt {w : World} {g n : Nat} {f : Nat → Int} (h : Ux w g n f) : g < w.heap.size := by obtain ⟨cur, h, _⟩ := h; exact (Array.getElem?_eq_some_iff.1 h).1
theorem Ux.below {w w' : World} {g n : Nat} {f : Nat → Int} (h : Ux w g n f) (hb : Below w.heap.size w w') : Ux w' g n f := by
  have hl := h.lt
  obtain ⟨cur, h, h2⟩ := h; exact ⟨cur, (hb.block g hl).trans h, h2⟩
theorem Ux.others {w w' : World} {g n b : Nat} {f : Nat → Int} (h : Ux w g n f) (ho : Lib.OthersKept 5 (some b) w w') (hg : g ≠ b) : Ux w' g n f := by
  obtain ⟨cur, h, h2⟩ := h
  exact ⟨cur, ho g _ h (fun e => hg (Option.some.inj e)) (fun c fz e => by cases e), h2⟩
theorem Ux.cell {w : World} {g n : Nat} {f : Nat → Int} (h : Ux w g n f) (i : Nat) (hi : i < n) : w.cell? ⟨g, i, none⟩ = some (.int .u64 (f i)) := by
  obtain ⟨cur, h, h2⟩ := h
  rw [cell_of_row w g i cur 22 (0, 0) h, h2 i hi]
theorem Blk.others {w w' : World} {g b : Nat} {T : TypeId} {L : List Value} (h : Blk w g T L) (ho : Lib.OthersKept 5 (some b) w w') (hg : g ≠ b) (hT : T ≠ 5) : Blk w' g T L :=
  ho g _ h (fun e => hg (Option.some.inj e)) (fun c fz e => hT (by cases e; rfl))
/-- n numbers as they lie in a row. -/
def un (n : Nat) (f : Nat → Int) : List Value := (List.range n).map fun i => .int .u64 (f i)
theorem un_succ (n : Nat) (f : Nat → Int) : un (n + 1) f = un n f ++ [.int .u64 (f n)] := by unfold un; rw [List.range_succ, List.map_append]; rfl
theorem un_len (n : Nat) (f : Nat → Int) : (un n f).length = n := by simp [un]
theorem un_at (n : Nat) (f : Nat → Int) (i : Nat) (h : i < n) : (un n f)[i]? = some (.int .u64 (f i)) := by simp [un, h]
theorem Tryd.info22 : (Tryd.prog.info? 22).map (fun i => (i.zero, i.size, i.bytes)) = some (some (.int .u64 0), 1, 8) := by kernel_rfl
theorem ux_row {w : World} {g cap n : Nat} {f : Nat → Int} (h : w.ownsRow 0 22 1 (.slice (some ⟨g, 0, none⟩) n cap) n (un n f)) : Ux w g n f := by
  rcases h.2 with ⟨h1, _⟩ | ⟨g', cap', cur, h1, _, h3, _, _, _, h4⟩
  · cases h1
  · cases h1
    refine ⟨cur, h3, fun i hi => ?_⟩
    have h5 := un_at n f i hi
    rw [← h4, List.getElem?_take, if_pos (by omega)] at h5
    rw [← Array.getElem?_toList]; exact h5
/-- The first eight numbers of a record. -/
def hd8 (R : Rec) : Array Value := #[.int .u64 R.count, .int .u64 R.epoch, .int .u64 R.data, .int .u64 R.slots, .int .u64 R.mark, .int .u64 R.built, .int .u64 (if R.grow then 1 else 0), .int .u64 (R.ns : Int)]
theorem hd8_un (R : Rec) : (hd8 R).toList = un 8 (hdN R) := rfl
theorem hdN_seat (R : Rec) (k : Nat) (hk : k < R.ns) : hdN R (8 + k) = R.seat k := by
  unfold hdN
  simp only [show ¬ (8 + k = 0) by omega, show ¬ (8 + k = 1) by omega, show ¬ (8 + k = 2) by omega, show ¬ (8 + k = 3) by omega, show ¬ (8 + k = 4) by omega, show ¬ (8 + k = 5) by omega, show ¬ (8 + k = 6) by omega, show ¬ (8 + k = 7) by omega, if_false, show 8 + k < 8 + R.ns by omega, if_true, show 8 + k - 8 = k by omega]
theorem hdN_last (R : Rec) : hdN R (8 + R.ns) = (R.nm : Int) := by
  unfold hdN
  simp only [show ¬ (8 + R.ns = 0) by omega, show ¬ (8 + R.ns = 1) by omega, show ¬ (8 + R.ns = 2) by omega, show ¬ (8 + R.ns = 3) by omega, show ¬ (8 + R.ns = 4) by omega, show ¬ (8 + R.ns = 5) by omega, show ¬ (8 + R.ns = 6) by omega, show ¬ (8 + R.ns = 7) by omega, if_false, show ¬ (8 + R.ns < 8 + R.ns) by omega]
theorem hold8 {B : Nat} {w0 w : World} {X : Asn} (hX : Firm X) (h : Hold B w0 w X) (R : Rec) : Hold B w0 (w.alloc (.cells (hd8 R) 22)) (star (rowA 22 (.slice (some ⟨w.heap.size, 0, none⟩) 8 8) 8 (un 8 (hdN R))) X) :=
  Hold.new hX h ((Below.refl _ _).alloc (Nat.le_refl _) _) (G := fun k => k = w.heap.size) ⟨by rw [← hd8_un]; exact World.ownsRow_lit w (hd8 R) 8 (Nat.zero_le _) (by decide) rfl, fun k => ⟨fun e => by rw [e]; rfl, fun e => (Option.some.inj e).symm⟩⟩ (fun k hk => by rw [hk]; exact Nat.le_refl _)
theorem push8 {B : Nat} {w0 w : World} {X : Asn} (hX : Firm X) {g cap n : Nat} {f : Nat → Int} (h : Hold B w0 w (star (rowA 22 (.slice (some ⟨g, 0, none⟩) n cap) n (un n f)) X)) (hn : n ≤ 1000) (ty : TypeId) (x : Int) (hx : f n = x) :
    ∃ g' cap' w', (Builtin.append_ #[72, 72] ty #[.slice (some ⟨g, 0, none⟩) n cap, .slice (some ⟨w.heap.size, 0, none⟩) 1 1]).run Tryd.prog (w.alloc (.cells #[.int .u64 x] 22)) = .ok (.slice (some ⟨g', 0, none⟩) (n + 1) cap') w' ∧
      Hold B w0 w' (star (rowA 22 (.slice (some ⟨g', 0, none⟩) (n + 1) cap') (n + 1) (un (n + 1) f)) X) := by
  rw [un_succ, hx]
  exact row_push hX 72 22 ty (.int .u64 0) 8 Tryd.underlying72 Tryd.info22 rfl (by decide) h (.int .u64 x) rfl (by omega)
end Go.Proofs.YtbjmhpbelkndpaaDoor
