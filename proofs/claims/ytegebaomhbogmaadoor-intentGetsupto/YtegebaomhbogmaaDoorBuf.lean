/- A text that is written piece by piece, beside other memory. -/
import Derived.Test.YtegebaomhbogmaaDoorBuild
import Derived.Shelf.Strings.BuilderK
import Derived.Test.YtegebaomhbogmaaDoorBlk
namespace Go.Proofs.YtegebaomhbogmaaDoor
open Go.RowKit Go.PlainAid Go.Shelf
set_option linter.unusedVariables false
set_option maxRecDepth 20000

def BufK (w : World) (b : Nat) (s : ByteArray) : Prop := Lib.IsBuilderF 78 5 b b (Lib.strCells s) w
theorem BufK.lt {w : World} {b : Nat} {s : ByteArray} (h : BufK w b s) : b < w.heap.size := by
  rcases h with h | h
  · exact h.lt
  · exact h.lt
theorem BuilderAtF_below {T e : TypeId} {B b : Nat} {p : Value} {bs : List Value} {w w' : World} (h : Lib.BuilderAtF T e B b p bs w) (hb : Below w.heap.size w w') : Lib.BuilderAtF T e B b p bs w' := by
  have hlt := h.lt
  obtain ⟨hB, v, hbk, hown, hne⟩ := h
  refine ⟨hB, v, by rw [hb.block b hlt]; exact hbk, hown.kept (row := none) ⟨hb.os, hb.tape, hb.output, hb.size, fun k hk _ => hb.block k hk⟩ ?_, hne⟩
  cases v.ownBlock with
  | none => exact .inl rfl
  | some g => exact .inr (by simp)
theorem BufK.below {w w' : World} {b : Nat} {s : ByteArray} (h : BufK w b s) (hb : Below w.heap.size w w') : BufK w' b s := by
  rcases h with h | h
  · exact .inl (BuilderAtF_below h hb)
  · exact .inr (BuilderAtF_below h hb)
theorem BufK.new (w : World) : BufK (w.alloc (.cells #[.pointer none, .slice none 0 0] 78)) w.heap.size ⟨#[]⟩ := Lib.IsBuilderF.of (BufAt.new w)
theorem bufK_write (b : Nat) (s t : ByteArray) (w : World) (h : BufK w b s) (hsz : s.size + t.size ≤ 1000000000) :
    Calls Tryd.prog 34 #[.pointer (some ⟨b, 0, none⟩), .string t] w fun e w' => e = .returned (.tuple #[.int .i64 t.size, .nilIface]) ∧ BufK w' b (s ++ t) ∧ Below b w w' ∧ Lib.OthersKept 5 (some b) w w' := by
  refine (Any.Builder_WriteString_k wrLays wrExtra b b (Lib.strCells s) t w h (by rw [Lib.strCells_length]; omega) (Nat.le_of_lt h.lt)).mono ?_
  rintro e w' ⟨rfl, hB, hb, ho⟩
  exact ⟨rfl, .inr (by rw [strCells_append]; exact hB), hb, ho⟩
theorem bufK_string (b : Nat) (s : ByteArray) (w : World) (h : BufK w b s) :
    Calls Tryd.prog 36 #[.pointer (some ⟨b, 0, none⟩)] w fun e w' => e = .returned (.string s) ∧ Below b w w' := by
  have h' : Lib.IsBuilderF 78 5 b b (Lib.byteCells s.data.toList) w := h
  exact (Any.Builder_String_any_k stLays stExtra b b s.data.toList w h' (Nat.le_of_lt h.lt)).mono fun e w' ⟨he, _, hb, _⟩ => ⟨he, hb⟩
theorem Blk.others {w w' : World} {g b : Nat} {T : TypeId} {L : List Value} (h : Blk w g T L) (ho : Lib.OthersKept 5 (some b) w w') (hg : g ≠ b) (hT : T ≠ 5) : Blk w' g T L :=
  ho g _ h (fun e => hg (Option.some.inj e)) (fun c fz e => hT (by cases e; rfl))
end Go.Proofs.YtegebaomhbogmaaDoor
