/- A text that is written piece by piece (Go's own strings.Builder, by the library's contracts), and what it comes to. -/
import Derived.Test.YtegebaomhbogmaaDoorBlk
import Derived.Shelf.Strings.Builder1
namespace Go.Proofs.YtegebaomhbogmaaDoor
open Go.RowKit Go.PlainAid Go.Shelf
set_option linter.unusedVariables false

def wrRen : Go.Shelf.Ren := ⟨fun | 166 => 34 | 240 => 43 | 276 => 53 | n => n, fun | 0 => 0 | 3 => 3 | 4 => 4 | 5 => 5 | 9 => 9 | 20 => 20 | 37 => 51 | 70 => 76 | 72 => 78 | 75 => 80 | 80 => 35 | 164 => 102 | n => n, fun | n => n⟩
theorem wrLays : Go.Proofs.Lays.n166 Tryd.prog wrRen := {
  mixed := by kernel_rfl
  f166 := Tryd.func34.trans (congrArg some (by kernel_rfl))
  f240 := Tryd.func43.trans (congrArg some (by kernel_rfl))
  f276 := Tryd.func53.trans (congrArg some (by kernel_rfl))
  t0 := Tryd.underlying0
  a0 := Tryd.isAgg0
  z0 := Tryd.sizeOf0
  v0 := Tryd.zeroValue0
  t3 := Tryd.underlying3
  a3 := Tryd.isAgg3
  z3 := Tryd.sizeOf3
  v3 := Tryd.zeroValue3
  t4 := Tryd.underlying4
  a4 := Tryd.isAgg4
  z4 := Tryd.sizeOf4
  v4 := Tryd.zeroValue4
  t9 := Tryd.underlying9
  a9 := Tryd.isAgg9
  z9 := Tryd.sizeOf9
  v9 := Tryd.zeroValue9
  t20 := Tryd.underlying20
  a20 := Tryd.isAgg20
  z20 := Tryd.sizeOf20
  v20 := Tryd.zeroValue20
  t37 := Tryd.underlying51
  a37 := Tryd.isAgg51
  z37 := Tryd.sizeOf51
  v37 := Tryd.zeroValue51
  t70 := Tryd.underlying76
  a70 := Tryd.isAgg76
  z70 := Tryd.sizeOf76
  v70 := Tryd.zeroValue76
  t72 := Tryd.underlying78
  a72 := Tryd.isAgg78
  z72 := Tryd.sizeOf78
  v72 := Tryd.zeroValue78
  t75 := Tryd.underlying80
  a75 := Tryd.isAgg80
  z75 := Tryd.sizeOf80
  v75 := Tryd.zeroValue80
  t164 := Tryd.underlying102
  a164 := Tryd.isAgg102
  z164 := Tryd.sizeOf102
  v164 := Tryd.zeroValue102 }
theorem wrExtra : Builder.Extra Tryd.prog wrRen := {
  sizeBuilder := by kernel_rfl
  liesBuilder := by kernel_rfl
  t5 := Tryd.underlying5
  a5 := Tryd.isAgg5
  z5 := Tryd.sizeOf5
  v5 := Tryd.zeroValue5
  infoByte := by kernel_rfl
  cellsByte := by kernel_rfl
  sizeByte := by kernel_rfl
  neB5 := by decide }
def stRen : Go.Shelf.Ren := ⟨fun | 169 => 36 | n => n, fun | 0 => 0 | 3 => 3 | 5 => 5 | 9 => 9 | 37 => 51 | 70 => 76 | 72 => 78 | 127 => 94 | n => n, fun | n => n⟩
theorem stLays : Go.Proofs.Lays.n169 Tryd.prog stRen := {
  mixed := by kernel_rfl
  f169 := Tryd.func36.trans (congrArg some (by kernel_rfl))
  t0 := Tryd.underlying0
  a0 := Tryd.isAgg0
  z0 := Tryd.sizeOf0
  v0 := Tryd.zeroValue0
  t3 := Tryd.underlying3
  a3 := Tryd.isAgg3
  z3 := Tryd.sizeOf3
  v3 := Tryd.zeroValue3
  t9 := Tryd.underlying9
  a9 := Tryd.isAgg9
  z9 := Tryd.sizeOf9
  v9 := Tryd.zeroValue9
  t37 := Tryd.underlying51
  a37 := Tryd.isAgg51
  z37 := Tryd.sizeOf51
  v37 := Tryd.zeroValue51
  t70 := Tryd.underlying76
  a70 := Tryd.isAgg76
  z70 := Tryd.sizeOf76
  v70 := Tryd.zeroValue76
  t72 := Tryd.underlying78
  a72 := Tryd.isAgg78
  z72 := Tryd.sizeOf78
  v72 := Tryd.zeroValue78
  t127 := Tryd.underlying94
  a127 := Tryd.isAgg94
  z127 := Tryd.sizeOf94
  v127 := Tryd.zeroValue94 }
theorem stExtra : Builder.Extra Tryd.prog stRen := {
  sizeBuilder := by kernel_rfl
  liesBuilder := by kernel_rfl
  t5 := Tryd.underlying5
  a5 := Tryd.isAgg5
  z5 := Tryd.sizeOf5
  v5 := Tryd.zeroValue5
  infoByte := by kernel_rfl
  cellsByte := by kernel_rfl
  sizeByte := by kernel_rfl
  neB5 := by decide }

/-- A builder in the block b holds the text s. -/
def BufAt (w : World) (b : Nat) (s : ByteArray) : Prop := Lib.IsBuilder 78 5 b b (Lib.strCells s) w
theorem BufAt.lt {w : World} {b : Nat} {s : ByteArray} (h : BufAt w b s) : b < w.heap.size := by
  rcases h with h | h
  · exact h.lt
  · exact h.lt
theorem BuilderAt_below {T e : TypeId} {B b : Nat} {p : Value} {bs : List Value} {w w' : World} (h : Lib.BuilderAt T e B b p bs w) (hb : Below w.heap.size w w') : Lib.BuilderAt T e B b p bs w' := by
  have hlt := h.lt
  obtain ⟨hB, v, hbk, hown, hne⟩ := h
  exact ⟨hB, v, by rw [hb.block b hlt]; exact hbk, owns_below hown hb, hne⟩
theorem BufAt.below {w w' : World} {b : Nat} {s : ByteArray} (h : BufAt w b s) (hb : Below w.heap.size w w') : BufAt w' b s := by
  rcases h with h | h
  · exact .inl (BuilderAt_below h hb)
  · exact .inr (BuilderAt_below h hb)
theorem BufAt.set {w : World} {b k : Nat} {s : ByteArray} (h : BufAt w b s) (hk : k < b) (i : Nat) (v : Value) : BufAt (w.setCell ⟨k, i, none⟩ v) b s := by
  have key : ∀ p, Lib.BuilderAt 78 5 b b p (Lib.strCells s) w → Lib.BuilderAt 78 5 b b p (Lib.strCells s) (w.setCell ⟨k, i, none⟩ v) := by
    rintro p ⟨hB, u, hbk, hown, hne⟩
    have hgr : w.grownBy (w.setCell ⟨k, i, none⟩ v) (some k) := ⟨rfl, rfl, rfl, by simp, fun j hj hne => Below.heap_setCell w ⟨k, i, none⟩ v j (fun e => hne (by rw [e]))⟩
    refine ⟨hB, u, by rw [Below.heap_setCell w ⟨k, i, none⟩ v b (by show b ≠ k; omega)]; exact hbk, hown.kept hgr ?_, hne⟩
    cases hv : u.ownBlock with
    | none => exact .inl rfl
    | some g => exact .inr (fun e => by have := (hown.lt g hv).1; cases e; omega)
  rcases h with h | h
  · exact .inl (key _ h)
  · exact .inr (key _ h)
theorem BufAt.drew {w : World} {b : Nat} {s : ByteArray} (h : BufAt w b s) : BufAt w.drew b s := by
  rcases h with h | h
  · exact .inl h.drew
  · exact .inr h.drew
theorem BufAt.new (w : World) : BufAt (w.alloc (.cells #[.pointer none, .slice none 0 0] 78)) w.heap.size ⟨#[]⟩ :=
  .inl ⟨Nat.le_refl _, .slice none 0 0, Array.getElem?_push_size, World.ownsRow_nil _ _ _ _, by simp [Value.ownBlock]⟩
theorem strCells_append (s t : ByteArray) : Lib.strCells (s ++ t) = Lib.strCells s ++ Lib.strCells t := by simp [Lib.strCells, ByteArray.data_append]
theorem buf_write (b : Nat) (s t : ByteArray) (w : World) (h : BufAt w b s) (hsz : s.size + t.size ≤ 1000000000) :
    Calls Tryd.prog 34 #[.pointer (some ⟨b, 0, none⟩), .string t] w fun e w' => e = .returned (.tuple #[.int .i64 t.size, .nilIface]) ∧ BufAt w' b (s ++ t) ∧ Below b w w' := by
  refine (Any.Builder_WriteString wrLays wrExtra b b (Lib.strCells s) t w h (by rw [Lib.strCells_length]; omega) (Nat.le_of_lt h.lt)).mono ?_
  rintro e w' ⟨rfl, hB, hb⟩
  exact ⟨rfl, .inr (by rw [strCells_append]; exact hB), hb⟩
theorem buf_string (b : Nat) (s : ByteArray) (w : World) (h : BufAt w b s) :
    Calls Tryd.prog 36 #[.pointer (some ⟨b, 0, none⟩)] w fun e w' => e = .returned (.string s) ∧ Below b w w' := by
  have h' : Lib.IsBuilder 78 5 b b (Lib.byteCells s.data.toList) w := h
  exact Any.Builder_String_any stLays stExtra b b s.data.toList w h' (Nat.le_of_lt h.lt)
end Go.Proofs.YtegebaomhbogmaaDoor
