/- A text that is written piece by piece (Go's own strings.Builder, by the library's contracts), and what it comes to. -/
import Derived.Test.YtbjmhpbelkndpaaBlk
import Derived.Shelf.Strings.Builder1
namespace Go.Proofs.Ytbjmhpbelkndpaa
open Go.RowKit Go.PlainAid Go.Shelf
set_option linter.unusedVariables false

def wrRen : Go.Shelf.Ren := ⟨fun | 166 => 16 | 240 => 33 | 276 => 44 | n => n, fun | 0 => 0 | 3 => 3 | 4 => 4 | 5 => 5 | 9 => 9 | 20 => 20 | 37 => 53 | 70 => 56 | 72 => 58 | 75 => 63 | 80 => 67 | 164 => 93 | n => n, fun | n => n⟩
theorem wrLays : Go.Proofs.Lays.n166 Try.prog wrRen := {
  mixed := by kernel_rfl
  f166 := Try.func16.trans (congrArg some (by kernel_rfl))
  f240 := Try.func33.trans (congrArg some (by kernel_rfl))
  f276 := Try.func44.trans (congrArg some (by kernel_rfl))
  t0 := Try.underlying0
  a0 := Try.isAgg0
  z0 := Try.sizeOf0
  v0 := Try.zeroValue0
  t3 := Try.underlying3
  a3 := Try.isAgg3
  z3 := Try.sizeOf3
  v3 := Try.zeroValue3
  t4 := Try.underlying4
  a4 := Try.isAgg4
  z4 := Try.sizeOf4
  v4 := Try.zeroValue4
  t9 := Try.underlying9
  a9 := Try.isAgg9
  z9 := Try.sizeOf9
  v9 := Try.zeroValue9
  t20 := Try.underlying20
  a20 := Try.isAgg20
  z20 := Try.sizeOf20
  v20 := Try.zeroValue20
  t37 := Try.underlying53
  a37 := Try.isAgg53
  z37 := Try.sizeOf53
  v37 := Try.zeroValue53
  t70 := Try.underlying56
  a70 := Try.isAgg56
  z70 := Try.sizeOf56
  v70 := Try.zeroValue56
  t72 := Try.underlying58
  a72 := Try.isAgg58
  z72 := Try.sizeOf58
  v72 := Try.zeroValue58
  t75 := Try.underlying63
  a75 := Try.isAgg63
  z75 := Try.sizeOf63
  v75 := Try.zeroValue63
  t164 := Try.underlying93
  a164 := Try.isAgg93
  z164 := Try.sizeOf93
  v164 := Try.zeroValue93 }
theorem wrExtra : Builder.Extra Try.prog wrRen := {
  sizeBuilder := by kernel_rfl
  liesBuilder := by kernel_rfl
  t5 := Try.underlying5
  a5 := Try.isAgg5
  z5 := Try.sizeOf5
  v5 := Try.zeroValue5
  infoByte := by kernel_rfl
  cellsByte := by kernel_rfl
  sizeByte := by kernel_rfl
  neB5 := by decide }
def stRen : Go.Shelf.Ren := ⟨fun | 169 => 20 | n => n, fun | 0 => 0 | 3 => 3 | 5 => 5 | 9 => 9 | 37 => 53 | 70 => 56 | 72 => 58 | 127 => 79 | n => n, fun | n => n⟩
theorem stLays : Go.Proofs.Lays.n169 Try.prog stRen := {
  mixed := by kernel_rfl
  f169 := Try.func20.trans (congrArg some (by kernel_rfl))
  t0 := Try.underlying0
  a0 := Try.isAgg0
  z0 := Try.sizeOf0
  v0 := Try.zeroValue0
  t3 := Try.underlying3
  a3 := Try.isAgg3
  z3 := Try.sizeOf3
  v3 := Try.zeroValue3
  t9 := Try.underlying9
  a9 := Try.isAgg9
  z9 := Try.sizeOf9
  v9 := Try.zeroValue9
  t37 := Try.underlying53
  a37 := Try.isAgg53
  z37 := Try.sizeOf53
  v37 := Try.zeroValue53
  t70 := Try.underlying56
  a70 := Try.isAgg56
  z70 := Try.sizeOf56
  v70 := Try.zeroValue56
  t72 := Try.underlying58
  a72 := Try.isAgg58
  z72 := Try.sizeOf58
  v72 := Try.zeroValue58
  t127 := Try.underlying79
  a127 := Try.isAgg79
  z127 := Try.sizeOf79
  v127 := Try.zeroValue79 }
theorem stExtra : Builder.Extra Try.prog stRen := {
  sizeBuilder := by kernel_rfl
  liesBuilder := by kernel_rfl
  t5 := Try.underlying5
  a5 := Try.isAgg5
  z5 := Try.sizeOf5
  v5 := Try.zeroValue5
  infoByte := by kernel_rfl
  cellsByte := by kernel_rfl
  sizeByte := by kernel_rfl
  neB5 := by decide }

/-- A builder in the block b holds the text s. -/
def BufAt (w : World) (b : Nat) (s : ByteArray) : Prop := Lib.IsBuilder 58 5 b b (Lib.strCells s) w
theorem BufAt.lt {w : World} {b : Nat} {s : ByteArray} (h : BufAt w b s) : b < w.heap.size := by
  rcases h with h | h
  · exact h.lt
  · exact h.lt
theorem BuilderAt_below {T e : TypeId} {B b : Nat} {p : Value} {bs : List Value} {w w' : World} (h : Lib.BuilderAt T e B b p bs w) (hb : Below w.heap.size w w') : Lib.BuilderAt T e B b p bs w' := by
  have hlt := h.lt
  obtain ⟨hB, v, hbk, hown, hne⟩ := h
  exact ⟨hB, v, by rw [hb.block b hlt]; exact hbk, owns_below hown hb, hne⟩
theorem BufAt.below {w w' : World} {b : Nat} {s : ByteArray} (h : BufAt w b s) (hb : Below w.heap.size w w') : BufAt w' b s := by
  rcases h with h | h
  · exact .inl (BuilderAt_below h hb)
  · exact .inr (BuilderAt_below h hb)
theorem BufAt.set {w : World} {b k : Nat} {s : ByteArray} (h : BufAt w b s) (hk : k < b) (i : Nat) (v : Value) : BufAt (w.setCell ⟨k, i, none⟩ v) b s := by
  have key : ∀ p, Lib.BuilderAt 58 5 b b p (Lib.strCells s) w → Lib.BuilderAt 58 5 b b p (Lib.strCells s) (w.setCell ⟨k, i, none⟩ v) := by
    rintro p ⟨hB, u, hbk, hown, hne⟩
    have hgr : w.grownBy (w.setCell ⟨k, i, none⟩ v) (some k) := ⟨rfl, rfl, rfl, by simp, fun j hj hne => Below.heap_setCell w ⟨k, i, none⟩ v j (fun e => hne (by rw [e]))⟩
    refine ⟨hB, u, by rw [Below.heap_setCell w ⟨k, i, none⟩ v b (by show b ≠ k; omega)]; exact hbk, hown.kept hgr ?_, hne⟩
    cases hv : u.ownBlock with
    | none => exact .inl rfl
    | some g => exact .inr (fun e => by have := (hown.lt g hv).1; cases e; omega)
  rcases h with h | h
  · exact .inl (key _ h)
  · exact .inr (key _ h)
theorem BufAt.drew {w : World} {b : Nat} {s : ByteArray} (h : BufAt w b s) : BufAt w.drew b s := by
  rcases h with h | h
  · exact .inl h.drew
  · exact .inr h.drew
theorem BufAt.new (w : World) : BufAt (w.alloc (.cells #[.pointer none, .slice none 0 0] 58)) w.heap.size ⟨#[]⟩ :=
  .inl ⟨Nat.le_refl _, .slice none 0 0, Array.getElem?_push_size, World.ownsRow_nil _ _ _ _, by simp [Value.ownBlock]⟩
theorem strCells_append (s t : ByteArray) : Lib.strCells (s ++ t) = Lib.strCells s ++ Lib.strCells t := by simp [Lib.strCells, ByteArray.data_append]
theorem buf_write (b : Nat) (s t : ByteArray) (w : World) (h : BufAt w b s) (hsz : s.size + t.size ≤ 1000000000) :
    Calls Try.prog 16 #[.pointer (some ⟨b, 0, none⟩), .string t] w fun e w' => e = .returned (.tuple #[.int .i64 t.size, .nilIface]) ∧ BufAt w' b (s ++ t) ∧ Below b w w' := by
  refine (Any.Builder_WriteString wrLays wrExtra b b (Lib.strCells s) t w h (by rw [Lib.strCells_length]; omega) (Nat.le_of_lt h.lt)).mono ?_
  rintro e w' ⟨rfl, hB, hb⟩
  exact ⟨rfl, .inr (by rw [strCells_append]; exact hB), hb⟩
theorem buf_string (b : Nat) (s : ByteArray) (w : World) (h : BufAt w b s) :
    Calls Try.prog 20 #[.pointer (some ⟨b, 0, none⟩)] w fun e w' => e = .returned (.string s) ∧ Below b w w' := by
  have h' : Lib.IsBuilder 58 5 b b (Lib.byteCells s.data.toList) w := h
  exact Any.Builder_String_any stLays stExtra b b s.data.toList w h' (Nat.le_of_lt h.lt)
end Go.Proofs.Ytbjmhpbelkndpaa
