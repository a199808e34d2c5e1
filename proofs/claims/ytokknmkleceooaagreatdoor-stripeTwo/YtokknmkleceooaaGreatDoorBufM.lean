import Derived.Test.YtokknmkleceooaaGreatDoorBaseM
import Derived.Shelf.Strings.Builder1
import Derived.Shelf.Strings.BuilderK
namespace Go.Proofs.YtokknmkleceooaaGreatDoor
set_option maxRecDepth 20000
open Go.RowKit Go.PlainAid Go.Shelf
set_option linter.unusedVariables false
def wrRen : Go.Shelf.Ren := ⟨fun | 166 => 151 | 240 => 196 | 276 => 229 | n => n, fun | 0 => 0 | 3 => 3 | 4 => 4 | 5 => 5 | 9 => 9 | 20 => 20 | 37 => 22 | 70 => 228 | 72 => 230 | 75 => 232 | 80 => 227 | 164 => 307 | n => n, fun | n => n⟩
theorem wrLays : Go.Proofs.Lays.n166 Tryz.prog wrRen := {
  mixed := by kernel_rfl
  f166 := Tryz.func151.trans (congrArg some (by kernel_rfl))
  f240 := Tryz.func196.trans (congrArg some (by kernel_rfl))
  f276 := Tryz.func229.trans (congrArg some (by kernel_rfl))
  t0 := Tryz.underlying0
  a0 := Tryz.isAgg0
  z0 := Tryz.sizeOf0
  v0 := Tryz.zeroValue0
  t3 := Tryz.underlying3
  a3 := Tryz.isAgg3
  z3 := Tryz.sizeOf3
  v3 := Tryz.zeroValue3
  t4 := Tryz.underlying4
  a4 := Tryz.isAgg4
  z4 := Tryz.sizeOf4
  v4 := Tryz.zeroValue4
  t9 := Tryz.underlying9
  a9 := Tryz.isAgg9
  z9 := Tryz.sizeOf9
  v9 := Tryz.zeroValue9
  t20 := Tryz.underlying20
  a20 := Tryz.isAgg20
  z20 := Tryz.sizeOf20
  v20 := Tryz.zeroValue20
  t37 := Tryz.underlying22
  a37 := Tryz.isAgg22
  z37 := Tryz.sizeOf22
  v37 := Tryz.zeroValue22
  t70 := Tryz.underlying228
  a70 := Tryz.isAgg228
  z70 := Tryz.sizeOf228
  v70 := Tryz.zeroValue228
  t72 := Tryz.underlying230
  a72 := Tryz.isAgg230
  z72 := Tryz.sizeOf230
  v72 := Tryz.zeroValue230
  t75 := Tryz.underlying232
  a75 := Tryz.isAgg232
  z75 := Tryz.sizeOf232
  v75 := Tryz.zeroValue232
  t164 := Tryz.underlying307
  a164 := Tryz.isAgg307
  z164 := Tryz.sizeOf307
  v164 := Tryz.zeroValue307 }
theorem wrExtra : Builder.Extra Tryz.prog wrRen := {
  sizeBuilder := by kernel_rfl
  liesBuilder := by kernel_rfl
  t5 := Tryz.underlying5
  a5 := Tryz.isAgg5
  z5 := Tryz.sizeOf5
  v5 := Tryz.zeroValue5
  infoByte := by kernel_rfl
  cellsByte := by kernel_rfl
  sizeByte := by kernel_rfl
  neB5 := by decide }
def stRen : Go.Shelf.Ren := ⟨fun | 169 => 153 | n => n, fun | 0 => 0 | 3 => 3 | 5 => 5 | 9 => 9 | 37 => 22 | 70 => 228 | 72 => 230 | 127 => 275 | n => n, fun | n => n⟩
theorem stLays : Go.Proofs.Lays.n169 Tryz.prog stRen := {
  mixed := by kernel_rfl
  f169 := Tryz.func153.trans (congrArg some (by kernel_rfl))
  t0 := Tryz.underlying0
  a0 := Tryz.isAgg0
  z0 := Tryz.sizeOf0
  v0 := Tryz.zeroValue0
  t3 := Tryz.underlying3
  a3 := Tryz.isAgg3
  z3 := Tryz.sizeOf3
  v3 := Tryz.zeroValue3
  t9 := Tryz.underlying9
  a9 := Tryz.isAgg9
  z9 := Tryz.sizeOf9
  v9 := Tryz.zeroValue9
  t37 := Tryz.underlying22
  a37 := Tryz.isAgg22
  z37 := Tryz.sizeOf22
  v37 := Tryz.zeroValue22
  t70 := Tryz.underlying228
  a70 := Tryz.isAgg228
  z70 := Tryz.sizeOf228
  v70 := Tryz.zeroValue228
  t72 := Tryz.underlying230
  a72 := Tryz.isAgg230
  z72 := Tryz.sizeOf230
  v72 := Tryz.zeroValue230
  t127 := Tryz.underlying275
  a127 := Tryz.isAgg275
  z127 := Tryz.sizeOf275
  v127 := Tryz.zeroValue275 }
theorem stExtra : Builder.Extra Tryz.prog stRen := {
  sizeBuilder := by kernel_rfl
  liesBuilder := by kernel_rfl
  t5 := Tryz.underlying5
  a5 := Tryz.isAgg5
  z5 := Tryz.sizeOf5
  v5 := Tryz.zeroValue5
  infoByte := by kernel_rfl
  cellsByte := by kernel_rfl
  sizeByte := by kernel_rfl
  neB5 := by decide }
def BufAt (w : World) (b : Nat) (s : ByteArray) : Prop := Lib.IsBuilder 230 5 b b (Lib.strCells s) w
theorem BufAt.lt {w : World} {b : Nat} {s : ByteArray} (h : BufAt w b s) : b < w.heap.size := by
  rcases h with h | h
  · exact h.lt
  · exact h.lt
theorem BuilderAt_below {T e : TypeId} {B b : Nat} {p : Value} {bs : List Value} {w w' : World} (h : Lib.BuilderAt T e B b p bs w) (hb : Below w.heap.size w w') : Lib.BuilderAt T e B b p bs w' := by
  have hlt := h.lt
  obtain ⟨hB, v, hbk, hown, hne⟩ := h
  exact ⟨hB, v, by rw [hb.block b hlt]; exact hbk, owns_below hown hb, hne⟩
theorem BufAt.below {w w' : World} {b : Nat} {s : ByteArray} (h : BufAt w b s) (hb : Below w.heap.size w w') : BufAt w' b s := by
  rcases h with h | h
  · exact .inl (BuilderAt_below h hb)
  · exact .inr (BuilderAt_below h hb)
theorem BufAt.set {w : World} {b k : Nat} {s : ByteArray} (h : BufAt w b s) (hk : k < b) (i : Nat) (v : Value) : BufAt (w.setCell ⟨k, i, none⟩ v) b s := by
  have key : ∀ p, Lib.BuilderAt 230 5 b b p (Lib.strCells s) w → Lib.BuilderAt 230 5 b b p (Lib.strCells s) (w.setCell ⟨k, i, none⟩ v) := by
    rintro p ⟨hB, u, hbk, hown, hne⟩
    have hgr : w.grownBy (w.setCell ⟨k, i, none⟩ v) (some k) := ⟨rfl, rfl, rfl, by simp, fun j hj hne => Below.heap_setCell w ⟨k, i, none⟩ v j (fun e => hne (by rw [e]))⟩
    refine ⟨hB, u, by rw [Below.heap_setCell w ⟨k, i, none⟩ v b (by show b ≠ k; omega)]; exact hbk, hown.kept hgr ?_, hne⟩
    cases hv : u.ownBlock with
    | none => exact .inl rfl
    | some g => exact .inr (fun e => by have := (hown.lt g hv).1; cases e; omega)
  rcases h with h | h
  · exact .inl (key _ h)
  · exact .inr (key _ h)
theorem BufAt.drew {w : World} {b : Nat} {s : ByteArray} (h : BufAt w b s) : BufAt w.drew b s := by
  rcases h with h | h
  · exact .inl h.drew
  · exact .inr h.drew
theorem BufAt.new (w : World) : BufAt (w.alloc (.cells #[.pointer none, .slice none 0 0] 230)) w.heap.size ⟨#[]⟩ :=
  .inl ⟨Nat.le_refl _, .slice none 0 0, Array.getElem?_push_size, World.ownsRow_nil _ _ _ _, by simp [Value.ownBlock]⟩
theorem strCells_append (s t : ByteArray) : Lib.strCells (s ++ t) = Lib.strCells s ++ Lib.strCells t := by simp [Lib.strCells, ByteArray.data_append]
theorem buf_write (b : Nat) (s t : ByteArray) (w : World) (h : BufAt w b s) (hsz : s.size + t.size ≤ 1000000000) :
    Calls Tryz.prog 151 #[.pointer (some ⟨b, 0, none⟩), .string t] w fun e w' => e = .returned (.tuple #[.int .i64 t.size, .nilIface]) ∧ BufAt w' b (s ++ t) ∧ Below b w w' := by
  refine (Any.Builder_WriteString wrLays wrExtra b b (Lib.strCells s) t w h (by rw [Lib.strCells_length]; omega) (Nat.le_of_lt h.lt)).mono ?_
  rintro e w' ⟨rfl, hB, hb⟩
  exact ⟨rfl, .inr (by rw [strCells_append]; exact hB), hb⟩
theorem buf_string (b : Nat) (s : ByteArray) (w : World) (h : BufAt w b s) :
    Calls Tryz.prog 153 #[.pointer (some ⟨b, 0, none⟩)] w fun e w' => e = .returned (.string s) ∧ Below b w w' := by
  have h' : Lib.IsBuilder 230 5 b b (Lib.byteCells s.data.toList) w := h
  exact Any.Builder_String_any stLays stExtra b b s.data.toList w h' (Nat.le_of_lt h.lt)
def BufK (w : World) (b : Nat) (s : ByteArray) : Prop := Lib.IsBuilderF 230 5 b b (Lib.strCells s) w
theorem BufK.lt {w : World} {b : Nat} {s : ByteArray} (h : BufK w b s) : b < w.heap.size := by
  rcases h with h | h
  · exact h.lt
  · exact h.lt
theorem BuilderAtF_below {T e : TypeId} {B b : Nat} {p : Value} {bs : List Value} {w w' : World} (h : Lib.BuilderAtF T e B b p bs w) (hb : Below w.heap.size w w') : Lib.BuilderAtF T e B b p bs w' := by
  have hlt := h.lt
  obtain ⟨hB, v, hbk, hown, hne⟩ := h
  refine ⟨hB, v, by rw [hb.block b hlt]; exact hbk, hown.kept (row := none) ⟨hb.os, hb.tape, hb.output, hb.size, fun k hk _ => hb.block k hk⟩ ?_, hne⟩
  cases v.ownBlock with
  | none => exact .inl rfl
  | some g => exact .inr (by simp)
theorem BufK.below {w w' : World} {b : Nat} {s : ByteArray} (h : BufK w b s) (hb : Below w.heap.size w w') : BufK w' b s := by
  rcases h with h | h
  · exact .inl (BuilderAtF_below h hb)
  · exact .inr (BuilderAtF_below h hb)
theorem BufK.new (w : World) : BufK (w.alloc (.cells #[.pointer none, .slice none 0 0] 230)) w.heap.size ⟨#[]⟩ := Lib.IsBuilderF.of (BufAt.new w)
theorem Blk.others {w w' : World} {g b : Nat} {T : TypeId} {L : List Value} (h : Blk w g T L) (ho : Lib.OthersKept 5 (some b) w w') (hg : g ≠ b) (hT : T ≠ 5) : Blk w' g T L :=
  ho g _ h (fun e => hg (Option.some.inj e)) (fun c fz e => hT (by cases e; rfl))
end Go.Proofs.YtokknmkleceooaaGreatDoor
