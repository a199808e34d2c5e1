/- Both records of the law, as they stand. -/
import Derived.Test.YtbjmhpbelkndpaaSuWakes2
namespace Go.Proofs.Ytbjmhpbelkndpaa
open Go.RowKit Go.PlainAid
set_option linter.unusedVariables false

theorem Try.size26 : (Try.prog.info? 26).map (·.size) = some 9 := by kernel_rfl
/-- A record is loaded behind a guard that is met. -/
theorem wpList_load_blkG {P : Program} {ops : Array Oper} {rest : List Oper} {o : Oper} {a : Act} {w : World} {Q : Exit → Act → World → Prop} (hgd : Region.wanted o (yielded ops a.tmps) = true) (ty : TypeId) (x : Operand) (ho : o.op = .load ty x)
    (g : Nat) (hx : a.eval x = .pointer (some ⟨g, 0, none⟩)) (t : TypeId) (L : List Value) (d : TypeDesc) (hg : Blk w g t L)
    (hu : P.underlying ty = some d) (hd : (match d with | .struct _ | .array _ _ => true | _ => false) = true) (hi : (P.info? ty).map (·.size) = some L.length)
    (h : wpList P ops Q rest (a.put o.dst (.agg L.toArray)) w) : wpList P ops Q (o :: rest) a w :=
  wpList_step fun K hK => by simp only [hgd, if_true]; exact wp_load_row ty x ho g hx t L.toArray (0, 0) d hg hu hd (by simpa using hi) (hK _ _ h)
/-- The program's record and the document's, each in its variable. -/
structure St (B : Nat) (W : World) (R : Rec) (sa ma mb : Option Addr) (L1 L2 : List Value) (g : Nat) (w : World) : Prop where
  la : Lies w R sa ma
  lb : Lies w R sa mb
  a : Blk w g 29 L1
  b : Blk w (g + 1) 32 L2
  low : Below B W w
  sz : B ≤ w.heap.size
theorem St.below {B : Nat} {W w w' : World} {R : Rec} {sa ma mb : Option Addr} {L1 L2 : List Value} {g : Nat} (h : St B W R sa ma mb L1 L2 g w) (hb : Below w.heap.size w w') : St B W R sa ma mb L1 L2 g w' :=
  ⟨h.la.below hb, h.lb.below hb, h.a.below hb h.a.lt, h.b.below hb h.b.lt, h.low.trans (hb.mono h.sz), Nat.le_trans h.sz hb.size⟩
theorem Pk.st {B : Nat} {W w w1 w2 : World} {R : Rec} {sa ma mb : Option Addr} {sc mc md : Nat} {L1 L2 : List Value} (h : Pk w w1 R sa ma mb sc mc md L1 L2 w2) (hl : Below B W w) (hz : B ≤ w.heap.size) : St B W R sa ma mb L1 L2 w1.heap.size w2 := ⟨h.la, h.lb, h.a, h.b, hl.trans (h.low.mono hz), Nat.le_trans hz h.low.size⟩
/-- A record that was read, in a variable of its own. -/
structure Got (w4 : World) (GR : Rec) (ga ha : Option Addr) (L : List Value) (w : World) : Prop where
  l : Lies w GR ga ha
  a : Blk w w4.heap.size 29 L
  low : Below w4.heap.size w4 w
theorem Got.below {w4 w w' : World} {GR : Rec} {ga ha : Option Addr} {L : List Value} (h : Got w4 GR ga ha L w) (hb : Below w.heap.size w w') : Got w4 GR ga ha L w' := ⟨h.l.below hb, h.a.below hb h.a.lt, h.low.trans (hb.mono h.low.size)⟩
theorem got_boxed {w4 : World} {GR : Rec} {ga ha : Option Addr} {L : List Value} (h : Lies w4 GR ga ha) : Got w4 GR ga ha L ((w4.alloc (.cells zS.toArray 29)).setRow w4.heap.size L.toArray) :=
  have x := Below.boxed w4 29 zS L
  ⟨h.below x, Blk.boxed w4 29 zS L, x⟩
end Go.Proofs.Ytbjmhpbelkndpaa
