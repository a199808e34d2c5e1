/- Records that lie in memory. -/
import Derived.Test.YtbjmhpbelkndpaaDoorSuPlain
import Derived.Test.YtbjmhpbelkndpaaDoorSep
import Derived.Test.YtbjmhpbelkndpaaDoorNums
namespace Go.Proofs.YtbjmhpbelkndpaaDoor
open Go.RowKit Go.PlainAid
set_option linter.unusedVariables false

/-- n numbers in a row; n members in a row. -/
def Sx (w : World) (a : Option Addr) (n : Nat) (f : Nat → Int) : Prop := n = 0 ∨ ∃ b o, a = some ⟨b, o, none⟩ ∧ b < w.heap.size ∧ ∀ i, i < n → w.cell? ⟨b, o + i, none⟩ = some (.int .i64 (f i))
def mrow (st : Int) (top log : ByteArray) : List Value := [.int .i64 st, .string top, .string log]
def Mx (w : World) (a : Option Addr) (n : Nat) (st : Nat → Int) (top log : Nat → ByteArray) : Prop := n = 0 ∨ ∃ b o, a = some ⟨b, o, none⟩ ∧ b < w.heap.size ∧ ∀ i, i < n → w.rangeAt b (o + i * 3) (mrow (st i) (top i) (log i))
/-- A record as a value; its lists lie in memory. -/
def supV (R : Rec) (sa ma : Option Addr) (sc mc : Nat) : List Value := [.int .u64 R.count, .int .u64 R.epoch, .int .i64 R.data, .int .i64 R.slots, .int .i64 R.mark, .int .i64 R.built, .bool R.grow, .slice sa R.ns sc, .slice ma R.nm mc]
def Lies (w : World) (R : Rec) (sa ma : Option Addr) : Prop := Sx w sa R.ns R.seat ∧ Mx w ma R.nm R.st R.top R.log
theorem mrow_len (st : Int) (top log : ByteArray) : (mrow st top log).length = 3 := rfl
theorem mrow_one (st : Int) (top log : ByteArray) : ∀ v ∈ mrow st top log, v.oneCell' = true := by
  intro v hv
  simp only [mrow, List.mem_cons, List.not_mem_nil, or_false] at hv
  rcases hv with rfl | rfl | rfl <;> rfl
theorem Sx.below {w w' : World} {a : Option Addr} {n : Nat} {f : Nat → Int} (h : Sx w a n f) (hb : Below w.heap.size w w') : Sx w' a n f := by
  rcases h with h | ⟨b, o, e, hl, hc⟩
  · exact .inl h
  · exact .inr ⟨b, o, e, Nat.lt_of_lt_of_le hl hb.size, fun i hi => (hb.cell (p := ⟨b, o + i, none⟩) hl).trans (hc i hi)⟩
theorem Mx.below {w w' : World} {a : Option Addr} {n : Nat} {st : Nat → Int} {top log : Nat → ByteArray} (h : Mx w a n st top log) (hb : Below w.heap.size w w') : Mx w' a n st top log := by
  rcases h with h | ⟨b, o, e, hl, hc⟩
  · exact .inl h
  · exact .inr ⟨b, o, e, Nat.lt_of_lt_of_le hl hb.size, fun i hi => rangeAt_below (hc i hi) hb hl⟩
theorem Lies.below {w w' : World} {R : Rec} {sa ma : Option Addr} (h : Lies w R sa ma) (hb : Below w.heap.size w w') : Lies w' R sa ma := ⟨h.1.below hb, h.2.below hb⟩
theorem Lies.same {w : World} {R S : Rec} {sa ma : Option Addr} (h : Lies w R sa ma) (hs : R.Same S) : Lies w S sa ma := by
  refine ⟨?_, ?_⟩
  · rcases h.1 with h | ⟨b, o, e, hl, hc⟩
    · exact .inl (by rw [← hs.ns]; exact h)
    · exact .inr ⟨b, o, e, hl, fun i hi => by rw [← hs.ns] at hi; rw [hc i hi, hs.seat i hi]⟩
  · rcases h.2 with h | ⟨b, o, e, hl, hc⟩
    · exact .inl (by rw [← hs.nm]; exact h)
    · exact .inr ⟨b, o, e, hl, fun i hi => by rw [← hs.nm] at hi; rw [← hs.st i hi, ← hs.top i hi, ← hs.log i hi]; exact hc i hi⟩
theorem supV_same {R S : Rec} (h : R.Same S) (sa ma : Option Addr) (sc mc : Nat) : supV R sa ma sc mc = supV S sa ma sc mc := by
  unfold supV; rw [h.c, h.e, h.d, h.s, h.m, h.b, h.g, h.ns, h.nm]
/-- One number, one member. -/
theorem Sx.at {w w' : World} {a : Option Addr} {n : Nat} {f : Nat → Int} (h : Sx w a n f) (hb : Below w.heap.size w w') (i : Nat) (hi : i < n) : ∃ b o, a = some ⟨b, o, none⟩ ∧ w'.cell? ⟨b, o + i, none⟩ = some (.int .i64 (f i)) := by
  rcases h.below hb with h | ⟨b, o, e, hl, hc⟩
  · omega
  · exact ⟨b, o, e, hc i hi⟩
theorem Mx.at {w w' : World} {a : Option Addr} {n : Nat} {st : Nat → Int} {top log : Nat → ByteArray} (h : Mx w a n st top log) (hb : Below w.heap.size w w') (i : Nat) (hi : i < n) : ∃ b o, a = some ⟨b, o, none⟩ ∧ w'.rangeAt b (o + i * 3) (mrow (st i) (top i) (log i)) := by
  rcases h.below hb with h | ⟨b, o, e, hl, hc⟩
  · omega
  · exact ⟨b, o, e, hc i hi⟩
theorem Tryd.size64 : (Tryd.prog.info? 64).map (·.size) = some 3 := by kernel_rfl
theorem Tryd.size49 : (Tryd.prog.info? 49).map (·.size) = some 3 := by kernel_rfl
theorem Tryd.size26 : (Tryd.prog.info? 26).map (·.size) = some 9 := by kernel_rfl
theorem Tryd.size32 : (Tryd.prog.info? 32).map (·.size) = some 9 := by kernel_rfl
/-- A variable of its own, laid over. -/
theorem Below.boxed (w : World) (T : TypeId) (Z L : List Value) : Below w.heap.size w ((w.alloc (.cells Z.toArray T)).setRow w.heap.size L.toArray) :=
  Kept.below (F := fun k => k = w.heap.size) (w := w.alloc (.cells Z.toArray T)) ((Below.refl _ _).alloc (Nat.le_refl _) _) (Kept.oneRow _ _ _) (by simp) (fun k hk => by rw [hk]; exact Nat.le_refl _)
theorem Blk.boxed (w : World) (T : TypeId) (Z L : List Value) : Blk ((w.alloc (.cells Z.toArray T)).setRow w.heap.size L.toArray) w.heap.size T L := (Blk.box w T Z).setRow
end Go.Proofs.YtbjmhpbelkndpaaDoor
