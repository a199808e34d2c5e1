/- The records that a law makes of plain data: parts. -/
import Derived.Test.YtbjmhpbelkndpaaDoorSuRec0
import Derived.Deep.DeepCutAuto
namespace Go.Proofs.YtbjmhpbelkndpaaDoor
open Go.RowKit Go.PlainAid
set_option linter.unusedVariables false
set_option maxRecDepth 20000

/-- A disk as plain data. -/
structure Dsk where
  st : Int
  top : Nat
  log : Nat
  short : Bool
def Dsk.row (d : Dsk) : List Value := [.int .i64 d.st, .int .u8 (d.top : Int), .int .u8 (d.log : Int), .bool d.short]
def Dsk.Ok (d : Dsk) : Prop := (-9223372036854775808 ≤ d.st ∧ d.st ≤ 9223372036854775807) ∧ d.top < 256 ∧ d.log < 256
theorem Dsk.len (d : Dsk) : d.row.length = 4 := rfl
theorem Dsk.one (d : Dsk) : ∀ v ∈ d.row, v.oneCell' = true := by
  intro v hv
  simp only [Dsk.row, List.mem_cons, List.not_mem_nil, or_false] at hv
  rcases hv with rfl | rfl | rfl | rfl <;> rfl
/-- A record as plain data. -/
structure Raw where
  count : Int
  epoch : Int
  data : Int
  slots : Int
  mark : Int
  built : Int
  grow : Bool
  xa : Option Addr
  xn : Nat
  xc : Nat
  da : Option Addr
  dn : Nat
  dc : Nat
def Raw.row (x : Raw) : List Value := [.int .u64 x.count, .int .u64 x.epoch, .int .i64 x.data, .int .i64 x.slots, .int .i64 x.mark, .int .i64 x.built, .bool x.grow, .slice x.xa x.xn x.xc, .slice x.da x.dn x.dc]
def Raw.toR (x : Raw) (A : Nat → Int) (D : Nat → Dsk) : Rec := ⟨x.count, x.epoch, x.data, x.slots, x.mark, x.built, x.grow, min x.xn 30, A, min x.dn 20, fun i => (D i).st, fun i => dgB (D i).top (if (D i).short then 30 else 31), fun i => dgB (D i).log 31⟩
/-- Its lists lie there, also while new memory is taken. -/
structure Raw.At (x : Raw) (A : Nat → Int) (D : Nat → Dsk) (w : World) : Prop where
  sx : ∀ w', Below w.heap.size w w' → ∀ i, i < x.xn → ∃ b o, x.xa = some ⟨b, o, none⟩ ∧ (-9223372036854775808 ≤ A i ∧ A i ≤ 9223372036854775807) ∧ w'.cell? ⟨b, o + i, none⟩ = some (.int .i64 (A i))
  dx : ∀ w', Below w.heap.size w w' → ∀ i, i < x.dn → ∃ b o, x.da = some ⟨b, o, none⟩ ∧ (D i).Ok ∧ w'.rangeAt b (o + i * 4) (D i).row
  xl : x.xn ≤ x.xc ∧ x.xc ≤ maxLen
  dl : x.dn ≤ x.dc ∧ x.dc ≤ maxLen
theorem Raw.At.below {x : Raw} {A : Nat → Int} {D : Nat → Dsk} {w w' : World} (h : x.At A D w) (hb : Below w.heap.size w w') : x.At A D w' :=
  ⟨fun z hz => h.sx z (hb.trans (hz.mono hb.size)), fun z hz => h.dx z (hb.trans (hz.mono hb.size)), h.xl, h.dl⟩
theorem zeroRSup (w : World) : (zeroValue 32).run Tryd.prog w = .ok (.agg zS.toArray) w := by
  obtain ⟨i, hi, hz⟩ := Option.map_eq_some_iff.1 (show (Tryd.prog.info? 32).map (fun i => i.zero) = some (some (.agg zS.toArray)) by kernel_rfl)
  simp [zeroValue, typeInfo, hi, hz]
theorem zeroDisk : ∃ Z : List Value, Z.length = 4 ∧ ∀ w, (zeroValue 54).run Tryd.prog w = .ok (.agg Z.toArray) w := by
  refine ⟨(⟨0, 0, 0, false⟩ : Dsk).row, rfl, fun w => ?_⟩
  obtain ⟨i, hi, hz⟩ := Option.map_eq_some_iff.1 (show (Tryd.prog.info? 54).map (fun i => i.zero) = some (some (.agg (⟨0, 0, 0, false⟩ : Dsk).row.toArray)) by kernel_rfl)
  simp [zeroValue, typeInfo, hi, hz]
theorem Tryd.size54 : (Tryd.prog.info? 54).map (·.size) = some 4 := by kernel_rfl
/-- append([]int(nil), x.Seats[:n]...). -/
theorem seats_app {B : Nat} {w0 w : World} {X : Asn} (hX : Firm X) (h : Hold B w0 w X) (x : Raw) (A : Nat → Int) (D : Nat → Dsk) (hx : x.At A D w) (n : Nat) (hn : n ≤ x.xn) (hn2 : n ≤ 100) :
    ∃ sa sc w', (Builtin.append_ #[23, 23] 23 #[.slice none 0 0, .slice x.xa n x.xc]).run Tryd.prog w = .ok (.slice sa n sc) w' ∧ Hold B w0 w' (star (rowK 3 1 (.slice sa n sc) n (si n A)) X) := by
  have h0 : Hold B w0 w (star (rowK 3 1 (.slice none 0 0) 0 []) X) := h.mono (fun F h => ⟨fun _ => False, F, ⟨World.ownsRow_nil _ _ _ _, fun k => ⟨fun h => h.elim, fun h => by cases h⟩⟩, h, fun _ h => h.elim, fun k => ⟨.inr, fun h => h.elim (fun h => h.elim) id⟩⟩)
  by_cases hz : n = 0
  · subst hz
    cases hxa : x.xa with
    | none =>
      refine ⟨none, 0, w, ?_, h0⟩
      obtain ⟨i0, hi, hz0, hz1, hz2⟩ := info_parts Tryd.info3w
      simp [Builtin.append_, run_underlying Tryd.underlying23, sizeOf, typeInfo, hi, Builtin.lenOf, Builtin.firstCells]
    | some ad =>
      obtain ⟨v', w', hrun, hh⟩ := rowK_app hX 23 3 23 (.int .i64 0) 1 8 Tryd.underlying23 Tryd.info3w rfl (by decide) (by decide) h0 ad 0 x.xc [] rfl (fun j u hu => by cases hu) (fun u hu => by cases hu) (by omega)
      obtain ⟨a, c, rfl⟩ := own_form hh.rowK
      exact ⟨a, c, w', hrun, hh⟩
  · obtain ⟨b, o, hxa, -, -⟩ := hx.sx w (Below.refl _ _) 0 (by omega)
    rw [hxa]
    obtain ⟨v', w', hrun, hh⟩ := rowK_app hX 23 3 23 (.int .i64 0) 1 8 Tryd.underlying23 Tryd.info3w rfl (by decide) (by decide) h0 ⟨b, o, none⟩ n x.xc (si n A) (by rw [si_len, Nat.mul_one]) (fun j u hu => by
      have hj : j < n := by
        rcases Nat.lt_or_ge j n with h | h
        · exact h
        · rw [List.getElem?_eq_none (by rw [si_len]; exact h)] at hu; cases hu
      rw [si_at _ _ _ hj] at hu
      cases hu
      obtain ⟨b', o', e, _, hc⟩ := hx.sx w (Below.refl _ _) j (by omega)
      rw [hxa] at e; cases e
      rw [Go.WideShapes.add_plain]; exact hc) (fun u hu => by
      unfold si at hu
      obtain ⟨i, _, rfl⟩ := List.mem_map.1 hu
      rfl) (by omega)
    rw [Nat.zero_add] at hh
    obtain ⟨a, c, rfl⟩ := own_form hh.rowK
    exact ⟨a, c, w', hrun, by simpa using hh⟩
/-- One byte, n noughts, as texts; whatever was made since. -/
theorem conv_byte (z1 : World) (b : Nat) (z : World) (h : Below (z1.alloc (.cells #[.int .u8 (b : Int)] 5)).heap.size (z1.alloc (.cells #[.int .u8 (b : Int)] 5)) z) : (convert 74 9 (.slice (some ⟨z1.heap.size, 0, none⟩) 1 1)).run Tryd.prog z = .ok (.string (tx 1 fun _ => b)) z := by
  have hb : Blk z z1.heap.size 5 (nr .u8 1 fun _ => b) := (Blk.new z1 5 #[.int .u8 (b : Int)]).below h (by simp)
  exact conv_blk hb 1 1 (Nat.le_refl _)
theorem conv_noughts (z1 : World) (n : Nat) (Z : Array Value) (hZ : ∀ x : World, PZ x.heap.size n (x.alloc (.cells Z 5 (0, 0)))) (z : World) (h : Below (z1.alloc (.cells Z 5)).heap.size (z1.alloc (.cells Z 5)) z) : (convert 74 9 (.slice (some ⟨z1.heap.size, 0, none⟩) n n)).run Tryd.prog z = .ok (.string (zB n)) z :=
  pz_conv z _ n ((hZ z1).below h (by simp))
theorem star_nilK {P : Asn} {w : World} {F : Nat → Prop} {T : TypeId} {K : Nat} (h : P w F) : star P (rowK T K (.slice none 0 0) 0 []) w F :=
  ⟨F, fun _ => False, h, ⟨World.ownsRow_nil _ _ _ _, fun k => ⟨fun h => h.elim, fun h => by cases h⟩⟩, fun _ _ h => h, fun k => ⟨.inl, fun h => h.elim id (fun h => h.elim)⟩⟩
section
variable {B : Nat} {w0 w : World} {Ga Gb ka kb : Nat} {CA : Value → List Value} {RE : Asn} {st : Nat → Int} {top log : Nat → ByteArray} {vM vN : Value}
/-- The two records under way. -/
def StR (B : Nat) (w0 w : World) (Ga Gb : Nat) (CA : Value → List Value) (RE : Asn) (st : Nat → Int) (top log : Nat → ByteArray) (ka kb : Nat) (vM vN : Value) : Prop :=
  Hold B w0 w (star (star (blkA Ga 26 (CA vM)) (rowK 64 3 vM ka (memF st top log ka))) (star (star (blkA Gb 32 (CA vN)) (rowK 49 3 vN kb (memF st top log kb))) RE))
theorem StR.firm (hR : Firm RE) : Firm (star (star (blkA Ga 26 (CA vM)) (rowK 64 3 vM ka (memF st top log ka))) (star (star (blkA Gb 32 (CA vN)) (rowK 49 3 vN kb (memF st top log kb))) RE)) := ((firm_blk _ _ _).star (firm_rowK _ _ _ _ _)).star (((firm_blk _ _ _).star (firm_rowK _ _ _ _ _)).star hR)
theorem StR.below {w' : World} (hR : Firm RE) (h : StR B w0 w Ga Gb CA RE st top log ka kb vM vN) (hb : Below w.heap.size w w') : StR B w0 w' Ga Gb CA RE st top log ka kb vM vN := Hold.below h (StR.firm hR) hb
theorem StR.a (h : StR B w0 w Ga Gb CA RE st top log ka kb vM vN) : Blk w Ga 26 (CA vM) := h.assoc.blk
theorem StR.b (h : StR B w0 w Ga Gb CA RE st top log ka kb vM vN) : Blk w Gb 32 (CA vN) := h.swap.assoc.blk
theorem StR.pushA (hR : Firm RE) (hC : ∀ v u, (CA v).set 8 u = CA u) (h : StR B w0 w Ga Gb CA RE st top log ka kb vM vN) (hk : ka ≤ 1000) (s : Int) (t l : ByteArray) (e1 : st ka = s) (e2 : top ka = t) (e3 : log ka = l) :
    ∃ ma mc w', (Builtin.append_ #[24, 24] 24 #[vM, .slice (some ⟨w.heap.size, 0, none⟩) 1 1]).run Tryd.prog (w.alloc (.cells #[.int .i64 s, .string t, .string l] 64)) = .ok (.slice ma (ka + 1) mc) w' ∧ Blk w' Ga 26 (CA vM) ∧ StR B w0 (w'.setCell ⟨Ga, 8, none⟩ (.slice ma (ka + 1) mc)) Ga Gb CA RE st top log (ka + 1) kb (.slice ma (ka + 1) mc) vN := by
  have hF : Firm (star (blkA Ga 26 (CA vM)) (star (star (blkA Gb 32 (CA vN)) (rowK 49 3 vN kb (memF st top log kb))) RE)) := (firm_blk _ _ _).star (((firm_blk _ _ _).star (firm_rowK _ _ _ _ _)).star hR)
  have h1 := (Hold.assoc h).swap
  have h2 := h1.below ((firm_rowK _ _ _ _ _).star hF) ((Below.refl w.heap.size w).alloc (Nat.le_refl _) (.cells #[.int .i64 s, .string t, .string l] 64))
  obtain ⟨v', w', hrun, h3⟩ := rowK_app hF 24 64 24 (.agg (mrow 0 noB noB).toArray) 3 40 Tryd.underlying24 Tryd.info64w rfl (by decide) (by decide) h2 ⟨w.heap.size, 0, none⟩ 1 1 (mrow s t l) rfl (fun j u hu => by
    rw [Go.WideShapes.add_plain, Nat.zero_add]; exact (Blk.new w 64 #[.int .i64 s, .string t, .string l]).cell hu) (mrow_one _ _ _) (by omega)
  obtain ⟨a, c, rfl⟩ := own_form h3.rowK
  have h4 : Hold B w0 w' (star (rowK 64 3 (.slice a (ka + 1) c) (ka + 1) (memF st top log (ka + 1))) (star (blkA Ga 26 (CA vM)) (star (star (blkA Gb 32 (CA vN)) (rowK 49 3 vN kb (memF st top log kb))) RE))) := by
    have e : memF st top log (ka + 1) = memF st top log ka ++ mrow s t l := by show _ ++ mrow _ _ _ = _; rw [e1, e2, e3]
    rw [e]; exact h3
  have h5 := h4.swap.setBlk ((firm_rowK _ _ _ _ _).star (((firm_blk _ _ _).star (firm_rowK _ _ _ _ _)).star hR)) 8 (.slice a (ka + 1) c)
  rw [hC] at h5
  exact ⟨a, c, w', hrun, h4.swap.blk, h5.unassoc⟩
theorem StR.pushB (hR : Firm RE) (hC : ∀ v u, (CA v).set 8 u = CA u) (h : StR B w0 w Ga Gb CA RE st top log ka kb vM vN) (hk : kb ≤ 1000) (s : Int) (t l : ByteArray) (e1 : st kb = s) (e2 : top kb = t) (e3 : log kb = l) :
    ∃ ma mc w', (Builtin.append_ #[30, 30] 30 #[vN, .slice (some ⟨w.heap.size, 0, none⟩) 1 1]).run Tryd.prog (w.alloc (.cells #[.int .i64 s, .string t, .string l] 49)) = .ok (.slice ma (kb + 1) mc) w' ∧ Blk w' Gb 32 (CA vN) ∧ StR B w0 (w'.setCell ⟨Gb, 8, none⟩ (.slice ma (kb + 1) mc)) Ga Gb CA RE st top log ka (kb + 1) vM (.slice ma (kb + 1) mc) := by
  have hF : Firm (star (blkA Gb 32 (CA vN)) (star (star (blkA Ga 26 (CA vM)) (rowK 64 3 vM ka (memF st top log ka))) RE)) := (firm_blk _ _ _).star (((firm_blk _ _ _).star (firm_rowK _ _ _ _ _)).star hR)
  have h1 := (Hold.assoc (Hold.swap h)).swap
  have h2 := h1.below ((firm_rowK _ _ _ _ _).star hF) ((Below.refl w.heap.size w).alloc (Nat.le_refl _) (.cells #[.int .i64 s, .string t, .string l] 49))
  obtain ⟨v', w', hrun, h3⟩ := rowK_app hF 30 49 30 (.agg (mrow 0 noB noB).toArray) 3 40 Tryd.underlying30 Tryd.info49w rfl (by decide) (by decide) h2 ⟨w.heap.size, 0, none⟩ 1 1 (mrow s t l) rfl (fun j u hu => by
    rw [Go.WideShapes.add_plain, Nat.zero_add]; exact (Blk.new w 49 #[.int .i64 s, .string t, .string l]).cell hu) (mrow_one _ _ _) (by omega)
  obtain ⟨a, c, rfl⟩ := own_form h3.rowK
  have h4 : Hold B w0 w' (star (rowK 49 3 (.slice a (kb + 1) c) (kb + 1) (memF st top log (kb + 1))) (star (blkA Gb 32 (CA vN)) (star (star (blkA Ga 26 (CA vM)) (rowK 64 3 vM ka (memF st top log ka))) RE))) := by
    have e : memF st top log (kb + 1) = memF st top log kb ++ mrow s t l := by show _ ++ mrow _ _ _ = _; rw [e1, e2, e3]
    rw [e]; exact h3
  have h5 := h4.swap.setBlk ((firm_rowK _ _ _ _ _).star (((firm_blk _ _ _).star (firm_rowK _ _ _ _ _)).star hR)) 8 (.slice a (kb + 1) c)
  rw [hC] at h5
  exact ⟨a, c, w', hrun, h4.swap.blk, h5.unassoc.swap⟩
/-- A disk's own variable, beside them. -/
theorem StR.boxed (hR : Firm RE) (h : StR B w0 w Ga Gb CA RE st top log ka kb vM vN) (T : TypeId) (Z L : List Value) : StR B w0 ((w.alloc (.cells Z.toArray T)).setRow w.heap.size L.toArray) Ga Gb CA (star (blkA w.heap.size T L) RE) st top log ka kb vM vN := by
  have h1 := Hold.newBlk (StR.firm hR) h T Z.toArray
  have h2 := h1.setRowBlk (StR.firm hR) L
  exact h2.swap.mono (fun F h => star_monoR h (fun F h => star_swap h))
theorem StR.unboxed {bx : Nat} {T : TypeId} {L : List Value} (h : StR B w0 w Ga Gb CA (star (blkA bx T L) RE) st top log ka kb vM vN) : StR B w0 w Ga Gb CA RE st top log ka kb vM vN := by
  have h1 := Hold.mono h (fun F h => star_monoR h (fun F h => star_swap h))
  exact h1.swap.right
theorem StR.bx {bx : Nat} {T : TypeId} {L : List Value} (h : StR B w0 w Ga Gb CA (star (blkA bx T L) RE) st top log ka kb vM vN) : Blk w bx T L := (Hold.right (Hold.right h)).blk
end
end Go.Proofs.YtbjmhpbelkndpaaDoor
