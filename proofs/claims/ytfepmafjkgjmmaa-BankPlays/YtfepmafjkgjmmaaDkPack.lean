/- Parts of memory packed and unpacked; what came in, still there; new disks. -/
import Derived.Test.YtfepmafjkgjmmaaDkSep
namespace Go.Proofs.Ytfepmafjkgjmmaa
open Go.RowKit Go.PlainAid
set_option linter.unusedVariables false

theorem pull_last {R X Bi Tx : Asn} {w : World} {F : Nat → Prop} (h : star R (star X (star Bi Tx)) w F) : star Tx (star R (star X Bi)) w F := by
  obtain ⟨G, H, h1, h2, h3⟩ := h
  have h4 : star Tx (star X Bi) w H := star_swap (by
    obtain ⟨G', H', k1, k2, k3⟩ := h2
    exact ⟨G', H', k1, star_comm k2, k3⟩)
  exact star_swap ⟨G, H, h1, h4, h3⟩
theorem push_last {R X Bi Tx : Asn} {w : World} {F : Nat → Prop} (h : star Tx (star R (star X Bi)) w F) : star R (star X (star Bi Tx)) w F := by
  obtain ⟨G, H, h1, h2, h3⟩ := star_swap h
  refine ⟨G, H, h1, ?_, h3⟩
  obtain ⟨G', H', k1, k2, k3⟩ := star_swap h2
  exact ⟨G', H', k1, star_comm k2, k3⟩
theorem star_left {P Q : Asn} {w : World} {F : Nat → Prop} (h : star P Q w F) : ∃ G, P w G ∧ ∀ k, G k → F k := by
  obtain ⟨G, H, h1, h2, h3, h4⟩ := h
  exact ⟨G, h1, fun k hk => (h4 k).2 (.inl hk)⟩
theorem star_right {P Q : Asn} {w : World} {F : Nat → Prop} (h : star P Q w F) : ∃ G, Q w G ∧ ∀ k, G k → F k := by
  obtain ⟨G, H, h1, h2, h3, h4⟩ := h
  exact ⟨H, h2, fun k hk => (h4 k).2 (.inr hk)⟩
theorem Hold.right {B : Nat} {w0 w : World} {P Q : Asn} (h : Hold B w0 w (star P Q)) : Hold B w0 w Q := h.comm.left
/-- Bools that came in, still there. -/
theorem BoolsAt.old {B : Nat} {w0 w : World} {v : Value} {m : Nat} {k : Nat → Bool} (h : BoolsAt w0 v m k) (ho : Old B v) (hb : Below B w0 w) (hB : B ≤ w.heap.size) : BoolsAt w v m k := by
  obtain ⟨⟨a, cap, rfl, h1⟩, h2⟩ := h
  refine ⟨⟨a, cap, rfl, ?_⟩, h2⟩
  rcases h1 with h1 | ⟨b, o, rfl, hl, hc⟩
  · exact .inl h1
  · by_cases h0 : m = 0
    · exact .inl h0
    · have hlt : b < B := ho ⟨b, o, none⟩ m cap rfl h0
      exact .inr ⟨b, o, rfl, by omega, fun i hi => (hb.cell (p := ⟨b, o + i, none⟩) hlt).trans (hc i hi)⟩
/-- The first of them. -/
theorem BoolsAt.cut {w : World} {a : Option Addr} {m c : Nat} {k : Nat → Bool} (h : BoolsAt w (.slice a m c) m k) (j : Nat) (hj : j ≤ m) : BoolsAt w (.slice a j c) j (fun i => if i < j then k i else false) := by
  obtain ⟨⟨a', cap, e, h1⟩, h2⟩ := h
  cases e
  refine ⟨⟨a, c, rfl, ?_⟩, fun i hi => if_neg (by omega)⟩
  rcases h1 with h1 | ⟨b, o, rfl, hl, hc⟩
  · exact .inl (by omega)
  · exact .inr ⟨b, o, rfl, hl, fun i hi => by simp only [if_pos hi]; exact hc i (by omega)⟩
theorem unpack {D R X I T : Asn} {w : World} {F : Nat → Prop} (h : star D (star R (star X (star I T))) w F) : ∃ F1 F2 F3 F4 F5, D w F1 ∧ R w F2 ∧ X w F3 ∧ I w F4 ∧ T w F5 ∧
    (∀ k, F1 k → ¬ (F2 k ∨ F3 k ∨ F4 k ∨ F5 k)) ∧ (∀ k, F2 k → ¬ (F3 k ∨ F4 k ∨ F5 k)) ∧ (∀ k, F3 k → ¬ (F4 k ∨ F5 k)) ∧ (∀ k, F4 k → ¬ F5 k) ∧ ∀ k, F k ↔ F1 k ∨ F2 k ∨ F3 k ∨ F4 k ∨ F5 k := by
  obtain ⟨F1, H1, d1, ⟨F2, H2, d2, ⟨F3, H3, d3, ⟨F4, F5, d4, d5, e4, f4⟩, e3, f3⟩, e2, f2⟩, e1, f1⟩ := h
  refine ⟨F1, F2, F3, F4, F5, d1, d2, d3, d4, d5, fun k hk h => ?_, fun k hk h => ?_, fun k hk h => ?_, e4, fun k => ?_⟩
  · exact e1 k hk ((f2 k).2 (h.imp id fun h => (f3 k).2 (h.imp id fun h => (f4 k).2 h)))
  · exact e2 k hk ((f3 k).2 (h.imp id fun h => (f4 k).2 h))
  · exact e3 k hk ((f4 k).2 h)
  · rw [f1 k, f2 k, f3 k, f4 k]
theorem pack {D R X I T : Asn} {w : World} {F1 F2 F3 F4 F5 : Nat → Prop} (d1 : D w F1) (d2 : R w F2) (d3 : X w F3) (d4 : I w F4) (d5 : T w F5) (e1 : ∀ k, F1 k → ¬ (F2 k ∨ F3 k ∨ F4 k ∨ F5 k)) (e2 : ∀ k, F2 k → ¬ (F3 k ∨ F4 k ∨ F5 k)) (e3 : ∀ k, F3 k → ¬ (F4 k ∨ F5 k)) (e4 : ∀ k, F4 k → ¬ F5 k) :
    star D (star R (star X (star I T))) w (fun k => F1 k ∨ F2 k ∨ F3 k ∨ F4 k ∨ F5 k) :=
  ⟨F1, fun k => F2 k ∨ F3 k ∨ F4 k ∨ F5 k, d1, ⟨F2, fun k => F3 k ∨ F4 k ∨ F5 k, d2, ⟨F3, fun k => F4 k ∨ F5 k, d3, ⟨F4, F5, d4, d5, e4, fun k => Iff.rfl⟩, e3, fun k => Iff.rfl⟩, e2, fun k => Iff.rfl⟩, e1, fun k => Iff.rfl⟩
theorem TextsAt.congr {w : World} {v : Value} {m : Nat} {f f' : Nat → ByteArray} (h : TextsAt w v m f) (e : ∀ i, i < m → f i = f' i) : TextsAt w v m f' := by
  obtain ⟨a, cap, rfl, h0, h1⟩ := h
  refine ⟨a, cap, rfl, h0, ?_⟩
  rcases h1 with h1 | ⟨b, o, rfl, hb, hc⟩
  · exact .inl h1
  · exact .inr ⟨b, o, rfl, hb, fun i hi => by rw [← e i hi]; exact hc i hi⟩
theorem texts_none (w : World) (f : Nat → ByteArray) : TextsAt w (.slice none 0 0) 0 f := ⟨none, 0, rfl, Nat.le_refl _, .inl rfl⟩
theorem texts_blk {w : World} {g n : Nat} {f : Nat → ByteArray} (h : Blk w g 9 (strs n f)) : TextsAt w (.slice (some ⟨g, 0, none⟩) n n) n f := ⟨_, _, rfl, Nat.le_refl _, .inr ⟨g, 0, rfl, h.lt, fun i hi => by rw [Nat.zero_add]; exact h.cell (strs_at n f i hi)⟩⟩
theorem putQ_length (q : List Wr) (dead : Bool) (n : Nat) (a : Int) (s : ByteArray) : (putQ q dead n a s).length ≤ q.length + 1 := by
  unfold putQ
  split
  · simp
  · omega
theorem flushQ_length (q : List Wr) (dead : Bool) : (flushQ q dead).length ≤ q.length + 1 := by
  unfold flushQ
  split
  · omega
  · simp
theorem tampQ_length (q : List Wr) (dead : Bool) (n : Nat) (a : Int) (s : ByteArray) : (tampQ q dead n a s).length ≤ q.length + 1 := by
  unfold tampQ
  split
  · exact Nat.le_succ_of_le (others_length _ _)
  · omega
theorem pack4 {D R I T : Asn} {w : World} {F1 F2 F4 F5 : Nat → Prop} (d1 : D w F1) (d2 : R w F2) (d4 : I w F4) (d5 : T w F5) (e1 : ∀ k, F1 k → ¬ (F2 k ∨ F4 k ∨ F5 k)) (e2 : ∀ k, F2 k → ¬ (F4 k ∨ F5 k)) (e4 : ∀ k, F4 k → ¬ F5 k) :
    star D (star R (star I T)) w (fun k => F1 k ∨ F2 k ∨ F4 k ∨ F5 k) :=
  ⟨F1, fun k => F2 k ∨ F4 k ∨ F5 k, d1, ⟨F2, fun k => F4 k ∨ F5 k, d2, ⟨F4, F5, d4, d5, e4, fun k => Iff.rfl⟩, e2, fun k => Iff.rfl⟩, e1, fun k => Iff.rfl⟩
theorem h_new {B : Nat} {w0 w : World} {R : Asn} (hR : Firm R) (h : Hold B w0 w R) (c : Int) : Calls Try.prog 27 #[.int .i64 c] w fun e w' => ∃ g, e = .returned (.pointer (some ⟨g, 0, none⟩)) ∧ Hold B w0 w' (star (dsk g (newN c) (fun _ => noB) [] false) R) := by
  refine (new_at c w).mono ?_
  rintro e w' ⟨g, rfl, F, h1, h2, h3⟩
  exact ⟨g, rfl, Hold.new hR h h2 (G := F) h1 h3⟩
theorem h_rnew {B : Nat} {w0 w : World} {R : Asn} (hR : Firm R) (h : Hold B w0 w R) (c : Int) : Calls Try.prog 28 #[.int .i64 c] w fun e w' => ∃ g, e = .returned (.pointer (some ⟨g, 0, none⟩)) ∧ Hold B w0 w' (star (rf g (newN c) (fun _ => noB) [] false) R) := by
  refine (refNew_at c w).mono ?_
  rintro e w' ⟨g, rfl, F, h1, h2, h3⟩
  exact ⟨g, rfl, Hold.new hR h h2 (G := F) h1 h3⟩
/-- An act that came in, as it lies there still. -/
theorem acts_at {W w : World} {a : Option Addr} {len cap : Nat} (h : ActsArg W a len cap) (hb : Below W.heap.size W w) (i : Nat) (hi : i < len) : ∃ b o, ∃ A : ActD, a = some ⟨b, o, none⟩ ∧ ActOk W A ∧ Old W.heap.size A.row ∧ w.cell? ⟨b, o + i * 6, none⟩ = some (.int .i64 A.d) ∧ w.cell? ⟨b, o + i * 6 + 1, none⟩ = some (.int .i64 A.a) ∧ w.cell? ⟨b, o + i * 6 + 2, none⟩ = some (.string A.s) ∧ w.cell? ⟨b, o + i * 6 + 3, none⟩ = some (.int .i64 A.n) ∧ w.cell? ⟨b, o + i * 6 + 4, none⟩ = some A.row ∧ w.cell? ⟨b, o + i * 6 + 5, none⟩ = some (.bool A.x) := by
  obtain ⟨h1, h2, A, h3, h4⟩ := h
  rcases h4 with h4 | ⟨b, o, rfl, hb0, hc⟩
  · omega
  · have g : ∀ j, w.cell? ⟨b, j, none⟩ = W.cell? ⟨b, j, none⟩ := fun j => hb.cell (p := ⟨b, j, none⟩) hb0
    obtain ⟨c0, c1, c2, c3, c4, c5⟩ := hc i hi
    refine ⟨b, o, A i, rfl, h3 i hi, ?_, by rw [g]; exact c0, by rw [g]; exact c1, by rw [g]; exact c2, by rw [g]; exact c3, by rw [g]; exact c4, by rw [g]; exact c5⟩
    intro y n c e e0
    obtain ⟨⟨⟨⟨a', cap', e', hx⟩, _⟩, _, _⟩, _⟩ := h3 i hi
    cases e'
    simp only [ActD.row, Value.slice.injEq] at e
    obtain ⟨e1, e2, e3⟩ := e
    rcases hx with hx | ⟨b', o', e4, hl, _⟩
    · omega
    · rw [e4] at e1
      cases e1
      exact hl
theorem TextsAt.cut {w : World} {a : Option Addr} {m c : Nat} {f : Nat → ByteArray} (h : TextsAt w (.slice a m c) m f) (j : Nat) (hj : j ≤ m) : TextsAt w (.slice a j c) j f := by
  obtain ⟨a', cap, e, h0, h1⟩ := h
  cases e
  refine ⟨a, c, rfl, by omega, ?_⟩
  rcases h1 with h1 | ⟨b, o, rfl, hl, hc⟩
  · exact .inl (by omega)
  · exact .inr ⟨b, o, rfl, hl, fun i hi => hc i (by omega)⟩
theorem TextsAt.old {w0 w : World} {v : Value} {m : Nat} {f : Nat → ByteArray} (h : TextsAt w0 v m f) (B : Nat) (ho : Apartv B w0.heap.size v) (hb : Below B w0 w) (hB : B ≤ w.heap.size) : TextsAt w v m f := by
  obtain ⟨a, cap, rfl, h0, h1⟩ := h
  refine ⟨a, cap, rfl, h0, ?_⟩
  rcases h1 with h1 | ⟨b, o, rfl, hl, hc⟩
  · exact .inl h1
  · by_cases h0 : m = 0
    · exact .inl h0
    · have hlt : b < B := (ho ⟨b, o, none⟩ m cap rfl h0).resolve_right (by show ¬ w0.heap.size ≤ b; omega)
      exact .inr ⟨b, o, rfl, by omega, fun i hi => (hb.cell (p := ⟨b, o + i, none⟩) hlt).trans (hc i hi)⟩
theorem TextsAt.cellOf {W w : World} {a : Option Addr} {m c : Nat} {f : Nat → ByteArray} (h : TextsAt W (.slice a m c) m f) (ho : Apartv W.heap.size W.heap.size (.slice a m c)) (hb : Below W.heap.size W w) (i : Nat) (hi : i < m) : ∃ b o, a = some ⟨b, o, none⟩ ∧ ∀ z, Below W.heap.size W z → z.cell? ⟨b, o + i, none⟩ = some (.string (f i)) := by
  obtain ⟨a', cap, e, h0, h1⟩ := h
  cases e
  rcases h1 with h1 | ⟨b, o, rfl, hl, hc⟩
  · omega
  · exact ⟨b, o, rfl, fun z hz => (hz.cell (p := ⟨b, o + i, none⟩) hl).trans (hc i hi)⟩
theorem bools_none (w : World) : BoolsAt w (.slice none 0 0) 0 (fun _ => false) := ⟨⟨none, 0, rfl, .inl rfl⟩, fun _ _ => rfl⟩
/-- Texts that came in lie ahead of all that the call makes. -/
theorem texts_apart {W : World} {a : Option Addr} {m c : Nat} {f : Nat → ByteArray} (h : TextsAt W (.slice a m c) m f) (j : Nat) (hj : j ≤ m) (N : Nat) : Apartv W.heap.size N (.slice a j c) := by
  obtain ⟨a', cap, e, h0, h1⟩ := h
  cases e
  intro x n c' e e0
  cases e
  rcases h1 with h1 | ⟨b, o, e, hl, hc⟩
  · omega
  · cases e; exact .inl hl
end Go.Proofs.Ytfepmafjkgjmmaa
