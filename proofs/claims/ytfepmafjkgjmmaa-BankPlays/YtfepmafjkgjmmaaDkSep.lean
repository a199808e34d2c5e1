/- Several disks side by side: what is said of parts of memory that share no block. -/
import Derived.Test.YtfepmafjkgjmmaaDkArg
import Derived.Test.YtfepmafjkgjmmaaDkRef2
import Derived.Test.YtfepmafjkgjmmaaDkRef3
namespace Go.Proofs.Ytfepmafjkgjmmaa
open Go.RowKit Go.PlainAid
set_option linter.unusedVariables false

/-- What is said of a world and of a set of its blocks. -/
abbrev Asn := World → (Nat → Prop) → Prop
/-- It stays true while other blocks turn; its blocks are there. -/
structure Firm (P : Asn) : Prop where
  kept : ∀ {w w' : World} {F G : Nat → Prop}, P w F → Kept G w w' → (∀ k, F k → ¬ G k) → P w' F
  bound : ∀ {w : World} {F : Nat → Prop}, P w F → ∀ k, F k → k < w.heap.size
/-- Both, on blocks apart. -/
def star (P Q : Asn) : Asn := fun w F => ∃ G H, P w G ∧ Q w H ∧ (∀ k, G k → ¬ H k) ∧ ∀ k, F k ↔ G k ∨ H k
theorem Firm.star {P Q : Asn} (hP : Firm P) (hQ : Firm Q) : Firm (star P Q) :=
  ⟨fun ⟨G, H, h1, h2, h3, h4⟩ hk hd => ⟨G, H, hP.kept h1 hk (fun k hg => hd k ((h4 k).2 (.inl hg))), hQ.kept h2 hk (fun k hh => hd k ((h4 k).2 (.inr hh))), h3, h4⟩,
   fun ⟨G, H, h1, h2, h3, h4⟩ k hk => ((h4 k).1 hk).elim (hP.bound h1 k) (hQ.bound h2 k)⟩
/-- All that the call has made is so, and nothing ahead of block B has turned since w0. -/
def Hold (B : Nat) (w0 w : World) (P : Asn) : Prop := B ≤ w.heap.size ∧ Below B w0 w ∧ ∃ F, P w F ∧ ∀ k, F k → B ≤ k
theorem Hold.size {B : Nat} {w0 w : World} {P : Asn} (h : Hold B w0 w P) : B ≤ w.heap.size := h.1
theorem Hold.low {B : Nat} {w0 w : World} {P : Asn} (h : Hold B w0 w P) : Below B w0 w := h.2.1
theorem Hold.mono {B : Nat} {w0 w : World} {P Q : Asn} (h : Hold B w0 w P) (hPQ : ∀ F, P w F → Q w F) : Hold B w0 w Q := by
  obtain ⟨h1, h2, F, h3, h4⟩ := h; exact ⟨h1, h2, F, hPQ F h3, h4⟩
theorem Hold.below {B : Nat} {w0 w w' : World} {P : Asn} (h : Hold B w0 w P) (hP : Firm P) (hb : Below w.heap.size w w') : Hold B w0 w' P := by
  obtain ⟨h1, h2, F, h3, h4⟩ := h
  exact ⟨Nat.le_trans h1 hb.size, h2.trans (hb.mono h1), F, hP.kept h3 (Kept.ofBelow (F := fun _ => False) hb) (fun _ _ h => h), h4⟩
theorem star_swap {P Q R : Asn} {w : World} {F : Nat → Prop} (h : star P (star Q R) w F) : star Q (star P R) w F := by
  obtain ⟨G, H, h1, ⟨I, J, h2, h3, h4, h5⟩, h6, h7⟩ := h
  refine ⟨I, fun k => G k ∨ J k, h2, ⟨G, J, h1, h3, fun k hg hj => h6 k hg ((h5 k).2 (.inr hj)), fun k => Iff.rfl⟩, ?_, ?_⟩
  · rintro k hi (hg | hj)
    · exact h6 k hg ((h5 k).2 (.inl hi))
    · exact h4 k hi hj
  · intro k
    rw [h7 k, h5 k]
    constructor
    · rintro (h | h | h)
      · exact .inr (.inl h)
      · exact .inl h
      · exact .inr (.inr h)
    · rintro (h | h | h)
      · exact .inr (.inl h)
      · exact .inl h
      · exact .inr (.inr h)
theorem star_comm {P Q : Asn} {w : World} {F : Nat → Prop} (h : star P Q w F) : star Q P w F := by
  obtain ⟨G, H, h1, h2, h3, h4⟩ := h
  exact ⟨H, G, h2, h1, fun k hh hg => h3 k hg hh, fun k => (h4 k).trans Or.comm⟩
theorem Hold.swap {B : Nat} {w0 w : World} {P Q R : Asn} (h : Hold B w0 w (star P (star Q R))) : Hold B w0 w (star Q (star P R)) := h.mono (fun _ => star_swap)
theorem Hold.comm {B : Nat} {w0 w : World} {P Q : Asn} (h : Hold B w0 w (star P Q)) : Hold B w0 w (star Q P) := h.mono (fun _ => star_comm)
theorem Hold.left {B : Nat} {w0 w : World} {P Q : Asn} (h : Hold B w0 w (star P Q)) : Hold B w0 w P := by
  obtain ⟨h1, h2, F, ⟨G, H, h3, h4, h5, h6⟩, h7⟩ := h
  exact ⟨h1, h2, G, h3, fun k hk => h7 k ((h6 k).2 (.inl hk))⟩
theorem Hold.monoL {B : Nat} {w0 w : World} {P P' Q : Asn} (h : Hold B w0 w (star P Q)) (hP : ∀ F, P w F → P' w F) : Hold B w0 w (star P' Q) :=
  h.mono (fun F ⟨G, H, h3, h4⟩ => ⟨G, H, hP G h3, h4⟩)
theorem Hold.monoR {B : Nat} {w0 w : World} {P Q Q' : Asn} (h : Hold B w0 w (star P Q)) (hQ : ∀ F, Q w F → Q' w F) : Hold B w0 w (star P Q') :=
  h.mono (fun F ⟨G, H, h3, h4, h5⟩ => ⟨G, H, h3, hQ H h4, h5⟩)
/-- A call that turns the first part alone. -/
theorem Hold.turned {B : Nat} {w0 w w' : World} {P' R : Asn} (hR : Firm R) {G H : Nat → Prop} (hB : B ≤ w.heap.size) (hb : Below B w0 w) (hr : R w H) (hd : ∀ k, G k → ¬ H k) (hF : ∀ k, G k ∨ H k → B ≤ k) (hT : Turned G w w' (fun G' => P' w' G')) : Hold B w0 w' (star P' R) := by
  obtain ⟨G', h1, h2, h3⟩ := hT
  refine ⟨Nat.le_trans hB h2.size, h2.below hb hB (fun k hk => hF k (.inl hk)), fun k => G' k ∨ H k, ⟨G', H, h1, hR.kept hr h2 (fun k hh hg => hd k hg hh), ?_, fun k => Iff.rfl⟩, ?_⟩
  · intro k hk hh
    rcases h3 k hk with h | h
    · exact hd k h hh
    · have := hR.bound hr k hh; omega
  · rintro k (hk | hk)
    · rcases h3 k hk with h | h
      · exact hF k (.inl h)
      · exact Nat.le_trans hB h
    · exact hF k (.inr hk)
theorem Hold.call {B : Nat} {w0 w : World} {P P' R : Asn} (hR : Firm R) {f : Nat} {args : Array Value} {E : Ending → Prop} (h : Hold B w0 w (star P R)) (hc : ∀ G, P w G → (∀ k, G k → B ≤ k) → Calls Try.prog f args w fun e w' => E e ∧ Turned G w w' (fun G' => P' w' G')) :
    Calls Try.prog f args w fun e w' => E e ∧ Hold B w0 w' (star P' R) := by
  obtain ⟨h1, h2, F, ⟨G, H, h3, h4, h5, h6⟩, h7⟩ := h
  refine (hc G h3 (fun k hk => h7 k ((h6 k).2 (.inl hk)))).mono ?_
  rintro e w' ⟨he, hT⟩
  exact ⟨he, Hold.turned hR h1 h2 h4 h5 (fun k hk => h7 k ((h6 k).2 hk)) hT⟩
/-- New memory of its own. -/
theorem Hold.new {B : Nat} {w0 w w' : World} {P R : Asn} (hR : Firm R) (h : Hold B w0 w R) (hb : Below w.heap.size w w') {G : Nat → Prop} (hP : P w' G) (hG : ∀ k, G k → w.heap.size ≤ k) : Hold B w0 w' (star P R) := by
  obtain ⟨h1, h2, F, h3, h4⟩ := h
  refine ⟨Nat.le_trans h1 hb.size, h2.trans (hb.mono h1), fun k => G k ∨ F k, ⟨G, F, hP, hR.kept h3 (Kept.ofBelow (F := fun _ => False) hb) (fun _ _ h => h), ?_, fun k => Iff.rfl⟩, ?_⟩
  · intro k hk hf
    have := hG k hk
    have := hR.bound h3 k hf
    omega
  · rintro k (hk | hk)
    · exact Nat.le_trans h1 (hG k hk)
    · exact h4 k hk
/-- Nothing. -/
def nought : Asn := fun w F => ∀ k, ¬ F k
theorem firm_nought : Firm nought := ⟨fun h _ _ => h, fun h k hk => absurd hk (h k)⟩
theorem hold_nought (B : Nat) (w0 w : World) (hB : B ≤ w.heap.size) (hb : Below B w0 w) : Hold B w0 w nought := ⟨hB, hb, fun _ => False, fun _ h => h, fun _ h => h.elim⟩
/-- A disk; the document's disk; a block. -/
def dsk (g n : Nat) (l : Nat → ByteArray) (q : List Wr) (dead : Bool) : Asn := fun w F => DiskAt w F g n l q dead
theorem firm_dsk (g n : Nat) (l : Nat → ByteArray) (q : List Wr) (dead : Bool) : Firm (dsk g n l q dead) := ⟨fun h hk hd => DiskAt.kept h hk hd, fun h => DiskAt.bound h⟩
def rf (g n : Nat) (l : Nat → ByteArray) (q : List Wr) (dead : Bool) : Asn := fun w F => RefAt w F g n l q dead
theorem firm_rf (g n : Nat) (l : Nat → ByteArray) (q : List Wr) (dead : Bool) : Firm (rf g n l q dead) := ⟨fun h hk hd => RefAt.kept h hk hd, fun h => RefAt.bound h⟩
def blkA (g : Nat) (T : TypeId) (L : List Value) : Asn := fun w F => Blk w g T L ∧ ∀ k, F k ↔ k = g
theorem firm_blk (g : Nat) (T : TypeId) (L : List Value) : Firm (blkA g T L) := ⟨fun h hk hd => ⟨h.1.kept hk (hd g ((h.2 g).2 rfl)), h.2⟩, fun h k hk => by rw [(h.2 k).1 hk]; exact h.1.lt⟩
/-- A row of texts in memory of its own. -/
def txt (v : Value) (m : Nat) (f : Nat → ByteArray) : Asn := fun w F => TextsAt w v m f ∧ (∀ a n c, v = .slice (some a) n c → n ≠ 0 → F a.block) ∧ ∀ k, F k → k < w.heap.size
theorem firm_txt (v : Value) (m : Nat) (f : Nat → ByteArray) : Firm (txt v m f) := ⟨fun h hk hd => ⟨h.1.kept hk (fun a n c e e0 => hd _ (h.2.1 a n c e e0)), h.2.1, fun k hf => Nat.lt_of_lt_of_le (h.2.2 k hf) hk.size⟩, fun h => h.2.2⟩
/-- A variable that holds such a row. -/
def img (g m : Nat) (f : Nat → ByteArray) : Asn := fun w F => ∃ v, star (blkA g 37 [v]) (txt v m f) w F
theorem firm_img (g m : Nat) (f : Nat → ByteArray) : Firm (img g m f) :=
  ⟨fun ⟨v, h⟩ hk hd => ⟨v, ((firm_blk g 37 [v]).star (firm_txt v m f)).kept h hk hd⟩, fun ⟨v, h⟩ => ((firm_blk g 37 [v]).star (firm_txt v m f)).bound h⟩
theorem Hold.blk {B : Nat} {w0 w : World} {g : Nat} {T : TypeId} {L : List Value} {R : Asn} (h : Hold B w0 w (star (blkA g T L) R)) : Blk w g T L := by
  obtain ⟨h1, h2, F, ⟨G, H, h3, h4⟩, h7⟩ := h; exact h3.1
section
variable {B : Nat} {w0 w : World} {g n : Nat} {l : Nat → ByteArray} {q : List Wr} {dead : Bool} {R : Asn}
theorem Hold.dsk (h : Hold B w0 w (star (dsk g n l q dead) R)) : ∃ F, DiskAt w F g n l q dead := by
  obtain ⟨h1, h2, F, ⟨G, H, h3, h4⟩, h7⟩ := h; exact ⟨G, h3⟩
theorem Hold.rf (h : Hold B w0 w (star (rf g n l q dead) R)) : ∃ F, RefAt w F g n l q dead := by
  obtain ⟨h1, h2, F, ⟨G, H, h3, h4⟩, h7⟩ := h; exact ⟨G, h3⟩
theorem h_write (hR : Firm R) (h : Hold B w0 w (star (Go.Proofs.Ytfepmafjkgjmmaa.dsk g n l q dead) R)) (at_ : Int) (s : ByteArray) (hq : q.length ≤ 1000000) : Calls Try.prog 42 #[.pointer (some ⟨g, 0, none⟩), .int .i64 at_, .string s] w fun e w' => e = .returned (.int .i64 (errW dead n at_ s)) ∧ Hold B w0 w' (star (Go.Proofs.Ytfepmafjkgjmmaa.dsk g n l (putQ q dead n at_ s) dead) R) :=
  h.call hR (P' := Go.Proofs.Ytfepmafjkgjmmaa.dsk g n l (putQ q dead n at_ s) dead) (E := fun e => e = .returned (.int .i64 (errW dead n at_ s))) fun G hG _ => dkWrite_any hG at_ s hq
theorem h_put (hR : Firm R) (h : Hold B w0 w (star (Go.Proofs.Ytfepmafjkgjmmaa.rf g n l q dead) R)) (at_ : Int) (s : ByteArray) (hq : q.length ≤ 1000000) : Calls Try.prog 51 #[.pointer (some ⟨g, 0, none⟩), .int .i64 at_, .string s] w fun e w' => e = .returned (.int .i64 (errW dead n at_ s)) ∧ Hold B w0 w' (star (Go.Proofs.Ytfepmafjkgjmmaa.rf g n l (putQ q dead n at_ s) dead) R) :=
  h.call hR (P' := Go.Proofs.Ytfepmafjkgjmmaa.rf g n l (putQ q dead n at_ s) dead) (E := fun e => e = .returned (.int .i64 (errW dead n at_ s))) fun G hG _ => refPut_any hG at_ s hq
theorem h_flush (hR : Firm R) (h : Hold B w0 w (star (Go.Proofs.Ytfepmafjkgjmmaa.dsk g n l q dead) R)) : Calls Try.prog 25 #[.pointer (some ⟨g, 0, none⟩)] w fun e w' => e = .returned (.int .i64 (errD dead)) ∧ Hold B w0 w' (star (Go.Proofs.Ytfepmafjkgjmmaa.dsk g n (flushL l q dead) (flushQ q dead) dead) R) :=
  h.call hR (P' := Go.Proofs.Ytfepmafjkgjmmaa.dsk g n (flushL l q dead) (flushQ q dead) dead) (E := fun e => e = .returned (.int .i64 (errD dead))) fun G hG _ => flush_any hG
theorem h_rflush (hR : Firm R) (h : Hold B w0 w (star (Go.Proofs.Ytfepmafjkgjmmaa.rf g n l q dead) R)) (hq : q.length ≤ 1000000) : Calls Try.prog 48 #[.pointer (some ⟨g, 0, none⟩)] w fun e w' => e = .returned (.int .i64 (errD dead)) ∧ Hold B w0 w' (star (Go.Proofs.Ytfepmafjkgjmmaa.rf g n (flushL l q dead) (flushQ q dead) dead) R) :=
  h.call hR (P' := Go.Proofs.Ytfepmafjkgjmmaa.rf g n (flushL l q dead) (flushQ q dead) dead) (E := fun e => e = .returned (.int .i64 (errD dead))) fun G hG _ => refFlush_any hG hq
theorem h_fail (hR : Firm R) (h : Hold B w0 w (star (Go.Proofs.Ytfepmafjkgjmmaa.dsk g n l q dead) R)) : Calls Try.prog 34 #[.pointer (some ⟨g, 0, none⟩)] w fun e w' => e = .returned (.tuple #[]) ∧ Hold B w0 w' (star (Go.Proofs.Ytfepmafjkgjmmaa.dsk g n (fun _ => noB) [] true) R) :=
  h.call hR (P' := Go.Proofs.Ytfepmafjkgjmmaa.dsk g n (fun _ => noB) [] true) (E := fun e => e = .returned (.tuple #[])) fun G hG _ => fail_any hG
theorem h_rfail (hR : Firm R) (h : Hold B w0 w (star (Go.Proofs.Ytfepmafjkgjmmaa.rf g n l q dead) R)) : Calls Try.prog 35 #[.pointer (some ⟨g, 0, none⟩)] w fun e w' => e = .returned (.tuple #[]) ∧ Hold B w0 w' (star (Go.Proofs.Ytfepmafjkgjmmaa.rf g n l [] true) R) :=
  h.call hR (P' := Go.Proofs.Ytfepmafjkgjmmaa.rf g n l [] true) (E := fun e => e = .returned (.tuple #[])) fun G hG _ => refFail_any hG
theorem h_tamper (hR : Firm R) (h : Hold B w0 w (star (Go.Proofs.Ytfepmafjkgjmmaa.dsk g n l q dead) R)) (at_ : Int) (s : ByteArray) (hq : q.length ≤ 1000000) : Calls Try.prog 26 #[.pointer (some ⟨g, 0, none⟩), .int .i64 at_, .string s] w fun e w' => e = .returned (.bool (tampB dead n at_ s)) ∧ Hold B w0 w' (star (Go.Proofs.Ytfepmafjkgjmmaa.dsk g n (tampL l dead n at_ s) (tampQ q dead n at_ s) dead) R) :=
  h.call hR (P' := Go.Proofs.Ytfepmafjkgjmmaa.dsk g n (tampL l dead n at_ s) (tampQ q dead n at_ s) dead) (E := fun e => e = .returned (.bool (tampB dead n at_ s))) fun G hG _ => tamper_any hG at_ s hq
/-- A row that lies ahead of B. -/
def Old (B : Nat) (v : Value) : Prop := ∀ a n c, v = .slice (some a) n c → n ≠ 0 → a.block < B
theorem Old.away {B : Nat} {v : Value} (h : Old B v) {F : Nat → Prop} (hF : ∀ k, F k → B ≤ k) : Away F v := fun a n c e e0 hf => by
  have h1 := h a n c e e0
  have h2 := hF _ hf
  omega
theorem h_crash (hR : Firm R) (h : Hold B w0 w (star (Go.Proofs.Ytfepmafjkgjmmaa.dsk g n l q dead) R)) (v : Value) (m : Nat) (k : Nat → Bool) (hv : BoolsAt w v m k) (hm : m ≤ 1000000000) (hq : q.length ≤ 1000000) (ho : Old B v) : Calls Try.prog 44 #[.pointer (some ⟨g, 0, none⟩), v] w fun e w' => e = .returned (.tuple #[]) ∧ Hold B w0 w' (star (Go.Proofs.Ytfepmafjkgjmmaa.dsk g n (crashL l q dead k) (flushQ q dead) dead) R) :=
  h.call hR (P' := Go.Proofs.Ytfepmafjkgjmmaa.dsk g n (crashL l q dead k) (flushQ q dead) dead) (E := fun e => e = .returned (.tuple #[])) fun G hG hB => crash_any hG v m k hv hm hq (ho.away hB)
theorem h_rcrash (hR : Firm R) (h : Hold B w0 w (star (Go.Proofs.Ytfepmafjkgjmmaa.rf g n l q dead) R)) (v : Value) (m : Nat) (k : Nat → Bool) (hv : BoolsAt w v m k) (hm : m ≤ 1000000000) (hq : q.length ≤ 1000000) (ho : Old B v) : Calls Try.prog 49 #[.pointer (some ⟨g, 0, none⟩), v] w fun e w' => e = .returned (.tuple #[]) ∧ Hold B w0 w' (star (Go.Proofs.Ytfepmafjkgjmmaa.rf g n (crashL l q dead k) (flushQ q dead) dead) R) :=
  h.call hR (P' := Go.Proofs.Ytfepmafjkgjmmaa.rf g n (crashL l q dead k) (flushQ q dead) dead) (E := fun e => e = .returned (.tuple #[])) fun G hG hB => refCrash_any hG v m k hv hm hq (ho.away hB)
/-- A crash by a row that another part holds. -/
theorem h_crashBlk (hR : Firm R) {gb : Nat} {T : TypeId} {L : List Value} (h : Hold B w0 w (star (Go.Proofs.Ytfepmafjkgjmmaa.dsk g n l q dead) (star (Go.Proofs.Ytfepmafjkgjmmaa.blkA gb T L) R))) (o m c : Nat) (k : Nat → Bool) (hv : BoolsAt w (.slice (some ⟨gb, o, none⟩) m c) m k) (hm : m ≤ 1000000000) (hq : q.length ≤ 1000000) : Calls Try.prog 44 #[.pointer (some ⟨g, 0, none⟩), .slice (some ⟨gb, o, none⟩) m c] w fun e w' => e = .returned (.tuple #[]) ∧ Hold B w0 w' (star (Go.Proofs.Ytfepmafjkgjmmaa.dsk g n (crashL l q dead k) (flushQ q dead) dead) (star (Go.Proofs.Ytfepmafjkgjmmaa.blkA gb T L) R)) := by
  obtain ⟨h1, h2, F, ⟨G, H, h3, h4, h5, h6⟩, h7⟩ := h
  have h4' := h4
  obtain ⟨I, J, i1, i2, i3, i4⟩ := h4'
  refine (crash_any h3 _ m k hv hm hq (fun a n c e e0 hg => ?_)).mono ?_
  · cases e
    exact h5 _ hg ((i4 _).2 (.inl ((i1.2 _).2 rfl)))
  · rintro e w' ⟨he, hT⟩
    exact ⟨he, Hold.turned ((firm_blk gb T L).star hR) h1 h2 h4 h5 (fun k hk => h7 k ((h6 k).2 hk)) hT⟩
end
end Go.Proofs.Ytfepmafjkgjmmaa
