/- A disk of the call's own: each call of it. -/
import Derived.Test.YtfepmafjkgjmmaaDkBytes
import Derived.Test.YtfepmafjkgjmmaaDkRest
namespace Go.Proofs.Ytfepmafjkgjmmaa
open Go.RowKit Go.PlainAid
set_option linter.unusedVariables false

/-- A disk that the call itself made: nothing ahead of block B has turned since w0. -/
def Own (B : Nat) (w0 w : World) (g n : Nat) (l : Nat → ByteArray) (q : List Wr) (dead : Bool) : Prop := B ≤ w.heap.size ∧ Below B w0 w ∧ ∃ F, DiskAt w F g n l q dead ∧ ∀ k, F k → B ≤ k
theorem Own.turn {B : Nat} {w0 w w' : World} {F : Nat → Prop} {g n : Nat} {l : Nat → ByteArray} {q : List Wr} {dead : Bool} (hB : B ≤ w.heap.size) (hb : Below B w0 w) (hF : ∀ k, F k → B ≤ k) (hT : Turned F w w' (fun F' => DiskAt w' F' g n l q dead)) : Own B w0 w' g n l q dead := by
  obtain ⟨F', h1, h2, h3⟩ := hT
  exact ⟨Nat.le_trans hB h2.size, h2.below hb hB hF, F', h1, fun k hk => (h3 k hk).elim (hF k) (fun h => Nat.le_trans hB h)⟩
theorem Own.below {B : Nat} {w0 w w' : World} {g n : Nat} {l : Nat → ByteArray} {q : List Wr} {dead : Bool} (h : Own B w0 w g n l q dead) (hb : Below w.heap.size w w') : Own B w0 w' g n l q dead := by
  obtain ⟨h1, h2, F, h3, h4⟩ := h
  exact ⟨Nat.le_trans h1 hb.size, h2.trans (hb.mono h1), F, h3.kept (Kept.ofBelow (F := fun _ => False) hb) (fun _ _ h => h), h4⟩
theorem Own.size {B : Nat} {w0 w : World} {g n : Nat} {l : Nat → ByteArray} {q : List Wr} {dead : Bool} (h : Own B w0 w g n l q dead) : B ≤ w.heap.size := h.1
theorem own_new (B : Nat) (w0 w : World) (c : Int) (hB : B ≤ w.heap.size) (hb : Below B w0 w) : Calls Try.prog 27 #[.int .i64 c] w fun e w' => ∃ g, e = .returned (.pointer (some ⟨g, 0, none⟩)) ∧ Own B w0 w' g (newN c) (fun _ => noB) [] false := by
  refine (new_at c w).mono ?_
  rintro e w' ⟨g, rfl, F, h1, h2, h3⟩
  exact ⟨g, rfl, Nat.le_trans hB h2.size, hb.trans (h2.mono hB), F, h1, fun k hk => Nat.le_trans hB (h3 k hk)⟩
section
variable {B : Nat} {w0 w : World} {g n : Nat} {l : Nat → ByteArray} {q : List Wr} {dead : Bool}
theorem own_write (h : Own B w0 w g n l q dead) (at_ : Int) (s : ByteArray) (hq : q.length ≤ 1000000) : Calls Try.prog 42 #[.pointer (some ⟨g, 0, none⟩), .int .i64 at_, .string s] w fun e w' => e = .returned (.int .i64 (errW dead n at_ s)) ∧ Own B w0 w' g n l (putQ q dead n at_ s) dead := by
  obtain ⟨h1, h2, F, h3, h4⟩ := h
  refine (dkWrite_any h3 at_ s hq).mono ?_
  rintro e w' ⟨rfl, hT⟩
  exact ⟨rfl, Own.turn h1 h2 h4 hT⟩
theorem errW_ok (n k : Nat) (s : ByteArray) (hk : k < n) (hs : s.size ≤ 2048) : errW false n (k : Int) s = 0 := by unfold errW; rw [errA_ok n k hk, if_pos rfl, if_neg (by omega)]
theorem own_writeOk (h : Own B w0 w g n l q false) (at_ : Int) (k : Nat) (s : ByteArray) (hat : at_ = (k : Int)) (hk : k < n) (hs : s.size ≤ 2048) (hq : q.length ≤ 1000000) : Calls Try.prog 42 #[.pointer (some ⟨g, 0, none⟩), .int .i64 at_, .string s] w fun e w' => e = .returned (.int .i64 0) ∧ Own B w0 w' g n l (q ++ [(k, s)]) false := by
  subst hat
  have := own_write h (k : Int) s hq
  unfold putQ at this
  rw [errW_ok n k s hk hs, if_pos rfl, Int.toNat_natCast] at this
  exact this
theorem own_read (h : Own B w0 w g n l q dead) (at_ : Int) : Calls Try.prog 43 #[.pointer (some ⟨g, 0, none⟩), .int .i64 at_] w fun e w' => e = .returned (.tuple #[.string (readB l q dead n at_), .int .i64 (errA dead n at_)]) ∧ Own B w0 w' g n l q dead := by
  have h' := h
  obtain ⟨h1, h2, F, h3, h4⟩ := h
  refine (read_any h3 at_).mono ?_
  rintro e w' ⟨rfl, rfl⟩
  exact ⟨rfl, h'⟩
theorem own_readOk (h : Own B w0 w g n l q false) (at_ : Int) (k : Nat) (s : ByteArray) (hat : at_ = (k : Int)) (hk : k < n) (hs : app l q k = s) : Calls Try.prog 43 #[.pointer (some ⟨g, 0, none⟩), .int .i64 at_] w fun e w' => e = .returned (.tuple #[.string s, .int .i64 0]) ∧ Own B w0 w' g n l q false := by
  subst hat
  have := own_read h (k : Int)
  unfold readB at this
  rw [errA_ok n k hk, if_pos rfl, Int.toNat_natCast, hs] at this
  exact this
theorem own_flush (h : Own B w0 w g n l q dead) : Calls Try.prog 25 #[.pointer (some ⟨g, 0, none⟩)] w fun e w' => e = .returned (.int .i64 (errD dead)) ∧ Own B w0 w' g n (flushL l q dead) (flushQ q dead) dead := by
  obtain ⟨h1, h2, F, h3, h4⟩ := h
  refine (flush_any h3).mono ?_
  rintro e w' ⟨rfl, hT⟩
  exact ⟨rfl, Own.turn h1 h2 h4 hT⟩
theorem own_flushOk (h : Own B w0 w g n l q false) : Calls Try.prog 25 #[.pointer (some ⟨g, 0, none⟩)] w fun e w' => e = .returned (.int .i64 0) ∧ Own B w0 w' g n (app l q) [] false := own_flush h
theorem own_waiting (h : Own B w0 w g n l q dead) : Calls Try.prog 17 #[.pointer (some ⟨g, 0, none⟩)] w fun e w' => e = .returned (.int .i64 (q.length : Int)) ∧ Own B w0 w' g n l q dead := by
  have h' := h
  obtain ⟨h1, h2, F, h3, h4⟩ := h
  refine (waiting_any h3).mono ?_
  rintro e w' ⟨rfl, rfl⟩
  exact ⟨rfl, h'⟩
theorem own_fail (h : Own B w0 w g n l q dead) : Calls Try.prog 34 #[.pointer (some ⟨g, 0, none⟩)] w fun e w' => e = .returned (.tuple #[]) ∧ Own B w0 w' g n (fun _ => noB) [] true := by
  obtain ⟨h1, h2, F, h3, h4⟩ := h
  refine (fail_any h3).mono ?_
  rintro e w' ⟨rfl, hT⟩
  exact ⟨rfl, Own.turn h1 h2 h4 hT⟩
/-- A row that lies ahead of B, or behind all that was there in w. -/
def Apartv (B N : Nat) (v : Value) : Prop := ∀ a n c, v = .slice (some a) n c → n ≠ 0 → a.block < B ∨ N ≤ a.block
theorem Apartv.away {B N : Nat} {v : Value} (h : Apartv B N v) {F : Nat → Prop} (hF : ∀ k, F k → B ≤ k) (hN : ∀ k, F k → k < N) : Away F v := fun a n c e e0 hf => by
  have h1 := h a n c e e0
  have h2 := hF _ hf
  have h3 := hN _ hf
  omega
theorem own_crash {w1 : World} (h : Own B w0 w g n l q dead) (hb : Below w.heap.size w w1) (v : Value) (m : Nat) (k : Nat → Bool) (hv : BoolsAt w1 v m k) (hm : m ≤ 1000000000) (hq : q.length ≤ 1000000) (hw : Apartv B w.heap.size v) : Calls Try.prog 44 #[.pointer (some ⟨g, 0, none⟩), v] w1 fun e w' => e = .returned (.tuple #[]) ∧ Own B w0 w' g n (crashL l q dead k) (flushQ q dead) dead := by
  obtain ⟨h1, h2, F, h3, h4⟩ := h
  refine (crash_any (h3.kept (Kept.ofBelow (F := fun _ => False) hb) (fun _ _ h => h)) v m k hv hm hq (hw.away h4 h3.bound)).mono ?_
  rintro e w' ⟨rfl, hT⟩
  exact ⟨rfl, Own.turn (Nat.le_trans h1 hb.size) (h2.trans (hb.mono h1)) h4 hT⟩
theorem own_tamper (h : Own B w0 w g n l q dead) (at_ : Int) (s : ByteArray) (hq : q.length ≤ 1000000) : Calls Try.prog 26 #[.pointer (some ⟨g, 0, none⟩), .int .i64 at_, .string s] w fun e w' => e = .returned (.bool (tampB dead n at_ s)) ∧ Own B w0 w' g n (tampL l dead n at_ s) (tampQ q dead n at_ s) dead := by
  obtain ⟨h1, h2, F, h3, h4⟩ := h
  refine (tamper_any h3 at_ s hq).mono ?_
  rintro e w' ⟨rfl, hT⟩
  exact ⟨rfl, Own.turn h1 h2 h4 hT⟩
end
end Go.Proofs.Ytfepmafjkgjmmaa
