/- What is asked of a disk without changing it: usable, reach, Size, Waiting, Dead, Read. -/
import Derived.Test.YtfepmafjkgjmmaaDkAt
namespace Go.Proofs.Ytfepmafjkgjmmaa
open Go.RowKit Go.PlainAid
set_option linter.unusedVariables false

/-- What is answered of a dead disk, and of another one. -/
def errD (dead : Bool) : Int := if dead = true then 20 else 0
/-- .. of a cell. -/
def errA (dead : Bool) (n : Nat) (at_ : Int) : Int := if dead = true then 20 else if at_ < 0 ∨ (n : Int) ≤ at_ then 2 else 0
theorem errA_dead (n : Nat) (at_ : Int) : errA true n at_ = 20 := rfl
theorem errA_low (n : Nat) (at_ : Int) (h : at_ < 0 ∨ (n : Int) ≤ at_) : errA false n at_ = 2 := by unfold errA; rw [if_neg (by decide), if_pos h]
theorem errA_ok (n k : Nat) (h : k < n) : errA false n (k : Int) = 0 := by unfold errA; rw [if_neg (by decide), if_neg (by omega)]
/-- The three ways in which a cell is asked for. -/
theorem errA_cases (dead : Bool) (n : Nat) (at_ : Int) : dead = true ∨ (dead = false ∧ (at_ < 0 ∨ (n : Int) ≤ at_)) ∨ (dead = false ∧ ∃ k : Nat, at_ = (k : Int) ∧ k < n) := by
  cases dead
  · by_cases h : at_ < 0 ∨ (n : Int) ≤ at_
    · exact .inr (.inl ⟨rfl, h⟩)
    · exact .inr (.inr ⟨rfl, at_.toNat, by omega, by omega⟩)
  · exact .inl rfl
theorem usable_nil (w : World) : Calls Try.prog 38 #[.pointer none] w fun e w' => e = .returned (.int .i64 1) ∧ w' = w := by
  go_enter Try.func38, Try.ntmps38
  go_wp2
  go_ret
  exact ⟨rfl, rfl⟩
theorem usable_any {F : Nat → Prop} {g n : Nat} {l : Nat → ByteArray} {q : List Wr} {dead : Bool} {w : World} (h : DiskAt w F g n l q dead) :
    Calls Try.prog 38 #[.pointer (some ⟨g, 0, none⟩)] w fun e w' => e = .returned (.int .i64 (errD dead)) ∧ w' = w := by
  obtain ⟨gc, gl, v, h⟩ := h
  have c3 := h.top.cell (i := 3) rfl
  clear h
  cases dead
  · go_enter Try.func38, Try.ntmps38
    go_wp2
    go_ret
    exact ⟨rfl, rfl⟩
  · go_enter Try.func38, Try.ntmps38
    go_wp2
    go_ret
    exact ⟨rfl, rfl⟩
theorem reach_nil (at_ : Int) (w : World) : Calls Try.prog 45 #[.pointer none, .int .i64 at_] w fun e w' => e = .returned (.int .i64 1) ∧ w' = w := by
  go_enter Try.func45, Try.ntmps45
  go_wp2_with (go_at_call 38; refine (usable_nil _).mono ?_; rintro e w' ⟨rfl, rfl⟩)
  go_ret
  exact ⟨rfl, rfl⟩
theorem reach_any {F : Nat → Prop} {g n : Nat} {l : Nat → ByteArray} {q : List Wr} {dead : Bool} {w : World} (h : DiskAt w F g n l q dead) (at_ : Int) :
    Calls Try.prog 45 #[.pointer (some ⟨g, 0, none⟩), .int .i64 at_] w fun e w' => e = .returned (.int .i64 (errA dead n at_)) ∧ w' = w := by
  have hu := usable_any h
  have hsz := h.size
  obtain ⟨gc, gl, v, h⟩ := h
  have c0 := h.top.cell (i := 0) rfl
  clear h
  rcases errA_cases dead n at_ with rfl | ⟨rfl, ha⟩ | ⟨rfl, k, rfl, hk⟩
  · rw [errA_dead]
    go_enter Try.func45, Try.ntmps45
    go_wp2_with (go_at_call 38; refine hu.mono ?_; rintro e w' ⟨rfl, rfl⟩; rw [show errD true = 20 from rfl])
    go_ret
    exact ⟨rfl, rfl⟩
  · rw [errA_low n at_ ha]
    have HA : Hid (at_ < 0 ∨ (n : Int) ≤ at_) := ha
    clear ha
    by_cases h0 : at_ < 0
    · go_enter Try.func45, Try.ntmps45
      go_wp2_with (go_at_call 38; refine hu.mono ?_; rintro e w' ⟨rfl, rfl⟩; rw [show errD false = 0 from rfl])
      go_ret
      exact ⟨rfl, rfl⟩
    · have h1 : (n : Int) ≤ at_ := HA.out.resolve_left h0
      go_enter Try.func45, Try.ntmps45
      go_wp2_with (go_at_call 38; refine hu.mono ?_; rintro e w' ⟨rfl, rfl⟩; rw [show errD false = 0 from rfl])
      go_ret
      exact ⟨rfl, rfl⟩
  · rw [errA_ok n k hk]
    have hk' : ¬ (n : Int) ≤ (k : Int) := by omega
    have hk0 : ¬ (k : Int) < 0 := by omega
    go_enter Try.func45, Try.ntmps45
    go_wp2_with (go_at_call 38; refine hu.mono ?_; rintro e w' ⟨rfl, rfl⟩; rw [show errD false = 0 from rfl])
    go_ret
    exact ⟨rfl, rfl⟩
theorem waiting_nil (w : World) : Calls Try.prog 17 #[.pointer none] w fun e w' => e = .returned (.int .i64 0) ∧ w' = w := by
  go_enter Try.func17, Try.ntmps17
  go_wp2
  go_ret
  exact ⟨rfl, rfl⟩
theorem waiting_any {F : Nat → Prop} {g n : Nat} {l : Nat → ByteArray} {q : List Wr} {dead : Bool} {w : World} (h : DiskAt w F g n l q dead) :
    Calls Try.prog 17 #[.pointer (some ⟨g, 0, none⟩)] w fun e w' => e = .returned (.int .i64 (q.length : Int)) ∧ w' = w := by
  obtain ⟨gc, gl, v, h⟩ := h
  have c2 := h.top.cell (i := 2) rfl
  obtain ⟨a, cap, rfl⟩ := h.row.form
  clear h
  go_enter Try.func17, Try.ntmps17
  go_wp2
  go_ret
  exact ⟨rfl, rfl⟩
/-- The bytes that Read tells. -/
def readB (l : Nat → ByteArray) (q : List Wr) (dead : Bool) (n : Nat) (at_ : Int) : ByteArray := if errA dead n at_ = 0 then app l q at_.toNat else noB
theorem read_nil (at_ : Int) (w : World) : Calls Try.prog 43 #[.pointer none, .int .i64 at_] w fun e w' => e = .returned (.tuple #[.string noB, .int .i64 1]) ∧ w' = w := by
  go_enter Try.func43, Try.ntmps43
  go_wp2_with (go_at_call 45; refine (reach_nil _ _).mono ?_; rintro e w' ⟨rfl, rfl⟩)
  go_ret2
  exact ⟨rfl, rfl⟩
theorem read_any {F : Nat → Prop} {g n : Nat} {l : Nat → ByteArray} {q : List Wr} {dead : Bool} {w : World} (h : DiskAt w F g n l q dead) (at_ : Int) :
    Calls Try.prog 43 #[.pointer (some ⟨g, 0, none⟩), .int .i64 at_] w fun e w' => e = .returned (.tuple #[.string (readB l q dead n at_), .int .i64 (errA dead n at_)]) ∧ w' = w := by
  have hu := reach_any h at_
  have hsz := h.size
  obtain ⟨gc, gl, v, h⟩ := h
  have c0 := h.top.cell (i := 0) rfl
  obtain ⟨E, hE⟩ : ∃ E, errA dead n at_ = E := ⟨_, rfl⟩
  unfold readB
  by_cases h0 : E = 0
  · subst h0
    rcases errA_cases dead n at_ with rfl | ⟨rfl, ha⟩ | ⟨rfl, k, rfl, hk⟩
    · rw [errA_dead] at hE; exact absurd hE (by decide)
    · rw [errA_low n at_ ha] at hE; exact absurd hE (by decide)
    · have ck := h.cells.cell (strs_at n (app l q) k hk)
      rw [hE] at hu
      rw [hE, if_pos rfl, Int.toNat_natCast]
      clear h hE
      obtain ⟨s, hs⟩ : ∃ s, app l q k = s := ⟨_, rfl⟩
      rw [hs] at ck ⊢
      clear hs
      go_enter Try.func43, Try.ntmps43
      go_wp2_with (go_at_call 45; refine hu.mono ?_; rintro e w' ⟨rfl, rfl⟩)
      go_ret2
      exact ⟨rfl, rfl⟩
  · rw [hE] at hu
    rw [hE, if_neg h0]
    have hb : (E == 0) = false := by simpa using h0
    clear h hE
    go_enter Try.func43, Try.ntmps43
    go_wp2_with (go_at_call 45; refine hu.mono ?_; rintro e w' ⟨rfl, rfl⟩)
    go_ret2
    exact ⟨rfl, rfl⟩
end Go.Proofs.Ytfepmafjkgjmmaa
