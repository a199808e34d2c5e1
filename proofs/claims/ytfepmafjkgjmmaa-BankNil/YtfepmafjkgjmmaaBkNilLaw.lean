/- The law BankNil, walked. -/
import Derived.Test.YtfepmafjkgjmmaaBkWakes
namespace Go.Proofs.Ytfepmafjkgjmmaa
open Go.RowKit Go.PlainAid
set_option linter.unusedVariables false

/-- A bank of two disks and the block of an act. -/
def Nl (W w : World) (g bx : Nat) (L : List Value) : Prop := ∃ D : Nat → Dk, Hold W.heap.size W w (star (bnk g 2 D 0 none) (star (blkA bx 34 L) nought))
section
variable {W w : World} {g bx : Nat} {L : List Value}
theorem nl_new (h : Hold W.heap.size W w (star (blkA bx 34 L) nought)) : Calls Try.prog 8 #[.int .i64 2, .int .i64 3] w fun e w' => ∃ g, e = .returned (.pointer (some ⟨g, 0, none⟩)) ∧ Nl W w' g bx L := by
  have hnew := bnew_any ((firm_blk bx 34 L).star firm_nought) h 2 3
  rw [show newB 2 = 2 from rfl] at hnew
  refine hnew.mono ?_
  rintro e w' ⟨g, rfl, D, hD, h⟩
  exact ⟨g, rfl, D, h⟩
theorem Nl.blk (h : Nl W w g bx L) : Blk w bx 34 L := by
  obtain ⟨D, h⟩ := h
  exact h.swap.blk
theorem Nl.low (h : Nl W w g bx L) : Below W.heap.size W w := by
  obtain ⟨D, h⟩ := h
  exact h.low
theorem Nl.below {w' : World} (h : Nl W w g bx L) (hb : Below w.heap.size w w') : Nl W w' g bx L := by
  obtain ⟨D, h⟩ := h
  exact ⟨D, h.below ((firm_bnk _ _ _ _ _).star ((firm_blk bx 34 L).star firm_nought)) hb⟩
theorem nl_diskIn (h : Nl W w g bx L) (i : Int) (hi : 0 ≤ i ∧ i < 2) : Calls Try.prog 14 #[.pointer (some ⟨g, 0, none⟩), .int .i64 i] w fun e w' => ∃ gx, e = .returned (.pointer (some ⟨gx, 0, none⟩)) ∧ w' = w := by
  obtain ⟨D, h⟩ := h
  obtain ⟨k, rfl⟩ : ∃ k : Nat, i = (k : Int) := ⟨i.toNat, by omega⟩
  exact (bdisk_in h k (by omega)).mono fun e w' ⟨he, hw⟩ => ⟨_, he, hw⟩
theorem nl_diskOut (h : Nl W w g bx L) (i : Int) (hi : Out 2 i) : Calls Try.prog 14 #[.pointer (some ⟨g, 0, none⟩), .int .i64 i] w fun e w' => e = .returned (.pointer none) ∧ w' = w := by
  obtain ⟨D, h⟩ := h
  exact bdisk_out h i hi
theorem nl_read (h : Nl W w g bx L) (i a : Int) (hi : Out 2 i) : Calls Try.prog 22 #[.pointer (some ⟨g, 0, none⟩), .int .i64 i, .int .i64 a] w fun e w' => e = .returned (.tuple #[.string noB, .int .i64 11]) ∧ w' = w := by
  obtain ⟨D, h⟩ := h
  have := bread_any h i a
  unfold rdB stE at this
  rw [if_pos hi, if_pos hi] at this
  exact this
theorem nl_steps (h : Nl W w g bx L) : Calls Try.prog 13 #[.pointer (some ⟨g, 0, none⟩)] w fun e w' => e = .returned (.int .i64 0) ∧ w' = w := by
  obtain ⟨D, h⟩ := h
  exact bsteps_any h
theorem nl_write (h : Nl W w g bx L) (i a : Int) (t : ByteArray) (hi : Out 2 i) : Calls Try.prog 21 #[.pointer (some ⟨g, 0, none⟩), .int .i64 i, .int .i64 a, .string t] w fun e w' => e = .returned (.int .i64 11) ∧ w' = w := by
  obtain ⟨D, h⟩ := h
  have hf := buse_out h i hi
  clear h hi
  go_enter Try.func21, Try.ntmps21
  go_wp2_with (go_at_call 41; refine hf.mono ?_; rintro e w' ⟨rfl, rfl⟩)
  go_ret
  exact ⟨rfl, rfl⟩
theorem nl_flush (h : Nl W w g bx L) (i : Int) (hi : Out 2 i) : Calls Try.prog 20 #[.pointer (some ⟨g, 0, none⟩), .int .i64 i] w fun e w' => e = .returned (.int .i64 11) ∧ w' = w := by
  obtain ⟨D, h⟩ := h
  have hf := buse_out h i hi
  clear h hi
  go_enter Try.func20, Try.ntmps20
  go_wp2_with (go_at_call 41; refine hf.mono ?_; rintro e w' ⟨rfl, rfl⟩)
  go_ret
  exact ⟨rfl, rfl⟩
end
set_option maxRecDepth 20000 in
set_option maxHeartbeats 2000000 in
theorem bankNil_law (A : BAct) (W : World) : Calls Try.prog 6 #[bactV A.d A.i A.a A.s A.row A.x] W fun e w' => e = .returned (.bool true) ∧ Below W.heap.size W w' := by
  obtain ⟨d, i, a, s, x, kb, km, kc, L⟩ := A
  have hbox := (hold_nought W.heap.size W W (Nat.le_refl _) (Below.refl _ _)).newBlk firm_nought 34 #[.int .i64 d, .int .i64 i, .int .i64 a, .string s, .slice kb km kc, .bool x]
  have hnew := nl_new hbox
  clear hbox
  by_cases h0 : i < 0
  · have HI : Hid (Out 2 i) := .inl h0
    have h0' : ¬ 0 ≤ i := by omega
    go_enter Try.func6, Try.ntmps6
    go_wp2_with (first
      | (go_at_call 8; refine hnew.mono ?_; rintro e w1 ⟨g, rfl, h1⟩; clear hnew; have h1 : Hid (Nl _ _ _ _ _) := h1; have c1 := h1.out.blk.cell (i := 1) rfl; have c2 := h1.out.blk.cell (i := 2) rfl; have c3 := h1.out.blk.cell (i := 3) rfl)
      | (go_at_call 10; refine (bwakes_any _).mono ?_; rintro e w2 ⟨rfl, hb⟩; have h2 : Hid (Nl _ _ _ _ _) := h1.out.below hb; clear h1 c1 c2 c3 hb; have c1 := h2.out.blk.cell (i := 1) rfl; have c2 := h2.out.blk.cell (i := 2) rfl; have c3 := h2.out.blk.cell (i := 3) rfl)
      | (go_at_call 22; with_reducible refine (bread_nil _ _ _).mono ?_; rintro e wz ⟨rfl, hw'⟩; rw [hw']; clear hw' wz)
      | (go_at_call 18; with_reducible refine (bcut_nil _ _).mono ?_; rintro e wz ⟨rfl, hw'⟩; rw [hw']; clear hw' wz)
      | (go_at_call 23; with_reducible refine (bcrash_nil _ _).mono ?_; rintro e wz ⟨rfl, hw'⟩; rw [hw']; clear hw' wz)
      | (go_at_call 11; with_reducible refine (bsize_nil _).mono ?_; rintro e wz ⟨rfl, hw'⟩; rw [hw']; clear hw' wz)
      | (go_at_call 14; with_reducible refine (bdisk_nil _ _).mono ?_; rintro e wz ⟨rfl, hw'⟩; rw [hw']; clear hw' wz)
      | (go_at_call 21; with_reducible refine (bwrite_nil _ _ _ _).mono ?_; rintro e wz ⟨rfl, hw'⟩; rw [hw']; clear hw' wz)
      | (go_at_call 20; with_reducible refine (bflush_nil _ _).mono ?_; rintro e wz ⟨rfl, hw'⟩; rw [hw']; clear hw' wz)
      | (go_at_call 19; with_reducible refine (bspend_nil _).mono ?_; rintro e wz ⟨rfl, hw'⟩; rw [hw']; clear hw' wz)
      | (go_at_call 13; with_reducible refine (bsteps_nil _).mono ?_; rintro e wz ⟨rfl, hw'⟩; rw [hw']; clear hw' wz)
      | (go_at_call 22; refine (nl_read h2.out _ _ HI.out).mono ?_; rintro e wz ⟨rfl, hw'⟩; rw [hw']; clear hw' wz)
      | (go_at_call 14; refine (nl_diskOut h2.out _ HI.out).mono ?_; rintro e wz ⟨rfl, hw'⟩; rw [hw']; clear hw' wz)
      | (go_at_call 21; refine (nl_write h2.out _ _ _ HI.out).mono ?_; rintro e wz ⟨rfl, hw'⟩; rw [hw']; clear hw' wz)
      | (go_at_call 20; refine (nl_flush h2.out _ HI.out).mono ?_; rintro e wz ⟨rfl, hw'⟩; rw [hw']; clear hw' wz)
      | (go_at_call 13; refine (nl_steps h2.out).mono ?_; rintro e wz ⟨rfl, hw'⟩; rw [hw']; clear hw' wz))
    go_ret
    exact ⟨rfl, h2.out.low⟩
  · have h0' : 0 ≤ i := by omega
    by_cases h2 : i < 2
    · have HI : Hid (0 ≤ i ∧ i < 2) := ⟨h0', h2⟩
      go_enter Try.func6, Try.ntmps6
      go_wp2_with (first
        | (go_at_call 8; refine hnew.mono ?_; rintro e w1 ⟨g, rfl, h1⟩; clear hnew; have h1 : Hid (Nl _ _ _ _ _) := h1; have c1 := h1.out.blk.cell (i := 1) rfl; have c2 := h1.out.blk.cell (i := 2) rfl; have c3 := h1.out.blk.cell (i := 3) rfl)
        | (go_at_call 10; refine (bwakes_any _).mono ?_; rintro e w2 ⟨rfl, hb⟩; have h2 : Hid (Nl _ _ _ _ _) := h1.out.below hb; clear h1 c1 c2 c3 hb; have c1 := h2.out.blk.cell (i := 1) rfl; have c2 := h2.out.blk.cell (i := 2) rfl; have c3 := h2.out.blk.cell (i := 3) rfl)
        | (go_at_call 22; with_reducible refine (bread_nil _ _ _).mono ?_; rintro e wz ⟨rfl, hw'⟩; rw [hw']; clear hw' wz)
        | (go_at_call 18; with_reducible refine (bcut_nil _ _).mono ?_; rintro e wz ⟨rfl, hw'⟩; rw [hw']; clear hw' wz)
        | (go_at_call 23; with_reducible refine (bcrash_nil _ _).mono ?_; rintro e wz ⟨rfl, hw'⟩; rw [hw']; clear hw' wz)
        | (go_at_call 11; with_reducible refine (bsize_nil _).mono ?_; rintro e wz ⟨rfl, hw'⟩; rw [hw']; clear hw' wz)
        | (go_at_call 14; with_reducible refine (bdisk_nil _ _).mono ?_; rintro e wz ⟨rfl, hw'⟩; rw [hw']; clear hw' wz)
        | (go_at_call 21; with_reducible refine (bwrite_nil _ _ _ _).mono ?_; rintro e wz ⟨rfl, hw'⟩; rw [hw']; clear hw' wz)
        | (go_at_call 20; with_reducible refine (bflush_nil _ _).mono ?_; rintro e wz ⟨rfl, hw'⟩; rw [hw']; clear hw' wz)
        | (go_at_call 19; with_reducible refine (bspend_nil _).mono ?_; rintro e wz ⟨rfl, hw'⟩; rw [hw']; clear hw' wz)
        | (go_at_call 13; with_reducible refine (bsteps_nil _).mono ?_; rintro e wz ⟨rfl, hw'⟩; rw [hw']; clear hw' wz)
        | (go_at_call 14; refine (nl_diskIn h2.out _ HI.out).mono ?_; rintro e wz ⟨gx, rfl, hw'⟩; rw [hw']; clear hw' wz))
      go_ret
      exact ⟨rfl, h2.out.low⟩
    · have HI : Hid (Out 2 i) := .inr (by omega)
      go_enter Try.func6, Try.ntmps6
      go_wp2_with (first
        | (go_at_call 8; refine hnew.mono ?_; rintro e w1 ⟨g, rfl, h1⟩; clear hnew; have h1 : Hid (Nl _ _ _ _ _) := h1; have c1 := h1.out.blk.cell (i := 1) rfl; have c2 := h1.out.blk.cell (i := 2) rfl; have c3 := h1.out.blk.cell (i := 3) rfl)
        | (go_at_call 10; refine (bwakes_any _).mono ?_; rintro e w2 ⟨rfl, hb⟩; have h2 : Hid (Nl _ _ _ _ _) := h1.out.below hb; clear h1 c1 c2 c3 hb; have c1 := h2.out.blk.cell (i := 1) rfl; have c2 := h2.out.blk.cell (i := 2) rfl; have c3 := h2.out.blk.cell (i := 3) rfl)
        | (go_at_call 22; with_reducible refine (bread_nil _ _ _).mono ?_; rintro e wz ⟨rfl, hw'⟩; rw [hw']; clear hw' wz)
        | (go_at_call 18; with_reducible refine (bcut_nil _ _).mono ?_; rintro e wz ⟨rfl, hw'⟩; rw [hw']; clear hw' wz)
        | (go_at_call 23; with_reducible refine (bcrash_nil _ _).mono ?_; rintro e wz ⟨rfl, hw'⟩; rw [hw']; clear hw' wz)
        | (go_at_call 11; with_reducible refine (bsize_nil _).mono ?_; rintro e wz ⟨rfl, hw'⟩; rw [hw']; clear hw' wz)
        | (go_at_call 14; with_reducible refine (bdisk_nil _ _).mono ?_; rintro e wz ⟨rfl, hw'⟩; rw [hw']; clear hw' wz)
        | (go_at_call 21; with_reducible refine (bwrite_nil _ _ _ _).mono ?_; rintro e wz ⟨rfl, hw'⟩; rw [hw']; clear hw' wz)
        | (go_at_call 20; with_reducible refine (bflush_nil _ _).mono ?_; rintro e wz ⟨rfl, hw'⟩; rw [hw']; clear hw' wz)
        | (go_at_call 19; with_reducible refine (bspend_nil _).mono ?_; rintro e wz ⟨rfl, hw'⟩; rw [hw']; clear hw' wz)
        | (go_at_call 13; with_reducible refine (bsteps_nil _).mono ?_; rintro e wz ⟨rfl, hw'⟩; rw [hw']; clear hw' wz)
        | (go_at_call 22; refine (nl_read h2.out _ _ HI.out).mono ?_; rintro e wz ⟨rfl, hw'⟩; rw [hw']; clear hw' wz)
        | (go_at_call 14; refine (nl_diskOut h2.out _ HI.out).mono ?_; rintro e wz ⟨rfl, hw'⟩; rw [hw']; clear hw' wz)
        | (go_at_call 21; refine (nl_write h2.out _ _ _ HI.out).mono ?_; rintro e wz ⟨rfl, hw'⟩; rw [hw']; clear hw' wz)
        | (go_at_call 20; refine (nl_flush h2.out _ HI.out).mono ?_; rintro e wz ⟨rfl, hw'⟩; rw [hw']; clear hw' wz)
        | (go_at_call 13; refine (nl_steps h2.out).mono ?_; rintro e wz ⟨rfl, hw'⟩; rw [hw']; clear hw' wz))
      go_ret
      exact ⟨rfl, h2.out.low⟩
end Go.Proofs.Ytfepmafjkgjmmaa
