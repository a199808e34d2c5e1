/- The parity chunks behind every change: the law's walk. -/
import Derived.Test.YtdpcbiccbhlonaaRsEncLaw
import Derived.Test.YtdpcbiccbhlonaaRsRefUpd
namespace Go.Proofs.Ytdpcbiccbhlonaa
open Go.RowKit Go.PlainAid
set_option linter.unusedVariables false

theorem strs_of_four (w : World) (s0 s1 s2 s3 : ByteArray) (h0 : s0.size ≤ maxLen) (h1 : s1.size ≤ maxLen) (h2 : s2.size ≤ maxLen) (h3 : s3.size ≤ maxLen) (t : TypeId) :
    StrsArg (w.alloc (.cells #[.string s0, .string s1, .string s2, .string s3] t (0, 0))) (some ⟨w.heap.size, 0, none⟩) 4 4 := by
  refine ⟨four s0 s1 s2 s3, Nat.le_refl _, by decide, (fun h => by cases h), .inr ⟨w.heap.size, 0, rfl, fun i hi => ?_⟩, fun i hi => ?_⟩
  · match i, hi with
    | 0, _ => show _ = some (Value.string s0); go_simp
    | 1, _ => show _ = some (Value.string s1); go_simp
    | 2, _ => show _ = some (Value.string s2); go_simp
    | 3, _ => show _ = some (Value.string s3); go_simp
  · match i, hi with
    | 0, _ => exact h0
    | 1, _ => exact h1
    | 2, _ => exact h2
    | 3, _ => exact h3

set_option maxHeartbeats 1000000 in
theorem updatesLaw_arg (s0 s1 s2 s3 : ByteArray) (i : Int) (ev : Bool) (w : World) (h0 : s0.size ≤ maxLen) (h1 : s1.size ≤ maxLen) (h2 : s2.size ≤ maxLen) (h3 : s3.size ≤ maxLen) (hi : (Lit.int .i64 i).wf = true) :
    Calls Try.prog 4 #[.agg #[.string s0, .string s1, .string s2, .string s3], .int .i64 i, .bool ev] w fun e w' => e = .returned (.bool true) ∧ Below w.heap.size w w' := by
  obtain ⟨hi0, hi1⟩ := bounds_i64 hi
  have hcut := fun t => cut_any _ 4 4 200 ev _ (strs_of_four w s0 s1 s2 s3 h0 h1 h2 h3 t) (by decide)
  clear h0 h1 h2 h3
  go_enter Try.func4, Try.ntmps4
  go_wp2_with fail
  go_at_call 9
  refine (hcut _).mono ?_
  rintro e w1 ⟨hb1, v, f, rfl, hC⟩
  have hb01 : Below w.heap.size w w1 := ((Below.refl _ _).alloc (Nat.le_refl _) _).trans (hb1.mono (by simp))
  obtain ⟨a, c, rfl, hc1, hc2, hT⟩ := hC.txt (by decide)
  have k12 : min 4 12 = 4 := by decide
  rw [k12] at *
  obtain ⟨b, o, rfl, hcell⟩ := hT.cell (by decide)
  have hupd := fun x => update_any i (fun i => (f i).size) (fun i => teE (f i)) x (fun c hc => hT.2 c hc) hi0 hi1
  have href := fun x => refUpdate_any i (fun i => (f i).size) (fun i => teE (f i)) x (fun c hc => hT.2 c hc) hi0 hi1
  simp only [strE_te] at hupd href hcell
  have HC : Hid (∀ x, Below w1.heap.size w1 x → x.cell? ⟨b, o, none⟩ = some (.string (f 0)) ∧ x.cell? ⟨b, o + 1, none⟩ = some (.string (f 1)) ∧ x.cell? ⟨b, o + 2, none⟩ = some (.string (f 2)) ∧ x.cell? ⟨b, o + 3, none⟩ = some (.string (f 3))) := fun x hx =>
    ⟨(hx.cell (p := ⟨b, o, none⟩) (cell_lt (hcell 0 (by decide)))).trans (hcell 0 (by decide)), (hx.cell (p := ⟨b, o + 1, none⟩) (cell_lt (hcell 1 (by decide)))).trans (hcell 1 (by decide)), (hx.cell (p := ⟨b, o + 2, none⟩) (cell_lt (hcell 2 (by decide)))).trans (hcell 2 (by decide)), (hx.cell (p := ⟨b, o + 3, none⟩) (cell_lt (hcell 3 (by decide)))).trans (hcell 3 (by decide))⟩
  generalize updP i (fun i => (f i).size) (fun i => teE (f i)) = p at hupd href
  generalize updQ i (fun i => (f i).size) (fun i => teE (f i)) = q at hupd href
  generalize updE i (fun i => (f i).size) = er at hupd href
  generalize f 0 = t0 at *
  generalize f 1 = t1 at *
  generalize f 2 = t2 at *
  generalize f 3 = t3 at *
  have hd : Below w1.heap.size w1 w1.drew := (Below.refl _ _).drew
  clear hcut hC hT hcell hi hb1
  go_wp2_with fail
  go_region_held3 (fun x => x.cell? ⟨b, o, none⟩ = some (.string t0) ∧ x.cell? ⟨b, o + 1, none⟩ = some (.string t1) ∧ x.cell? ⟨b, o + 2, none⟩ = some (.string t2) ∧ x.cell? ⟨b, o + 3, none⟩ = some (.string t3)) (first | exact HC.out _ hd | exact HC.out _ (by assumption)) (first | (go_at_call 13; refine (hupd _).mono ?_; rintro e w2 ⟨hb2, rfl⟩; have hx2 : Below w1.heap.size w1 w2 := hd.trans hb2))
  have hd2 : Below w1.heap.size w1 w2.drew := hx2.drew
  clear hb2
  go_wp2_with fail
  go_region_held3 (fun x => x.cell? ⟨b, o, none⟩ = some (.string t0) ∧ x.cell? ⟨b, o + 1, none⟩ = some (.string t1) ∧ x.cell? ⟨b, o + 2, none⟩ = some (.string t2) ∧ x.cell? ⟨b, o + 3, none⟩ = some (.string t3)) (first | exact HC.out _ hd2 | exact HC.out _ (by assumption)) (first | (go_at_call 14; refine (href _).mono ?_; rintro e w3 ⟨hb3, rfl⟩; have hx3 : Below w1.heap.size w1 w3 := hd2.trans (hb3.mono hd2.size)))
  have hb03 := hb01.trans (hx3.mono hb01.size)
  clear hb3 hupd href
  go_wp2_with fail
  go_at_call 12
  refine (wakes_any _).mono ?_
  rintro e w4 ⟨rfl, hb4⟩
  have hb04 := hb03.trans (hb4.mono hb03.size)
  go_wp2_with fail
  go_ret
  exact ⟨by simp, hb04⟩
end Go.Proofs.Ytdpcbiccbhlonaa
