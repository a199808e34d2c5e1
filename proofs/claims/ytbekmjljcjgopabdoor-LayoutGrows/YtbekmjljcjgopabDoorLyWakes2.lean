/- Layouts: what the laws themselves call: wakes, good. -/
import Derived.Test.YtbekmjljcjgopabDoorLyStep
namespace Go.Proofs.YtbekmjljcjgopabDoor
open Go.RowKit Go.PlainAid
set_option linter.unusedVariables false
set_option maxRecDepth 20000

set_option maxHeartbeats 1000000 in
theorem wakes18_any (w : World) (ht : Tabs w) : Calls Tryd.prog 10 #[] w fun e w' => e = .returned (.bool true) ∧ Below w.heap.size w w' := by
  have q1 : Hid (∀ z, Tabs z → Calls Tryd.prog 9 #[.agg #[.int .i64 2, .int .i64 4, .int .i64 0, .bool false], .int .i64 5] z fun e w' => e = .returned (.tuple #[.int .i64 2, .int .i64 1, .int .i64 0]) ∧ Below z.heap.size z w') := fun z hz => find_any z hz 5
  have q2 : Hid (∀ z, Tabs z → Calls Tryd.prog 15 #[.agg #[.int .i64 2, .int .i64 4, .int .i64 0, .bool false], .int .i64 2, .int .i64 1] z fun e w' => e = .returned (.tuple #[.int .i64 3, .int .i64 0]) ∧ Below z.heap.size z w') := fun z hz => seat_any z hz 2 1
  have q3 : Hid (∀ z, Tabs z → Calls Tryd.prog 9 #[.agg #[.int .i64 2, .int .i64 4, .int .i64 1, .bool true], .int .i64 2] z fun e w' => e = .returned (.tuple #[.int .i64 0, .int .i64 2, .int .i64 0]) ∧ Below z.heap.size z w') := fun z hz => find_any z hz 2
  have T0 : Hid (Tabs w ∧ Below w.heap.size w w) := ⟨ht, Below.refl _ _⟩
  clear ht
  go_enter Tryd.func10, Tryd.ntmps10
  go_wp2_with (first
    | (go_at_call 9; refine (q1.out _ T0.out.1).mono ?_; rintro x w1 ⟨rfl, h1⟩; have T1 : Hid (Tabs w1 ∧ Below w.heap.size w w1) := ⟨T0.out.1.below h1 T0.out.1.lt, h1⟩; clear h1 T0)
    | (go_at_call 15; refine (q2.out _ T1.out.1).mono ?_; rintro x w2 ⟨rfl, h2⟩; have T2 : Hid (Tabs w2 ∧ Below w.heap.size w w2) := ⟨T1.out.1.below h2 T1.out.1.lt, T1.out.2.trans (h2.mono T1.out.2.size)⟩; clear h2 T1)
    | (go_at_call 9; refine (q3.out _ T2.out.1).mono ?_; rintro x w3 ⟨rfl, h3⟩; have T3 : Hid (Tabs w3 ∧ Below w.heap.size w w3) := ⟨T2.out.1.below h3 T2.out.1.lt, T2.out.2.trans (h3.mono T2.out.2.size)⟩; clear h3 T2))
  go_ret
  exact ⟨rfl, T3.out.2⟩
/-- A layout that is good, of any numbers. -/
def mx (x : Int) : Int := if 0 < x then x else 0
theorem mx_nn (x : Int) : 0 ≤ mx x := by unfold mx; split <;> omega
def goD (D : Int) : Int := 2 + mx D % 6
def goS (S : Int) : Int := 2 * 2 ^ (mx S % 4).toNat
def goM (S M : Int) (G : Bool) : Int := if G = true then mx M % goS S else 0
theorem goS_is (S : Int) : (mx S % 4 = 0 ∧ goS S = 2) ∨ (mx S % 4 = 1 ∧ goS S = 4) ∨ (mx S % 4 = 2 ∧ goS S = 8) ∨ (mx S % 4 = 3 ∧ goS S = 16) := by
  have := mx_nn S
  have h : mx S % 4 = 0 ∨ mx S % 4 = 1 ∨ mx S % 4 = 2 ∨ mx S % 4 = 3 := by omega
  unfold goS
  rcases h with h | h | h | h <;> rw [h] <;> simp
theorem go_gd (D S M : Int) (G : Bool) : Gd (goD D) (goS S) (goM S M G) G := by
  have h0 := mx_nn D
  have h1 := goS_is S
  refine ⟨⟨by unfold goD; omega, by unfold goD; split <;> omega⟩, by unfold GdS; omega, ?_⟩
  unfold goM
  cases G with
  | true =>
    rw [if_pos rfl]
    exact ⟨Int.emod_nonneg _ (by omega), Int.emod_lt_of_pos _ (by omega), .inl rfl⟩
  | false => exact ⟨by simp, by simp; omega, .inr rfl⟩
theorem bx3 (w : World) (T : TypeId) (A L : List Value) (hl : L.length = 4) :
    (loadVar 24 ⟨w.heap.size + 1, 0, none⟩).run Tryd.prog (((w.alloc (.cells A.toArray T)).alloc (.cells L.toArray 24)).alloc (.cells L.toArray 24)).drew = .ok (.agg L.toArray) (((w.alloc (.cells A.toArray T)).alloc (.cells L.toArray 24)).alloc (.cells L.toArray 24)).drew ∧
    Below w.heap.size w (((w.alloc (.cells A.toArray T)).alloc (.cells L.toArray 24)).alloc (.cells L.toArray 24)).drew := by
  have h1 : Below (w.alloc (.cells A.toArray T)).heap.size (w.alloc (.cells A.toArray T)) ((w.alloc (.cells A.toArray T)).alloc (.cells L.toArray 24)) := bx _ 24 L
  have h2 : Below ((w.alloc (.cells A.toArray T)).alloc (.cells L.toArray 24)).heap.size ((w.alloc (.cells A.toArray T)).alloc (.cells L.toArray 24)) (((w.alloc (.cells A.toArray T)).alloc (.cells L.toArray 24)).alloc (.cells L.toArray 24)).drew := (bx _ 24 L).drew
  have hB := Blk.box (w.alloc (.cells A.toArray T)) 24 L
  have hB2 := hB.below h2 hB.lt
  rw [World.size_alloc] at hB2
  refine ⟨run_loadVar_row _ (w.heap.size + 1) 24 24 L.toArray (0, 0) _ hB2 Tryd.underlying24 rfl (by rw [Tryd.size24]; simp [hl]), (bx w T A).trans ((h1.trans (h2.mono h1.size)).mono (by simp))⟩
section
variable {D S M : Int} {G : Bool}
set_option maxHeartbeats 1000000 in
theorem good18_0truep (D S M : Int) (w : World) (h0 : 0 < S) (hk : S % 4 = 0) (hS : goS S = 2) (hD1 : D ≤ 9223372036854775807) (hM1 : M ≤ 9223372036854775807) : Calls Tryd.prog 4 #[.agg #[.int .i64 D, .int .i64 S, .int .i64 M, .bool true]] w fun e w' => e = .returned (.agg (lyL (goD D) (goS S) (goM S M true) true).toArray) ∧ Below w.heap.size w w' := by
  have HL : Hid (lyL (goD D) (goS S) (goM S M true) true = [.int .i64 (2 + mx D % 6), .int .i64 2, .int .i64 (mx M % 2), .bool true]) := by
    show lyL _ _ _ _ = _
    unfold lyL goM goD; rw [hS]; rfl
  have e0 : (if 0 < D then D else (0 : Int)) = mx D := rfl
  have e2 : (if 0 < M then M else (0 : Int)) = mx M := rfl
  have hd := mx_nn D
  have hm := mx_nn M
  have hd1 : mx D ≤ 9223372036854775807 := by unfold mx; split <;> omega
  have hm1 : mx M ≤ 9223372036854775807 := by unfold mx; split <;> omega
  have hdr0 : 0 ≤ mx D % 6 := by omega
  have hdr1 : mx D % 6 < 6 := by omega
  generalize mx D = y0 at *
  generalize mx M = y2 at *
  obtain ⟨hR, hb⟩ := bx3 w 23 [.int .i64 D, .int .i64 S, .int .i64 M, .bool true] [.int .i64 (2 + y0 % 6), .int .i64 2, .int .i64 (y2 % 2), .bool true] rfl
  have HR : Hid _ := hR
  have HB : Hid _ := hb
  clear hS hD1 hM1 hR hb
  go_enter Tryd.func4, Tryd.ntmps4
  go_wp2_with fail
  go_region
  go_wp2_with fail
  exact bodyPost_ret_by (v := .agg ([.int .i64 (2 + y0 % 6), .int .i64 2, .int .i64 (y2 % 2), .bool true] : List Value).toArray) (results_cell 2 24 ⟨w.heap.size + 1, 0, none⟩ rfl rfl HR.out) rfl ⟨by rw [HL.out], HB.out⟩
set_option maxHeartbeats 1000000 in
theorem good18_0truen (D S M : Int) (w : World) (h0 : ¬ 0 < S) (hS : goS S = 2) (hD1 : D ≤ 9223372036854775807) (hM1 : M ≤ 9223372036854775807) : Calls Tryd.prog 4 #[.agg #[.int .i64 D, .int .i64 S, .int .i64 M, .bool true]] w fun e w' => e = .returned (.agg (lyL (goD D) (goS S) (goM S M true) true).toArray) ∧ Below w.heap.size w w' := by
  have HL : Hid (lyL (goD D) (goS S) (goM S M true) true = [.int .i64 (2 + mx D % 6), .int .i64 2, .int .i64 (mx M % 2), .bool true]) := by
    show lyL _ _ _ _ = _
    unfold lyL goM goD; rw [hS]; rfl
  have e0 : (if 0 < D then D else (0 : Int)) = mx D := rfl
  have e2 : (if 0 < M then M else (0 : Int)) = mx M := rfl
  have hd := mx_nn D
  have hm := mx_nn M
  have hd1 : mx D ≤ 9223372036854775807 := by unfold mx; split <;> omega
  have hm1 : mx M ≤ 9223372036854775807 := by unfold mx; split <;> omega
  have hdr0 : 0 ≤ mx D % 6 := by omega
  have hdr1 : mx D % 6 < 6 := by omega
  generalize mx D = y0 at *
  generalize mx M = y2 at *
  obtain ⟨hR, hb⟩ := bx3 w 23 [.int .i64 D, .int .i64 S, .int .i64 M, .bool true] [.int .i64 (2 + y0 % 6), .int .i64 2, .int .i64 (y2 % 2), .bool true] rfl
  have HR : Hid _ := hR
  have HB : Hid _ := hb
  clear hS hD1 hM1 hR hb
  go_enter Tryd.func4, Tryd.ntmps4
  go_wp2_with fail
  go_region
  go_wp2_with fail
  exact bodyPost_ret_by (v := .agg ([.int .i64 (2 + y0 % 6), .int .i64 2, .int .i64 (y2 % 2), .bool true] : List Value).toArray) (results_cell 2 24 ⟨w.heap.size + 1, 0, none⟩ rfl rfl HR.out) rfl ⟨by rw [HL.out], HB.out⟩
set_option maxHeartbeats 1000000 in
theorem good18_0falsep (D S M : Int) (w : World) (h0 : 0 < S) (hk : S % 4 = 0) (hS : goS S = 2) (hD1 : D ≤ 9223372036854775807) (hM1 : M ≤ 9223372036854775807) : Calls Tryd.prog 4 #[.agg #[.int .i64 D, .int .i64 S, .int .i64 M, .bool false]] w fun e w' => e = .returned (.agg (lyL (goD D) (goS S) (goM S M false) false).toArray) ∧ Below w.heap.size w w' := by
  have HL : Hid (lyL (goD D) (goS S) (goM S M false) false = [.int .i64 (2 + mx D % 6), .int .i64 2, .int .i64 (0), .bool false]) := by
    show lyL _ _ _ _ = _
    unfold lyL goM goD; rw [hS]; rfl
  have e0 : (if 0 < D then D else (0 : Int)) = mx D := rfl
  have e2 : (if 0 < M then M else (0 : Int)) = mx M := rfl
  have hd := mx_nn D
  have hm := mx_nn M
  have hd1 : mx D ≤ 9223372036854775807 := by unfold mx; split <;> omega
  have hm1 : mx M ≤ 9223372036854775807 := by unfold mx; split <;> omega
  have hdr0 : 0 ≤ mx D % 6 := by omega
  have hdr1 : mx D % 6 < 6 := by omega
  generalize mx D = y0 at *
  generalize mx M = y2 at *
  obtain ⟨hR, hb⟩ := bx3 w 23 [.int .i64 D, .int .i64 S, .int .i64 M, .bool false] [.int .i64 (2 + y0 % 6), .int .i64 2, .int .i64 0, .bool false] rfl
  have HR : Hid _ := hR
  have HB : Hid _ := hb
  clear hS hD1 hM1 hR hb
  go_enter Tryd.func4, Tryd.ntmps4
  go_wp2_with fail
  go_region
  go_wp2_with fail
  exact bodyPost_ret_by (v := .agg ([.int .i64 (2 + y0 % 6), .int .i64 2, .int .i64 0, .bool false] : List Value).toArray) (results_cell 2 24 ⟨w.heap.size + 1, 0, none⟩ rfl rfl HR.out) rfl ⟨by rw [HL.out], HB.out⟩
set_option maxHeartbeats 1000000 in
theorem good18_0falsen (D S M : Int) (w : World) (h0 : ¬ 0 < S) (hS : goS S = 2) (hD1 : D ≤ 9223372036854775807) (hM1 : M ≤ 9223372036854775807) : Calls Tryd.prog 4 #[.agg #[.int .i64 D, .int .i64 S, .int .i64 M, .bool false]] w fun e w' => e = .returned (.agg (lyL (goD D) (goS S) (goM S M false) false).toArray) ∧ Below w.heap.size w w' := by
  have HL : Hid (lyL (goD D) (goS S) (goM S M false) false = [.int .i64 (2 + mx D % 6), .int .i64 2, .int .i64 (0), .bool false]) := by
    show lyL _ _ _ _ = _
    unfold lyL goM goD; rw [hS]; rfl
  have e0 : (if 0 < D then D else (0 : Int)) = mx D := rfl
  have e2 : (if 0 < M then M else (0 : Int)) = mx M := rfl
  have hd := mx_nn D
  have hm := mx_nn M
  have hd1 : mx D ≤ 9223372036854775807 := by unfold mx; split <;> omega
  have hm1 : mx M ≤ 9223372036854775807 := by unfold mx; split <;> omega
  have hdr0 : 0 ≤ mx D % 6 := by omega
  have hdr1 : mx D % 6 < 6 := by omega
  generalize mx D = y0 at *
  generalize mx M = y2 at *
  obtain ⟨hR, hb⟩ := bx3 w 23 [.int .i64 D, .int .i64 S, .int .i64 M, .bool false] [.int .i64 (2 + y0 % 6), .int .i64 2, .int .i64 0, .bool false] rfl
  have HR : Hid _ := hR
  have HB : Hid _ := hb
  clear hS hD1 hM1 hR hb
  go_enter Tryd.func4, Tryd.ntmps4
  go_wp2_with fail
  go_region
  go_wp2_with fail
  exact bodyPost_ret_by (v := .agg ([.int .i64 (2 + y0 % 6), .int .i64 2, .int .i64 0, .bool false] : List Value).toArray) (results_cell 2 24 ⟨w.heap.size + 1, 0, none⟩ rfl rfl HR.out) rfl ⟨by rw [HL.out], HB.out⟩
set_option maxHeartbeats 1000000 in
theorem good18_1truep (D S M : Int) (w : World) (h0 : 0 < S) (hk : S % 4 = 1) (hS : goS S = 4) (hD1 : D ≤ 9223372036854775807) (hM1 : M ≤ 9223372036854775807) : Calls Tryd.prog 4 #[.agg #[.int .i64 D, .int .i64 S, .int .i64 M, .bool true]] w fun e w' => e = .returned (.agg (lyL (goD D) (goS S) (goM S M true) true).toArray) ∧ Below w.heap.size w w' := by
  have HL : Hid (lyL (goD D) (goS S) (goM S M true) true = [.int .i64 (2 + mx D % 6), .int .i64 4, .int .i64 (mx M % 4), .bool true]) := by
    show lyL _ _ _ _ = _
    unfold lyL goM goD; rw [hS]; rfl
  have e0 : (if 0 < D then D else (0 : Int)) = mx D := rfl
  have e2 : (if 0 < M then M else (0 : Int)) = mx M := rfl
  have hd := mx_nn D
  have hm := mx_nn M
  have hd1 : mx D ≤ 9223372036854775807 := by unfold mx; split <;> omega
  have hm1 : mx M ≤ 9223372036854775807 := by unfold mx; split <;> omega
  have hdr0 : 0 ≤ mx D % 6 := by omega
  have hdr1 : mx D % 6 < 6 := by omega
  generalize mx D = y0 at *
  generalize mx M = y2 at *
  obtain ⟨hR, hb⟩ := bx3 w 23 [.int .i64 D, .int .i64 S, .int .i64 M, .bool true] [.int .i64 (2 + y0 % 6), .int .i64 4, .int .i64 (y2 % 4), .bool true] rfl
  have HR : Hid _ := hR
  have HB : Hid _ := hb
  clear hS hD1 hM1 hR hb
  go_enter Tryd.func4, Tryd.ntmps4
  go_wp2_with fail
  go_region
  go_wp2_with fail
  exact bodyPost_ret_by (v := .agg ([.int .i64 (2 + y0 % 6), .int .i64 4, .int .i64 (y2 % 4), .bool true] : List Value).toArray) (results_cell 2 24 ⟨w.heap.size + 1, 0, none⟩ rfl rfl HR.out) rfl ⟨by rw [HL.out], HB.out⟩
set_option maxHeartbeats 1000000 in
theorem good18_1falsep (D S M : Int) (w : World) (h0 : 0 < S) (hk : S % 4 = 1) (hS : goS S = 4) (hD1 : D ≤ 9223372036854775807) (hM1 : M ≤ 9223372036854775807) : Calls Tryd.prog 4 #[.agg #[.int .i64 D, .int .i64 S, .int .i64 M, .bool false]] w fun e w' => e = .returned (.agg (lyL (goD D) (goS S) (goM S M false) false).toArray) ∧ Below w.heap.size w w' := by
  have HL : Hid (lyL (goD D) (goS S) (goM S M false) false = [.int .i64 (2 + mx D % 6), .int .i64 4, .int .i64 (0), .bool false]) := by
    show lyL _ _ _ _ = _
    unfold lyL goM goD; rw [hS]; rfl
  have e0 : (if 0 < D then D else (0 : Int)) = mx D := rfl
  have e2 : (if 0 < M then M else (0 : Int)) = mx M := rfl
  have hd := mx_nn D
  have hm := mx_nn M
  have hd1 : mx D ≤ 9223372036854775807 := by unfold mx; split <;> omega
  have hm1 : mx M ≤ 9223372036854775807 := by unfold mx; split <;> omega
  have hdr0 : 0 ≤ mx D % 6 := by omega
  have hdr1 : mx D % 6 < 6 := by omega
  generalize mx D = y0 at *
  generalize mx M = y2 at *
  obtain ⟨hR, hb⟩ := bx3 w 23 [.int .i64 D, .int .i64 S, .int .i64 M, .bool false] [.int .i64 (2 + y0 % 6), .int .i64 4, .int .i64 0, .bool false] rfl
  have HR : Hid _ := hR
  have HB : Hid _ := hb
  clear hS hD1 hM1 hR hb
  go_enter Tryd.func4, Tryd.ntmps4
  go_wp2_with fail
  go_region
  go_wp2_with fail
  exact bodyPost_ret_by (v := .agg ([.int .i64 (2 + y0 % 6), .int .i64 4, .int .i64 0, .bool false] : List Value).toArray) (results_cell 2 24 ⟨w.heap.size + 1, 0, none⟩ rfl rfl HR.out) rfl ⟨by rw [HL.out], HB.out⟩
set_option maxHeartbeats 1000000 in
theorem good18_2truep (D S M : Int) (w : World) (h0 : 0 < S) (hk : S % 4 = 2) (hS : goS S = 8) (hD1 : D ≤ 9223372036854775807) (hM1 : M ≤ 9223372036854775807) : Calls Tryd.prog 4 #[.agg #[.int .i64 D, .int .i64 S, .int .i64 M, .bool true]] w fun e w' => e = .returned (.agg (lyL (goD D) (goS S) (goM S M true) true).toArray) ∧ Below w.heap.size w w' := by
  have HL : Hid (lyL (goD D) (goS S) (goM S M true) true = [.int .i64 (2 + mx D % 6), .int .i64 8, .int .i64 (mx M % 8), .bool true]) := by
    show lyL _ _ _ _ = _
    unfold lyL goM goD; rw [hS]; rfl
  have e0 : (if 0 < D then D else (0 : Int)) = mx D := rfl
  have e2 : (if 0 < M then M else (0 : Int)) = mx M := rfl
  have hd := mx_nn D
  have hm := mx_nn M
  have hd1 : mx D ≤ 9223372036854775807 := by unfold mx; split <;> omega
  have hm1 : mx M ≤ 9223372036854775807 := by unfold mx; split <;> omega
  have hdr0 : 0 ≤ mx D % 6 := by omega
  have hdr1 : mx D % 6 < 6 := by omega
  generalize mx D = y0 at *
  generalize mx M = y2 at *
  obtain ⟨hR, hb⟩ := bx3 w 23 [.int .i64 D, .int .i64 S, .int .i64 M, .bool true] [.int .i64 (2 + y0 % 6), .int .i64 8, .int .i64 (y2 % 8), .bool true] rfl
  have HR : Hid _ := hR
  have HB : Hid _ := hb
  clear hS hD1 hM1 hR hb
  go_enter Tryd.func4, Tryd.ntmps4
  go_wp2_with fail
  go_region
  go_wp2_with fail
  exact bodyPost_ret_by (v := .agg ([.int .i64 (2 + y0 % 6), .int .i64 8, .int .i64 (y2 % 8), .bool true] : List Value).toArray) (results_cell 2 24 ⟨w.heap.size + 1, 0, none⟩ rfl rfl HR.out) rfl ⟨by rw [HL.out], HB.out⟩
set_option maxHeartbeats 1000000 in
theorem good18_2falsep (D S M : Int) (w : World) (h0 : 0 < S) (hk : S % 4 = 2) (hS : goS S = 8) (hD1 : D ≤ 9223372036854775807) (hM1 : M ≤ 9223372036854775807) : Calls Tryd.prog 4 #[.agg #[.int .i64 D, .int .i64 S, .int .i64 M, .bool false]] w fun e w' => e = .returned (.agg (lyL (goD D) (goS S) (goM S M false) false).toArray) ∧ Below w.heap.size w w' := by
  have HL : Hid (lyL (goD D) (goS S) (goM S M false) false = [.int .i64 (2 + mx D % 6), .int .i64 8, .int .i64 (0), .bool false]) := by
    show lyL _ _ _ _ = _
    unfold lyL goM goD; rw [hS]; rfl
  have e0 : (if 0 < D then D else (0 : Int)) = mx D := rfl
  have e2 : (if 0 < M then M else (0 : Int)) = mx M := rfl
  have hd := mx_nn D
  have hm := mx_nn M
  have hd1 : mx D ≤ 9223372036854775807 := by unfold mx; split <;> omega
  have hm1 : mx M ≤ 9223372036854775807 := by unfold mx; split <;> omega
  have hdr0 : 0 ≤ mx D % 6 := by omega
  have hdr1 : mx D % 6 < 6 := by omega
  generalize mx D = y0 at *
  generalize mx M = y2 at *
  obtain ⟨hR, hb⟩ := bx3 w 23 [.int .i64 D, .int .i64 S, .int .i64 M, .bool false] [.int .i64 (2 + y0 % 6), .int .i64 8, .int .i64 0, .bool false] rfl
  have HR : Hid _ := hR
  have HB : Hid _ := hb
  clear hS hD1 hM1 hR hb
  go_enter Tryd.func4, Tryd.ntmps4
  go_wp2_with fail
  go_region
  go_wp2_with fail
  exact bodyPost_ret_by (v := .agg ([.int .i64 (2 + y0 % 6), .int .i64 8, .int .i64 0, .bool false] : List Value).toArray) (results_cell 2 24 ⟨w.heap.size + 1, 0, none⟩ rfl rfl HR.out) rfl ⟨by rw [HL.out], HB.out⟩
set_option maxHeartbeats 1000000 in
theorem good18_3truep (D S M : Int) (w : World) (h0 : 0 < S) (hk : S % 4 = 3) (hS : goS S = 16) (hD1 : D ≤ 9223372036854775807) (hM1 : M ≤ 9223372036854775807) : Calls Tryd.prog 4 #[.agg #[.int .i64 D, .int .i64 S, .int .i64 M, .bool true]] w fun e w' => e = .returned (.agg (lyL (goD D) (goS S) (goM S M true) true).toArray) ∧ Below w.heap.size w w' := by
  have HL : Hid (lyL (goD D) (goS S) (goM S M true) true = [.int .i64 (2 + mx D % 6), .int .i64 16, .int .i64 (mx M % 16), .bool true]) := by
    show lyL _ _ _ _ = _
    unfold lyL goM goD; rw [hS]; rfl
  have e0 : (if 0 < D then D else (0 : Int)) = mx D := rfl
  have e2 : (if 0 < M then M else (0 : Int)) = mx M := rfl
  have hd := mx_nn D
  have hm := mx_nn M
  have hd1 : mx D ≤ 9223372036854775807 := by unfold mx; split <;> omega
  have hm1 : mx M ≤ 9223372036854775807 := by unfold mx; split <;> omega
  have hdr0 : 0 ≤ mx D % 6 := by omega
  have hdr1 : mx D % 6 < 6 := by omega
  generalize mx D = y0 at *
  generalize mx M = y2 at *
  obtain ⟨hR, hb⟩ := bx3 w 23 [.int .i64 D, .int .i64 S, .int .i64 M, .bool true] [.int .i64 (2 + y0 % 6), .int .i64 16, .int .i64 (y2 % 16), .bool true] rfl
  have HR : Hid _ := hR
  have HB : Hid _ := hb
  clear hS hD1 hM1 hR hb
  go_enter Tryd.func4, Tryd.ntmps4
  go_wp2_with fail
  go_region
  go_wp2_with fail
  exact bodyPost_ret_by (v := .agg ([.int .i64 (2 + y0 % 6), .int .i64 16, .int .i64 (y2 % 16), .bool true] : List Value).toArray) (results_cell 2 24 ⟨w.heap.size + 1, 0, none⟩ rfl rfl HR.out) rfl ⟨by rw [HL.out], HB.out⟩
set_option maxHeartbeats 1000000 in
theorem good18_3falsep (D S M : Int) (w : World) (h0 : 0 < S) (hk : S % 4 = 3) (hS : goS S = 16) (hD1 : D ≤ 9223372036854775807) (hM1 : M ≤ 9223372036854775807) : Calls Tryd.prog 4 #[.agg #[.int .i64 D, .int .i64 S, .int .i64 M, .bool false]] w fun e w' => e = .returned (.agg (lyL (goD D) (goS S) (goM S M false) false).toArray) ∧ Below w.heap.size w w' := by
  have HL : Hid (lyL (goD D) (goS S) (goM S M false) false = [.int .i64 (2 + mx D % 6), .int .i64 16, .int .i64 (0), .bool false]) := by
    show lyL _ _ _ _ = _
    unfold lyL goM goD; rw [hS]; rfl
  have e0 : (if 0 < D then D else (0 : Int)) = mx D := rfl
  have e2 : (if 0 < M then M else (0 : Int)) = mx M := rfl
  have hd := mx_nn D
  have hm := mx_nn M
  have hd1 : mx D ≤ 9223372036854775807 := by unfold mx; split <;> omega
  have hm1 : mx M ≤ 9223372036854775807 := by unfold mx; split <;> omega
  have hdr0 : 0 ≤ mx D % 6 := by omega
  have hdr1 : mx D % 6 < 6 := by omega
  generalize mx D = y0 at *
  generalize mx M = y2 at *
  obtain ⟨hR, hb⟩ := bx3 w 23 [.int .i64 D, .int .i64 S, .int .i64 M, .bool false] [.int .i64 (2 + y0 % 6), .int .i64 16, .int .i64 0, .bool false] rfl
  have HR : Hid _ := hR
  have HB : Hid _ := hb
  clear hS hD1 hM1 hR hb
  go_enter Tryd.func4, Tryd.ntmps4
  go_wp2_with fail
  go_region
  go_wp2_with fail
  exact bodyPost_ret_by (v := .agg ([.int .i64 (2 + y0 % 6), .int .i64 16, .int .i64 0, .bool false] : List Value).toArray) (results_cell 2 24 ⟨w.heap.size + 1, 0, none⟩ rfl rfl HR.out) rfl ⟨by rw [HL.out], HB.out⟩
theorem good18_any (w : World) (hD1 : D ≤ 9223372036854775807) (hM1 : M ≤ 9223372036854775807) : Calls Tryd.prog 4 #[.agg #[.int .i64 D, .int .i64 S, .int .i64 M, .bool G]] w fun e w' => e = .returned (.agg (lyL (goD D) (goS S) (goM S M G) G).toArray) ∧ Below w.heap.size w w' := by
  have hc := goS_is S
  by_cases h0 : 0 < S
  · have e : mx S = S := if_pos h0
    rw [e] at hc
    cases G <;> rcases hc with ⟨hk, hS⟩ | ⟨hk, hS⟩ | ⟨hk, hS⟩ | ⟨hk, hS⟩
    · exact good18_0falsep D S M w h0 hk hS hD1 hM1
    · exact good18_1falsep D S M w h0 hk hS hD1 hM1
    · exact good18_2falsep D S M w h0 hk hS hD1 hM1
    · exact good18_3falsep D S M w h0 hk hS hD1 hM1
    · exact good18_0truep D S M w h0 hk hS hD1 hM1
    · exact good18_1truep D S M w h0 hk hS hD1 hM1
    · exact good18_2truep D S M w h0 hk hS hD1 hM1
    · exact good18_3truep D S M w h0 hk hS hD1 hM1
  · have e : mx S = 0 := if_neg h0
    rw [e] at hc
    have hS : goS S = 2 := by rcases hc with ⟨_, h⟩ | ⟨h, _⟩ | ⟨h, _⟩ | ⟨h, _⟩ <;> first | exact h | (exact absurd h (by decide))
    cases G
    · exact good18_0falsen D S M w h0 hS hD1 hM1
    · exact good18_0truen D S M w h0 hS hD1 hM1
end
end Go.Proofs.YtbekmjljcjgopabDoor
