/- One act: Tamper. -/
import Derived.Test.YtmgllcmfnljfjaaDkAct0
namespace Go.Proofs.Ytmgllcmfnljfjaa
open Go.RowKit Go.PlainAid
set_option linter.unusedVariables false

set_option maxRecDepth 20000 in
set_option maxHeartbeats 2000000 in
theorem act_tamper5 {B : Nat} {w0 w : World} {gd gr gi n : Nat} {l : Nat → ByteArray} {q : List Wr} {dead : Bool} {l' : Nat → ByteArray} {v : Value} {m : Nat} {f : Nat → ByteArray}
    (h : Sys B w0 w gd gr gi n l q dead l' q dead v m f) (hq : q.length ≤ 100000) (d a : Int) (s : ByteArray) (nn : Int) (kb : Option Addr) (km kc : Nat) (x : Bool) (hk : km ≤ kc) (hkc : kc ≤ maxLen) (hd : d.tmod 8 = 5) :
    Calls Try.prog 12 #[.pointer (some ⟨gd, 0, none⟩), .pointer (some ⟨gr, 0, none⟩), .pointer (some ⟨gi, 0, none⟩), actV d a s nn (.slice kb km kc) x] w fun e w' => e = .returned (.bool true) ∧ Sys B w0 w' gd gr gi n (tampL l dead n a (bytesB s nn)) (tampQ q dead n a (bytesB s nn)) dead (tampL l' dead n a (bytesB s nn)) (tampQ q dead n a (bytesB s nn)) dead v m f := by
  have hq' : q.length ≤ 1000000 := by omega
  by_cases hkm : 100 < km
  · have hkI : (100 : Int) ≤ (km : Int) := by omega
    have hx : Hid (SysX B w0 (w.alloc (.cells #[.int .i64 d, .int .i64 a, .string s, .int .i64 nn, .slice kb 100 kc, .bool x] 35)).drew gd gr gi n l q dead l' q dead v m f w.heap.size [.int .i64 d, .int .i64 a, .string s, .int .i64 nn, .slice kb 100 kc, .bool x]) := SysX.below (Sys.box h #[.int .i64 d, .int .i64 a, .string s, .int .i64 nn, .slice kb 100 kc, .bool x]) (Below.refl _ _).drew
    have hS : Hid (∀ z, Blk z w.heap.size 35 [.int .i64 d, .int .i64 a, .string s, .int .i64 nn, .slice kb 100 kc, .bool x] → (fun z => z.cell? ⟨w.heap.size, 0, none⟩ = some (.int .i64 d) ∧ z.cell? ⟨w.heap.size, 1, none⟩ = some (.int .i64 a) ∧ z.cell? ⟨w.heap.size, 2, none⟩ = some (.string s) ∧ z.cell? ⟨w.heap.size, 3, none⟩ = some (.int .i64 nn) ∧ z.cell? ⟨w.heap.size, 4, none⟩ = some (.slice kb 100 kc) ∧ z.cell? ⟨w.heap.size, 5, none⟩ = some (.bool x)) z) := fun z hz => ⟨hz.cell rfl, hz.cell rfl, hz.cell rfl, hz.cell rfl, hz.cell rfl, hz.cell rfl⟩
    clear h
    go_enter Try.func12, Try.ntmps12
    go_wp2_with fail
    refine wp_region_noPanic ?_
    refine wp_region_held_drew (S := fun z => z.cell? ⟨w.heap.size, 0, none⟩ = some (.int .i64 d) ∧ z.cell? ⟨w.heap.size, 1, none⟩ = some (.int .i64 a) ∧ z.cell? ⟨w.heap.size, 2, none⟩ = some (.string s) ∧ z.cell? ⟨w.heap.size, 3, none⟩ = some (.int .i64 nn) ∧ z.cell? ⟨w.heap.size, 4, none⟩ = some (.slice kb 100 kc) ∧ z.cell? ⟨w.heap.size, 5, none⟩ = some (.bool x)) (by kernel_rfl) (hS.out _ (SysX.blk hx.out)) (fun hHeld => ?_)
    refine wpAnyH_take (i := 0) (v := ?_) rfl (by kernel_rfl) (by kernel_rfl) (by kernel_rfl) (fun _ _ _ h => h) (Or.inl ⟨by rfl, ?_⟩) (by assumption) ?_
    rotate_left
    · intro w hSw; go_simp; try with_reducible rfl
    go_simp
    refine wpAnyH_take (i := 1) (v := ?_) rfl (by kernel_rfl) (by kernel_rfl) (by kernel_rfl) (fun _ _ _ h => h) (Or.inl ⟨by rfl, ?_⟩) (by assumption) ?_
    rotate_left
    · intro w hSw; go_simp; try with_reducible rfl
    go_simp
    refine wpAnyH_take (i := 2) (v := ?_) rfl (by kernel_rfl) (by kernel_rfl) (by kernel_rfl) (fun _ _ _ h => h) (Or.inl ⟨by rfl, ?_⟩) (by assumption) ?_
    rotate_left
    · intro w hSw; go_simp; try with_reducible rfl
    go_simp
    refine wpAnyH_take (i := 3) (v := ?_) rfl (by kernel_rfl) (by kernel_rfl) (by kernel_rfl) (fun _ _ _ h => h) (Or.inl ⟨by rfl, ?_⟩) (by assumption) ?_
    rotate_left
    · intro w hSw; go_simp; try with_reducible rfl
    go_simp
    refine wpAnyH_take (i := 6) (v := ?_) rfl (by kernel_rfl) (by kernel_rfl) (by kernel_rfl) (fun _ _ _ h => h) (Or.inl ⟨by rfl, ?_⟩) (by assumption) ?_
    rotate_left
    · intro w hSw; go_simp; try with_reducible rfl
    go_simp
    refine wpAnyH_take (i := 7) (v := ?_) rfl (by kernel_rfl) (by kernel_rfl) (by kernel_rfl) (fun _ _ _ h => h) (Or.inl ⟨by rfl, ?_⟩) (by assumption) ?_
    rotate_left
    · intro w hSw; go_simp; try with_reducible rfl
    go_simp
    refine wpAnyH_take (i := 8) (v := ?_) rfl (by kernel_rfl) (by kernel_rfl) (by kernel_rfl) (fun _ _ _ h => h) (Or.inl ⟨by rfl, ?_⟩) (by assumption) ?_
    rotate_left
    · intro w hSw; go_simp; try with_reducible rfl
    go_simp
    refine wpAnyH_take (i := 9) (v := ?_) rfl (by kernel_rfl) (by kernel_rfl) (by kernel_rfl) (fun _ _ _ h => h) (Or.inl ⟨by rfl, ?_⟩) (by assumption) ?_
    rotate_left
    · intro w hSw; go_simp; try with_reducible rfl
    go_simp
    refine wpAnyH_ready (rs := [4]) (by kernel_rfl) (by simp) (AllReadyH.cons rfl (fun K hK => ?_) AllReadyH.nil)
    go_simp
    go_at_call 23
    refine (bytes_any d a s nn kb 100 kc x _).mono ?_
    rintro e wz ⟨rfl, hbz⟩
    have h' := SysX.below hx.out hbz
    clear hx
    have hx : Hid _ := h'
    clear h'
    refine hK.out _ _ (hS.out _ (SysX.blk hx.out)) (fun hHeld => ?_)
    clear hK K
    refine wpAnyH_ready (rs := [5]) (by kernel_rfl) (by simp) (AllReadyH.cons rfl (fun K hK => ?_) AllReadyH.nil)
    go_simp
    go_at_call 25
    refine (x_tamper hx.out _ _ hq').mono ?_
    rintro e wz ⟨rfl, h'⟩
    clear hx
    have hx : Hid _ := h'
    clear h'
    refine hK.out _ _ (hS.out _ (SysX.blk hx.out)) (fun hHeld => ?_)
    clear hK K
    refine wpAnyH_ready (rs := [10]) (by kernel_rfl) (by simp) (AllReadyH.cons rfl (fun K hK => ?_) AllReadyH.nil)
    go_simp
    go_at_call 23
    refine (bytes_any d a s nn kb 100 kc x _).mono ?_
    rintro e wz ⟨rfl, hbz⟩
    have h' := SysX.below hx.out hbz
    clear hx
    have hx : Hid _ := h'
    clear h'
    refine hK.out _ _ (hS.out _ (SysX.blk hx.out)) (fun hHeld => ?_)
    clear hK K
    refine wpAnyH_ready (rs := [11]) (by kernel_rfl) (by simp) (AllReadyH.cons rfl (fun K hK => ?_) AllReadyH.nil)
    go_simp
    go_at_call 29
    refine (x_rtamper hx.out _ _ hq').mono ?_
    rintro e wz ⟨rfl, h'⟩
    clear hx
    have hx : Hid _ := h'
    clear h'
    refine hK.out _ _ (hS.out _ (SysX.blk hx.out)) (fun hHeld => ?_)
    clear hK K
    refine wpAnyH_take (i := 12) (v := ?_) rfl (by kernel_rfl) (by kernel_rfl) (by kernel_rfl) (fun _ _ _ h => h) (Or.inl ⟨by rfl, ?_⟩) (by assumption) ?_
    rotate_left
    · intro w hSw; go_simp; try with_reducible rfl
    go_simp
    refine wpAnyH_take (i := 13) (v := ?_) rfl (by kernel_rfl) (by kernel_rfl) (by kernel_rfl) (fun _ _ _ h => h) (Or.inl ⟨by rfl, ?_⟩) (by assumption) ?_
    rotate_left
    · intro w hSw; go_simp; try with_reducible rfl
    go_simp
    refine wpAnyH_done (by kernel_rfl) ?_ _
    refine NoPanic.normal ?_
    go_wp2_with fail
    go_ret
    exact ⟨rfl, SysX.unbox hx.out⟩
  · have hkI : (km : Int) ≤ 100 := by omega
    have hx : Hid (SysX B w0 (w.alloc (.cells #[.int .i64 d, .int .i64 a, .string s, .int .i64 nn, .slice kb km kc, .bool x] 35)).drew gd gr gi n l q dead l' q dead v m f w.heap.size [.int .i64 d, .int .i64 a, .string s, .int .i64 nn, .slice kb km kc, .bool x]) := SysX.below (Sys.box h #[.int .i64 d, .int .i64 a, .string s, .int .i64 nn, .slice kb km kc, .bool x]) (Below.refl _ _).drew
    have hS : Hid (∀ z, Blk z w.heap.size 35 [.int .i64 d, .int .i64 a, .string s, .int .i64 nn, .slice kb km kc, .bool x] → (fun z => z.cell? ⟨w.heap.size, 0, none⟩ = some (.int .i64 d) ∧ z.cell? ⟨w.heap.size, 1, none⟩ = some (.int .i64 a) ∧ z.cell? ⟨w.heap.size, 2, none⟩ = some (.string s) ∧ z.cell? ⟨w.heap.size, 3, none⟩ = some (.int .i64 nn) ∧ z.cell? ⟨w.heap.size, 4, none⟩ = some (.slice kb km kc) ∧ z.cell? ⟨w.heap.size, 5, none⟩ = some (.bool x)) z) := fun z hz => ⟨hz.cell rfl, hz.cell rfl, hz.cell rfl, hz.cell rfl, hz.cell rfl, hz.cell rfl⟩
    clear h
    go_enter Try.func12, Try.ntmps12
    go_wp2_with fail
    refine wp_region_noPanic ?_
    refine wp_region_held_drew (S := fun z => z.cell? ⟨w.heap.size, 0, none⟩ = some (.int .i64 d) ∧ z.cell? ⟨w.heap.size, 1, none⟩ = some (.int .i64 a) ∧ z.cell? ⟨w.heap.size, 2, none⟩ = some (.string s) ∧ z.cell? ⟨w.heap.size, 3, none⟩ = some (.int .i64 nn) ∧ z.cell? ⟨w.heap.size, 4, none⟩ = some (.slice kb km kc) ∧ z.cell? ⟨w.heap.size, 5, none⟩ = some (.bool x)) (by kernel_rfl) (hS.out _ (SysX.blk hx.out)) (fun hHeld => ?_)
    refine wpAnyH_take (i := 0) (v := ?_) rfl (by kernel_rfl) (by kernel_rfl) (by kernel_rfl) (fun _ _ _ h => h) (Or.inl ⟨by rfl, ?_⟩) (by assumption) ?_
    rotate_left
    · intro w hSw; go_simp; try with_reducible rfl
    go_simp
    refine wpAnyH_take (i := 1) (v := ?_) rfl (by kernel_rfl) (by kernel_rfl) (by kernel_rfl) (fun _ _ _ h => h) (Or.inl ⟨by rfl, ?_⟩) (by assumption) ?_
    rotate_left
    · intro w hSw; go_simp; try with_reducible rfl
    go_simp
    refine wpAnyH_take (i := 2) (v := ?_) rfl (by kernel_rfl) (by kernel_rfl) (by kernel_rfl) (fun _ _ _ h => h) (Or.inl ⟨by rfl, ?_⟩) (by assumption) ?_
    rotate_left
    · intro w hSw; go_simp; try with_reducible rfl
    go_simp
    refine wpAnyH_take (i := 3) (v := ?_) rfl (by kernel_rfl) (by kernel_rfl) (by kernel_rfl) (fun _ _ _ h => h) (Or.inl ⟨by rfl, ?_⟩) (by assumption) ?_
    rotate_left
    · intro w hSw; go_simp; try with_reducible rfl
    go_simp
    refine wpAnyH_take (i := 6) (v := ?_) rfl (by kernel_rfl) (by kernel_rfl) (by kernel_rfl) (fun _ _ _ h => h) (Or.inl ⟨by rfl, ?_⟩) (by assumption) ?_
    rotate_left
    · intro w hSw; go_simp; try with_reducible rfl
    go_simp
    refine wpAnyH_take (i := 7) (v := ?_) rfl (by kernel_rfl) (by kernel_rfl) (by kernel_rfl) (fun _ _ _ h => h) (Or.inl ⟨by rfl, ?_⟩) (by assumption) ?_
    rotate_left
    · intro w hSw; go_simp; try with_reducible rfl
    go_simp
    refine wpAnyH_take (i := 8) (v := ?_) rfl (by kernel_rfl) (by kernel_rfl) (by kernel_rfl) (fun _ _ _ h => h) (Or.inl ⟨by rfl, ?_⟩) (by assumption) ?_
    rotate_left
    · intro w hSw; go_simp; try with_reducible rfl
    go_simp
    refine wpAnyH_take (i := 9) (v := ?_) rfl (by kernel_rfl) (by kernel_rfl) (by kernel_rfl) (fun _ _ _ h => h) (Or.inl ⟨by rfl, ?_⟩) (by assumption) ?_
    rotate_left
    · intro w hSw; go_simp; try with_reducible rfl
    go_simp
    refine wpAnyH_ready (rs := [4]) (by kernel_rfl) (by simp) (AllReadyH.cons rfl (fun K hK => ?_) AllReadyH.nil)
    go_simp
    go_at_call 23
    refine (bytes_any d a s nn kb km kc x _).mono ?_
    rintro e wz ⟨rfl, hbz⟩
    have h' := SysX.below hx.out hbz
    clear hx
    have hx : Hid _ := h'
    clear h'
    refine hK.out _ _ (hS.out _ (SysX.blk hx.out)) (fun hHeld => ?_)
    clear hK K
    refine wpAnyH_ready (rs := [5]) (by kernel_rfl) (by simp) (AllReadyH.cons rfl (fun K hK => ?_) AllReadyH.nil)
    go_simp
    go_at_call 25
    refine (x_tamper hx.out _ _ hq').mono ?_
    rintro e wz ⟨rfl, h'⟩
    clear hx
    have hx : Hid _ := h'
    clear h'
    refine hK.out _ _ (hS.out _ (SysX.blk hx.out)) (fun hHeld => ?_)
    clear hK K
    refine wpAnyH_ready (rs := [10]) (by kernel_rfl) (by simp) (AllReadyH.cons rfl (fun K hK => ?_) AllReadyH.nil)
    go_simp
    go_at_call 23
    refine (bytes_any d a s nn kb km kc x _).mono ?_
    rintro e wz ⟨rfl, hbz⟩
    have h' := SysX.below hx.out hbz
    clear hx
    have hx : Hid _ := h'
    clear h'
    refine hK.out _ _ (hS.out _ (SysX.blk hx.out)) (fun hHeld => ?_)
    clear hK K
    refine wpAnyH_ready (rs := [11]) (by kernel_rfl) (by simp) (AllReadyH.cons rfl (fun K hK => ?_) AllReadyH.nil)
    go_simp
    go_at_call 29
    refine (x_rtamper hx.out _ _ hq').mono ?_
    rintro e wz ⟨rfl, h'⟩
    clear hx
    have hx : Hid _ := h'
    clear h'
    refine hK.out _ _ (hS.out _ (SysX.blk hx.out)) (fun hHeld => ?_)
    clear hK K
    refine wpAnyH_take (i := 12) (v := ?_) rfl (by kernel_rfl) (by kernel_rfl) (by kernel_rfl) (fun _ _ _ h => h) (Or.inl ⟨by rfl, ?_⟩) (by assumption) ?_
    rotate_left
    · intro w hSw; go_simp; try with_reducible rfl
    go_simp
    refine wpAnyH_take (i := 13) (v := ?_) rfl (by kernel_rfl) (by kernel_rfl) (by kernel_rfl) (fun _ _ _ h => h) (Or.inl ⟨by rfl, ?_⟩) (by assumption) ?_
    rotate_left
    · intro w hSw; go_simp; try with_reducible rfl
    go_simp
    refine wpAnyH_done (by kernel_rfl) ?_ _
    refine NoPanic.normal ?_
    go_wp2_with fail
    go_ret
    exact ⟨rfl, SysX.unbox hx.out⟩
set_option maxRecDepth 20000 in
set_option maxHeartbeats 2000000 in
theorem act_tamperm5 {B : Nat} {w0 w : World} {gd gr gi n : Nat} {l : Nat → ByteArray} {q : List Wr} {dead : Bool} {l' : Nat → ByteArray} {v : Value} {m : Nat} {f : Nat → ByteArray}
    (h : Sys B w0 w gd gr gi n l q dead l' q dead v m f) (hq : q.length ≤ 100000) (d a : Int) (s : ByteArray) (nn : Int) (kb : Option Addr) (km kc : Nat) (x : Bool) (hk : km ≤ kc) (hkc : kc ≤ maxLen) (hd : d.tmod 8 = -5) :
    Calls Try.prog 12 #[.pointer (some ⟨gd, 0, none⟩), .pointer (some ⟨gr, 0, none⟩), .pointer (some ⟨gi, 0, none⟩), actV d a s nn (.slice kb km kc) x] w fun e w' => e = .returned (.bool true) ∧ Sys B w0 w' gd gr gi n (tampL l dead n a (bytesB s nn)) (tampQ q dead n a (bytesB s nn)) dead (tampL l' dead n a (bytesB s nn)) (tampQ q dead n a (bytesB s nn)) dead v m f := by
  have hq' : q.length ≤ 1000000 := by omega
  by_cases hkm : 100 < km
  · have hkI : (100 : Int) ≤ (km : Int) := by omega
    have hx : Hid (SysX B w0 (w.alloc (.cells #[.int .i64 d, .int .i64 a, .string s, .int .i64 nn, .slice kb 100 kc, .bool x] 35)).drew gd gr gi n l q dead l' q dead v m f w.heap.size [.int .i64 d, .int .i64 a, .string s, .int .i64 nn, .slice kb 100 kc, .bool x]) := SysX.below (Sys.box h #[.int .i64 d, .int .i64 a, .string s, .int .i64 nn, .slice kb 100 kc, .bool x]) (Below.refl _ _).drew
    have hS : Hid (∀ z, Blk z w.heap.size 35 [.int .i64 d, .int .i64 a, .string s, .int .i64 nn, .slice kb 100 kc, .bool x] → (fun z => z.cell? ⟨w.heap.size, 0, none⟩ = some (.int .i64 d) ∧ z.cell? ⟨w.heap.size, 1, none⟩ = some (.int .i64 a) ∧ z.cell? ⟨w.heap.size, 2, none⟩ = some (.string s) ∧ z.cell? ⟨w.heap.size, 3, none⟩ = some (.int .i64 nn) ∧ z.cell? ⟨w.heap.size, 4, none⟩ = some (.slice kb 100 kc) ∧ z.cell? ⟨w.heap.size, 5, none⟩ = some (.bool x)) z) := fun z hz => ⟨hz.cell rfl, hz.cell rfl, hz.cell rfl, hz.cell rfl, hz.cell rfl, hz.cell rfl⟩
    clear h
    go_enter Try.func12, Try.ntmps12
    go_wp2_with fail
    refine wp_region_noPanic ?_
    refine wp_region_held_drew (S := fun z => z.cell? ⟨w.heap.size, 0, none⟩ = some (.int .i64 d) ∧ z.cell? ⟨w.heap.size, 1, none⟩ = some (.int .i64 a) ∧ z.cell? ⟨w.heap.size, 2, none⟩ = some (.string s) ∧ z.cell? ⟨w.heap.size, 3, none⟩ = some (.int .i64 nn) ∧ z.cell? ⟨w.heap.size, 4, none⟩ = some (.slice kb 100 kc) ∧ z.cell? ⟨w.heap.size, 5, none⟩ = some (.bool x)) (by kernel_rfl) (hS.out _ (SysX.blk hx.out)) (fun hHeld => ?_)
    refine wpAnyH_take (i := 0) (v := ?_) rfl (by kernel_rfl) (by kernel_rfl) (by kernel_rfl) (fun _ _ _ h => h) (Or.inl ⟨by rfl, ?_⟩) (by assumption) ?_
    rotate_left
    · intro w hSw; go_simp; try with_reducible rfl
    go_simp
    refine wpAnyH_take (i := 1) (v := ?_) rfl (by kernel_rfl) (by kernel_rfl) (by kernel_rfl) (fun _ _ _ h => h) (Or.inl ⟨by rfl, ?_⟩) (by assumption) ?_
    rotate_left
    · intro w hSw; go_simp; try with_reducible rfl
    go_simp
    refine wpAnyH_take (i := 2) (v := ?_) rfl (by kernel_rfl) (by kernel_rfl) (by kernel_rfl) (fun _ _ _ h => h) (Or.inl ⟨by rfl, ?_⟩) (by assumption) ?_
    rotate_left
    · intro w hSw; go_simp; try with_reducible rfl
    go_simp
    refine wpAnyH_take (i := 3) (v := ?_) rfl (by kernel_rfl) (by kernel_rfl) (by kernel_rfl) (fun _ _ _ h => h) (Or.inl ⟨by rfl, ?_⟩) (by assumption) ?_
    rotate_left
    · intro w hSw; go_simp; try with_reducible rfl
    go_simp
    refine wpAnyH_take (i := 6) (v := ?_) rfl (by kernel_rfl) (by kernel_rfl) (by kernel_rfl) (fun _ _ _ h => h) (Or.inl ⟨by rfl, ?_⟩) (by assumption) ?_
    rotate_left
    · intro w hSw; go_simp; try with_reducible rfl
    go_simp
    refine wpAnyH_take (i := 7) (v := ?_) rfl (by kernel_rfl) (by kernel_rfl) (by kernel_rfl) (fun _ _ _ h => h) (Or.inl ⟨by rfl, ?_⟩) (by assumption) ?_
    rotate_left
    · intro w hSw; go_simp; try with_reducible rfl
    go_simp
    refine wpAnyH_take (i := 8) (v := ?_) rfl (by kernel_rfl) (by kernel_rfl) (by kernel_rfl) (fun _ _ _ h => h) (Or.inl ⟨by rfl, ?_⟩) (by assumption) ?_
    rotate_left
    · intro w hSw; go_simp; try with_reducible rfl
    go_simp
    refine wpAnyH_take (i := 9) (v := ?_) rfl (by kernel_rfl) (by kernel_rfl) (by kernel_rfl) (fun _ _ _ h => h) (Or.inl ⟨by rfl, ?_⟩) (by assumption) ?_
    rotate_left
    · intro w hSw; go_simp; try with_reducible rfl
    go_simp
    refine wpAnyH_ready (rs := [4]) (by kernel_rfl) (by simp) (AllReadyH.cons rfl (fun K hK => ?_) AllReadyH.nil)
    go_simp
    go_at_call 23
    refine (bytes_any d a s nn kb 100 kc x _).mono ?_
    rintro e wz ⟨rfl, hbz⟩
    have h' := SysX.below hx.out hbz
    clear hx
    have hx : Hid _ := h'
    clear h'
    refine hK.out _ _ (hS.out _ (SysX.blk hx.out)) (fun hHeld => ?_)
    clear hK K
    refine wpAnyH_ready (rs := [5]) (by kernel_rfl) (by simp) (AllReadyH.cons rfl (fun K hK => ?_) AllReadyH.nil)
    go_simp
    go_at_call 25
    refine (x_tamper hx.out _ _ hq').mono ?_
    rintro e wz ⟨rfl, h'⟩
    clear hx
    have hx : Hid _ := h'
    clear h'
    refine hK.out _ _ (hS.out _ (SysX.blk hx.out)) (fun hHeld => ?_)
    clear hK K
    refine wpAnyH_ready (rs := [10]) (by kernel_rfl) (by simp) (AllReadyH.cons rfl (fun K hK => ?_) AllReadyH.nil)
    go_simp
    go_at_call 23
    refine (bytes_any d a s nn kb 100 kc x _).mono ?_
    rintro e wz ⟨rfl, hbz⟩
    have h' := SysX.below hx.out hbz
    clear hx
    have hx : Hid _ := h'
    clear h'
    refine hK.out _ _ (hS.out _ (SysX.blk hx.out)) (fun hHeld => ?_)
    clear hK K
    refine wpAnyH_ready (rs := [11]) (by kernel_rfl) (by simp) (AllReadyH.cons rfl (fun K hK => ?_) AllReadyH.nil)
    go_simp
    go_at_call 29
    refine (x_rtamper hx.out _ _ hq').mono ?_
    rintro e wz ⟨rfl, h'⟩
    clear hx
    have hx : Hid _ := h'
    clear h'
    refine hK.out _ _ (hS.out _ (SysX.blk hx.out)) (fun hHeld => ?_)
    clear hK K
    refine wpAnyH_take (i := 12) (v := ?_) rfl (by kernel_rfl) (by kernel_rfl) (by kernel_rfl) (fun _ _ _ h => h) (Or.inl ⟨by rfl, ?_⟩) (by assumption) ?_
    rotate_left
    · intro w hSw; go_simp; try with_reducible rfl
    go_simp
    refine wpAnyH_take (i := 13) (v := ?_) rfl (by kernel_rfl) (by kernel_rfl) (by kernel_rfl) (fun _ _ _ h => h) (Or.inl ⟨by rfl, ?_⟩) (by assumption) ?_
    rotate_left
    · intro w hSw; go_simp; try with_reducible rfl
    go_simp
    refine wpAnyH_done (by kernel_rfl) ?_ _
    refine NoPanic.normal ?_
    go_wp2_with fail
    go_ret
    exact ⟨rfl, SysX.unbox hx.out⟩
  · have hkI : (km : Int) ≤ 100 := by omega
    have hx : Hid (SysX B w0 (w.alloc (.cells #[.int .i64 d, .int .i64 a, .string s, .int .i64 nn, .slice kb km kc, .bool x] 35)).drew gd gr gi n l q dead l' q dead v m f w.heap.size [.int .i64 d, .int .i64 a, .string s, .int .i64 nn, .slice kb km kc, .bool x]) := SysX.below (Sys.box h #[.int .i64 d, .int .i64 a, .string s, .int .i64 nn, .slice kb km kc, .bool x]) (Below.refl _ _).drew
    have hS : Hid (∀ z, Blk z w.heap.size 35 [.int .i64 d, .int .i64 a, .string s, .int .i64 nn, .slice kb km kc, .bool x] → (fun z => z.cell? ⟨w.heap.size, 0, none⟩ = some (.int .i64 d) ∧ z.cell? ⟨w.heap.size, 1, none⟩ = some (.int .i64 a) ∧ z.cell? ⟨w.heap.size, 2, none⟩ = some (.string s) ∧ z.cell? ⟨w.heap.size, 3, none⟩ = some (.int .i64 nn) ∧ z.cell? ⟨w.heap.size, 4, none⟩ = some (.slice kb km kc) ∧ z.cell? ⟨w.heap.size, 5, none⟩ = some (.bool x)) z) := fun z hz => ⟨hz.cell rfl, hz.cell rfl, hz.cell rfl, hz.cell rfl, hz.cell rfl, hz.cell rfl⟩
    clear h
    go_enter Try.func12, Try.ntmps12
    go_wp2_with fail
    refine wp_region_noPanic ?_
    refine wp_region_held_drew (S := fun z => z.cell? ⟨w.heap.size, 0, none⟩ = some (.int .i64 d) ∧ z.cell? ⟨w.heap.size, 1, none⟩ = some (.int .i64 a) ∧ z.cell? ⟨w.heap.size, 2, none⟩ = some (.string s) ∧ z.cell? ⟨w.heap.size, 3, none⟩ = some (.int .i64 nn) ∧ z.cell? ⟨w.heap.size, 4, none⟩ = some (.slice kb km kc) ∧ z.cell? ⟨w.heap.size, 5, none⟩ = some (.bool x)) (by kernel_rfl) (hS.out _ (SysX.blk hx.out)) (fun hHeld => ?_)
    refine wpAnyH_take (i := 0) (v := ?_) rfl (by kernel_rfl) (by kernel_rfl) (by kernel_rfl) (fun _ _ _ h => h) (Or.inl ⟨by rfl, ?_⟩) (by assumption) ?_
    rotate_left
    · intro w hSw; go_simp; try with_reducible rfl
    go_simp
    refine wpAnyH_take (i := 1) (v := ?_) rfl (by kernel_rfl) (by kernel_rfl) (by kernel_rfl) (fun _ _ _ h => h) (Or.inl ⟨by rfl, ?_⟩) (by assumption) ?_
    rotate_left
    · intro w hSw; go_simp; try with_reducible rfl
    go_simp
    refine wpAnyH_take (i := 2) (v := ?_) rfl (by kernel_rfl) (by kernel_rfl) (by kernel_rfl) (fun _ _ _ h => h) (Or.inl ⟨by rfl, ?_⟩) (by assumption) ?_
    rotate_left
    · intro w hSw; go_simp; try with_reducible rfl
    go_simp
    refine wpAnyH_take (i := 3) (v := ?_) rfl (by kernel_rfl) (by kernel_rfl) (by kernel_rfl) (fun _ _ _ h => h) (Or.inl ⟨by rfl, ?_⟩) (by assumption) ?_
    rotate_left
    · intro w hSw; go_simp; try with_reducible rfl
    go_simp
    refine wpAnyH_take (i := 6) (v := ?_) rfl (by kernel_rfl) (by kernel_rfl) (by kernel_rfl) (fun _ _ _ h => h) (Or.inl ⟨by rfl, ?_⟩) (by assumption) ?_
    rotate_left
    · intro w hSw; go_simp; try with_reducible rfl
    go_simp
    refine wpAnyH_take (i := 7) (v := ?_) rfl (by kernel_rfl) (by kernel_rfl) (by kernel_rfl) (fun _ _ _ h => h) (Or.inl ⟨by rfl, ?_⟩) (by assumption) ?_
    rotate_left
    · intro w hSw; go_simp; try with_reducible rfl
    go_simp
    refine wpAnyH_take (i := 8) (v := ?_) rfl (by kernel_rfl) (by kernel_rfl) (by kernel_rfl) (fun _ _ _ h => h) (Or.inl ⟨by rfl, ?_⟩) (by assumption) ?_
    rotate_left
    · intro w hSw; go_simp; try with_reducible rfl
    go_simp
    refine wpAnyH_take (i := 9) (v := ?_) rfl (by kernel_rfl) (by kernel_rfl) (by kernel_rfl) (fun _ _ _ h => h) (Or.inl ⟨by rfl, ?_⟩) (by assumption) ?_
    rotate_left
    · intro w hSw; go_simp; try with_reducible rfl
    go_simp
    refine wpAnyH_ready (rs := [4]) (by kernel_rfl) (by simp) (AllReadyH.cons rfl (fun K hK => ?_) AllReadyH.nil)
    go_simp
    go_at_call 23
    refine (bytes_any d a s nn kb km kc x _).mono ?_
    rintro e wz ⟨rfl, hbz⟩
    have h' := SysX.below hx.out hbz
    clear hx
    have hx : Hid _ := h'
    clear h'
    refine hK.out _ _ (hS.out _ (SysX.blk hx.out)) (fun hHeld => ?_)
    clear hK K
    refine wpAnyH_ready (rs := [5]) (by kernel_rfl) (by simp) (AllReadyH.cons rfl (fun K hK => ?_) AllReadyH.nil)
    go_simp
    go_at_call 25
    refine (x_tamper hx.out _ _ hq').mono ?_
    rintro e wz ⟨rfl, h'⟩
    clear hx
    have hx : Hid _ := h'
    clear h'
    refine hK.out _ _ (hS.out _ (SysX.blk hx.out)) (fun hHeld => ?_)
    clear hK K
    refine wpAnyH_ready (rs := [10]) (by kernel_rfl) (by simp) (AllReadyH.cons rfl (fun K hK => ?_) AllReadyH.nil)
    go_simp
    go_at_call 23
    refine (bytes_any d a s nn kb km kc x _).mono ?_
    rintro e wz ⟨rfl, hbz⟩
    have h' := SysX.below hx.out hbz
    clear hx
    have hx : Hid _ := h'
    clear h'
    refine hK.out _ _ (hS.out _ (SysX.blk hx.out)) (fun hHeld => ?_)
    clear hK K
    refine wpAnyH_ready (rs := [11]) (by kernel_rfl) (by simp) (AllReadyH.cons rfl (fun K hK => ?_) AllReadyH.nil)
    go_simp
    go_at_call 29
    refine (x_rtamper hx.out _ _ hq').mono ?_
    rintro e wz ⟨rfl, h'⟩
    clear hx
    have hx : Hid _ := h'
    clear h'
    refine hK.out _ _ (hS.out _ (SysX.blk hx.out)) (fun hHeld => ?_)
    clear hK K
    refine wpAnyH_take (i := 12) (v := ?_) rfl (by kernel_rfl) (by kernel_rfl) (by kernel_rfl) (fun _ _ _ h => h) (Or.inl ⟨by rfl, ?_⟩) (by assumption) ?_
    rotate_left
    · intro w hSw; go_simp; try with_reducible rfl
    go_simp
    refine wpAnyH_take (i := 13) (v := ?_) rfl (by kernel_rfl) (by kernel_rfl) (by kernel_rfl) (fun _ _ _ h => h) (Or.inl ⟨by rfl, ?_⟩) (by assumption) ?_
    rotate_left
    · intro w hSw; go_simp; try with_reducible rfl
    go_simp
    refine wpAnyH_done (by kernel_rfl) ?_ _
    refine NoPanic.normal ?_
    go_wp2_with fail
    go_ret
    exact ⟨rfl, SysX.unbox hx.out⟩
end Go.Proofs.Ytmgllcmfnljfjaa
