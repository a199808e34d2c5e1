/- One act: Fail. -/
import Derived.Test.YtmgllcmfnljfjaaDkAct0
namespace Go.Proofs.Ytmgllcmfnljfjaa
open Go.RowKit Go.PlainAid
set_option linter.unusedVariables false

set_option maxRecDepth 20000 in
set_option maxHeartbeats 2000000 in
theorem act_fail7 {B : Nat} {w0 w : World} {gd gr gi n : Nat} {l : Nat → ByteArray} {q : List Wr} {dead : Bool} {l' : Nat → ByteArray} {v : Value} {m : Nat} {f : Nat → ByteArray}
    (h : Sys B w0 w gd gr gi n l q dead l' q dead v m f) (hq : q.length ≤ 100000) (d a : Int) (s : ByteArray) (nn : Int) (kb : Option Addr) (km kc : Nat) (hk : km ≤ kc) (hkc : kc ≤ maxLen) (hd : d.tmod 8 = 7) :
    Calls Try.prog 12 #[.pointer (some ⟨gd, 0, none⟩), .pointer (some ⟨gr, 0, none⟩), .pointer (some ⟨gi, 0, none⟩), actV d a s nn (.slice kb km kc) true] w fun e w' => e = .returned (.bool true) ∧ Sys B w0 w' gd gr gi n (fun _ => noB) [] true l' [] true v m f := by
  have hq' : q.length ≤ 1000000 := by omega
  by_cases hkm : 100 < km
  · have hkI : (100 : Int) ≤ (km : Int) := by omega
    have hx : Hid (SysX B w0 (w.alloc (.cells #[.int .i64 d, .int .i64 a, .string s, .int .i64 nn, .slice kb 100 kc, .bool true] 35)) gd gr gi n l q dead l' q dead v m f w.heap.size [.int .i64 d, .int .i64 a, .string s, .int .i64 nn, .slice kb 100 kc, .bool true]) := Sys.box h #[.int .i64 d, .int .i64 a, .string s, .int .i64 nn, .slice kb 100 kc, .bool true]
    have hS : Hid (∀ z, Blk z w.heap.size 35 [.int .i64 d, .int .i64 a, .string s, .int .i64 nn, .slice kb 100 kc, .bool true] → (fun z => z.cell? ⟨w.heap.size, 0, none⟩ = some (.int .i64 d) ∧ z.cell? ⟨w.heap.size, 1, none⟩ = some (.int .i64 a) ∧ z.cell? ⟨w.heap.size, 2, none⟩ = some (.string s) ∧ z.cell? ⟨w.heap.size, 3, none⟩ = some (.int .i64 nn) ∧ z.cell? ⟨w.heap.size, 4, none⟩ = some (.slice kb 100 kc) ∧ z.cell? ⟨w.heap.size, 5, none⟩ = some (.bool true)) z) := fun z hz => ⟨hz.cell rfl, hz.cell rfl, hz.cell rfl, hz.cell rfl, hz.cell rfl, hz.cell rfl⟩
    clear h
    go_enter Try.func12, Try.ntmps12
    obtain ⟨b0, b1, b2, b3, b4, b5⟩ := hS.out _ (SysX.blk hx.out)
    clear b1 b2 b3 b4
    go_wp2_with (first
      | (go_at_call 24; refine (x_fail hx.out).mono ?_; rintro e w1 ⟨rfl, h'⟩; clear hx; have hx : Hid _ := h'; clear h')
      | (go_at_call 31; refine (x_rfail hx.out).mono ?_; rintro e w1 ⟨rfl, h'⟩; clear hx; have hx : Hid _ := h'; clear h'))
    have h' := SysX.below hx.out (Below.refl _ _).drew
    clear hx
    have hx : Hid _ := h'
    clear h'
    obtain ⟨FR, gcR, vR, hR⟩ := SysX.ref hx.out
    have cR := hR.top.cell (i := 2) rfl
    clear hR
    refine wp_region_noPanic ?_
    refine wp_region_held_drew (S := fun z => z.cell? ⟨gr, 2, none⟩ = some (.bool true)) (by kernel_rfl) cR (fun hHeld => ?_)
    refine wpAnyH_take (i := 0) (v := ?_) rfl (by kernel_rfl) (by kernel_rfl) (by kernel_rfl) (fun _ _ _ h => h) (Or.inl ⟨by rfl, ?_⟩) (by assumption) ?_
    rotate_left
    · intro w hSw; go_simp; try with_reducible rfl
    go_simp
    refine wpAnyH_take (i := 2) (v := ?_) rfl (by kernel_rfl) (by kernel_rfl) (by kernel_rfl) (fun _ _ _ h => h) (Or.inl ⟨by rfl, ?_⟩) (by assumption) ?_
    rotate_left
    · intro w hSw; go_simp; try with_reducible rfl
    go_simp
    refine wpAnyH_take (i := 3) (v := ?_) rfl (by kernel_rfl) (by kernel_rfl) (by kernel_rfl) (fun _ _ _ h => h) (Or.inl ⟨by rfl, ?_⟩) (by assumption) ?_
    rotate_left
    · intro w hSw; go_simp; try with_reducible rfl
    go_simp
    refine wpAnyH_take (i := 4) (v := ?_) rfl (by kernel_rfl) (by kernel_rfl) (by kernel_rfl) (fun _ _ _ h => h) (Or.inl ⟨by rfl, ?_⟩) (by assumption) ?_
    rotate_left
    · intro w hSw; go_simp; try with_reducible rfl
    go_simp
    refine wpAnyH_take (i := 5) (v := ?_) rfl (by kernel_rfl) (by kernel_rfl) (by kernel_rfl) (fun _ _ _ h => h) (Or.inl ⟨by rfl, ?_⟩) (by assumption) ?_
    rotate_left
    · intro w hSw; go_simp; try with_reducible rfl
    go_simp
    refine wpAnyH_ready (rs := [1]) (by kernel_rfl) (by simp) (AllReadyH.cons rfl (fun K hK => ?_) AllReadyH.nil)
    go_simp
    go_at_call 14
    refine (x_dead hx.out).mono ?_
    rintro e wz ⟨rfl, hw'⟩
    rw [hw']
    clear hw' wz
    refine hK.out _ _ cR (fun hHeld => ?_)
    clear hK K
    refine wpAnyH_take (i := 6) (v := ?_) rfl (by kernel_rfl) (by kernel_rfl) (by kernel_rfl) (fun _ _ _ h => h) (Or.inl ⟨by rfl, ?_⟩) (by assumption) ?_
    rotate_left
    · intro w hSw; go_simp; try with_reducible rfl
    go_simp
    refine wpAnyH_take (i := 7) (v := ?_) rfl (by kernel_rfl) (by kernel_rfl) (by kernel_rfl) (fun _ _ _ h => h) (Or.inl ⟨by rfl, ?_⟩) (by assumption) ?_
    rotate_left
    · intro w hSw; go_simp; try with_reducible rfl
    go_simp
    refine wpAnyH_done (by kernel_rfl) ?_ _
    refine NoPanic.normal ?_
    go_wp2_with fail
    go_ret
    exact ⟨rfl, SysX.unbox hx.out⟩
  · have hkI : (km : Int) ≤ 100 := by omega
    have hx : Hid (SysX B w0 (w.alloc (.cells #[.int .i64 d, .int .i64 a, .string s, .int .i64 nn, .slice kb km kc, .bool true] 35)) gd gr gi n l q dead l' q dead v m f w.heap.size [.int .i64 d, .int .i64 a, .string s, .int .i64 nn, .slice kb km kc, .bool true]) := Sys.box h #[.int .i64 d, .int .i64 a, .string s, .int .i64 nn, .slice kb km kc, .bool true]
    have hS : Hid (∀ z, Blk z w.heap.size 35 [.int .i64 d, .int .i64 a, .string s, .int .i64 nn, .slice kb km kc, .bool true] → (fun z => z.cell? ⟨w.heap.size, 0, none⟩ = some (.int .i64 d) ∧ z.cell? ⟨w.heap.size, 1, none⟩ = some (.int .i64 a) ∧ z.cell? ⟨w.heap.size, 2, none⟩ = some (.string s) ∧ z.cell? ⟨w.heap.size, 3, none⟩ = some (.int .i64 nn) ∧ z.cell? ⟨w.heap.size, 4, none⟩ = some (.slice kb km kc) ∧ z.cell? ⟨w.heap.size, 5, none⟩ = some (.bool true)) z) := fun z hz => ⟨hz.cell rfl, hz.cell rfl, hz.cell rfl, hz.cell rfl, hz.cell rfl, hz.cell rfl⟩
    clear h
    go_enter Try.func12, Try.ntmps12
    obtain ⟨b0, b1, b2, b3, b4, b5⟩ := hS.out _ (SysX.blk hx.out)
    clear b1 b2 b3 b4
    go_wp2_with (first
      | (go_at_call 24; refine (x_fail hx.out).mono ?_; rintro e w1 ⟨rfl, h'⟩; clear hx; have hx : Hid _ := h'; clear h')
      | (go_at_call 31; refine (x_rfail hx.out).mono ?_; rintro e w1 ⟨rfl, h'⟩; clear hx; have hx : Hid _ := h'; clear h'))
    have h' := SysX.below hx.out (Below.refl _ _).drew
    clear hx
    have hx : Hid _ := h'
    clear h'
    obtain ⟨FR, gcR, vR, hR⟩ := SysX.ref hx.out
    have cR := hR.top.cell (i := 2) rfl
    clear hR
    refine wp_region_noPanic ?_
    refine wp_region_held_drew (S := fun z => z.cell? ⟨gr, 2, none⟩ = some (.bool true)) (by kernel_rfl) cR (fun hHeld => ?_)
    refine wpAnyH_take (i := 0) (v := ?_) rfl (by kernel_rfl) (by kernel_rfl) (by kernel_rfl) (fun _ _ _ h => h) (Or.inl ⟨by rfl, ?_⟩) (by assumption) ?_
    rotate_left
    · intro w hSw; go_simp; try with_reducible rfl
    go_simp
    refine wpAnyH_take (i := 2) (v := ?_) rfl (by kernel_rfl) (by kernel_rfl) (by kernel_rfl) (fun _ _ _ h => h) (Or.inl ⟨by rfl, ?_⟩) (by assumption) ?_
    rotate_left
    · intro w hSw; go_simp; try with_reducible rfl
    go_simp
    refine wpAnyH_take (i := 3) (v := ?_) rfl (by kernel_rfl) (by kernel_rfl) (by kernel_rfl) (fun _ _ _ h => h) (Or.inl ⟨by rfl, ?_⟩) (by assumption) ?_
    rotate_left
    · intro w hSw; go_simp; try with_reducible rfl
    go_simp
    refine wpAnyH_take (i := 4) (v := ?_) rfl (by kernel_rfl) (by kernel_rfl) (by kernel_rfl) (fun _ _ _ h => h) (Or.inl ⟨by rfl, ?_⟩) (by assumption) ?_
    rotate_left
    · intro w hSw; go_simp; try with_reducible rfl
    go_simp
    refine wpAnyH_take (i := 5) (v := ?_) rfl (by kernel_rfl) (by kernel_rfl) (by kernel_rfl) (fun _ _ _ h => h) (Or.inl ⟨by rfl, ?_⟩) (by assumption) ?_
    rotate_left
    · intro w hSw; go_simp; try with_reducible rfl
    go_simp
    refine wpAnyH_ready (rs := [1]) (by kernel_rfl) (by simp) (AllReadyH.cons rfl (fun K hK => ?_) AllReadyH.nil)
    go_simp
    go_at_call 14
    refine (x_dead hx.out).mono ?_
    rintro e wz ⟨rfl, hw'⟩
    rw [hw']
    clear hw' wz
    refine hK.out _ _ cR (fun hHeld => ?_)
    clear hK K
    refine wpAnyH_take (i := 6) (v := ?_) rfl (by kernel_rfl) (by kernel_rfl) (by kernel_rfl) (fun _ _ _ h => h) (Or.inl ⟨by rfl, ?_⟩) (by assumption) ?_
    rotate_left
    · intro w hSw; go_simp; try with_reducible rfl
    go_simp
    refine wpAnyH_take (i := 7) (v := ?_) rfl (by kernel_rfl) (by kernel_rfl) (by kernel_rfl) (fun _ _ _ h => h) (Or.inl ⟨by rfl, ?_⟩) (by assumption) ?_
    rotate_left
    · intro w hSw; go_simp; try with_reducible rfl
    go_simp
    refine wpAnyH_done (by kernel_rfl) ?_ _
    refine NoPanic.normal ?_
    go_wp2_with fail
    go_ret
    exact ⟨rfl, SysX.unbox hx.out⟩
set_option maxRecDepth 20000 in
set_option maxHeartbeats 2000000 in
theorem act_stay7 {B : Nat} {w0 w : World} {gd gr gi n : Nat} {l : Nat → ByteArray} {q : List Wr} {dead : Bool} {l' : Nat → ByteArray} {v : Value} {m : Nat} {f : Nat → ByteArray}
    (h : Sys B w0 w gd gr gi n l q dead l' q dead v m f) (hq : q.length ≤ 100000) (d a : Int) (s : ByteArray) (nn : Int) (kb : Option Addr) (km kc : Nat) (hk : km ≤ kc) (hkc : kc ≤ maxLen) (hd : d.tmod 8 = 7) :
    Calls Try.prog 12 #[.pointer (some ⟨gd, 0, none⟩), .pointer (some ⟨gr, 0, none⟩), .pointer (some ⟨gi, 0, none⟩), actV d a s nn (.slice kb km kc) false] w fun e w' => e = .returned (.bool true) ∧ Sys B w0 w' gd gr gi n l q dead l' q dead v m f := by
  have hq' : q.length ≤ 1000000 := by omega
  by_cases hkm : 100 < km
  · have hkI : (100 : Int) ≤ (km : Int) := by omega
    have hx : Hid (SysX B w0 (w.alloc (.cells #[.int .i64 d, .int .i64 a, .string s, .int .i64 nn, .slice kb 100 kc, .bool false] 35)) gd gr gi n l q dead l' q dead v m f w.heap.size [.int .i64 d, .int .i64 a, .string s, .int .i64 nn, .slice kb 100 kc, .bool false]) := Sys.box h #[.int .i64 d, .int .i64 a, .string s, .int .i64 nn, .slice kb 100 kc, .bool false]
    have hS : Hid (∀ z, Blk z w.heap.size 35 [.int .i64 d, .int .i64 a, .string s, .int .i64 nn, .slice kb 100 kc, .bool false] → (fun z => z.cell? ⟨w.heap.size, 0, none⟩ = some (.int .i64 d) ∧ z.cell? ⟨w.heap.size, 1, none⟩ = some (.int .i64 a) ∧ z.cell? ⟨w.heap.size, 2, none⟩ = some (.string s) ∧ z.cell? ⟨w.heap.size, 3, none⟩ = some (.int .i64 nn) ∧ z.cell? ⟨w.heap.size, 4, none⟩ = some (.slice kb 100 kc) ∧ z.cell? ⟨w.heap.size, 5, none⟩ = some (.bool false)) z) := fun z hz => ⟨hz.cell rfl, hz.cell rfl, hz.cell rfl, hz.cell rfl, hz.cell rfl, hz.cell rfl⟩
    clear h
    go_enter Try.func12, Try.ntmps12
    obtain ⟨b0, b1, b2, b3, b4, b5⟩ := hS.out _ (SysX.blk hx.out)
    clear b1 b2 b3 b4
    go_wp2_with fail
    have h' := SysX.below hx.out (Below.refl _ _).drew
    clear hx
    have hx : Hid _ := h'
    clear h'
    obtain ⟨FR, gcR, vR, hR⟩ := SysX.ref hx.out
    have cR := hR.top.cell (i := 2) rfl
    clear hR
    refine wp_region_noPanic ?_
    refine wp_region_held_drew (S := fun z => z.cell? ⟨gr, 2, none⟩ = some (.bool dead)) (by kernel_rfl) cR (fun hHeld => ?_)
    refine wpAnyH_take (i := 0) (v := ?_) rfl (by kernel_rfl) (by kernel_rfl) (by kernel_rfl) (fun _ _ _ h => h) (Or.inl ⟨by rfl, ?_⟩) (by assumption) ?_
    rotate_left
    · intro w hSw; go_simp; try with_reducible rfl
    go_simp
    refine wpAnyH_take (i := 2) (v := ?_) rfl (by kernel_rfl) (by kernel_rfl) (by kernel_rfl) (fun _ _ _ h => h) (Or.inl ⟨by rfl, ?_⟩) (by assumption) ?_
    rotate_left
    · intro w hSw; go_simp; try with_reducible rfl
    go_simp
    refine wpAnyH_take (i := 3) (v := ?_) rfl (by kernel_rfl) (by kernel_rfl) (by kernel_rfl) (fun _ _ _ h => h) (Or.inl ⟨by rfl, ?_⟩) (by assumption) ?_
    rotate_left
    · intro w hSw; go_simp; try with_reducible rfl
    go_simp
    refine wpAnyH_take (i := 4) (v := ?_) rfl (by kernel_rfl) (by kernel_rfl) (by kernel_rfl) (fun _ _ _ h => h) (Or.inl ⟨by rfl, ?_⟩) (by assumption) ?_
    rotate_left
    · intro w hSw; go_simp; try with_reducible rfl
    go_simp
    refine wpAnyH_take (i := 5) (v := ?_) rfl (by kernel_rfl) (by kernel_rfl) (by kernel_rfl) (fun _ _ _ h => h) (Or.inl ⟨by rfl, ?_⟩) (by assumption) ?_
    rotate_left
    · intro w hSw; go_simp; try with_reducible rfl
    go_simp
    refine wpAnyH_ready (rs := [1]) (by kernel_rfl) (by simp) (AllReadyH.cons rfl (fun K hK => ?_) AllReadyH.nil)
    go_simp
    go_at_call 14
    refine (x_dead hx.out).mono ?_
    rintro e wz ⟨rfl, hw'⟩
    rw [hw']
    clear hw' wz
    refine hK.out _ _ cR (fun hHeld => ?_)
    clear hK K
    refine wpAnyH_take (i := 6) (v := ?_) rfl (by kernel_rfl) (by kernel_rfl) (by kernel_rfl) (fun _ _ _ h => h) (Or.inl ⟨by rfl, ?_⟩) (by assumption) ?_
    rotate_left
    · intro w hSw; go_simp; try with_reducible rfl
    go_simp
    refine wpAnyH_take (i := 7) (v := ?_) rfl (by kernel_rfl) (by kernel_rfl) (by kernel_rfl) (fun _ _ _ h => h) (Or.inl ⟨by rfl, ?_⟩) (by assumption) ?_
    rotate_left
    · intro w hSw; go_simp; try with_reducible rfl
    go_simp
    refine wpAnyH_done (by kernel_rfl) ?_ _
    refine NoPanic.normal ?_
    go_wp2_with fail
    go_ret
    exact ⟨rfl, SysX.unbox hx.out⟩
  · have hkI : (km : Int) ≤ 100 := by omega
    have hx : Hid (SysX B w0 (w.alloc (.cells #[.int .i64 d, .int .i64 a, .string s, .int .i64 nn, .slice kb km kc, .bool false] 35)) gd gr gi n l q dead l' q dead v m f w.heap.size [.int .i64 d, .int .i64 a, .string s, .int .i64 nn, .slice kb km kc, .bool false]) := Sys.box h #[.int .i64 d, .int .i64 a, .string s, .int .i64 nn, .slice kb km kc, .bool false]
    have hS : Hid (∀ z, Blk z w.heap.size 35 [.int .i64 d, .int .i64 a, .string s, .int .i64 nn, .slice kb km kc, .bool false] → (fun z => z.cell? ⟨w.heap.size, 0, none⟩ = some (.int .i64 d) ∧ z.cell? ⟨w.heap.size, 1, none⟩ = some (.int .i64 a) ∧ z.cell? ⟨w.heap.size, 2, none⟩ = some (.string s) ∧ z.cell? ⟨w.heap.size, 3, none⟩ = some (.int .i64 nn) ∧ z.cell? ⟨w.heap.size, 4, none⟩ = some (.slice kb km kc) ∧ z.cell? ⟨w.heap.size, 5, none⟩ = some (.bool false)) z) := fun z hz => ⟨hz.cell rfl, hz.cell rfl, hz.cell rfl, hz.cell rfl, hz.cell rfl, hz.cell rfl⟩
    clear h
    go_enter Try.func12, Try.ntmps12
    obtain ⟨b0, b1, b2, b3, b4, b5⟩ := hS.out _ (SysX.blk hx.out)
    clear b1 b2 b3 b4
    go_wp2_with fail
    have h' := SysX.below hx.out (Below.refl _ _).drew
    clear hx
    have hx : Hid _ := h'
    clear h'
    obtain ⟨FR, gcR, vR, hR⟩ := SysX.ref hx.out
    have cR := hR.top.cell (i := 2) rfl
    clear hR
    refine wp_region_noPanic ?_
    refine wp_region_held_drew (S := fun z => z.cell? ⟨gr, 2, none⟩ = some (.bool dead)) (by kernel_rfl) cR (fun hHeld => ?_)
    refine wpAnyH_take (i := 0) (v := ?_) rfl (by kernel_rfl) (by kernel_rfl) (by kernel_rfl) (fun _ _ _ h => h) (Or.inl ⟨by rfl, ?_⟩) (by assumption) ?_
    rotate_left
    · intro w hSw; go_simp; try with_reducible rfl
    go_simp
    refine wpAnyH_take (i := 2) (v := ?_) rfl (by kernel_rfl) (by kernel_rfl) (by kernel_rfl) (fun _ _ _ h => h) (Or.inl ⟨by rfl, ?_⟩) (by assumption) ?_
    rotate_left
    · intro w hSw; go_simp; try with_reducible rfl
    go_simp
    refine wpAnyH_take (i := 3) (v := ?_) rfl (by kernel_rfl) (by kernel_rfl) (by kernel_rfl) (fun _ _ _ h => h) (Or.inl ⟨by rfl, ?_⟩) (by assumption) ?_
    rotate_left
    · intro w hSw; go_simp; try with_reducible rfl
    go_simp
    refine wpAnyH_take (i := 4) (v := ?_) rfl (by kernel_rfl) (by kernel_rfl) (by kernel_rfl) (fun _ _ _ h => h) (Or.inl ⟨by rfl, ?_⟩) (by assumption) ?_
    rotate_left
    · intro w hSw; go_simp; try with_reducible rfl
    go_simp
    refine wpAnyH_take (i := 5) (v := ?_) rfl (by kernel_rfl) (by kernel_rfl) (by kernel_rfl) (fun _ _ _ h => h) (Or.inl ⟨by rfl, ?_⟩) (by assumption) ?_
    rotate_left
    · intro w hSw; go_simp; try with_reducible rfl
    go_simp
    refine wpAnyH_ready (rs := [1]) (by kernel_rfl) (by simp) (AllReadyH.cons rfl (fun K hK => ?_) AllReadyH.nil)
    go_simp
    go_at_call 14
    refine (x_dead hx.out).mono ?_
    rintro e wz ⟨rfl, hw'⟩
    rw [hw']
    clear hw' wz
    refine hK.out _ _ cR (fun hHeld => ?_)
    clear hK K
    refine wpAnyH_take (i := 6) (v := ?_) rfl (by kernel_rfl) (by kernel_rfl) (by kernel_rfl) (fun _ _ _ h => h) (Or.inl ⟨by rfl, ?_⟩) (by assumption) ?_
    rotate_left
    · intro w hSw; go_simp; try with_reducible rfl
    go_simp
    refine wpAnyH_take (i := 7) (v := ?_) rfl (by kernel_rfl) (by kernel_rfl) (by kernel_rfl) (fun _ _ _ h => h) (Or.inl ⟨by rfl, ?_⟩) (by assumption) ?_
    rotate_left
    · intro w hSw; go_simp; try with_reducible rfl
    go_simp
    refine wpAnyH_done (by kernel_rfl) ?_ _
    refine NoPanic.normal ?_
    go_wp2_with fail
    go_ret
    exact ⟨rfl, SysX.unbox hx.out⟩
set_option maxRecDepth 20000 in
set_option maxHeartbeats 2000000 in
theorem act_failm7 {B : Nat} {w0 w : World} {gd gr gi n : Nat} {l : Nat → ByteArray} {q : List Wr} {dead : Bool} {l' : Nat → ByteArray} {v : Value} {m : Nat} {f : Nat → ByteArray}
    (h : Sys B w0 w gd gr gi n l q dead l' q dead v m f) (hq : q.length ≤ 100000) (d a : Int) (s : ByteArray) (nn : Int) (kb : Option Addr) (km kc : Nat) (hk : km ≤ kc) (hkc : kc ≤ maxLen) (hd : d.tmod 8 = -7) :
    Calls Try.prog 12 #[.pointer (some ⟨gd, 0, none⟩), .pointer (some ⟨gr, 0, none⟩), .pointer (some ⟨gi, 0, none⟩), actV d a s nn (.slice kb km kc) true] w fun e w' => e = .returned (.bool true) ∧ Sys B w0 w' gd gr gi n (fun _ => noB) [] true l' [] true v m f := by
  have hq' : q.length ≤ 1000000 := by omega
  by_cases hkm : 100 < km
  · have hkI : (100 : Int) ≤ (km : Int) := by omega
    have hx : Hid (SysX B w0 (w.alloc (.cells #[.int .i64 d, .int .i64 a, .string s, .int .i64 nn, .slice kb 100 kc, .bool true] 35)) gd gr gi n l q dead l' q dead v m f w.heap.size [.int .i64 d, .int .i64 a, .string s, .int .i64 nn, .slice kb 100 kc, .bool true]) := Sys.box h #[.int .i64 d, .int .i64 a, .string s, .int .i64 nn, .slice kb 100 kc, .bool true]
    have hS : Hid (∀ z, Blk z w.heap.size 35 [.int .i64 d, .int .i64 a, .string s, .int .i64 nn, .slice kb 100 kc, .bool true] → (fun z => z.cell? ⟨w.heap.size, 0, none⟩ = some (.int .i64 d) ∧ z.cell? ⟨w.heap.size, 1, none⟩ = some (.int .i64 a) ∧ z.cell? ⟨w.heap.size, 2, none⟩ = some (.string s) ∧ z.cell? ⟨w.heap.size, 3, none⟩ = some (.int .i64 nn) ∧ z.cell? ⟨w.heap.size, 4, none⟩ = some (.slice kb 100 kc) ∧ z.cell? ⟨w.heap.size, 5, none⟩ = some (.bool true)) z) := fun z hz => ⟨hz.cell rfl, hz.cell rfl, hz.cell rfl, hz.cell rfl, hz.cell rfl, hz.cell rfl⟩
    clear h
    go_enter Try.func12, Try.ntmps12
    obtain ⟨b0, b1, b2, b3, b4, b5⟩ := hS.out _ (SysX.blk hx.out)
    clear b1 b2 b3 b4
    go_wp2_with (first
      | (go_at_call 24; refine (x_fail hx.out).mono ?_; rintro e w1 ⟨rfl, h'⟩; clear hx; have hx : Hid _ := h'; clear h')
      | (go_at_call 31; refine (x_rfail hx.out).mono ?_; rintro e w1 ⟨rfl, h'⟩; clear hx; have hx : Hid _ := h'; clear h'))
    have h' := SysX.below hx.out (Below.refl _ _).drew
    clear hx
    have hx : Hid _ := h'
    clear h'
    obtain ⟨FR, gcR, vR, hR⟩ := SysX.ref hx.out
    have cR := hR.top.cell (i := 2) rfl
    clear hR
    refine wp_region_noPanic ?_
    refine wp_region_held_drew (S := fun z => z.cell? ⟨gr, 2, none⟩ = some (.bool true)) (by kernel_rfl) cR (fun hHeld => ?_)
    refine wpAnyH_take (i := 0) (v := ?_) rfl (by kernel_rfl) (by kernel_rfl) (by kernel_rfl) (fun _ _ _ h => h) (Or.inl ⟨by rfl, ?_⟩) (by assumption) ?_
    rotate_left
    · intro w hSw; go_simp; try with_reducible rfl
    go_simp
    refine wpAnyH_take (i := 2) (v := ?_) rfl (by kernel_rfl) (by kernel_rfl) (by kernel_rfl) (fun _ _ _ h => h) (Or.inl ⟨by rfl, ?_⟩) (by assumption) ?_
    rotate_left
    · intro w hSw; go_simp; try with_reducible rfl
    go_simp
    refine wpAnyH_take (i := 3) (v := ?_) rfl (by kernel_rfl) (by kernel_rfl) (by kernel_rfl) (fun _ _ _ h => h) (Or.inl ⟨by rfl, ?_⟩) (by assumption) ?_
    rotate_left
    · intro w hSw; go_simp; try with_reducible rfl
    go_simp
    refine wpAnyH_take (i := 4) (v := ?_) rfl (by kernel_rfl) (by kernel_rfl) (by kernel_rfl) (fun _ _ _ h => h) (Or.inl ⟨by rfl, ?_⟩) (by assumption) ?_
    rotate_left
    · intro w hSw; go_simp; try with_reducible rfl
    go_simp
    refine wpAnyH_take (i := 5) (v := ?_) rfl (by kernel_rfl) (by kernel_rfl) (by kernel_rfl) (fun _ _ _ h => h) (Or.inl ⟨by rfl, ?_⟩) (by assumption) ?_
    rotate_left
    · intro w hSw; go_simp; try with_reducible rfl
    go_simp
    refine wpAnyH_ready (rs := [1]) (by kernel_rfl) (by simp) (AllReadyH.cons rfl (fun K hK => ?_) AllReadyH.nil)
    go_simp
    go_at_call 14
    refine (x_dead hx.out).mono ?_
    rintro e wz ⟨rfl, hw'⟩
    rw [hw']
    clear hw' wz
    refine hK.out _ _ cR (fun hHeld => ?_)
    clear hK K
    refine wpAnyH_take (i := 6) (v := ?_) rfl (by kernel_rfl) (by kernel_rfl) (by kernel_rfl) (fun _ _ _ h => h) (Or.inl ⟨by rfl, ?_⟩) (by assumption) ?_
    rotate_left
    · intro w hSw; go_simp; try with_reducible rfl
    go_simp
    refine wpAnyH_take (i := 7) (v := ?_) rfl (by kernel_rfl) (by kernel_rfl) (by kernel_rfl) (fun _ _ _ h => h) (Or.inl ⟨by rfl, ?_⟩) (by assumption) ?_
    rotate_left
    · intro w hSw; go_simp; try with_reducible rfl
    go_simp
    refine wpAnyH_done (by kernel_rfl) ?_ _
    refine NoPanic.normal ?_
    go_wp2_with fail
    go_ret
    exact ⟨rfl, SysX.unbox hx.out⟩
  · have hkI : (km : Int) ≤ 100 := by omega
    have hx : Hid (SysX B w0 (w.alloc (.cells #[.int .i64 d, .int .i64 a, .string s, .int .i64 nn, .slice kb km kc, .bool true] 35)) gd gr gi n l q dead l' q dead v m f w.heap.size [.int .i64 d, .int .i64 a, .string s, .int .i64 nn, .slice kb km kc, .bool true]) := Sys.box h #[.int .i64 d, .int .i64 a, .string s, .int .i64 nn, .slice kb km kc, .bool true]
    have hS : Hid (∀ z, Blk z w.heap.size 35 [.int .i64 d, .int .i64 a, .string s, .int .i64 nn, .slice kb km kc, .bool true] → (fun z => z.cell? ⟨w.heap.size, 0, none⟩ = some (.int .i64 d) ∧ z.cell? ⟨w.heap.size, 1, none⟩ = some (.int .i64 a) ∧ z.cell? ⟨w.heap.size, 2, none⟩ = some (.string s) ∧ z.cell? ⟨w.heap.size, 3, none⟩ = some (.int .i64 nn) ∧ z.cell? ⟨w.heap.size, 4, none⟩ = some (.slice kb km kc) ∧ z.cell? ⟨w.heap.size, 5, none⟩ = some (.bool true)) z) := fun z hz => ⟨hz.cell rfl, hz.cell rfl, hz.cell rfl, hz.cell rfl, hz.cell rfl, hz.cell rfl⟩
    clear h
    go_enter Try.func12, Try.ntmps12
    obtain ⟨b0, b1, b2, b3, b4, b5⟩ := hS.out _ (SysX.blk hx.out)
    clear b1 b2 b3 b4
    go_wp2_with (first
      | (go_at_call 24; refine (x_fail hx.out).mono ?_; rintro e w1 ⟨rfl, h'⟩; clear hx; have hx : Hid _ := h'; clear h')
      | (go_at_call 31; refine (x_rfail hx.out).mono ?_; rintro e w1 ⟨rfl, h'⟩; clear hx; have hx : Hid _ := h'; clear h'))
    have h' := SysX.below hx.out (Below.refl _ _).drew
    clear hx
    have hx : Hid _ := h'
    clear h'
    obtain ⟨FR, gcR, vR, hR⟩ := SysX.ref hx.out
    have cR := hR.top.cell (i := 2) rfl
    clear hR
    refine wp_region_noPanic ?_
    refine wp_region_held_drew (S := fun z => z.cell? ⟨gr, 2, none⟩ = some (.bool true)) (by kernel_rfl) cR (fun hHeld => ?_)
    refine wpAnyH_take (i := 0) (v := ?_) rfl (by kernel_rfl) (by kernel_rfl) (by kernel_rfl) (fun _ _ _ h => h) (Or.inl ⟨by rfl, ?_⟩) (by assumption) ?_
    rotate_left
    · intro w hSw; go_simp; try with_reducible rfl
    go_simp
    refine wpAnyH_take (i := 2) (v := ?_) rfl (by kernel_rfl) (by kernel_rfl) (by kernel_rfl) (fun _ _ _ h => h) (Or.inl ⟨by rfl, ?_⟩) (by assumption) ?_
    rotate_left
    · intro w hSw; go_simp; try with_reducible rfl
    go_simp
    refine wpAnyH_take (i := 3) (v := ?_) rfl (by kernel_rfl) (by kernel_rfl) (by kernel_rfl) (fun _ _ _ h => h) (Or.inl ⟨by rfl, ?_⟩) (by assumption) ?_
    rotate_left
    · intro w hSw; go_simp; try with_reducible rfl
    go_simp
    refine wpAnyH_take (i := 4) (v := ?_) rfl (by kernel_rfl) (by kernel_rfl) (by kernel_rfl) (fun _ _ _ h => h) (Or.inl ⟨by rfl, ?_⟩) (by assumption) ?_
    rotate_left
    · intro w hSw; go_simp; try with_reducible rfl
    go_simp
    refine wpAnyH_take (i := 5) (v := ?_) rfl (by kernel_rfl) (by kernel_rfl) (by kernel_rfl) (fun _ _ _ h => h) (Or.inl ⟨by rfl, ?_⟩) (by assumption) ?_
    rotate_left
    · intro w hSw; go_simp; try with_reducible rfl
    go_simp
    refine wpAnyH_ready (rs := [1]) (by kernel_rfl) (by simp) (AllReadyH.cons rfl (fun K hK => ?_) AllReadyH.nil)
    go_simp
    go_at_call 14
    refine (x_dead hx.out).mono ?_
    rintro e wz ⟨rfl, hw'⟩
    rw [hw']
    clear hw' wz
    refine hK.out _ _ cR (fun hHeld => ?_)
    clear hK K
    refine wpAnyH_take (i := 6) (v := ?_) rfl (by kernel_rfl) (by kernel_rfl) (by kernel_rfl) (fun _ _ _ h => h) (Or.inl ⟨by rfl, ?_⟩) (by assumption) ?_
    rotate_left
    · intro w hSw; go_simp; try with_reducible rfl
    go_simp
    refine wpAnyH_take (i := 7) (v := ?_) rfl (by kernel_rfl) (by kernel_rfl) (by kernel_rfl) (fun _ _ _ h => h) (Or.inl ⟨by rfl, ?_⟩) (by assumption) ?_
    rotate_left
    · intro w hSw; go_simp; try with_reducible rfl
    go_simp
    refine wpAnyH_done (by kernel_rfl) ?_ _
    refine NoPanic.normal ?_
    go_wp2_with fail
    go_ret
    exact ⟨rfl, SysX.unbox hx.out⟩
set_option maxRecDepth 20000 in
set_option maxHeartbeats 2000000 in
theorem act_staym7 {B : Nat} {w0 w : World} {gd gr gi n : Nat} {l : Nat → ByteArray} {q : List Wr} {dead : Bool} {l' : Nat → ByteArray} {v : Value} {m : Nat} {f : Nat → ByteArray}
    (h : Sys B w0 w gd gr gi n l q dead l' q dead v m f) (hq : q.length ≤ 100000) (d a : Int) (s : ByteArray) (nn : Int) (kb : Option Addr) (km kc : Nat) (hk : km ≤ kc) (hkc : kc ≤ maxLen) (hd : d.tmod 8 = -7) :
    Calls Try.prog 12 #[.pointer (some ⟨gd, 0, none⟩), .pointer (some ⟨gr, 0, none⟩), .pointer (some ⟨gi, 0, none⟩), actV d a s nn (.slice kb km kc) false] w fun e w' => e = .returned (.bool true) ∧ Sys B w0 w' gd gr gi n l q dead l' q dead v m f := by
  have hq' : q.length ≤ 1000000 := by omega
  by_cases hkm : 100 < km
  · have hkI : (100 : Int) ≤ (km : Int) := by omega
    have hx : Hid (SysX B w0 (w.alloc (.cells #[.int .i64 d, .int .i64 a, .string s, .int .i64 nn, .slice kb 100 kc, .bool false] 35)) gd gr gi n l q dead l' q dead v m f w.heap.size [.int .i64 d, .int .i64 a, .string s, .int .i64 nn, .slice kb 100 kc, .bool false]) := Sys.box h #[.int .i64 d, .int .i64 a, .string s, .int .i64 nn, .slice kb 100 kc, .bool false]
    have hS : Hid (∀ z, Blk z w.heap.size 35 [.int .i64 d, .int .i64 a, .string s, .int .i64 nn, .slice kb 100 kc, .bool false] → (fun z => z.cell? ⟨w.heap.size, 0, none⟩ = some (.int .i64 d) ∧ z.cell? ⟨w.heap.size, 1, none⟩ = some (.int .i64 a) ∧ z.cell? ⟨w.heap.size, 2, none⟩ = some (.string s) ∧ z.cell? ⟨w.heap.size, 3, none⟩ = some (.int .i64 nn) ∧ z.cell? ⟨w.heap.size, 4, none⟩ = some (.slice kb 100 kc) ∧ z.cell? ⟨w.heap.size, 5, none⟩ = some (.bool false)) z) := fun z hz => ⟨hz.cell rfl, hz.cell rfl, hz.cell rfl, hz.cell rfl, hz.cell rfl, hz.cell rfl⟩
    clear h
    go_enter Try.func12, Try.ntmps12
    obtain ⟨b0, b1, b2, b3, b4, b5⟩ := hS.out _ (SysX.blk hx.out)
    clear b1 b2 b3 b4
    go_wp2_with fail
    have h' := SysX.below hx.out (Below.refl _ _).drew
    clear hx
    have hx : Hid _ := h'
    clear h'
    obtain ⟨FR, gcR, vR, hR⟩ := SysX.ref hx.out
    have cR := hR.top.cell (i := 2) rfl
    clear hR
    refine wp_region_noPanic ?_
    refine wp_region_held_drew (S := fun z => z.cell? ⟨gr, 2, none⟩ = some (.bool dead)) (by kernel_rfl) cR (fun hHeld => ?_)
    refine wpAnyH_take (i := 0) (v := ?_) rfl (by kernel_rfl) (by kernel_rfl) (by kernel_rfl) (fun _ _ _ h => h) (Or.inl ⟨by rfl, ?_⟩) (by assumption) ?_
    rotate_left
    · intro w hSw; go_simp; try with_reducible rfl
    go_simp
    refine wpAnyH_take (i := 2) (v := ?_) rfl (by kernel_rfl) (by kernel_rfl) (by kernel_rfl) (fun _ _ _ h => h) (Or.inl ⟨by rfl, ?_⟩) (by assumption) ?_
    rotate_left
    · intro w hSw; go_simp; try with_reducible rfl
    go_simp
    refine wpAnyH_take (i := 3) (v := ?_) rfl (by kernel_rfl) (by kernel_rfl) (by kernel_rfl) (fun _ _ _ h => h) (Or.inl ⟨by rfl, ?_⟩) (by assumption) ?_
    rotate_left
    · intro w hSw; go_simp; try with_reducible rfl
    go_simp
    refine wpAnyH_take (i := 4) (v := ?_) rfl (by kernel_rfl) (by kernel_rfl) (by kernel_rfl) (fun _ _ _ h => h) (Or.inl ⟨by rfl, ?_⟩) (by assumption) ?_
    rotate_left
    · intro w hSw; go_simp; try with_reducible rfl
    go_simp
    refine wpAnyH_take (i := 5) (v := ?_) rfl (by kernel_rfl) (by kernel_rfl) (by kernel_rfl) (fun _ _ _ h => h) (Or.inl ⟨by rfl, ?_⟩) (by assumption) ?_
    rotate_left
    · intro w hSw; go_simp; try with_reducible rfl
    go_simp
    refine wpAnyH_ready (rs := [1]) (by kernel_rfl) (by simp) (AllReadyH.cons rfl (fun K hK => ?_) AllReadyH.nil)
    go_simp
    go_at_call 14
    refine (x_dead hx.out).mono ?_
    rintro e wz ⟨rfl, hw'⟩
    rw [hw']
    clear hw' wz
    refine hK.out _ _ cR (fun hHeld => ?_)
    clear hK K
    refine wpAnyH_take (i := 6) (v := ?_) rfl (by kernel_rfl) (by kernel_rfl) (by kernel_rfl) (fun _ _ _ h => h) (Or.inl ⟨by rfl, ?_⟩) (by assumption) ?_
    rotate_left
    · intro w hSw; go_simp; try with_reducible rfl
    go_simp
    refine wpAnyH_take (i := 7) (v := ?_) rfl (by kernel_rfl) (by kernel_rfl) (by kernel_rfl) (fun _ _ _ h => h) (Or.inl ⟨by rfl, ?_⟩) (by assumption) ?_
    rotate_left
    · intro w hSw; go_simp; try with_reducible rfl
    go_simp
    refine wpAnyH_done (by kernel_rfl) ?_ _
    refine NoPanic.normal ?_
    go_wp2_with fail
    go_ret
    exact ⟨rfl, SysX.unbox hx.out⟩
  · have hkI : (km : Int) ≤ 100 := by omega
    have hx : Hid (SysX B w0 (w.alloc (.cells #[.int .i64 d, .int .i64 a, .string s, .int .i64 nn, .slice kb km kc, .bool false] 35)) gd gr gi n l q dead l' q dead v m f w.heap.size [.int .i64 d, .int .i64 a, .string s, .int .i64 nn, .slice kb km kc, .bool false]) := Sys.box h #[.int .i64 d, .int .i64 a, .string s, .int .i64 nn, .slice kb km kc, .bool false]
    have hS : Hid (∀ z, Blk z w.heap.size 35 [.int .i64 d, .int .i64 a, .string s, .int .i64 nn, .slice kb km kc, .bool false] → (fun z => z.cell? ⟨w.heap.size, 0, none⟩ = some (.int .i64 d) ∧ z.cell? ⟨w.heap.size, 1, none⟩ = some (.int .i64 a) ∧ z.cell? ⟨w.heap.size, 2, none⟩ = some (.string s) ∧ z.cell? ⟨w.heap.size, 3, none⟩ = some (.int .i64 nn) ∧ z.cell? ⟨w.heap.size, 4, none⟩ = some (.slice kb km kc) ∧ z.cell? ⟨w.heap.size, 5, none⟩ = some (.bool false)) z) := fun z hz => ⟨hz.cell rfl, hz.cell rfl, hz.cell rfl, hz.cell rfl, hz.cell rfl, hz.cell rfl⟩
    clear h
    go_enter Try.func12, Try.ntmps12
    obtain ⟨b0, b1, b2, b3, b4, b5⟩ := hS.out _ (SysX.blk hx.out)
    clear b1 b2 b3 b4
    go_wp2_with fail
    have h' := SysX.below hx.out (Below.refl _ _).drew
    clear hx
    have hx : Hid _ := h'
    clear h'
    obtain ⟨FR, gcR, vR, hR⟩ := SysX.ref hx.out
    have cR := hR.top.cell (i := 2) rfl
    clear hR
    refine wp_region_noPanic ?_
    refine wp_region_held_drew (S := fun z => z.cell? ⟨gr, 2, none⟩ = some (.bool dead)) (by kernel_rfl) cR (fun hHeld => ?_)
    refine wpAnyH_take (i := 0) (v := ?_) rfl (by kernel_rfl) (by kernel_rfl) (by kernel_rfl) (fun _ _ _ h => h) (Or.inl ⟨by rfl, ?_⟩) (by assumption) ?_
    rotate_left
    · intro w hSw; go_simp; try with_reducible rfl
    go_simp
    refine wpAnyH_take (i := 2) (v := ?_) rfl (by kernel_rfl) (by kernel_rfl) (by kernel_rfl) (fun _ _ _ h => h) (Or.inl ⟨by rfl, ?_⟩) (by assumption) ?_
    rotate_left
    · intro w hSw; go_simp; try with_reducible rfl
    go_simp
    refine wpAnyH_take (i := 3) (v := ?_) rfl (by kernel_rfl) (by kernel_rfl) (by kernel_rfl) (fun _ _ _ h => h) (Or.inl ⟨by rfl, ?_⟩) (by assumption) ?_
    rotate_left
    · intro w hSw; go_simp; try with_reducible rfl
    go_simp
    refine wpAnyH_take (i := 4) (v := ?_) rfl (by kernel_rfl) (by kernel_rfl) (by kernel_rfl) (fun _ _ _ h => h) (Or.inl ⟨by rfl, ?_⟩) (by assumption) ?_
    rotate_left
    · intro w hSw; go_simp; try with_reducible rfl
    go_simp
    refine wpAnyH_take (i := 5) (v := ?_) rfl (by kernel_rfl) (by kernel_rfl) (by kernel_rfl) (fun _ _ _ h => h) (Or.inl ⟨by rfl, ?_⟩) (by assumption) ?_
    rotate_left
    · intro w hSw; go_simp; try with_reducible rfl
    go_simp
    refine wpAnyH_ready (rs := [1]) (by kernel_rfl) (by simp) (AllReadyH.cons rfl (fun K hK => ?_) AllReadyH.nil)
    go_simp
    go_at_call 14
    refine (x_dead hx.out).mono ?_
    rintro e wz ⟨rfl, hw'⟩
    rw [hw']
    clear hw' wz
    refine hK.out _ _ cR (fun hHeld => ?_)
    clear hK K
    refine wpAnyH_take (i := 6) (v := ?_) rfl (by kernel_rfl) (by kernel_rfl) (by kernel_rfl) (fun _ _ _ h => h) (Or.inl ⟨by rfl, ?_⟩) (by assumption) ?_
    rotate_left
    · intro w hSw; go_simp; try with_reducible rfl
    go_simp
    refine wpAnyH_take (i := 7) (v := ?_) rfl (by kernel_rfl) (by kernel_rfl) (by kernel_rfl) (fun _ _ _ h => h) (Or.inl ⟨by rfl, ?_⟩) (by assumption) ?_
    rotate_left
    · intro w hSw; go_simp; try with_reducible rfl
    go_simp
    refine wpAnyH_done (by kernel_rfl) ?_ _
    refine NoPanic.normal ?_
    go_wp2_with fail
    go_ret
    exact ⟨rfl, SysX.unbox hx.out⟩
end Go.Proofs.Ytmgllcmfnljfjaa
