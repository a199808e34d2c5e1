/- One act: Crash. -/
import Derived.Test.YtmgllcmfnljfjaaDkAct0
namespace Go.Proofs.Ytmgllcmfnljfjaa
open Go.RowKit Go.PlainAid
set_option linter.unusedVariables false

set_option maxRecDepth 20000 in
set_option maxHeartbeats 2000000 in
theorem act_crash4 {B : Nat} {w0 w : World} {gd gr gi n : Nat} {l : Nat → ByteArray} {q : List Wr} {dead : Bool} {l' : Nat → ByteArray} {v : Value} {m : Nat} {f : Nat → ByteArray}
    (h : Sys B w0 w gd gr gi n l q dead l' q dead v m f) (hq : q.length ≤ 100000) (d a : Int) (s : ByteArray) (nn : Int) (kb : Option Addr) (km kc : Nat) (x : Bool) (hk : km ≤ kc) (hkc : kc ≤ maxLen) (kk : Nat → Bool) (hv : BoolsAt w0 (.slice kb km kc) km kk) (ho : Old B (.slice kb km kc)) (hd : d.tmod 8 = 4) :
    Calls Try.prog 12 #[.pointer (some ⟨gd, 0, none⟩), .pointer (some ⟨gr, 0, none⟩), .pointer (some ⟨gi, 0, none⟩), actV d a s nn (.slice kb km kc) x] w fun e w' => e = .returned (.bool true) ∧ ∃ kx : Nat → Bool, Sys B w0 w' gd gr gi n (crashL l q dead kx) (flushQ q dead) dead (crashL l' q dead kx) (flushQ q dead) dead v m f := by
  have hq' : q.length ≤ 1000000 := by omega
  have HB : Hid (∀ j, j ≤ km → j ≤ 100000000 → Hid ((∀ z, Below B w0 z → B ≤ z.heap.size → BoolsAt z (.slice kb j kc) j (fun i => if i < j then kk i else false)) ∧ Old B (.slice kb j kc))) := fun j hj _ =>
    ⟨fun z hz hB => (hv.old ho hz hB).cut j hj, fun a n c e e0 => by cases e; exact ho a km kc rfl (by omega)⟩
  clear hv ho
  by_cases hkm : 100 < km
  · have hkI : (100 : Int) ≤ (km : Int) := by omega
    have hx : Hid (SysX B w0 (w.alloc (.cells #[.int .i64 d, .int .i64 a, .string s, .int .i64 nn, .slice kb 100 kc, .bool x] 35)) gd gr gi n l q dead l' q dead v m f w.heap.size [.int .i64 d, .int .i64 a, .string s, .int .i64 nn, .slice kb 100 kc, .bool x]) := Sys.box h #[.int .i64 d, .int .i64 a, .string s, .int .i64 nn, .slice kb 100 kc, .bool x]
    have hS : Hid (∀ z, Blk z w.heap.size 35 [.int .i64 d, .int .i64 a, .string s, .int .i64 nn, .slice kb 100 kc, .bool x] → (fun z => z.cell? ⟨w.heap.size, 0, none⟩ = some (.int .i64 d) ∧ z.cell? ⟨w.heap.size, 1, none⟩ = some (.int .i64 a) ∧ z.cell? ⟨w.heap.size, 2, none⟩ = some (.string s) ∧ z.cell? ⟨w.heap.size, 3, none⟩ = some (.int .i64 nn) ∧ z.cell? ⟨w.heap.size, 4, none⟩ = some (.slice kb 100 kc) ∧ z.cell? ⟨w.heap.size, 5, none⟩ = some (.bool x)) z) := fun z hz => ⟨hz.cell rfl, hz.cell rfl, hz.cell rfl, hz.cell rfl, hz.cell rfl, hz.cell rfl⟩
    clear h
    go_enter Try.func12, Try.ntmps12
    obtain ⟨b0, b1, b2, b3, b4, b5⟩ := hS.out _ (SysX.blk hx.out)
    clear b1 b2 b3 b5
    have hbo := HB.out 100 (by omega) (by omega)
    go_wp2_with (first
      | (go_at_call 19; refine (x_crash hx.out _ 100 _ (hbo.out.1 _ hx.out.2.1 hx.out.1) (by omega) hq' hbo.out.2).mono ?_; rintro e w1 ⟨rfl, h'⟩; clear hx; have hx : Hid _ := h'; clear h' b0 b4; obtain ⟨b0, b1, b2, b3, b4, b5⟩ := hS.out _ (SysX.blk hx.out); clear b0 b1 b2 b3 b5)
      | (go_at_call 28; refine (x_rcrash hx.out _ 100 _ (hbo.out.1 _ hx.out.2.1 hx.out.1) (by omega) hq' hbo.out.2).mono ?_; rintro e w1 ⟨rfl, h'⟩; clear hx; have hx : Hid _ := h'; clear h'))
    go_ret
    exact ⟨rfl, _, SysX.unbox hx.out⟩
  · have hkI : (km : Int) ≤ 100 := by omega
    have hx : Hid (SysX B w0 (w.alloc (.cells #[.int .i64 d, .int .i64 a, .string s, .int .i64 nn, .slice kb km kc, .bool x] 35)) gd gr gi n l q dead l' q dead v m f w.heap.size [.int .i64 d, .int .i64 a, .string s, .int .i64 nn, .slice kb km kc, .bool x]) := Sys.box h #[.int .i64 d, .int .i64 a, .string s, .int .i64 nn, .slice kb km kc, .bool x]
    have hS : Hid (∀ z, Blk z w.heap.size 35 [.int .i64 d, .int .i64 a, .string s, .int .i64 nn, .slice kb km kc, .bool x] → (fun z => z.cell? ⟨w.heap.size, 0, none⟩ = some (.int .i64 d) ∧ z.cell? ⟨w.heap.size, 1, none⟩ = some (.int .i64 a) ∧ z.cell? ⟨w.heap.size, 2, none⟩ = some (.string s) ∧ z.cell? ⟨w.heap.size, 3, none⟩ = some (.int .i64 nn) ∧ z.cell? ⟨w.heap.size, 4, none⟩ = some (.slice kb km kc) ∧ z.cell? ⟨w.heap.size, 5, none⟩ = some (.bool x)) z) := fun z hz => ⟨hz.cell rfl, hz.cell rfl, hz.cell rfl, hz.cell rfl, hz.cell rfl, hz.cell rfl⟩
    clear h
    go_enter Try.func12, Try.ntmps12
    obtain ⟨b0, b1, b2, b3, b4, b5⟩ := hS.out _ (SysX.blk hx.out)
    clear b1 b2 b3 b5
    have hbo := HB.out km (by omega) (by omega)
    go_wp2_with (first
      | (go_at_call 19; refine (x_crash hx.out _ km _ (hbo.out.1 _ hx.out.2.1 hx.out.1) (by omega) hq' hbo.out.2).mono ?_; rintro e w1 ⟨rfl, h'⟩; clear hx; have hx : Hid _ := h'; clear h' b0 b4; obtain ⟨b0, b1, b2, b3, b4, b5⟩ := hS.out _ (SysX.blk hx.out); clear b0 b1 b2 b3 b5)
      | (go_at_call 28; refine (x_rcrash hx.out _ km _ (hbo.out.1 _ hx.out.2.1 hx.out.1) (by omega) hq' hbo.out.2).mono ?_; rintro e w1 ⟨rfl, h'⟩; clear hx; have hx : Hid _ := h'; clear h'))
    go_ret
    exact ⟨rfl, _, SysX.unbox hx.out⟩
set_option maxRecDepth 20000 in
set_option maxHeartbeats 2000000 in
theorem act_crashm4 {B : Nat} {w0 w : World} {gd gr gi n : Nat} {l : Nat → ByteArray} {q : List Wr} {dead : Bool} {l' : Nat → ByteArray} {v : Value} {m : Nat} {f : Nat → ByteArray}
    (h : Sys B w0 w gd gr gi n l q dead l' q dead v m f) (hq : q.length ≤ 100000) (d a : Int) (s : ByteArray) (nn : Int) (kb : Option Addr) (km kc : Nat) (x : Bool) (hk : km ≤ kc) (hkc : kc ≤ maxLen) (kk : Nat → Bool) (hv : BoolsAt w0 (.slice kb km kc) km kk) (ho : Old B (.slice kb km kc)) (hd : d.tmod 8 = -4) :
    Calls Try.prog 12 #[.pointer (some ⟨gd, 0, none⟩), .pointer (some ⟨gr, 0, none⟩), .pointer (some ⟨gi, 0, none⟩), actV d a s nn (.slice kb km kc) x] w fun e w' => e = .returned (.bool true) ∧ ∃ kx : Nat → Bool, Sys B w0 w' gd gr gi n (crashL l q dead kx) (flushQ q dead) dead (crashL l' q dead kx) (flushQ q dead) dead v m f := by
  have hq' : q.length ≤ 1000000 := by omega
  have HB : Hid (∀ j, j ≤ km → j ≤ 100000000 → Hid ((∀ z, Below B w0 z → B ≤ z.heap.size → BoolsAt z (.slice kb j kc) j (fun i => if i < j then kk i else false)) ∧ Old B (.slice kb j kc))) := fun j hj _ =>
    ⟨fun z hz hB => (hv.old ho hz hB).cut j hj, fun a n c e e0 => by cases e; exact ho a km kc rfl (by omega)⟩
  clear hv ho
  by_cases hkm : 100 < km
  · have hkI : (100 : Int) ≤ (km : Int) := by omega
    have hx : Hid (SysX B w0 (w.alloc (.cells #[.int .i64 d, .int .i64 a, .string s, .int .i64 nn, .slice kb 100 kc, .bool x] 35)) gd gr gi n l q dead l' q dead v m f w.heap.size [.int .i64 d, .int .i64 a, .string s, .int .i64 nn, .slice kb 100 kc, .bool x]) := Sys.box h #[.int .i64 d, .int .i64 a, .string s, .int .i64 nn, .slice kb 100 kc, .bool x]
    have hS : Hid (∀ z, Blk z w.heap.size 35 [.int .i64 d, .int .i64 a, .string s, .int .i64 nn, .slice kb 100 kc, .bool x] → (fun z => z.cell? ⟨w.heap.size, 0, none⟩ = some (.int .i64 d) ∧ z.cell? ⟨w.heap.size, 1, none⟩ = some (.int .i64 a) ∧ z.cell? ⟨w.heap.size, 2, none⟩ = some (.string s) ∧ z.cell? ⟨w.heap.size, 3, none⟩ = some (.int .i64 nn) ∧ z.cell? ⟨w.heap.size, 4, none⟩ = some (.slice kb 100 kc) ∧ z.cell? ⟨w.heap.size, 5, none⟩ = some (.bool x)) z) := fun z hz => ⟨hz.cell rfl, hz.cell rfl, hz.cell rfl, hz.cell rfl, hz.cell rfl, hz.cell rfl⟩
    clear h
    go_enter Try.func12, Try.ntmps12
    obtain ⟨b0, b1, b2, b3, b4, b5⟩ := hS.out _ (SysX.blk hx.out)
    clear b1 b2 b3 b5
    have hbo := HB.out 100 (by omega) (by omega)
    go_wp2_with (first
      | (go_at_call 19; refine (x_crash hx.out _ 100 _ (hbo.out.1 _ hx.out.2.1 hx.out.1) (by omega) hq' hbo.out.2).mono ?_; rintro e w1 ⟨rfl, h'⟩; clear hx; have hx : Hid _ := h'; clear h' b0 b4; obtain ⟨b0, b1, b2, b3, b4, b5⟩ := hS.out _ (SysX.blk hx.out); clear b0 b1 b2 b3 b5)
      | (go_at_call 28; refine (x_rcrash hx.out _ 100 _ (hbo.out.1 _ hx.out.2.1 hx.out.1) (by omega) hq' hbo.out.2).mono ?_; rintro e w1 ⟨rfl, h'⟩; clear hx; have hx : Hid _ := h'; clear h'))
    go_ret
    exact ⟨rfl, _, SysX.unbox hx.out⟩
  · have hkI : (km : Int) ≤ 100 := by omega
    have hx : Hid (SysX B w0 (w.alloc (.cells #[.int .i64 d, .int .i64 a, .string s, .int .i64 nn, .slice kb km kc, .bool x] 35)) gd gr gi n l q dead l' q dead v m f w.heap.size [.int .i64 d, .int .i64 a, .string s, .int .i64 nn, .slice kb km kc, .bool x]) := Sys.box h #[.int .i64 d, .int .i64 a, .string s, .int .i64 nn, .slice kb km kc, .bool x]
    have hS : Hid (∀ z, Blk z w.heap.size 35 [.int .i64 d, .int .i64 a, .string s, .int .i64 nn, .slice kb km kc, .bool x] → (fun z => z.cell? ⟨w.heap.size, 0, none⟩ = some (.int .i64 d) ∧ z.cell? ⟨w.heap.size, 1, none⟩ = some (.int .i64 a) ∧ z.cell? ⟨w.heap.size, 2, none⟩ = some (.string s) ∧ z.cell? ⟨w.heap.size, 3, none⟩ = some (.int .i64 nn) ∧ z.cell? ⟨w.heap.size, 4, none⟩ = some (.slice kb km kc) ∧ z.cell? ⟨w.heap.size, 5, none⟩ = some (.bool x)) z) := fun z hz => ⟨hz.cell rfl, hz.cell rfl, hz.cell rfl, hz.cell rfl, hz.cell rfl, hz.cell rfl⟩
    clear h
    go_enter Try.func12, Try.ntmps12
    obtain ⟨b0, b1, b2, b3, b4, b5⟩ := hS.out _ (SysX.blk hx.out)
    clear b1 b2 b3 b5
    have hbo := HB.out km (by omega) (by omega)
    go_wp2_with (first
      | (go_at_call 19; refine (x_crash hx.out _ km _ (hbo.out.1 _ hx.out.2.1 hx.out.1) (by omega) hq' hbo.out.2).mono ?_; rintro e w1 ⟨rfl, h'⟩; clear hx; have hx : Hid _ := h'; clear h' b0 b4; obtain ⟨b0, b1, b2, b3, b4, b5⟩ := hS.out _ (SysX.blk hx.out); clear b0 b1 b2 b3 b5)
      | (go_at_call 28; refine (x_rcrash hx.out _ km _ (hbo.out.1 _ hx.out.2.1 hx.out.1) (by omega) hq' hbo.out.2).mono ?_; rintro e w1 ⟨rfl, h'⟩; clear hx; have hx : Hid _ := h'; clear h'))
    go_ret
    exact ⟨rfl, _, SysX.unbox hx.out⟩
end Go.Proofs.Ytmgllcmfnljfjaa
