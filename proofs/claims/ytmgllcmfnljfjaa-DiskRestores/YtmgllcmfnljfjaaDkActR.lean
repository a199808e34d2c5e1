/- One act: Read. -/
import Derived.Test.YtmgllcmfnljfjaaDkAct0
namespace Go.Proofs.Ytmgllcmfnljfjaa
open Go.RowKit Go.PlainAid
set_option linter.unusedVariables false

set_option maxRecDepth 20000 in
set_option maxHeartbeats 2000000 in
theorem act_read2 {B : Nat} {w0 w : World} {gd gr gi n : Nat} {l : Nat → ByteArray} {q : List Wr} {dead : Bool} {l' : Nat → ByteArray} {v : Value} {m : Nat} {f : Nat → ByteArray}
    (h : Sys B w0 w gd gr gi n l q dead l' q dead v m f) (hq : q.length ≤ 100000) (d a : Int) (s : ByteArray) (nn : Int) (kb : Option Addr) (km kc : Nat) (x : Bool) (hk : km ≤ kc) (hkc : kc ≤ maxLen) (hrd : readB l' q dead n a = readB l q dead n a) (hd : d.tmod 8 = 2) :
    Calls Try.prog 12 #[.pointer (some ⟨gd, 0, none⟩), .pointer (some ⟨gr, 0, none⟩), .pointer (some ⟨gi, 0, none⟩), actV d a s nn (.slice kb km kc) x] w fun e w' => e = .returned (.bool true) ∧ Sys B w0 w' gd gr gi n l q dead l' q dead v m f := by
  obtain ⟨E, hE⟩ : ∃ E, errA dead n a = E := ⟨_, rfl⟩
  have hq' : q.length ≤ 1000000 := by omega
  by_cases hkm : 100 < km
  · have hkI : (100 : Int) ≤ (km : Int) := by omega
    have hx : Hid (SysX B w0 (w.alloc (.cells #[.int .i64 d, .int .i64 a, .string s, .int .i64 nn, .slice kb 100 kc, .bool x] 35)) gd gr gi n l q dead l' q dead v m f w.heap.size [.int .i64 d, .int .i64 a, .string s, .int .i64 nn, .slice kb 100 kc, .bool x]) := Sys.box h #[.int .i64 d, .int .i64 a, .string s, .int .i64 nn, .slice kb 100 kc, .bool x]
    have hS : Hid (∀ z, Blk z w.heap.size 35 [.int .i64 d, .int .i64 a, .string s, .int .i64 nn, .slice kb 100 kc, .bool x] → (fun z => z.cell? ⟨w.heap.size, 0, none⟩ = some (.int .i64 d) ∧ z.cell? ⟨w.heap.size, 1, none⟩ = some (.int .i64 a) ∧ z.cell? ⟨w.heap.size, 2, none⟩ = some (.string s) ∧ z.cell? ⟨w.heap.size, 3, none⟩ = some (.int .i64 nn) ∧ z.cell? ⟨w.heap.size, 4, none⟩ = some (.slice kb 100 kc) ∧ z.cell? ⟨w.heap.size, 5, none⟩ = some (.bool x)) z) := fun z hz => ⟨hz.cell rfl, hz.cell rfl, hz.cell rfl, hz.cell rfl, hz.cell rfl, hz.cell rfl⟩
    clear h
    go_enter Try.func12, Try.ntmps12
    obtain ⟨b0, b1, b2, b3, b4, b5⟩ := hS.out _ (SysX.blk hx.out)
    clear b2 b3 b4 b5
    go_wp2_with (first
      | (go_at_call 20; refine (x_read hx.out _).mono ?_; rintro e w1 ⟨rfl, hw'⟩; rw [hw']; clear hw' w1)
      | (go_at_call 26; refine (x_rread hx.out _ hq').mono ?_; rintro e w1 ⟨rfl, hw'⟩; rw [hw', hrd]; clear hw' w1))
    go_ret
    exact ⟨rfl, SysX.unbox hx.out⟩
  · have hkI : (km : Int) ≤ 100 := by omega
    have hx : Hid (SysX B w0 (w.alloc (.cells #[.int .i64 d, .int .i64 a, .string s, .int .i64 nn, .slice kb km kc, .bool x] 35)) gd gr gi n l q dead l' q dead v m f w.heap.size [.int .i64 d, .int .i64 a, .string s, .int .i64 nn, .slice kb km kc, .bool x]) := Sys.box h #[.int .i64 d, .int .i64 a, .string s, .int .i64 nn, .slice kb km kc, .bool x]
    have hS : Hid (∀ z, Blk z w.heap.size 35 [.int .i64 d, .int .i64 a, .string s, .int .i64 nn, .slice kb km kc, .bool x] → (fun z => z.cell? ⟨w.heap.size, 0, none⟩ = some (.int .i64 d) ∧ z.cell? ⟨w.heap.size, 1, none⟩ = some (.int .i64 a) ∧ z.cell? ⟨w.heap.size, 2, none⟩ = some (.string s) ∧ z.cell? ⟨w.heap.size, 3, none⟩ = some (.int .i64 nn) ∧ z.cell? ⟨w.heap.size, 4, none⟩ = some (.slice kb km kc) ∧ z.cell? ⟨w.heap.size, 5, none⟩ = some (.bool x)) z) := fun z hz => ⟨hz.cell rfl, hz.cell rfl, hz.cell rfl, hz.cell rfl, hz.cell rfl, hz.cell rfl⟩
    clear h
    go_enter Try.func12, Try.ntmps12
    obtain ⟨b0, b1, b2, b3, b4, b5⟩ := hS.out _ (SysX.blk hx.out)
    clear b2 b3 b4 b5
    go_wp2_with (first
      | (go_at_call 20; refine (x_read hx.out _).mono ?_; rintro e w1 ⟨rfl, hw'⟩; rw [hw']; clear hw' w1)
      | (go_at_call 26; refine (x_rread hx.out _ hq').mono ?_; rintro e w1 ⟨rfl, hw'⟩; rw [hw', hrd]; clear hw' w1))
    go_ret
    exact ⟨rfl, SysX.unbox hx.out⟩
set_option maxRecDepth 20000 in
set_option maxHeartbeats 2000000 in
theorem act_readm2 {B : Nat} {w0 w : World} {gd gr gi n : Nat} {l : Nat → ByteArray} {q : List Wr} {dead : Bool} {l' : Nat → ByteArray} {v : Value} {m : Nat} {f : Nat → ByteArray}
    (h : Sys B w0 w gd gr gi n l q dead l' q dead v m f) (hq : q.length ≤ 100000) (d a : Int) (s : ByteArray) (nn : Int) (kb : Option Addr) (km kc : Nat) (x : Bool) (hk : km ≤ kc) (hkc : kc ≤ maxLen) (hrd : readB l' q dead n a = readB l q dead n a) (hd : d.tmod 8 = -2) :
    Calls Try.prog 12 #[.pointer (some ⟨gd, 0, none⟩), .pointer (some ⟨gr, 0, none⟩), .pointer (some ⟨gi, 0, none⟩), actV d a s nn (.slice kb km kc) x] w fun e w' => e = .returned (.bool true) ∧ Sys B w0 w' gd gr gi n l q dead l' q dead v m f := by
  obtain ⟨E, hE⟩ : ∃ E, errA dead n a = E := ⟨_, rfl⟩
  have hq' : q.length ≤ 1000000 := by omega
  by_cases hkm : 100 < km
  · have hkI : (100 : Int) ≤ (km : Int) := by omega
    have hx : Hid (SysX B w0 (w.alloc (.cells #[.int .i64 d, .int .i64 a, .string s, .int .i64 nn, .slice kb 100 kc, .bool x] 35)) gd gr gi n l q dead l' q dead v m f w.heap.size [.int .i64 d, .int .i64 a, .string s, .int .i64 nn, .slice kb 100 kc, .bool x]) := Sys.box h #[.int .i64 d, .int .i64 a, .string s, .int .i64 nn, .slice kb 100 kc, .bool x]
    have hS : Hid (∀ z, Blk z w.heap.size 35 [.int .i64 d, .int .i64 a, .string s, .int .i64 nn, .slice kb 100 kc, .bool x] → (fun z => z.cell? ⟨w.heap.size, 0, none⟩ = some (.int .i64 d) ∧ z.cell? ⟨w.heap.size, 1, none⟩ = some (.int .i64 a) ∧ z.cell? ⟨w.heap.size, 2, none⟩ = some (.string s) ∧ z.cell? ⟨w.heap.size, 3, none⟩ = some (.int .i64 nn) ∧ z.cell? ⟨w.heap.size, 4, none⟩ = some (.slice kb 100 kc) ∧ z.cell? ⟨w.heap.size, 5, none⟩ = some (.bool x)) z) := fun z hz => ⟨hz.cell rfl, hz.cell rfl, hz.cell rfl, hz.cell rfl, hz.cell rfl, hz.cell rfl⟩
    clear h
    go_enter Try.func12, Try.ntmps12
    obtain ⟨b0, b1, b2, b3, b4, b5⟩ := hS.out _ (SysX.blk hx.out)
    clear b2 b3 b4 b5
    go_wp2_with (first
      | (go_at_call 20; refine (x_read hx.out _).mono ?_; rintro e w1 ⟨rfl, hw'⟩; rw [hw']; clear hw' w1)
      | (go_at_call 26; refine (x_rread hx.out _ hq').mono ?_; rintro e w1 ⟨rfl, hw'⟩; rw [hw', hrd]; clear hw' w1))
    go_ret
    exact ⟨rfl, SysX.unbox hx.out⟩
  · have hkI : (km : Int) ≤ 100 := by omega
    have hx : Hid (SysX B w0 (w.alloc (.cells #[.int .i64 d, .int .i64 a, .string s, .int .i64 nn, .slice kb km kc, .bool x] 35)) gd gr gi n l q dead l' q dead v m f w.heap.size [.int .i64 d, .int .i64 a, .string s, .int .i64 nn, .slice kb km kc, .bool x]) := Sys.box h #[.int .i64 d, .int .i64 a, .string s, .int .i64 nn, .slice kb km kc, .bool x]
    have hS : Hid (∀ z, Blk z w.heap.size 35 [.int .i64 d, .int .i64 a, .string s, .int .i64 nn, .slice kb km kc, .bool x] → (fun z => z.cell? ⟨w.heap.size, 0, none⟩ = some (.int .i64 d) ∧ z.cell? ⟨w.heap.size, 1, none⟩ = some (.int .i64 a) ∧ z.cell? ⟨w.heap.size, 2, none⟩ = some (.string s) ∧ z.cell? ⟨w.heap.size, 3, none⟩ = some (.int .i64 nn) ∧ z.cell? ⟨w.heap.size, 4, none⟩ = some (.slice kb km kc) ∧ z.cell? ⟨w.heap.size, 5, none⟩ = some (.bool x)) z) := fun z hz => ⟨hz.cell rfl, hz.cell rfl, hz.cell rfl, hz.cell rfl, hz.cell rfl, hz.cell rfl⟩
    clear h
    go_enter Try.func12, Try.ntmps12
    obtain ⟨b0, b1, b2, b3, b4, b5⟩ := hS.out _ (SysX.blk hx.out)
    clear b2 b3 b4 b5
    go_wp2_with (first
      | (go_at_call 20; refine (x_read hx.out _).mono ?_; rintro e w1 ⟨rfl, hw'⟩; rw [hw']; clear hw' w1)
      | (go_at_call 26; refine (x_rread hx.out _ hq').mono ?_; rintro e w1 ⟨rfl, hw'⟩; rw [hw', hrd]; clear hw' w1))
    go_ret
    exact ⟨rfl, SysX.unbox hx.out⟩
end Go.Proofs.Ytmgllcmfnljfjaa
