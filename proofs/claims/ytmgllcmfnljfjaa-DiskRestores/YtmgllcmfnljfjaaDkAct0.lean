/- One act on both disks: what is common to all. -/
import Derived.Test.YtmgllcmfnljfjaaDkPack
namespace Go.Proofs.Ytmgllcmfnljfjaa
open Go.RowKit Go.PlainAid
set_option linter.unusedVariables false

/-- Both disks and the variable that holds an image. -/
def Sys (B : Nat) (w0 w : World) (gd gr gi n : Nat) (l : Nat → ByteArray) (q : List Wr) (dead : Bool) (l' : Nat → ByteArray) (q' : List Wr) (dead' : Bool) (v : Value) (m : Nat) (f : Nat → ByteArray) : Prop :=
  Hold B w0 w (star (dsk gd n l q dead) (star (rf gr n l' q' dead') (star (blk gi 27 [v]) (txt v m f))))
/-- .. and the block of an act. -/
def SysX (B : Nat) (w0 w : World) (gd gr gi n : Nat) (l : Nat → ByteArray) (q : List Wr) (dead : Bool) (l' : Nat → ByteArray) (q' : List Wr) (dead' : Bool) (v : Value) (m : Nat) (f : Nat → ByteArray) (bx : Nat) (L : List Value) : Prop :=
  Hold B w0 w (star (dsk gd n l q dead) (star (rf gr n l' q' dead') (star (blk bx 35 L) (star (blk gi 27 [v]) (txt v m f)))))
theorem firm_sys {gr gi n : Nat} {l' : Nat → ByteArray} {q' : List Wr} {dead' : Bool} {v : Value} {m : Nat} {f : Nat → ByteArray} : Firm (star (rf gr n l' q' dead') (star (blk gi 27 [v]) (txt v m f))) := (firm_rf _ _ _ _ _).star ((firm_blk _ _ _).star (firm_txt _ _ _))
theorem firm_x {v : Value} {m gi bx : Nat} {f : Nat → ByteArray} {L : List Value} : Firm (star (blk bx 35 L) (star (blk gi 27 [v]) (txt v m f))) := (firm_blk _ _ _).star ((firm_blk _ _ _).star (firm_txt _ _ _))
section
variable {B : Nat} {w0 w : World} {gd gr gi n : Nat} {l : Nat → ByteArray} {q : List Wr} {dead : Bool} {l' : Nat → ByteArray} {q' : List Wr} {dead' : Bool} {v : Value} {m : Nat} {f : Nat → ByteArray} {bx : Nat} {L : List Value}
theorem Sys.box (h : Sys B w0 w gd gr gi n l q dead l' q' dead' v m f) (A : Array Value) : SysX B w0 (w.alloc (.cells A 35)) gd gr gi n l q dead l' q' dead' v m f w.heap.size A.toList := by
  have h1 : Hold B w0 (w.alloc (.cells A 35)) (star (blk w.heap.size 35 A.toList) (star (dsk gd n l q dead) (star (rf gr n l' q' dead') (star (blk gi 27 [v]) (txt v m f))))) :=
    Hold.new ((firm_dsk _ _ _ _ _).star firm_sys) h ((Below.refl _ _).alloc (Nat.le_refl _) _) (G := fun k => k = w.heap.size) ⟨Blk.new w 35 A, fun k => Iff.rfl⟩ (fun k hk => by rw [hk]; exact Nat.le_refl _)
  exact h1.swap.monoR (fun F => star_swap)
theorem SysX.unbox (h : SysX B w0 w gd gr gi n l q dead l' q' dead' v m f bx L) : Sys B w0 w gd gr gi n l q dead l' q' dead' v m f :=
  (Hold.monoR h (fun F => star_swap)).swap.right
theorem SysX.blk (h : SysX B w0 w gd gr gi n l q dead l' q' dead' v m f bx L) : Blk w bx 35 L := (Hold.monoR h (fun F => star_swap)).swap.blk
theorem SysX.firm : Firm (star (dsk gd n l q dead) (star (rf gr n l' q' dead') (star (Go.Proofs.Ytmgllcmfnljfjaa.blk bx 35 L) (star (Go.Proofs.Ytmgllcmfnljfjaa.blk gi 27 [v]) (txt v m f))))) := (firm_dsk _ _ _ _ _).star ((firm_rf _ _ _ _ _).star firm_x)
theorem SysX.below {w' : World} (h : SysX B w0 w gd gr gi n l q dead l' q' dead' v m f bx L) (hb : Below w.heap.size w w') : SysX B w0 w' gd gr gi n l q dead l' q' dead' v m f bx L := Hold.below h SysX.firm hb
theorem Sys.below {w' : World} (h : Sys B w0 w gd gr gi n l q dead l' q' dead' v m f) (hb : Below w.heap.size w w') : Sys B w0 w' gd gr gi n l q dead l' q' dead' v m f := Hold.below h ((firm_dsk _ _ _ _ _).star firm_sys) hb
theorem SysX.disk (h : SysX B w0 w gd gr gi n l q dead l' q' dead' v m f bx L) : ∃ F, DiskAt w F gd n l q dead := Hold.dsk h
theorem SysX.ref (h : SysX B w0 w gd gr gi n l q dead l' q' dead' v m f bx L) : ∃ F, RefAt w F gr n l' q' dead' := Hold.rf h.swap
theorem Sys.disk (h : Sys B w0 w gd gr gi n l q dead l' q' dead' v m f) : ∃ F, DiskAt w F gd n l q dead := Hold.dsk h
theorem Sys.ref (h : Sys B w0 w gd gr gi n l q dead l' q' dead' v m f) : ∃ F, RefAt w F gr n l' q' dead' := Hold.rf h.swap
theorem x_write (h : SysX B w0 w gd gr gi n l q dead l' q' dead' v m f bx L) (at_ : Int) (s : ByteArray) (hq : q.length ≤ 1000000) : Calls Try.prog 21 #[.pointer (some ⟨gd, 0, none⟩), .int .i64 at_, .string s] w fun e w' => e = .returned (.int .i64 (errW dead n at_ s)) ∧ SysX B w0 w' gd gr gi n l (putQ q dead n at_ s) dead l' q' dead' v m f bx L := h_write ((firm_rf _ _ _ _ _).star firm_x) h at_ s hq
theorem x_put (h : SysX B w0 w gd gr gi n l q dead l' q' dead' v m f bx L) (at_ : Int) (s : ByteArray) (hq : q'.length ≤ 1000000) : Calls Try.prog 32 #[.pointer (some ⟨gr, 0, none⟩), .int .i64 at_, .string s] w fun e w' => e = .returned (.int .i64 (errW dead' n at_ s)) ∧ SysX B w0 w' gd gr gi n l q dead l' (putQ q' dead' n at_ s) dead' v m f bx L :=
  (h_put ((firm_dsk _ _ _ _ _).star firm_x) (Hold.swap h) at_ s hq).mono fun e w' ⟨he, h'⟩ => ⟨he, Hold.swap h'⟩
theorem x_flush (h : SysX B w0 w gd gr gi n l q dead l' q' dead' v m f bx L) : Calls Try.prog 22 #[.pointer (some ⟨gd, 0, none⟩)] w fun e w' => e = .returned (.int .i64 (errD dead)) ∧ SysX B w0 w' gd gr gi n (flushL l q dead) (flushQ q dead) dead l' q' dead' v m f bx L := h_flush ((firm_rf _ _ _ _ _).star firm_x) h
theorem x_rflush (h : SysX B w0 w gd gr gi n l q dead l' q' dead' v m f bx L) (hq : q'.length ≤ 1000000) : Calls Try.prog 27 #[.pointer (some ⟨gr, 0, none⟩)] w fun e w' => e = .returned (.int .i64 (errD dead')) ∧ SysX B w0 w' gd gr gi n l q dead (flushL l' q' dead') (flushQ q' dead') dead' v m f bx L :=
  (h_rflush ((firm_dsk _ _ _ _ _).star firm_x) (Hold.swap h) hq).mono fun e w' ⟨he, h'⟩ => ⟨he, Hold.swap h'⟩
theorem x_fail (h : SysX B w0 w gd gr gi n l q dead l' q' dead' v m f bx L) : Calls Try.prog 24 #[.pointer (some ⟨gd, 0, none⟩)] w fun e w' => e = .returned (.tuple #[]) ∧ SysX B w0 w' gd gr gi n (fun _ => noB) [] true l' q' dead' v m f bx L := h_fail ((firm_rf _ _ _ _ _).star firm_x) h
theorem x_rfail (h : SysX B w0 w gd gr gi n l q dead l' q' dead' v m f bx L) : Calls Try.prog 31 #[.pointer (some ⟨gr, 0, none⟩)] w fun e w' => e = .returned (.tuple #[]) ∧ SysX B w0 w' gd gr gi n l q dead l' [] true v m f bx L :=
  (h_rfail ((firm_dsk _ _ _ _ _).star firm_x) (Hold.swap h)).mono fun e w' ⟨he, h'⟩ => ⟨he, Hold.swap h'⟩
theorem x_tamper (h : SysX B w0 w gd gr gi n l q dead l' q' dead' v m f bx L) (at_ : Int) (s : ByteArray) (hq : q.length ≤ 1000000) : Calls Try.prog 25 #[.pointer (some ⟨gd, 0, none⟩), .int .i64 at_, .string s] w fun e w' => e = .returned (.bool (tampB dead n at_ s)) ∧ SysX B w0 w' gd gr gi n (tampL l dead n at_ s) (tampQ q dead n at_ s) dead l' q' dead' v m f bx L := h_tamper ((firm_rf _ _ _ _ _).star firm_x) h at_ s hq
theorem x_rtamper (h : SysX B w0 w gd gr gi n l q dead l' q' dead' v m f bx L) (at_ : Int) (s : ByteArray) (hq : q'.length ≤ 1000000) : Calls Try.prog 29 #[.pointer (some ⟨gr, 0, none⟩), .int .i64 at_, .string s] w fun e w' => e = .returned (.bool (tampB dead' n at_ s)) ∧ SysX B w0 w' gd gr gi n l q dead (tampL l' dead' n at_ s) (tampQ q' dead' n at_ s) dead' v m f bx L :=
  (h_rtamper ((firm_dsk _ _ _ _ _).star firm_x) (Hold.swap h) at_ s hq).mono fun e w' ⟨he, h'⟩ => ⟨he, Hold.swap h'⟩
theorem x_crash (h : SysX B w0 w gd gr gi n l q dead l' q' dead' v m f bx L) (kv : Value) (km : Nat) (k : Nat → Bool) (hv : BoolsAt w kv km k) (hm : km ≤ 1000000000) (hq : q.length ≤ 1000000) (ho : Old B kv) : Calls Try.prog 19 #[.pointer (some ⟨gd, 0, none⟩), kv] w fun e w' => e = .returned (.tuple #[]) ∧ SysX B w0 w' gd gr gi n (crashL l q dead k) (flushQ q dead) dead l' q' dead' v m f bx L := h_crash ((firm_rf _ _ _ _ _).star firm_x) h kv km k hv hm hq ho
theorem x_rcrash (h : SysX B w0 w gd gr gi n l q dead l' q' dead' v m f bx L) (kv : Value) (km : Nat) (k : Nat → Bool) (hv : BoolsAt w kv km k) (hm : km ≤ 1000000000) (hq : q'.length ≤ 1000000) (ho : Old B kv) : Calls Try.prog 28 #[.pointer (some ⟨gr, 0, none⟩), kv] w fun e w' => e = .returned (.tuple #[]) ∧ SysX B w0 w' gd gr gi n l q dead (crashL l' q' dead' k) (flushQ q' dead') dead' v m f bx L :=
  (h_rcrash ((firm_dsk _ _ _ _ _).star firm_x) (Hold.swap h) kv km k hv hm hq ho).mono fun e w' ⟨he, h'⟩ => ⟨he, Hold.swap h'⟩
theorem x_read (h : SysX B w0 w gd gr gi n l q dead l' q' dead' v m f bx L) (at_ : Int) : Calls Try.prog 20 #[.pointer (some ⟨gd, 0, none⟩), .int .i64 at_] w fun e w' => e = .returned (.tuple #[.string (readB l q dead n at_), .int .i64 (errA dead n at_)]) ∧ w' = w := by
  obtain ⟨F, hF⟩ := h.disk
  exact read_any hF at_
theorem x_rread (h : SysX B w0 w gd gr gi n l q dead l' q' dead' v m f bx L) (at_ : Int) (hq : q'.length ≤ 1000000) : Calls Try.prog 26 #[.pointer (some ⟨gr, 0, none⟩), .int .i64 at_] w fun e w' => e = .returned (.tuple #[.string (readB l' q' dead' n at_), .int .i64 (errA dead' n at_)]) ∧ w' = w := by
  obtain ⟨F, hF⟩ := h.ref
  exact refRead_any hF at_ hq
theorem x_dead (h : SysX B w0 w gd gr gi n l q dead l' q' dead' v m f bx L) : Calls Try.prog 14 #[.pointer (some ⟨gd, 0, none⟩)] w fun e w' => e = .returned (.bool dead) ∧ w' = w := by
  obtain ⟨F, hF⟩ := h.disk
  exact dead_any hF
theorem x_restore (h : SysX B w0 w gd gr gi n l q dead l' q' dead' v m f bx L) : Calls Try.prog 18 #[.pointer (some ⟨gd, 0, none⟩), v] w fun e w' => e = .returned (.tuple #[]) ∧ SysX B w0 w' gd gr gi n (restoreL l dead m f) (flushQ q dead) dead l' q' dead' v m f bx L :=
  (h_restore (gi := gi) ((firm_rf _ _ _ _ _).star ((firm_blk _ _ _).star (firm_blk _ _ _))) (Hold.monoR h (fun F => pull_last))).mono fun e w' ⟨he, h'⟩ => ⟨he, Hold.monoR h' (fun F => push_last)⟩
theorem x_rrestore (h : SysX B w0 w gd gr gi n l q dead l' q' dead' v m f bx L) (hm : m ≤ 1000000000) : Calls Try.prog 30 #[.pointer (some ⟨gr, 0, none⟩), v] w fun e w' => e = .returned (.tuple #[]) ∧ SysX B w0 w' gd gr gi n l q dead (restoreL l' dead' m f) (flushQ q' dead') dead' v m f bx L :=
  (h_rrestore (gi := gi) ((firm_dsk _ _ _ _ _).star ((firm_blk _ _ _).star (firm_blk _ _ _))) (Hold.monoR (Hold.swap h) (fun F => pull_last)) hm).mono fun e w' ⟨he, h'⟩ => ⟨he, Hold.swap (Hold.monoR h' (fun F => push_last))⟩
theorem SysX.imgBlk (h : SysX B w0 w gd gr gi n l q dead l' q' dead' v m f bx L) : Blk w gi 27 [v] := by
  obtain ⟨h1, h2, F, h3, h4⟩ := h
  obtain ⟨G1, k1, _⟩ := star_right h3
  obtain ⟨G2, k2, _⟩ := star_right k1
  obtain ⟨G3, k3, _⟩ := star_right k2
  obtain ⟨G4, k4, _⟩ := star_left k3
  exact k4.1
theorem SysX.txt (h : SysX B w0 w gd gr gi n l q dead l' q' dead' v m f bx L) : TextsAt w v m f := by
  obtain ⟨h1, h2, F, h3, h4⟩ := h
  obtain ⟨G1, k1, _⟩ := star_right h3
  obtain ⟨G2, k2, _⟩ := star_right k1
  obtain ⟨G3, k3, _⟩ := star_right k2
  obtain ⟨G4, k4, _⟩ := star_right k3
  exact k4.1
end
end Go.Proofs.Ytmgllcmfnljfjaa
