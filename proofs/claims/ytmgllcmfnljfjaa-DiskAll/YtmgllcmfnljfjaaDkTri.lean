/- Three disks and two other things side by side. -/
import Derived.Test.YtmgllcmfnljfjaaDkPack
namespace Go.Proofs.Ytmgllcmfnljfjaa
open Go.RowKit Go.PlainAid
set_option linter.unusedVariables false

/-- Three disks of n cells, none of them dead, and two things beside them. -/
def Tri (B : Nat) (w0 w : World) (n ga : Nat) (la : Nat → ByteArray) (qa : List Wr) (gb : Nat) (lb : Nat → ByteArray) (qb : List Wr) (gc : Nat) (lc : Nat → ByteArray) (qc : List Wr) (P R : Asn) : Prop :=
  Hold B w0 w (star (dsk ga n la qa false) (star (dsk gb n lb qb false) (star (dsk gc n lc qc false) (star P R))))
section
variable {B : Nat} {w0 w w1 : World} {n ga : Nat} {la : Nat → ByteArray} {qa : List Wr} {gb : Nat} {lb : Nat → ByteArray} {qb : List Wr} {gc : Nat} {lc : Nat → ByteArray} {qc : List Wr} {P R P' : Asn}
theorem Tri.below (hP : Firm P) (hR : Firm R) (h : Tri B w0 w n ga la qa gb lb qb gc lc qc P R) (hb : Below w.heap.size w w1) : Tri B w0 w1 n ga la qa gb lb qb gc lc qc P R :=
  Hold.below h ((firm_dsk _ _ _ _ _).star ((firm_dsk _ _ _ _ _).star ((firm_dsk _ _ _ _ _).star (hP.star hR)))) hb
/-- A new thing in the first one's place. -/
theorem Tri.new4 (hP : Firm P) (hR : Firm R) (h : Tri B w0 w n ga la qa gb lb qb gc lc qc P R) (hb : Below w.heap.size w w1) {G : Nat → Prop} (hG : P' w1 G) (hG1 : ∀ k, G k → w.heap.size ≤ k) : Tri B w0 w1 n ga la qa gb lb qb gc lc qc P' R := by
  obtain ⟨h1, h2, F, h3, h4⟩ := h
  obtain ⟨F1, F2, F3, F4, F5, d1, d2, d3, d4, d5, e1, e2, e3, e4, e5⟩ := unpack h3
  have K : Kept (fun _ => False) w w1 := Kept.ofBelow hb
  have b1 := (firm_dsk _ _ _ _ _).bound d1
  have b2 := (firm_dsk _ _ _ _ _).bound d2
  have b3 := (firm_dsk _ _ _ _ _).bound d3
  have b5 := hR.bound d5
  refine ⟨Nat.le_trans h1 hb.size, h2.trans (hb.mono h1), _, pack ((firm_dsk _ _ _ _ _).kept d1 K (fun _ _ h => h)) ((firm_dsk _ _ _ _ _).kept d2 K (fun _ _ h => h)) ((firm_dsk _ _ _ _ _).kept d3 K (fun _ _ h => h)) hG (hR.kept d5 K (fun _ _ h => h)) ?_ ?_ ?_ ?_, ?_⟩
  · rintro k hk (h | h | h | h)
    · exact e1 k hk (.inl h)
    · exact e1 k hk (.inr (.inl h))
    · have := b1 k hk; have := hG1 k h; omega
    · exact e1 k hk (.inr (.inr (.inr h)))
  · rintro k hk (h | h | h)
    · exact e2 k hk (.inl h)
    · have := b2 k hk; have := hG1 k h; omega
    · exact e2 k hk (.inr (.inr h))
  · rintro k hk (h | h)
    · have := b3 k hk; have := hG1 k h; omega
    · exact e3 k hk (.inr h)
  · rintro k hk h
    have := b5 k h; have := hG1 k hk; omega
  · rintro k (h | h | h | h | h)
    · exact h4 k ((e5 k).2 (.inl h))
    · exact h4 k ((e5 k).2 (.inr (.inl h)))
    · exact h4 k ((e5 k).2 (.inr (.inr (.inl h))))
    · exact Nat.le_trans h1 (hG1 k h)
    · exact h4 k ((e5 k).2 (.inr (.inr (.inr (.inr h)))))
theorem Tri.flip (h : Tri B w0 w n ga la qa gb lb qb gc lc qc P R) : Tri B w0 w n ga la qa gb lb qb gc lc qc R P := by
  obtain ⟨h1, h2, F, h3, h4⟩ := h
  obtain ⟨G1, H1, d1, ⟨G2, H2, d2, ⟨G3, H3, d3, d4, k3⟩, k2⟩, k1⟩ := h3
  exact ⟨h1, h2, F, ⟨G1, H1, d1, ⟨G2, H2, d2, ⟨G3, H3, d3, star_comm d4, k3⟩, k2⟩, k1⟩, h4⟩
theorem Tri.blk4 {g : Nat} {T : TypeId} {L : List Value} (h : Tri B w0 w n ga la qa gb lb qb gc lc qc (blk g T L) R) : Blk w g T L := by
  obtain ⟨h1, h2, F, h3, h4⟩ := h
  obtain ⟨G1, k1, _⟩ := star_right h3
  obtain ⟨G2, k2, _⟩ := star_right k1
  obtain ⟨G3, k3, _⟩ := star_right k2
  obtain ⟨G4, k4, _⟩ := star_left k3
  exact k4.1
theorem Tri.txt4 {v : Value} {m : Nat} {f : Nat → ByteArray} (h : Tri B w0 w n ga la qa gb lb qb gc lc qc (txt v m f) R) : TextsAt w v m f := by
  obtain ⟨h1, h2, F, h3, h4⟩ := h
  obtain ⟨G1, k1, _⟩ := star_right h3
  obtain ⟨G2, k2, _⟩ := star_right k1
  obtain ⟨G3, k3, _⟩ := star_right k2
  obtain ⟨G4, k4, _⟩ := star_left k3
  exact k4.1
/-- A cell of the first thing, a block, is stored into. -/
theorem Tri.set4 (hR : Firm R) {g : Nat} {T : TypeId} {L : List Value} (h : Tri B w0 w n ga la qa gb lb qb gc lc qc (blk g T L) R) (i : Nat) (u : Value) : Tri B w0 (w.setCell ⟨g, i, none⟩ u) n ga la qa gb lb qb gc lc qc (blk g T (L.set i u)) R := by
  obtain ⟨h1, h2, F, h3, h4⟩ := h
  obtain ⟨F1, F2, F3, F4, F5, d1, d2, d3, d4, d5, e1, e2, e3, e4, e5⟩ := unpack h3
  have K : Kept (fun k => k = g) w (w.setCell ⟨g, i, none⟩ u) := Kept.one _ _ _ _
  have g4 : F4 g := (d4.2 g).2 rfl
  exact ⟨by simp; exact h1, h2.setCell (p := ⟨g, i, none⟩) (h4 g ((e5 g).2 (.inr (.inr (.inr (.inl g4)))))) _, F,
    (by
      obtain ⟨G, hG⟩ : ∃ G, G = fun k => F1 k ∨ F2 k ∨ F3 k ∨ F4 k ∨ F5 k := ⟨_, rfl⟩
      have hp := pack ((firm_dsk _ _ _ _ _).kept d1 K (fun k hk e => e1 k hk (.inr (.inr (.inl (e ▸ g4)))))) ((firm_dsk _ _ _ _ _).kept d2 K (fun k hk e => e2 k hk (.inr (.inl (e ▸ g4))))) ((firm_dsk _ _ _ _ _).kept d3 K (fun k hk e => e3 k hk (.inl (e ▸ g4)))) (show Go.Proofs.Ytmgllcmfnljfjaa.blk g T (L.set i u) _ F4 from ⟨d4.1.setCell i u, d4.2⟩) (hR.kept d5 K (fun k hk e => e4 k (e ▸ g4) hk)) e1 e2 e3 e4
      have e : F = fun k => F1 k ∨ F2 k ∨ F3 k ∨ F4 k ∨ F5 k := funext fun k => propext (e5 k)
      rw [e]; exact hp), h4⟩
theorem Tri.diskA (h : Tri B w0 w n ga la qa gb lb qb gc lc qc P R) : ∃ F, DiskAt w F ga n la qa false := Hold.dsk h
theorem Tri.diskB (h : Tri B w0 w n ga la qa gb lb qb gc lc qc P R) : ∃ F, DiskAt w F gb n lb qb false := Hold.dsk (Hold.swap h)
theorem Tri.toC (h : Tri B w0 w n ga la qa gb lb qb gc lc qc P R) : Hold B w0 w (star (dsk gc n lc qc false) (star (dsk ga n la qa false) (star (dsk gb n lb qb false) (star P R)))) := (Hold.monoR h (fun F => star_swap)).swap
theorem Tri.ofC (h : Hold B w0 w (star (dsk gc n lc qc false) (star (dsk ga n la qa false) (star (dsk gb n lb qb false) (star P R))))) : Tri B w0 w n ga la qa gb lb qb gc lc qc P R := h.swap.monoR (fun F => star_swap)
theorem Tri.diskC (h : Tri B w0 w n ga la qa gb lb qb gc lc qc P R) : ∃ F, DiskAt w F gc n lc qc false := Hold.dsk h.toC
theorem t_writeA (hP : Firm P) (hR : Firm R) (h : Tri B w0 w n ga la qa gb lb qb gc lc qc P R) (at_ : Int) (s : ByteArray) (hq : qa.length ≤ 1000000) : Calls Try.prog 21 #[.pointer (some ⟨ga, 0, none⟩), .int .i64 at_, .string s] w fun e w' => e = .returned (.int .i64 (errW false n at_ s)) ∧ Tri B w0 w' n ga la (putQ qa false n at_ s) gb lb qb gc lc qc P R :=
  h_write ((firm_dsk _ _ _ _ _).star ((firm_dsk _ _ _ _ _).star (hP.star hR))) h at_ s hq
theorem t_writeB (hP : Firm P) (hR : Firm R) (h : Tri B w0 w n ga la qa gb lb qb gc lc qc P R) (at_ : Int) (s : ByteArray) (hq : qb.length ≤ 1000000) : Calls Try.prog 21 #[.pointer (some ⟨gb, 0, none⟩), .int .i64 at_, .string s] w fun e w' => e = .returned (.int .i64 (errW false n at_ s)) ∧ Tri B w0 w' n ga la qa gb lb (putQ qb false n at_ s) gc lc qc P R :=
  (h_write ((firm_dsk _ _ _ _ _).star ((firm_dsk _ _ _ _ _).star (hP.star hR))) (Hold.swap h) at_ s hq).mono fun e w' ⟨he, h'⟩ => ⟨he, Hold.swap h'⟩
theorem t_writeC (hP : Firm P) (hR : Firm R) (h : Tri B w0 w n ga la qa gb lb qb gc lc qc P R) (at_ : Int) (s : ByteArray) (hq : qc.length ≤ 1000000) : Calls Try.prog 21 #[.pointer (some ⟨gc, 0, none⟩), .int .i64 at_, .string s] w fun e w' => e = .returned (.int .i64 (errW false n at_ s)) ∧ Tri B w0 w' n ga la qa gb lb qb gc lc (putQ qc false n at_ s) P R :=
  (h_write ((firm_dsk _ _ _ _ _).star ((firm_dsk _ _ _ _ _).star (hP.star hR))) h.toC at_ s hq).mono fun e w' ⟨he, h'⟩ => ⟨he, Tri.ofC h'⟩
theorem t_flushA (hP : Firm P) (hR : Firm R) (h : Tri B w0 w n ga la qa gb lb qb gc lc qc P R) : Calls Try.prog 22 #[.pointer (some ⟨ga, 0, none⟩)] w fun e w' => e = .returned (.int .i64 0) ∧ Tri B w0 w' n ga (app la qa) [] gb lb qb gc lc qc P R :=
  h_flush ((firm_dsk _ _ _ _ _).star ((firm_dsk _ _ _ _ _).star (hP.star hR))) h
theorem t_flushB (hP : Firm P) (hR : Firm R) (h : Tri B w0 w n ga la qa gb lb qb gc lc qc P R) : Calls Try.prog 22 #[.pointer (some ⟨gb, 0, none⟩)] w fun e w' => e = .returned (.int .i64 0) ∧ Tri B w0 w' n ga la qa gb (app lb qb) [] gc lc qc P R :=
  (h_flush ((firm_dsk _ _ _ _ _).star ((firm_dsk _ _ _ _ _).star (hP.star hR))) (Hold.swap h)).mono fun e w' ⟨he, h'⟩ => ⟨he, Hold.swap h'⟩
theorem t_flushC (hP : Firm P) (hR : Firm R) (h : Tri B w0 w n ga la qa gb lb qb gc lc qc P R) : Calls Try.prog 22 #[.pointer (some ⟨gc, 0, none⟩)] w fun e w' => e = .returned (.int .i64 0) ∧ Tri B w0 w' n ga la qa gb lb qb gc (app lc qc) [] P R :=
  (h_flush ((firm_dsk _ _ _ _ _).star ((firm_dsk _ _ _ _ _).star (hP.star hR))) h.toC).mono fun e w' ⟨he, h'⟩ => ⟨he, Tri.ofC h'⟩
/-- A crash that keeps nothing. -/
theorem t_crashA (hP : Firm P) (hR : Firm R) (h : Tri B w0 w n ga la qa gb lb qb gc lc qc P R) (hq : qa.length ≤ 1000000) : Calls Try.prog 19 #[.pointer (some ⟨ga, 0, none⟩), .slice none 0 0] w fun e w' => e = .returned (.tuple #[]) ∧ Tri B w0 w' n ga la [] gb lb qb gc lc qc P R := by
  have h1 := h_crash ((firm_dsk _ _ _ _ _).star ((firm_dsk _ _ _ _ _).star (hP.star hR))) h (.slice none 0 0) 0 (fun _ => false) (bools_none w) (by omega) hq (fun a n c e => by cases e)
  rw [show crashL la qa false (fun _ => false) = la by unfold crashL; rw [if_neg (by decide), keep_none]; rfl, show flushQ qa false = [] from rfl] at h1
  exact h1
/-- A crash that keeps all. -/
theorem t_crashB (hP : Firm P) {gl : Nat} {T : TypeId} {L : List Value} (h : Tri B w0 w n ga la qa gb lb qb gc lc qc P (blk gl T L)) (m : Nat) (hv : BoolsAt w (.slice (some ⟨gl, 0, none⟩) 30 30) 30 (fun i => decide (i < m))) (hm : qb.length ≤ m) (hq : qb.length ≤ 1000000) : Calls Try.prog 19 #[.pointer (some ⟨gb, 0, none⟩), .slice (some ⟨gl, 0, none⟩) 30 30] w fun e w' => e = .returned (.tuple #[]) ∧ Tri B w0 w' n ga la qa gb (app lb qb) [] gc lc qc P (blk gl T L) := by
  have h1 := h_crashBlk ((firm_dsk ga n la qa false).star ((firm_dsk gc n lc qc false).star hP)) ((Hold.swap h).monoR (fun F => pull_last)) 0 30 30 (fun i => decide (i < m)) hv (by omega) hq
  have e : crashL lb qb false (fun i => decide (i < m)) = app lb qb := by
    unfold crashL
    rw [if_neg (by decide), keep_congr _ (fun _ => true) qb 0 (fun j _ hj => decide_eq_true (by omega)), keep_all]
  rw [e, show flushQ qb false = [] from rfl] at h1
  exact h1.mono fun e w' ⟨he, h'⟩ => ⟨he, Hold.swap (Hold.monoR h' (fun F => push_last))⟩
theorem Tri.low (h : Tri B w0 w n ga la qa gb lb qb gc lc qc P R) : Below B w0 w := Hold.low h
end
theorem tri_start {B : Nat} {w0 w : World} {n ga gb gc : Nat} {l : Nat → ByteArray} {q : List Wr} (h : Hold B w0 w (star (dsk gc n l q false) (star (dsk gb n l q false) (star (dsk ga n l q false) nought)))) : Tri B w0 w n ga l q gb l q gc l q nought nought := by
  have h2 : Hold B w0 w (star nought (star (dsk gc n l q false) (star (dsk gb n l q false) (star (dsk ga n l q false) nought)))) :=
    Hold.new ((firm_dsk _ _ _ _ _).star ((firm_dsk _ _ _ _ _).star ((firm_dsk _ _ _ _ _).star firm_nought))) h (Below.refl _ _) (G := fun _ => False) (fun _ h => h) (fun _ h => h.elim)
  obtain ⟨k1, k2, F, k3, k4⟩ := h2
  obtain ⟨F1, F2, F3, F4, F5, d1, d2, d3, d4, d5, e1, e2, e3, e4, e5⟩ := unpack k3
  refine ⟨k1, k2, _, pack d4 d3 d2 d1 d5 ?_ ?_ ?_ ?_, ?_⟩
  · rintro k hk (h | h | h | h)
    · exact e3 k h (.inl hk)
    · exact e2 k h (.inr (.inl hk))
    · exact d1 k h
    · exact d5 k h
  · rintro k hk (h | h | h)
    · exact e2 k h (.inl hk)
    · exact d1 k h
    · exact d5 k h
  · rintro k hk (h | h)
    · exact d1 k h
    · exact d5 k h
  · intro k hk h
    exact d5 k h
  · rintro k (h | h | h | h | h)
    · exact k4 k ((e5 k).2 (.inr (.inr (.inr (.inl h)))))
    · exact k4 k ((e5 k).2 (.inr (.inr (.inl h))))
    · exact k4 k ((e5 k).2 (.inr (.inl h)))
    · exact k4 k ((e5 k).2 (.inl h))
    · exact k4 k ((e5 k).2 (.inr (.inr (.inr (.inr h)))))
end Go.Proofs.Ytmgllcmfnljfjaa
