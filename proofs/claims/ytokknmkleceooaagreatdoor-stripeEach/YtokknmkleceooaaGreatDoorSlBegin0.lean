import Derived.Test.YtokknmkleceooaaGreatDoorSlFact
namespace Go.Proofs.YtokknmkleceooaaGreatDoor
open Go.RowKit Go.PlainAid
set_option linter.unusedVariables false
set_option maxRecDepth 20000
def Sm (N : Nat) (b b' : Bs) : Prop := b.s = b'.s ∧ b.p = b'.p ∧ ∀ j, j < N → (b.D j).n = (b'.D j).n ∧ (b.D j).l = (b'.D j).l ∧ (b.D j).q = (b'.D j).q ∧ (b.D j).dead = (b'.D j).dead
theorem Sm.w {N i : Nat} (hi : i < N) {b b' : Bs} (h : Sm N b b') (w : Wr) : apE N i b w = apE N i b' w ∧ Sm N (apW N i b w) (apW N i b' w) := by
  obtain ⟨h1, h2, h3⟩ := h
  obtain ⟨e1, e2, e3, e4⟩ := h3 i hi
  refine ⟨by unfold apE; rw [h2, e4, e1], ⟨by show stS _ _ _ _ = stS _ _ _ _; rw [h1, h2], by show stP _ _ _ = stP _ _ _; rw [h2], fun j hj => ?_⟩⟩
  show ((stD N b.p (i : Int) b.D (putD (b.D i) (w.1 : Int) w.2)) j).n = ((stD N b'.p (i : Int) b'.D (putD (b'.D i) (w.1 : Int) w.2)) j).n ∧ ((stD N b.p (i : Int) b.D (putD (b.D i) (w.1 : Int) w.2)) j).l = ((stD N b'.p (i : Int) b'.D (putD (b'.D i) (w.1 : Int) w.2)) j).l ∧ ((stD N b.p (i : Int) b.D (putD (b.D i) (w.1 : Int) w.2)) j).q = ((stD N b'.p (i : Int) b'.D (putD (b'.D i) (w.1 : Int) w.2)) j).q ∧ ((stD N b.p (i : Int) b.D (putD (b.D i) (w.1 : Int) w.2)) j).dead = ((stD N b'.p (i : Int) b'.D (putD (b'.D i) (w.1 : Int) w.2)) j).dead
  unfold stD
  rw [if_neg (out_not N i hi), if_neg (out_not N i hi), h2]
  by_cases hp : b'.p = some 0
  · rw [if_pos hp, if_pos hp]; exact h3 j hj
  · rw [if_neg hp, if_neg hp, Int.toNat_natCast]
    by_cases e : j = i
    · subst e
      rw [updD_same, updD_same]
      exact ⟨e1, e2, by show putQ _ _ _ _ _ = putQ _ _ _ _ _; rw [e3, e4, e1], e4⟩
    · rw [updD_ne _ _ _ _ e, updD_ne _ _ _ _ e]; exact h3 j hj
theorem Sm.f {N i : Nat} (hi : i < N) {b b' : Bs} (h : Sm N b b') : stE N b.p (i : Int) (errD (b.D i).dead) = stE N b'.p (i : Int) (errD (b'.D i).dead) ∧ Sm N (apF N i b) (apF N i b') := by
  obtain ⟨h1, h2, h3⟩ := h
  obtain ⟨e1, e2, e3, e4⟩ := h3 i hi
  refine ⟨by rw [h2, e4], ⟨by show stS _ _ _ _ = stS _ _ _ _; rw [h1, h2], by show stP _ _ _ = stP _ _ _; rw [h2], fun j hj => ?_⟩⟩
  show ((stD N b.p (i : Int) b.D (flushD (b.D i))) j).n = ((stD N b'.p (i : Int) b'.D (flushD (b'.D i))) j).n ∧ ((stD N b.p (i : Int) b.D (flushD (b.D i))) j).l = ((stD N b'.p (i : Int) b'.D (flushD (b'.D i))) j).l ∧ ((stD N b.p (i : Int) b.D (flushD (b.D i))) j).q = ((stD N b'.p (i : Int) b'.D (flushD (b'.D i))) j).q ∧ ((stD N b.p (i : Int) b.D (flushD (b.D i))) j).dead = ((stD N b'.p (i : Int) b'.D (flushD (b'.D i))) j).dead
  unfold stD
  rw [if_neg (out_not N i hi), if_neg (out_not N i hi), h2]
  by_cases hp : b'.p = some 0
  · rw [if_pos hp, if_pos hp]; exact h3 j hj
  · rw [if_neg hp, if_neg hp, Int.toNat_natCast]
    by_cases e : j = i
    · subst e
      rw [updD_same, updD_same]
      exact ⟨e1, by show flushL _ _ _ = flushL _ _ _; rw [e2, e3, e4], by show flushQ _ _ = flushQ _ _; rw [e3, e4], e4⟩
    · rw [updD_ne _ _ _ _ e, updD_ne _ _ _ _ e]; exact h3 j hj
theorem Sm.r {N i : Nat} (hi : i < N) : ∀ (q : List Wr) {b b' : Bs}, Sm N b b' → (apR N i b q).1 = (apR N i b' q).1 ∧ Sm N (apR N i b q).2 (apR N i b' q).2
  | [], b, b', h => h.f hi
  | w :: r, b, b', h => by
    obtain ⟨h1, h2⟩ := h.w hi w
    by_cases e : apE N i b w = 0
    · rw [apR_ok e, apR_ok (by rw [← h1]; exact e)]; exact Sm.r hi r h2
    · rw [apR_bad e, apR_bad (by rw [← h1]; exact e)]; exact ⟨h1, h2⟩
section
variable {w : World} {P Q R T U V : Asn} {F : Nat → Prop} {B : Nat} {w0 : World}
theorem Hold.rid (h : Hold B w0 w (star P (star Q R))) : Hold B w0 w (star P R) := by
  obtain ⟨a1, a2, F, ⟨G, H, a3, ⟨G2, H2, a4, a5, a6, a7⟩, a8, a9⟩, a10⟩ := h
  refine ⟨a1, a2, fun k => G k ∨ H2 k, ⟨G, H2, a3, a5, fun k hg hg2 => a8 k hg ((a7 k).2 (.inr hg2)), fun k => Iff.rfl⟩, ?_⟩
  rintro k (hk | hk)
  · exact a10 k ((a9 k).2 (.inl hk))
  · exact a10 k ((a9 k).2 (.inr ((a7 k).2 (.inr hk))))
end
end Go.Proofs.YtokknmkleceooaaGreatDoor
