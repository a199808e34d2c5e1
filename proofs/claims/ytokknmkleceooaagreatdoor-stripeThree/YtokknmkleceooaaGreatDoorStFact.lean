import Derived.Test.YtokknmkleceooaaGreatDoorStGet
namespace Go.Proofs.YtokknmkleceooaaGreatDoor
open Go.RowKit Go.PlainAid
set_option linter.unusedVariables false
set_option maxRecDepth 20000
theorem stD_other {N i : Nat} (hi : i < N) (p : Option Nat) (D : Nat → Dk) (d : Dk) {j : Nat} (hj : j ≠ i) : stD N p (i : Int) D d j = D j := by
  unfold stD
  rw [if_neg (out_not N i hi)]
  by_cases hp : p = some 0
  · rw [if_pos hp]
  · rw [if_neg hp, Int.toNat_natCast, updD_ne _ _ _ _ hj]
theorem apR_other {N i : Nat} (hi : i < N) {j : Nat} (hj : j ≠ i) : ∀ (q : List Wr) (b : Bs), (apR N i b q).2.D j = b.D j
  | [], b => stD_other hi _ _ _ hj
  | w :: r, b => by
    have h1 : (apW N i b w).D j = b.D j := stD_other hi _ _ _ hj
    by_cases e : apE N i b w = 0
    · rw [apR_ok e, apR_other hi hj r, h1]
    · rw [apR_bad e]; exact h1
theorem Liv.other {N i j : Nat} (hi : i < N) (hj : j ≠ i) {b : Bs} {l : Nat → ByteArray} (h : Liv N j b l) (q : List Wr) (hp : (apR N i b q).2.p = none) : Liv N j (apR N i b q).2 l := by
  have e := apR_other hi hj q b
  exact ⟨hp, by rw [e]; exact h.dead, by rw [e]; exact h.n, by rw [e]; exact h.q, by rw [e]; exact h.ll, h.sz⟩
theorem fresh_liv {N i : Nat} {b : Bs} (hp : b.p = none) (h : Fresh (b.D i) 140) : Liv N i b (fun _ => noB) :=
  ⟨hp, h.2.2.2, by rw [h.1, newN140], h.2.2.1, h.2.1, fun _ => by show noB.size ≤ _; decide⟩
theorem put_new {N i d slot : Nat} (hi : i < N) (hd : 1 ≤ d ∧ d ≤ 4) (hs : slot < 2 ^ d) {b : Bs} (hL : Liv N i b (fun _ => noB)) {c : ByteArray} (hc : c.size ≤ 2032) :
    (apR N i b (blW (2 ^ d))).1 = 0 ∧ Liv N i (apR N i b (blW (2 ^ d))).2 (app (fun _ => noB) (blW (2 ^ d))) ∧ InT (app (fun _ => noB) (blW (2 ^ d))) d (sl0 (tdg eL (2 ^ d) 1)) (fun _ => noB) ∧
    (apR N i (apR N i b (blW (2 ^ d))).2 (slW (pS (apR N i b (blW (2 ^ d))).2 i d (tdg eL (2 ^ d) 1) [((slot : Int), c)]))).1 = 0 ∧
    ∃ l', Liv N i (apR N i (apR N i b (blW (2 ^ d))).2 (slW (pS (apR N i b (blW (2 ^ d))).2 i d (tdg eL (2 ^ d) 1) [((slot : Int), c)]))).2 l' ∧ InT l' d (sl0 (pS (apR N i b (blW (2 ^ d))).2 i d (tdg eL (2 ^ d) 1) [((slot : Int), c)]).top) (fun s => if s = slot then c else noB) := by
  obtain ⟨h1, h2⟩ := hL.apply hi (bl_wok rfl hd.2)
  have h3 := inT_begin rfl hd (fun _ => noB)
  obtain ⟨h4, h5, l', h6, h7⟩ := h2.change hi hd.2 h3 (cs := [((slot : Int), c)]) (fun p hp => by
    rcases List.mem_cons.1 hp with rfl | h
    · exact ⟨⟨by show (0 : Int) ≤ (slot : Int); omega, by show (slot : Int) < ((2 ^ d : Nat) : Int); omega⟩, hc⟩
    · cases h)
  refine ⟨h1, h2, h3, h5, l', h6, ?_⟩
  have e : upL (fun _ => noB) [((slot : Int), c)] = fun s => if s = slot then c else noB := by
    show (fun j => if j = ((slot : Int)).toNat then c else noB) = _
    rw [Int.toNat_natCast]
  rw [e] at h7
  exact h7
structure LyS (N k d slot : Nat) (b b' : Bs) (C P : Nat → ByteArray) : Prop where
  p : b.p = none
  p' : b'.p = none
  done : ∀ j, j < k → ∃ l, Liv N j b l ∧ InT l d (sl0 (P j)) (fun s => if s = slot then C j else noB)
  same : ∀ j, j < k → (b'.D j).n = 140 ∧ (b'.D j).l = (b.D j).l ∧ (b'.D j).q = [] ∧ (b'.D j).dead = false
  rest : ∀ j, k ≤ j → j < N → Fresh (b.D j) 140 ∧ Fresh (b'.D j) 140
  few : Few17 N b (k * 100)
theorem LyS.next {N k d slot : Nat} {b b' : Bs} {C P : Nat → ByteArray} (h : LyS N k d slot b b' C P) (hk : k < N) (hd : 1 ≤ d ∧ d ≤ 4) (hs : slot < 2 ^ d) (hC : (C k).size ≤ 2032) {b2 b2' : Bs} {t : ByteArray}
    (e2 : (apR N k (apR N k b (blW (2 ^ d))).2 (slW (pS (apR N k b (blW (2 ^ d))).2 k d (tdg eL (2 ^ d) 1) [((slot : Int), C k)]))).2 = b2) (et : (pS (apR N k b (blW (2 ^ d))).2 k d (tdg eL (2 ^ d) 1) [((slot : Int), C k)]).top = t)
    (hp' : b2'.p = none) (hD : ∀ j, j ≠ k → b2'.D j = b'.D j) (hk' : (b2'.D k).n = 140 ∧ (b2'.D k).l = (b2.D k).l ∧ (b2'.D k).q = [] ∧ (b2'.D k).dead = false) : LyS N (k + 1) d slot b2 b2' C (fun j => if j = k then t else P j) := by
  subst e2 et
  obtain ⟨h1, h2, h3, h4, l', h5, h6⟩ := put_new hk hd hs (fresh_liv h.p (h.rest k (Nat.le_refl _) hk).1) hC
  have o1 : ∀ j, j ≠ k → (apR N k (apR N k b (blW (2 ^ d))).2 (slW (pS (apR N k b (blW (2 ^ d))).2 k d (tdg eL (2 ^ d) 1) [((slot : Int), C k)]))).2.D j = b.D j := fun j hj => by rw [apR_other hk hj, apR_other hk hj]
  have f0 := few_r hk (blW (2 ^ d)) h.few
  have f1 := few_r hk (slW (pS (apR N k b (blW (2 ^ d))).2 k d (tdg eL (2 ^ d) 1) [((slot : Int), C k)])) f0
  have hw := slW_few (pS (apR N k b (blW (2 ^ d))).2 k d (tdg eL (2 ^ d) 1) [((slot : Int), C k)])
  have hb : (blW (2 ^ d)).length ≤ 31 := by rw [blW_length]; have := pow_le16 d hd.2; omega
  refine ⟨h5.p, hp', fun j hj => ?_, fun j hj => ?_, fun j hj hjN => ?_, ⟨Nat.le_trans f1.1 (by omega), fun j hj => Nat.le_trans (f1.2 j hj) (by omega)⟩⟩
  · by_cases e : j = k
    · subst e
      exact ⟨l', h5, by rw [if_pos rfl]; exact h6⟩
    · obtain ⟨l, a1, a2⟩ := h.done j (by omega)
      refine ⟨l, (a1.other hk e _ h2.p).other hk e _ h5.p, by rw [if_neg e]; exact a2⟩
  · by_cases e : j = k
    · subst e; exact hk'
    · rw [hD j e, o1 j e]; exact h.same j (by omega)
  · rw [hD j (by omega), o1 j (by omega)]; exact h.rest j (by omega) hjN
end Go.Proofs.YtokknmkleceooaaGreatDoor
