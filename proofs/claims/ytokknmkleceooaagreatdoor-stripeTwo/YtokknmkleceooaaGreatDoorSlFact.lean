import Derived.Test.YtokknmkleceooaaGreatDoorSlRM
namespace Go.Proofs.YtokknmkleceooaaGreatDoor
open Go.RowKit Go.PlainAid
set_option linter.unusedVariables false
set_option maxRecDepth 20000
structure Liv (N i : Nat) (b : Bs) (l : Nat → ByteArray) : Prop where
  p : b.p = none
  dead : (b.D i).dead = false
  n : (b.D i).n = 140
  q : (b.D i).q = []
  ll : (b.D i).l = l
  sz : ∀ a, (l a).size ≤ 2048
theorem Liv.er0 {N i : Nat} {b : Bs} {l : Nat → ByteArray} (h : Liv N i b l) : eR b.p (b.D i) = 0 := by
  unfold Go.Proofs.YtokknmkleceooaaGreatDoor.eR errD
  rw [h.p, h.dead]; rfl
theorem Liv.rd {N i : Nat} {b : Bs} {l : Nat → ByteArray} (h : Liv N i b l) {a : Nat} (ha : a < 140) : rdS b.p (b.D i) a = l a := by
  rw [rdS_ok h.er0 (by rw [h.n]; exact ha), h.q, h.ll]; rfl
theorem rdS_size {p : Option Nat} {d : Dk} (hl : ∀ a, (d.l a).size ≤ 2048) (hq : ∀ w ∈ d.q, w.2.size ≤ 2048) (a : Nat) : (rdS p d a).size ≤ 2048 := by
  unfold rdS
  by_cases e : p = some 0
  · rw [if_pos e]; exact Nat.zero_le _
  · rw [if_neg e]
    unfold readB
    by_cases e2 : errA d.dead d.n (a : Int) = 0
    · rw [if_pos e2, Int.toNat_natCast]
      rcases app_or d.q a d.l with h | ⟨w, hw, _, h⟩
      · rw [h]; exact hl a
      · rw [h]; exact hq w hw
    · rw [if_neg e2]; exact Nat.zero_le _
theorem Liv.size {N i : Nat} {b : Bs} {l : Nat → ByteArray} (h : Liv N i b l) (a : Nat) : (rdS b.p (b.D i) a).size ≤ 2048 := rdS_size (fun a => by rw [h.ll]; exact h.sz a) (fun w hw => by rw [h.q] at hw; cases hw) a
def Wok (q : List Wr) : Prop := ∀ w ∈ q, w.1 < 140 ∧ w.2.size ≤ 2048
theorem ap_go {N i : Nat} (hi : i < N) : ∀ (q : List Wr) {b : Bs}, b.p = none → (b.D i).dead = false → (b.D i).n = 140 → Wok q → (apR N i b q).1 = 0 ∧ (apR N i b q).2.p = none ∧ ((apR N i b q).2.D i).dead = false ∧ ((apR N i b q).2.D i).n = 140 ∧ ((apR N i b q).2.D i).q = [] ∧ ((apR N i b q).2.D i).l = app (app (b.D i).l (b.D i).q) q
  | [], b, hp, hd, hn, hq => by
    rw [apR_end]
    have hD : (apF N i b).D i = flushD (b.D i) := by
      show stD N b.p (i : Int) b.D (flushD (b.D i)) i = _
      unfold stD
      rw [if_neg (out_not N i hi), hp, if_neg (fun h => by cases h), Int.toNat_natCast, updD_same]
    refine ⟨?_, ?_, ?_, ?_, ?_, ?_⟩
    · show stE N b.p (i : Int) (errD (b.D i).dead) = 0
      unfold stE
      rw [if_neg (out_not N i hi), hp, if_neg (fun h => by cases h), hd]; rfl
    · show stP N b.p (i : Int) = none
      unfold stP
      rw [if_neg (out_not N i hi), hp]; rfl
    · rw [hD]; exact hd
    · rw [hD]; exact hn
    · rw [hD]; show flushQ (b.D i).q (b.D i).dead = []; rw [hd]; rfl
    · rw [hD]; show flushL (b.D i).l (b.D i).q (b.D i).dead = _; rw [hd]; rfl
  | w :: r, b, hp, hd, hn, hq => by
    obtain ⟨w1, w2⟩ := hq w (List.mem_cons_self ..)
    have hE : errW (b.D i).dead (b.D i).n (w.1 : Int) w.2 = 0 := by
      unfold errW
      rw [hd, hn, errA_ok 140 w.1 w1, if_pos rfl, if_neg (by omega)]
    have hA : apE N i b w = 0 := by
      unfold apE stE
      rw [if_neg (out_not N i hi), hp, if_neg (fun h => by cases h), hE]
    rw [apR_ok hA]
    have hD : (apW N i b w).D i = putD (b.D i) (w.1 : Int) w.2 := by
      show stD N b.p (i : Int) b.D (putD (b.D i) (w.1 : Int) w.2) i = _
      unfold stD
      rw [if_neg (out_not N i hi), hp, if_neg (fun h => by cases h), Int.toNat_natCast, updD_same]
    have hQ : ((apW N i b w).D i).q = (b.D i).q ++ [w] := by
      rw [hD]
      show putQ (b.D i).q (b.D i).dead (b.D i).n (w.1 : Int) w.2 = _
      unfold putQ
      rw [hE, if_pos rfl, Int.toNat_natCast]
    have hL : ((apW N i b w).D i).l = (b.D i).l := by rw [hD]; rfl
    have h := ap_go hi r (b := apW N i b w) (by
      show stP N b.p (i : Int) = none
      unfold stP
      rw [if_neg (out_not N i hi), hp]; rfl) (by rw [hD]; exact hd) (by rw [hD]; exact hn) (fun x hx => hq x (List.mem_cons_of_mem _ hx))
    rw [hQ, hL, app_snoc] at h
    exact h
theorem app_size {l : Nat → ByteArray} {q : List Wr} (hl : ∀ a, (l a).size ≤ 2048) (hq : Wok q) (a : Nat) : (app l q a).size ≤ 2048 := by
  rcases app_or q a l with h | ⟨w, hw, _, h⟩
  · rw [h]; exact hl a
  · rw [h]; exact (hq w hw).2
theorem Liv.apply {N i : Nat} {b : Bs} {l : Nat → ByteArray} (h : Liv N i b l) (hi : i < N) {q : List Wr} (hq : Wok q) : (apR N i b q).1 = 0 ∧ Liv N i (apR N i b q).2 (app l q) := by
  obtain ⟨h1, h2, h3, h4, h5, h6⟩ := ap_go hi q h.p h.dead h.n hq
  rw [h.q, h.ll] at h6
  exact ⟨h1, ⟨h2, h3, h4, h5, h6, app_size h.sz hq⟩⟩
theorem InT.congr {rd rd' : Nat → ByteArray} {d : Nat} {top : ByteArray} {C : Nat → ByteArray} (h : InT rd d (sl0 top) C) (hd : d ≤ 4) (e : ∀ a, a < 140 → rd a = rd' a) : InT rd' d (sl0 top) C := by
  have hp := pow_le16 d hd
  refine ⟨fun i i1 i2 => ?_, fun j hj => ?_, h.2.2⟩
  · have := h.1 i i1 i2
    show rd' (100 + i) = _
    rw [← e _ (by omega)]; exact this
  · have := h.2.1 j hj
    show rd' (120 + j) = _
    rw [← e _ (by omega)]; exact this
def upL (C : Nat → ByteArray) : List (Int × ByteArray) → Nat → ByteArray
  | [] => C
  | p :: r => upL (fun j => if j = p.1.toNat then p.2 else C j) r
def Szd (S : Sl) : Prop := (∀ i p, S.ch i = some p → i < 16 ∧ p.size = 64) ∧ ∀ j c, S.ce j = some c → j < 16 ∧ c.size ≤ 2032
theorem szd_none (top : ByteArray) : Szd (sl0 top) := ⟨fun i p h => (by cases h), fun j c h => (by cases h)⟩
theorem ovE_fol {rd : Nat → ByteArray} {E : Int} {S : Sl} {d s : Nat} (h : ovE rd E S d s = 0) (hE : E = 0 ∨ E ≠ 0) : (∃ t, fol d s (slk rd S d s) S.top d = some t) := by
  unfold ovE at h
  by_cases e : E = 0 ∨ allC S d s
  · rw [if_pos e] at h
    cases hf : fol d s (slk rd S d s) S.top d with
    | none => rw [hf] at h; cases h
    | some t => exact ⟨t, rfl⟩
  · rw [if_neg e] at h
    exact absurd (.inl h) e
theorem Szd.step {rd : Nat → ByteArray} {E : Int} {S : Sl} {d s : Nat} {c : ByteArray} (h : Szd S) (hd : d ≤ 4) (hs : s < 2 ^ d) (hc : c.size ≤ 2032) (ho : ovE rd E S d s = 0) : Szd (sl1 rd S d s c) := by
  have hp := pow_le16 d hd
  obtain ⟨t, ht⟩ := ovE_fol ho (Decidable.em _)
  have h64 := fol_sizes ht
  refine ⟨fun i p hi => ?_, fun j x hj => ?_⟩
  · have hi' : slCh rd S d s c i = some p := hi
    by_cases e : ∃ k, k < d ∧ i = nd d s k
    · obtain ⟨k, hk, rfl⟩ := e
      rw [slCh_on rd S d s c k hs hk] at hi'
      cases hi'
      exact ⟨by have := (nd_inner d s k hk hs).2; omega, neu_size _ _ _ _ (lH_size _) _ (h64 k hk)⟩
    · rw [slCh_off rd S d s c i (fun k hk he => e ⟨k, hk, he⟩)] at hi'
      exact h.1 i p hi'
  · have hj' : (if j = s then some c else S.ce j) = some x := hj
    by_cases e : j = s
    · rw [if_pos e] at hj'; cases hj'; exact ⟨by omega, hc⟩
    · rw [if_neg e] at hj'; exact h.2 j x hj'
def Cok (n : Nat) (l : List (Int × ByteArray)) : Prop := ∀ p ∈ l, (0 ≤ p.1 ∧ p.1 < (n : Int)) ∧ p.2.size ≤ 2032
theorem Cok.rf {n : Nat} : ∀ {l : List (Int × ByteArray)}, Cok n l → rfE (n : Int) l = 0
  | [], _ => rfl
  | p :: r, h => by
    obtain ⟨⟨h1, h2⟩, h3⟩ := h p (List.mem_cons_self ..)
    show (if slE17 (n : Int) p.1 = 0 then (if 2032 < p.2.size then 5 else rfE (n : Int) r) else slE17 (n : Int) p.1) = 0
    have e : slE17 (n : Int) p.1 = 0 := by unfold slE17; rw [if_neg (by omega)]
    rw [if_pos e, if_neg (by omega)]
    exact Cok.rf (fun q hq => h q (List.mem_cons_of_mem _ hq))
theorem Szd.prR {rd : Nat → ByteArray} {E : Int} {d : Nat} (hd : d ≤ 4) : ∀ (l : List (Int × ByteArray)) {S : Sl}, Szd S → Cok (2 ^ d) l → Szd (prR rd E d S l).2
  | [], S, h, _ => h
  | p :: r, S, h, hc => by
    obtain ⟨⟨h1, h2⟩, h3⟩ := hc p (List.mem_cons_self ..)
    by_cases e : ovE rd E S d p.1.toNat = 0
    · rw [prR_ok e]
      exact Szd.prR hd r (h.step hd (by omega) h3 e) (fun q hq => hc q (List.mem_cons_of_mem _ hq))
    · rw [prR_bad e]; exact h
theorem InT.prR {rd : Nat → ByteArray} {d : Nat} (hd : d ≤ 4) : ∀ (l : List (Int × ByteArray)) {S : Sl} {C : Nat → ByteArray}, InT rd d S C → Cok (2 ^ d) l → (Go.Proofs.YtokknmkleceooaaGreatDoor.prR rd 0 d S l).1 = 0 ∧ InT rd d (Go.Proofs.YtokknmkleceooaaGreatDoor.prR rd 0 d S l).2 (upL C l)
  | [], S, C, h, _ => ⟨rfl, h⟩
  | p :: r, S, C, h, hc => by
    obtain ⟨⟨h1, h2⟩, h3⟩ := hc p (List.mem_cons_self ..)
    have hs : p.1.toNat < 2 ^ d := by omega
    rw [prR_ok (h.ovE hd hs)]
    exact InT.prR hd r (h.step hd hs p.2) (fun q hq => hc q (List.mem_cons_of_mem _ hq))
theorem slL_mem {o : Nat} {f : Nat → Option ByteArray} {w : Wr} : ∀ m, w ∈ slL o f m → ∃ k, k < m ∧ w.1 = o + k ∧ f k = some w.2
  | 0, h => by cases h
  | m + 1, h => by
    have h' : w ∈ slL o f m ++ (match f m with | some p => [(o + m, p)] | none => []) := h
    rcases List.mem_append.1 h' with h1 | h1
    · obtain ⟨k, a, b⟩ := slL_mem m h1
      exact ⟨k, by omega, b⟩
    · cases hf : f m with
      | none => rw [hf] at h1; cases h1
      | some p =>
        rw [hf] at h1
        rcases List.mem_cons.1 h1 with e | e
        · rw [e]; exact ⟨m, by omega, rfl, hf⟩
        · cases e
theorem Szd.wok {S : Sl} (h : Szd S) : Wok (slW S) := fun w hw => by
  unfold slW at hw
  rcases List.mem_append.1 hw with h1 | h1
  · obtain ⟨k, a, b, c⟩ := slL_mem 16 h1
    have := (h.1 k w.2 c).2
    omega
  · obtain ⟨k, a, b, c⟩ := slL_mem 16 h1
    have := (h.2 k w.2 c).2
    omega
theorem blP_mem {n : Nat} {w : Wr} : ∀ k, w ∈ blP n k → ∃ j, 1 ≤ j ∧ j ≤ k ∧ w = (100 + j, tpr eL n j)
  | 0, h => by cases h
  | k + 1, h => by
    have h' : w ∈ blP n k ++ [(100 + (k + 1), tpr eL n (k + 1))] := h
    rcases List.mem_append.1 h' with h1 | h1
    · obtain ⟨j, a, b, c⟩ := blP_mem k h1
      exact ⟨j, a, by omega, c⟩
    · rcases List.mem_cons.1 h1 with e | e
      · exact ⟨k + 1, by omega, by omega, e⟩
      · cases e
theorem blC_mem {w : Wr} : ∀ k, w ∈ blC k → ∃ j, j < k ∧ w = (120 + j, noB)
  | 0, h => by cases h
  | k + 1, h => by
    have h' : w ∈ blC k ++ [(120 + k, noB)] := h
    rcases List.mem_append.1 h' with h1 | h1
    · obtain ⟨j, a, b⟩ := blC_mem k h1
      exact ⟨j, by omega, b⟩
    · rcases List.mem_cons.1 h1 with e | e
      · exact ⟨k, by omega, e⟩
      · cases e
theorem bl_wok {d n : Nat} (hn : 2 ^ d = n) (hd : d ≤ 4) : Wok (blW n) := fun w hw => by
  have h16 : n ≤ 16 := by rw [← hn]; exact pow_le16 d hd
  unfold blW at hw
  rcases List.mem_append.1 hw with h1 | h1
  · obtain ⟨j, a, b, rfl⟩ := blP_mem _ h1
    refine ⟨by show 100 + j < 140; omega, ?_⟩
    show (tpr eL n j).size ≤ 2048
    rw [pr_size eL n j h16 a (by omega) (fun _ _ => lH_size _)]; decide
  · obtain ⟨j, a, rfl⟩ := blC_mem _ h1
    exact ⟨by show 120 + j < 140; omega, by show noB.size ≤ _; decide⟩
theorem app_blP {n : Nat} (f : Nat → ByteArray) : ∀ k a, app f (blP n k) a = if 100 < a ∧ a ≤ 100 + k then tpr eL n (a - 100) else f a
  | 0, a => by rw [if_neg (by omega)]; rfl
  | k + 1, a => by
    show app f (blP n k ++ [(100 + (k + 1), tpr eL n (k + 1))]) a = _
    rw [app_snoc]
    unfold upd
    by_cases e : a = 100 + (k + 1)
    · rw [if_pos e, if_pos (by omega), show a - 100 = k + 1 by omega]
    · rw [if_neg e, app_blP f k a]
      by_cases e2 : 100 < a ∧ a ≤ 100 + k
      · rw [if_pos e2, if_pos (by omega)]
      · rw [if_neg e2, if_neg (by omega)]
theorem app_blC (f : Nat → ByteArray) : ∀ k a, app f (blC k) a = if 120 ≤ a ∧ a < 120 + k then noB else f a
  | 0, a => by rw [if_neg (by omega)]; rfl
  | k + 1, a => by
    show app f (blC k ++ [(120 + k, noB)]) a = _
    rw [app_snoc]
    unfold upd
    by_cases e : a = 120 + k
    · rw [if_pos e, if_pos (by omega)]
    · rw [if_neg e, app_blC f k a]
      by_cases e2 : 120 ≤ a ∧ a < 120 + k
      · rw [if_pos e2, if_pos (by omega)]
      · rw [if_neg e2, if_neg (by omega)]
theorem inT_begin {d n : Nat} (hn : 2 ^ d = n) (hd : 1 ≤ d ∧ d ≤ 4) (f : Nat → ByteArray) : InT (app f (blW n)) d (sl0 (tdg eL n 1)) (fun _ => noB) := by
  have h16 : n ≤ 16 := by rw [← hn]; exact pow_le16 d hd.2
  subst hn
  refine inT_blank _ d _ (fun i i1 i2 => ?_) (fun j hj => ?_) rfl
  · unfold blW
    rw [app_append, app_blC, if_neg (by omega), app_blP, if_pos (by omega), show 100 + i - 100 = i by omega]
    rfl
  · unfold blW
    rw [app_append, app_blC, if_pos (by omega)]
theorem Liv.change {N i : Nat} {b : Bs} {l : Nat → ByteArray} (h : Liv N i b l) (hi : i < N) {d : Nat} (hd : d ≤ 4) {top : ByteArray} {C : Nat → ByteArray} (hT : InT l d (sl0 top) C) {cs : List (Int × ByteArray)} (hc : Cok (2 ^ d) cs) :
    (prR (rdS b.p (b.D i)) (eR b.p (b.D i)) d (sl0 top) cs).1 = 0 ∧ (apR N i b (slW (prR (rdS b.p (b.D i)) (eR b.p (b.D i)) d (sl0 top) cs).2)).1 = 0 ∧
    ∃ l', Liv N i (apR N i b (slW (prR (rdS b.p (b.D i)) (eR b.p (b.D i)) d (sl0 top) cs).2)).2 l' ∧ InT l' d (sl0 (prR (rdS b.p (b.D i)) (eR b.p (b.D i)) d (sl0 top) cs).2.top) (upL C cs) := by
  have hT2 : InT (rdS b.p (b.D i)) d (sl0 top) C := hT.congr hd (fun a ha => (h.rd ha).symm)
  rw [h.er0]
  obtain ⟨h1, h2⟩ := InT.prR hd cs hT2 hc
  have hz := (szd_none top).prR (rd := rdS b.p (b.D i)) (E := 0) hd cs hc
  obtain ⟨h3, h4⟩ := h.apply hi hz.wok
  refine ⟨h1, h3, _, h4, ?_⟩
  refine (h2.applied hd).congr hd (fun a ha => ?_)
  exact app_congr _ 140 _ _ (fun i hi => h.rd hi) a ha
theorem Liv.get {N i : Nat} {b : Bs} {l : Nat → ByteArray} (h : Liv N i b l) {d : Nat} (hd : d ≤ 4) {top : ByteArray} {C : Nat → ByteArray} (hT : InT l d (sl0 top) C) {s : Nat} (hs : s < 2 ^ d) (oe : ByteArray → Int) (ot : ByteArray → ByteArray) :
    slGE (rdS b.p (b.D i)) (eR b.p (b.D i)) d s top oe = oe (C s) ∧ slGT (rdS b.p (b.D i)) (eR b.p (b.D i)) d s top ot = ot (C s) := by
  rw [h.er0]
  exact (hT.congr hd (fun a ha => (h.rd ha).symm)).get hd hs oe ot
end Go.Proofs.YtokknmkleceooaaGreatDoor
