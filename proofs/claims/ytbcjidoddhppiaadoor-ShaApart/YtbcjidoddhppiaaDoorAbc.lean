/- The digest of one text, reckoned by the kernel: the standard's own example. -/
import Derived.Test.YtbcjidoddhppiaaDoorSha
namespace Go.Proofs.YtbcjidoddhppiaaDoor
open Go.RowKit Go.PlainAid
set_option linter.unusedVariables false

/-- A number is reckoned before one goes on. -/
def fz {α : Type} (n : Nat) (k : Nat → α) : α := match n with
  | 0 => k 0
  | m + 1 => k (m + 1)
theorem fz_eq {α : Type} (n : Nat) (k : Nat → α) : fz n k = k n := by cases n <;> rfl
/-- The same functions on natural numbers. -/
def rN (n x : Nat) : Nat := 2 ^ (32 - n) * (x % 2 ^ n) + x / 2 ^ n
def S1N (e : Nat) : Nat := (rN 6 e ^^^ rN 11 e) ^^^ rN 25 e
def S0N (a : Nat) : Nat := (rN 2 a ^^^ rN 13 a) ^^^ rN 22 a
def g1N (x : Nat) : Nat := (rN 17 x ^^^ rN 19 x) ^^^ (x / 1024)
def g0N (x : Nat) : Nat := (rN 7 x ^^^ rN 18 x) ^^^ (x / 8)
def chN (e f g : Nat) : Nat := (e &&& f) ^^^ ((4294967295 - e) &&& g)
def mjN (a b c : Nat) : Nat := ((a &&& b) ^^^ (a &&& c)) ^^^ (b &&& c)
theorem rN_lt (n x : Nat) (hn : 1 ≤ n) (h32 : n ≤ 31) (hx : x < 4294967296) : rN n x < 4294967296 ∧ rr n (x : Int) = ((rN n x : Nat) : Int) := by
  have h := rotl_nat x (32 - n) (by omega)
  rw [show 32 - (32 - n) = n by omega] at h
  have e : rr n (x : Int) = ((rN n x : Nat) : Int) := by
    unfold rr rN
    rw [turn_rotl _ (by omega) (by omega) _ (by omega), h]
  refine ⟨?_, e⟩
  have hb := rr_lo n (x : Int) ⟨by omega, by omega⟩
  omega
theorem xorN (a b : Nat) (ha : a < 4294967296) (hb : b < 4294967296) : a ^^^ b < 4294967296 ∧ bits .xor .u32 (a : Int) (b : Int) = ((a ^^^ b : Nat) : Int) := by
  have e := u32_xor_nat a b ha hb
  have h := xor_lo (a : Int) (b : Int)
  exact ⟨by omega, e⟩
theorem andN (a b : Nat) (ha : a < 4294967296) (hb : b < 4294967296) : a &&& b < 4294967296 ∧ bits .and .u32 (a : Int) (b : Int) = ((a &&& b : Nat) : Int) := by
  have e := u32_and_nat a b ha hb
  have h := and_lo (a : Int) (b : Int)
  exact ⟨by omega, e⟩
theorem xor3 (a b c : Nat) (x y z : Int) (ha : a < 4294967296 ∧ x = (a : Int)) (hb : b < 4294967296 ∧ y = (b : Int)) (hc : c < 4294967296 ∧ z = (c : Int)) :
    (a ^^^ b) ^^^ c < 4294967296 ∧ bits .xor .u32 (bits .xor .u32 x y) z = (((a ^^^ b) ^^^ c : Nat) : Int) := by
  obtain ⟨ha, rfl⟩ := ha
  obtain ⟨hb, rfl⟩ := hb
  obtain ⟨hc, rfl⟩ := hc
  have h1 := xorN a b ha hb
  have h2 := xorN _ c h1.1 hc
  rw [h1.2, h2.2]
  exact ⟨h2.1, rfl⟩
theorem S1N_ok (x : Nat) (h : x < 4294967296) : S1N x < 4294967296 ∧ bS1 (x : Int) = ((S1N x : Nat) : Int) := xor3 _ _ _ _ _ _ (rN_lt 6 x (by omega) (by omega) h) (rN_lt 11 x (by omega) (by omega) h) (rN_lt 25 x (by omega) (by omega) h)
theorem S0N_ok (x : Nat) (h : x < 4294967296) : S0N x < 4294967296 ∧ bS0 (x : Int) = ((S0N x : Nat) : Int) := xor3 _ _ _ _ _ _ (rN_lt 2 x (by omega) (by omega) h) (rN_lt 13 x (by omega) (by omega) h) (rN_lt 22 x (by omega) (by omega) h)
theorem g1N_ok (x : Nat) (h : x < 4294967296) : g1N x < 4294967296 ∧ sg1 (x : Int) = ((g1N x : Nat) : Int) := xor3 _ _ _ _ _ _ (rN_lt 17 x (by omega) (by omega) h) (rN_lt 19 x (by omega) (by omega) h) ⟨by omega, by omega⟩
theorem g0N_ok (x : Nat) (h : x < 4294967296) : g0N x < 4294967296 ∧ sg0 (x : Int) = ((g0N x : Nat) : Int) := xor3 _ _ _ _ _ _ (rN_lt 7 x (by omega) (by omega) h) (rN_lt 18 x (by omega) (by omega) h) ⟨by omega, by omega⟩
theorem chN_ok (e f g : Nat) (he : e < 4294967296) (hf : f < 4294967296) (hg : g < 4294967296) : chN e f g < 4294967296 ∧ chF (e : Int) (f : Int) (g : Int) = ((chN e f g : Nat) : Int) := by
  have h1 := andN e f he hf
  have h2 := andN (4294967295 - e) g (by omega) hg
  rw [show ((4294967295 - e : Nat) : Int) = 4294967295 - (e : Int) by omega] at h2
  have h3 := xorN _ _ h1.1 h2.1
  unfold chF chN
  rw [h1.2, h2.2, h3.2]
  exact ⟨h3.1, rfl⟩
theorem mjN_ok (a b c : Nat) (ha : a < 4294967296) (hb : b < 4294967296) (hc : c < 4294967296) : mjN a b c < 4294967296 ∧ mjF (a : Int) (b : Int) (c : Int) = ((mjN a b c : Nat) : Int) :=
  xor3 _ _ _ _ _ _ (andN a b ha hb) (andN a c ha hc) (andN b c hb hc)

/-- The rounds, over a list of what goes in. -/
def runN : List Nat → Nat → Nat → Nat → Nat → Nat → Nat → Nat → Nat → List Nat
  | [], a, b, c, d, e, f, g, h => [a, b, c, d, e, f, g, h]
  | x :: r, a, b, c, d, e, f, g, h =>
    fz ((x + ((h + S1N e) % 4294967296 + chN e f g) % 4294967296) % 4294967296) fun t =>
    fz (((t + S0N a) % 4294967296 + mjN a b c) % 4294967296) fun a' =>
    fz ((d + t) % 4294967296) fun e' => runN r a' a b c e' e f g
def at8 (a b c d e f g h : Nat) (i : Nat) : Int := ([a, b, c, d, e, f, g, h].getD i 0 : Nat)
theorem runN_ok (l : List Nat) : ∀ (S : Nat → Int) (a b c d e f g h : Nat), a < 4294967296 → b < 4294967296 → c < 4294967296 → d < 4294967296 → e < 4294967296 → f < 4294967296 → g < 4294967296 → h < 4294967296 →
    (∀ i, i < 8 → S i = at8 a b c d e f g h i) → ∀ i, i < 8 → (l.map Int.ofNat).foldl nx S i = (((runN l a b c d e f g h).getD i 0 : Nat) : Int) := by
  induction l with
  | nil => intro S a b c d e f g h _ _ _ _ _ _ _ _ hS i hi; exact hS i hi
  | cons x r ih =>
    intro S a b c d e f g h ha hb hc hd he hf hg hh hS i hi
    have s0 : S 0 = (a : Int) := hS 0 (by omega)
    have s1 : S 1 = (b : Int) := hS 1 (by omega)
    have s2 : S 2 = (c : Int) := hS 2 (by omega)
    have s3 : S 3 = (d : Int) := hS 3 (by omega)
    have s4 : S 4 = (e : Int) := hS 4 (by omega)
    have s5 : S 5 = (f : Int) := hS 5 (by omega)
    have s6 : S 6 = (g : Int) := hS 6 (by omega)
    have s7 : S 7 = (h : Int) := hS 7 (by omega)
    have k1 := (S1N_ok e he).2
    have k0 := (S0N_ok a ha).2
    have kc := (chN_ok e f g he hf hg).2
    have km := (mjN_ok a b c ha hb hc).2
    rw [runN]
    simp only [fz_eq]
    rw [List.map_cons, List.foldl_cons]
    refine ih (nx S (Int.ofNat x)) _ a b c _ e f g (Nat.mod_lt _ (by omega)) ha hb hc (Nat.mod_lt _ (by omega)) he hf hg ?_ i hi
    have ht : tin S (Int.ofNat x) = (((x + ((h + S1N e) % 4294967296 + chN e f g) % 4294967296) % 4294967296 : Nat) : Int) := by
      unfold tin
      rw [s7, s4, s5, s6, k1, kc]
      simp only [Int.ofNat_eq_natCast]
      omega
    intro j hj
    unfold nx
    have e : j = 0 ∨ j = 1 ∨ j = 2 ∨ j = 3 ∨ j = 4 ∨ j = 5 ∨ j = 6 ∨ j = 7 := by omega
    rw [ht, s0, s1, s2, s3, k0, km]
    rcases e with rfl | rfl | rfl | rfl | rfl | rfl | rfl | rfl
    · rw [if_pos rfl]
      show _ = (((((x + ((h + S1N e) % 4294967296 + chN e f g) % 4294967296) % 4294967296 + S0N a) % 4294967296 + mjN a b c) % 4294967296 : Nat) : Int)
      omega
    · exact s0
    · exact s1
    · exact s2
    · rw [if_neg (by omega), if_pos rfl]
      show _ = (((d + (x + ((h + S1N e) % 4294967296 + chN e f g) % 4294967296) % 4294967296) % 4294967296 : Nat) : Int)
      omega
    · exact s4
    · exact s5
    · exact s6

/-- The schedule, the newest word first. -/
def goN : Nat → List Nat → List Nat
  | 0, l => l
  | k + 1, l => fz ((((g1N (l.getD 1 0) + l.getD 6 0) % 4294967296 + g0N (l.getD 14 0)) % 4294967296 + l.getD 15 0) % 4294967296) fun x => goN k (x :: l)
theorem goN_ok (b : Nat → Int) : ∀ (k m : Nat) (l : List Nat), 16 ≤ m → l.length = m → (∀ i, i < m → l.getD (m - 1 - i) 0 < 4294967296 ∧ Wt b i = ((l.getD (m - 1 - i) 0 : Nat) : Int)) →
    (goN k l).length = m + k ∧ ∀ i, i < m + k → Wt b i = (((goN k l).getD (m + k - 1 - i) 0 : Nat) : Int) := by
  intro k
  induction k with
  | zero => intro m l _ hl h; exact ⟨hl, fun i hi => (h i hi).2⟩
  | succ k ih =>
    intro m l hm hl h
    rw [goN, fz_eq]
    obtain ⟨x, hx⟩ : ∃ x, (((g1N (l.getD 1 0) + l.getD 6 0) % 4294967296 + g0N (l.getD 14 0)) % 4294967296 + l.getD 15 0) % 4294967296 = x := ⟨_, rfl⟩
    have h2 := h (m - 2) (by omega)
    have h7 := h (m - 7) (by omega)
    have h15 := h (m - 15) (by omega)
    have h16 := h (m - 16) (by omega)
    rw [show m - 1 - (m - 2) = 1 by omega] at h2
    rw [show m - 1 - (m - 7) = 6 by omega] at h7
    rw [show m - 1 - (m - 15) = 14 by omega] at h15
    rw [show m - 1 - (m - 16) = 15 by omega] at h16
    have hw : Wt b m = (x : Int) := by
      rw [Wt_step b m hm, h2.2, h7.2, h15.2, h16.2, (g1N_ok _ h2.1).2, (g0N_ok _ h15.1).2, ← hx]
      omega
    rw [hx]
    have key := ih (m + 1) (x :: l) (by omega) (by rw [List.length_cons, hl]) ?_
    · rw [show m + 1 + k = m + (k + 1) by omega] at key
      exact key
    · intro i hi
      rcases Nat.lt_or_ge i m with hlt | hge
      · rw [show m + 1 - 1 - i = (m - 1 - i) + 1 by omega, List.getD_cons_succ]
        exact h i hlt
      · rw [show m + 1 - 1 - i = 0 by omega, List.getD_cons_zero, show i = m by omega]
        exact ⟨by rw [← hx]; exact Nat.mod_lt _ (by omega), hw⟩

def kN : List Nat := kL.map Int.toNat
def addN : List Nat → List Nat → List Nat
  | x :: r, y :: s => fz ((x + y) % 4294967296) fun z => z :: addN r s
  | _, _ => []
theorem addN_ok : ∀ (l m : List Nat) (i : Nat), i < l.length → i < m.length → (addN l m).getD i 0 = (l.getD i 0 + m.getD i 0) % 4294967296
  | x :: r, y :: s, 0, _, _ => by simp [addN, fz_eq]
  | x :: r, y :: s, i + 1, h1, h2 => by
    have := addN_ok r s i (by simpa using h1) (by simpa using h2)
    simpa [addN, fz_eq] using this
theorem addN_length : ∀ (l m : List Nat), l.length = m.length → (addN l m).length = l.length
  | [], [], _ => rfl
  | x :: r, y :: s, h => by
    have := addN_length r s (by simpa using h)
    simp [addN, fz_eq, this]
/-- The whole of one block. -/
def cprN (l : List Nat) (a b c d e f g h : Nat) : List Nat := addN (runN (addN (goN 48 l.reverse).reverse kN) a b c d e f g h) [a, b, c, d, e, f, g, h]
theorem kN_ok : (List.range 64).all (fun i => decide ((kN.getD i 0 : Int) = kc i)) = true := by decide +kernel
theorem kN_length : kN.length = 64 := by decide +kernel
theorem reverse_getD (l : List Nat) (i : Nat) (h : i < l.length) : l.reverse.getD i 0 = l.getD (l.length - 1 - i) 0 := by
  rw [List.getD_eq_getElem?_getD, List.getD_eq_getElem?_getD, List.getElem?_reverse h]
theorem runN_length : ∀ (l : List Nat) (a b c d e f g h : Nat), (runN l a b c d e f g h).length = 8
  | [], _, _, _, _, _, _, _, _ => rfl
  | x :: r, a, b, c, d, e, f, g, h => by rw [runN]; simp only [fz_eq]; exact runN_length r _ _ _ _ _ _ _ _
theorem cprN_ok (S w : Nat → Int) (l : List Nat) (hl : l.length = 16) (hw : ∀ i, i < 16 → l.getD i 0 < 4294967296 ∧ w i = ((l.getD i 0 : Nat) : Int)) (a b c d e f g h : Nat)
    (ha : a < 4294967296) (hb : b < 4294967296) (hc : c < 4294967296) (hd : d < 4294967296) (he : e < 4294967296) (hf : f < 4294967296) (hg : g < 4294967296) (hh : h < 4294967296)
    (hS : ∀ i, i < 8 → S i = at8 a b c d e f g h i) : ∀ i, i < 8 → cpr S w i = (((cprN l a b c d e f g h).getD i 0 : Nat) : Int) := by
  intro i hi
  have hgo := goN_ok w 48 16 l.reverse (by omega) (by rw [List.length_reverse, hl]) (fun j hj => by
    rw [reverse_getD l _ (by omega), hl, show 16 - 1 - (16 - 1 - j) = j by omega, Wt_first w j hj]
    exact hw j hj)
  have hx : (List.range 64).map (fun t => (Wt w t + kc t) % 4294967296) = (addN (goN 48 l.reverse).reverse kN).map Int.ofNat := by
    apply List.ext_getElem
    · rw [List.length_map, List.length_map, List.length_range, addN_length _ _ (by rw [List.length_reverse, hgo.1, kN_length]), List.length_reverse, hgo.1]
    · intro j h1 h2
      rw [List.length_map, List.length_range] at h1
      have e := addN_ok (goN 48 l.reverse).reverse kN j (by rw [List.length_reverse, hgo.1]; omega) (by rw [kN_length]; omega)
      have hk := List.all_eq_true.1 kN_ok j (List.mem_range.2 h1)
      have hk' : (kN.getD j 0 : Int) = kc j := of_decide_eq_true hk
      have hj := hgo.2 j (by omega)
      rw [List.length_map] at h2
      rw [List.getD_eq_getElem?_getD, List.getElem?_eq_getElem h2, Option.getD_some, reverse_getD _ _ (by rw [hgo.1]; omega), hgo.1] at e
      simp only [List.getElem_map, List.getElem_range]
      rw [e, hj, ← hk', show 16 + 48 - 1 - j = 16 + 48 - 1 - j from rfl]
      simp only [Int.ofNat_eq_natCast]
      omega
  unfold cpr rds
  rw [hx, runN_ok _ S a b c d e f g h ha hb hc hd he hf hg hh hS i hi]
  unfold cprN
  rw [addN_ok (runN (addN (goN 48 l.reverse).reverse kN) a b c d e f g h) [a, b, c, d, e, f, g, h] i (by rw [runN_length]; exact hi) hi, hS i hi]
  unfold at8
  omega

theorem joinF_congr (g : Int → List Int) (f f' : Nat → Int) (n : Nat) (h : ∀ i, i < n → f i = f' i) : joinF g f n = joinF g f' n := by
  induction n with
  | zero => rfl
  | succ n ih => rw [joinF_succ, joinF_succ, ih (fun i hi => h i (by omega)), h n (by omega)]
def abcB : ByteArray := ⟨#[97, 98, 99]⟩
def abcD : ByteArray := ⟨#[186, 120, 22, 191, 143, 1, 207, 234, 65, 65, 64, 222, 93, 174, 34, 35, 176, 3, 97, 163, 150, 23, 122, 156, 180, 16, 255, 97, 242, 0, 21, 173]⟩
theorem abc_pad : (padB abcB).size = 64 := by decide +kernel
theorem abc_words : (List.range 16).map (blk (padB abcB) 0) = [1633837952, 0, 0, 0, 0, 0, 0, 0, 0, 0, 0, 0, 0, 0, 0, 24] := by decide +kernel
theorem abc_cpr : cprN [1633837952, 0, 0, 0, 0, 0, 0, 0, 0, 0, 0, 0, 0, 0, 0, 24] 1779033703 3144134277 1013904242 2773480762 1359893119 2600822924 528734635 1541459225 = [3128432319, 2399260650, 1094795486, 1571693091, 2953011619, 2518121116, 3021012833, 4060091821] := by decide +kernel
theorem abc_text : strOfNums (joinF fourB (fun i => (([3128432319, 2399260650, 1094795486, 1571693091, 2953011619, 2518121116, 3021012833, 4060091821] : List Nat).getD i 0 : Nat)) 8) = abcD := by decide +kernel
theorem abc_digest : digest abcB = abcD := by
  unfold digest
  rw [abc_pad, ← abc_text]
  unfold textB
  congr 1
  apply joinF_congr
  intro i hi8
  show cpr ini (blk (padB abcB) 0) i = _
  rw [cprN_ok ini (blk (padB abcB) 0) [1633837952, 0, 0, 0, 0, 0, 0, 0, 0, 0, 0, 0, 0, 0, 0, 24] rfl ?_ 1779033703 3144134277 1013904242 2773480762 1359893119 2600822924 528734635 1541459225 (by omega) (by omega) (by omega) (by omega) (by omega) (by omega) (by omega) (by omega) ?_ i hi8, abc_cpr]
  · intro j hj
    have h := congrArg (fun l : List Int => l[j]?) abc_words
    simp only [List.getElem?_map, List.getElem?_range hj, Option.map_some] at h
    have e : j = 0 ∨ j = 1 ∨ j = 2 ∨ j = 3 ∨ j = 4 ∨ j = 5 ∨ j = 6 ∨ j = 7 ∨ j = 8 ∨ j = 9 ∨ j = 10 ∨ j = 11 ∨ j = 12 ∨ j = 13 ∨ j = 14 ∨ j = 15 := by omega
    rcases e with rfl | rfl | rfl | rfl | rfl | rfl | rfl | rfl | rfl | rfl | rfl | rfl | rfl | rfl | rfl | rfl <;> exact ⟨by decide, Option.some.inj h⟩
  · intro j hj
    have e : j = 0 ∨ j = 1 ∨ j = 2 ∨ j = 3 ∨ j = 4 ∨ j = 5 ∨ j = 6 ∨ j = 7 := by omega
    rcases e with rfl | rfl | rfl | rfl | rfl | rfl | rfl | rfl <;> rfl
end Go.Proofs.YtbcjidoddhppiaaDoor
