/- Rows of members that grow; a record's own variable with its members. -/
import Derived.Test.YtbjmhpbelkndpaaDoorSuRead0
import Derived.Test.YtbjmhpbelkndpaaDoorSuPlain
import Derived.Lib.AppendZeros
namespace Go.Proofs.YtbjmhpbelkndpaaDoor
open Go.RowKit Go.PlainAid
set_option linter.unusedVariables false
set_option maxRecDepth 20000

/-- A row of values of K cells each that may grow. -/
def rowK (T : TypeId) (K : Nat) (v : Value) (m : Nat) (xs : List Value) : Asn := fun w F => w.ownsRow 0 T K v m xs ∧ ∀ k, F k ↔ v.ownBlock = some k
theorem firm_rowK (T : TypeId) (K : Nat) (v : Value) (m : Nat) (xs : List Value) : Firm (rowK T K v m xs) :=
  ⟨fun h hk hd => ⟨owns_kept h.1 hk (fun k e => hd k ((h.2 k).2 e)), h.2⟩, fun h k hk => (World.ownsRow.lt h.1 k ((h.2 k).1 hk)).2⟩
theorem Hold.rowK {B : Nat} {w0 w : World} {T : TypeId} {K : Nat} {v : Value} {m : Nat} {xs : List Value} {R : Asn} (h : Hold B w0 w (star (rowK T K v m xs) R)) : w.ownsRow 0 T K v m xs := by
  obtain ⟨h1, h2, F, ⟨G, H, h3, h4⟩, h7⟩ := h; exact h3.1
/-- Values that lie somewhere are appended. -/
theorem rowK_app {B : Nat} {w0 w : World} {R : Asn} (hR : Firm R) (sl T ty : TypeId) (z : Value) (K by_ : Nat) (hu : Tryd.prog.underlying sl = some (.slice T)) (hT : (Tryd.prog.info? T).map (fun i => (i.zero, i.size, i.bytes)) = some (some z, K, by_)) (hz : z.cells.size = K) (hK : 0 < K) (hby : by_ ≤ 40)
    {v : Value} {m : Nat} {xs : List Value} (h : Hold B w0 w (star (rowK T K v m xs) R)) (ad : Addr) (n c : Nat) (news : List Value) (hl : news.length = n * K) (hnews : ∀ j u, news[j]? = some u → w.cell? (ad.add j) = some u) (h1 : ∀ u ∈ news, u.oneCell' = true) (hm : m + n ≤ 1000000) :
    ∃ v' w', (Builtin.append_ #[sl, sl] ty #[v, .slice (some ad) n c]).run Tryd.prog w = .ok v' w' ∧ Hold B w0 w' (star (rowK T K v' (m + n) (xs ++ news)) R) := by
  obtain ⟨i0, hi, hz0, hz1, hz2⟩ := info_parts hT
  have hb : (m + n) * by_ ≤ 140737488355328 := Nat.le_trans (Nat.mul_le_mul hm hby) (by decide)
  obtain ⟨v', w', hrun, hown, hgrow, _, hat⟩ := run_append_own_at (P := Tryd.prog) w 0 sl ty T i0 z K by_ hu hi hz0 hz1 hz2 hz hK v m xs h.rowK ad n c news hl hnews h1 (by unfold maxLen; omega) hb (Nat.zero_le _)
  refine ⟨v', w', hrun, ?_⟩
  obtain ⟨g1, g2, F, ⟨G, H, h3, h4, h5, h6⟩, h7⟩ := h
  refine Hold.turned hR g1 g2 h4 h5 (fun k hk => h7 k ((h6 k).2 hk)) ⟨fun k => v'.ownBlock = some k, ⟨hown, fun k => Iff.rfl⟩, (Kept.refl G w).grown hgrow (fun k e => .inl ((h3.2 k).2 e)), fun k hk => ?_⟩
  rcases hat with e | e
  · exact .inl ((h3.2 k).2 (by rw [← e]; exact hk))
  · rw [e] at hk; cases hk; exact .inr (Nat.le_refl _)
theorem own_form {w : World} {T : TypeId} {K : Nat} {v : Value} {m : Nat} {xs : List Value} (h : w.ownsRow 0 T K v m xs) : ∃ a c, v = .slice a m c := by
  rcases h.2 with ⟨rfl, rfl⟩ | ⟨g, cap, cur, rfl, _⟩
  · exact ⟨_, _, rfl⟩
  · exact ⟨_, _, rfl⟩
/-- Members as they lie in a row. -/
def memF (st : Nat → Int) (top log : Nat → ByteArray) : Nat → List Value
  | 0 => []
  | n + 1 => memF st top log n ++ mrow (st n) (top n) (log n)
theorem memF_len (st : Nat → Int) (top log : Nat → ByteArray) (n : Nat) : (memF st top log n).length = n * 3 := by
  induction n with
  | zero => rfl
  | succ n ih => show (memF st top log n ++ mrow _ _ _).length = _; rw [List.length_append, ih, mrow_len]; omega
theorem memF_P (st : Nat → Int) (top log : Nat → ByteArray) (n : Nat) : memP (memF st top log n) n st top log := by
  refine ⟨memF_len _ _ _ _, ?_⟩
  induction n with
  | zero => intro i hi; omega
  | succ n ih =>
    intro i hi
    show (memF st top log n ++ mrow _ _ _)[_]? = _ ∧ _
    have hl := memF_len st top log n
    by_cases e : i = n
    · subst e
      refine ⟨?_, ?_, ?_⟩
      · rw [List.getElem?_append_right (by omega), hl, Nat.sub_self]; rfl
      · show (memF st top log i ++ mrow _ _ _)[_]? = _
        rw [List.getElem?_append_right (by omega), hl, show i * 3 + 1 - i * 3 = 1 by omega]; rfl
      · show (memF st top log i ++ mrow _ _ _)[_]? = _
        rw [List.getElem?_append_right (by omega), hl, show i * 3 + 2 - i * 3 = 2 by omega]; rfl
    · obtain ⟨a, b, c⟩ := ih i (by omega)
      refine ⟨?_, ?_, ?_⟩
      · rw [List.getElem?_append_left (by omega)]; exact a
      · show (memF st top log n ++ mrow _ _ _)[_]? = _
        rw [List.getElem?_append_left (by omega)]; exact b
      · show (memF st top log n ++ mrow _ _ _)[_]? = _
        rw [List.getElem?_append_left (by omega)]; exact c
theorem own_sx {w : World} {a : Option Addr} {n c : Nat} {f : Nat → Int} (h : w.ownsRow 0 3 1 (.slice a n c) n (si n f)) : Sx w a n f := by
  rcases h.2 with ⟨h1, h2⟩ | ⟨g, cap, cur, h1, _, h3, _, _, _, h4⟩
  · exact .inl h2
  · cases h1
    refine .inr ⟨g, 0, rfl, (Array.getElem?_eq_some_iff.1 h3).1, fun i hi => ?_⟩
    have h5 := si_at n f i hi
    rw [← h4, List.getElem?_take, if_pos (by omega)] at h5
    rw [Nat.zero_add, cell_of_row w g i cur 3 (0, 0) h3, ← Array.getElem?_toList, h5]
theorem own_mx {w : World} {T : TypeId} {a : Option Addr} {n c : Nat} {xs : List Value} {st : Nat → Int} {top log : Nat → ByteArray} (h : w.ownsRow 0 T 3 (.slice a n c) n xs) (hp : memP xs n st top log) : Mx w a n st top log := by
  rcases h.2 with ⟨h1, h2⟩ | ⟨g, cap, cur, h1, _, h3, _, _, _, h4⟩
  · exact .inl h2
  · cases h1
    refine .inr ⟨g, 0, rfl, (Array.getElem?_eq_some_iff.1 h3).1, fun i hi j v hv => ?_⟩
    obtain ⟨p, q, r⟩ := hp.2 i hi
    have key : ∀ m, m < n * 3 → w.cell? ⟨g, m, none⟩ = xs[m]? := fun m hm => by
      rw [cell_of_row w g m cur T (0, 0) h3, ← h4, List.getElem?_take, if_pos hm, Array.getElem?_toList]
    rw [Nat.zero_add]
    match j, hv with
    | 0, hv => simp [mrow] at hv; subst hv; exact (key _ (by omega)).trans p
    | 1, hv => simp [mrow] at hv; subst hv; exact (key _ (by omega)).trans q
    | 2, hv => simp [mrow] at hv; subst hv; exact (key _ (by omega)).trans r
    | (k + 3), hv => simp [mrow] at hv
/-- A digest as the law makes it: a byte, and n noughts. -/
def dgB (b n : Nat) : ByteArray := tx 1 (fun _ => b) ++ zB n
theorem dgB_size (b n : Nat) : (dgB b n).size = 1 + n := by unfold dgB; rw [ByteArray.size_append, tx_size, zB_size]
theorem Tryd.info49w : (Tryd.prog.info? 49).map (fun i => (i.zero, i.size, i.bytes)) = some (some (.agg (mrow 0 noB noB).toArray), 3, 40) := by kernel_rfl
end Go.Proofs.YtbjmhpbelkndpaaDoor
