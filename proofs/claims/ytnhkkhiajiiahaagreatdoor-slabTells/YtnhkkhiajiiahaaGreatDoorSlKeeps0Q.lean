/- Chunks that were put: plain facts; a row of changes that grows. -/
import Derived.Test.YtnhkkhiajiiahaaGreatDoorSlWakes2Q
namespace Go.Proofs.YtnhkkhiajiiahaaGreatDoor
open Go.RowKit Go.PlainAid
set_option linter.unusedVariables false
set_option maxRecDepth 20000
/-- The cells open to these texts. -/
def Kp (key : ByteArray) (i n : Nat) (C w : Nat → ByteArray) : Prop := ∀ j, j < n → opE key (plc i j) (C j) = 0 ∧ opT key (plc i j) (C j) = w j
theorem kp_begin (key : ByteArray) (i n : Nat) : Kp key i n (fun _ => noB) (fun _ => zB 32) := fun j _ => op_none key (plc i j)
theorem Kp.put {key : ByteArray} {i n : Nat} {C w : Nat → ByteArray} (h : Kp key i n C w) {nonce : ByteArray} (hn : nonce.size = 12) (s : Nat) (t : ByteArray) : Kp key i n (fun j => if j = s then clB17 key nonce (plc i s) t else C j) (fun j => if j = s then t else w j) := fun j hj => by
  by_cases e : j = s
  · subst e; simp only [if_pos]; exact op_seal key nonce (plc i j) t hn
  · simp only [if_neg e]; exact h j hj
theorem Kp.congr {key : ByteArray} {i n : Nat} {C C' w w' : Nat → ByteArray} (h : Kp key i n C w) (h1 : ∀ j, j < n → C j = C' j) (h2 : ∀ j, j < n → w j = w' j) : Kp key i n C' w' := fun j hj => by rw [← h1 j hj, ← h2 j hj]; exact h j hj
theorem upL_snoc : ∀ (cs : List (Int × ByteArray)) (C : Nat → ByteArray) (p : Int × ByteArray), upL C (cs ++ [p]) = fun j => if j = p.1.toNat then p.2 else upL C cs j
  | [], C, p => rfl
  | x :: r, C, p => upL_snoc r _ p
/-- Changes, of slots that there are. -/
def zq (q : List Wr) : List (Int × ByteArray) := q.map fun p => ((p.1 : Int), p.2)
theorem zq_snoc (q : List Wr) (p : Wr) : zq (q ++ [p]) = zq q ++ [((p.1 : Int), p.2)] := by unfold zq; rw [List.map_append]; rfl
theorem zq_length (q : List Wr) : (zq q).length = q.length := by unfold zq; rw [List.length_map]
theorem up_snoc (C : Nat → ByteArray) (q : List Wr) (p : Wr) : upL C (zq (q ++ [p])) = fun j => if j = p.1 then p.2 else upL C (zq q) j := by
  rw [zq_snoc, upL_snoc]
  funext j
  simp
theorem cok_nil (n : Nat) : Cok n (zq []) := fun p hp => by cases hp
theorem cok_snoc {n : Nat} {q : List Wr} (h : Cok n (zq q)) {p : Wr} (h1 : p.1 < n) (h2 : p.2.size ≤ 2032) : Cok n (zq (q ++ [p])) := by
  rw [zq_snoc]
  intro x hx
  rcases List.mem_append.1 hx with h3 | h3
  · exact h x h3
  · rcases List.mem_cons.1 h3 with rfl | h4
    · exact ⟨⟨by show (0 : Int) ≤ (p.1 : Int); omega, by show (p.1 : Int) < (n : Int); omega⟩, h2⟩
    · cases h4
theorem Cg.ofRow {w : World} {b : Nat} {a : Option Addr} {c : Nat} {q : List Wr} (h : w.ownsRow b 49 2 (.slice a q.length c) q.length (pairs q)) : Cg w 49 a (zq q) := by
  cases q with
  | nil => exact .inl rfl
  | cons x r =>
    obtain ⟨g, e, h0⟩ := pairs_range h (k := 0) rfl
    refine .inr ⟨g, 0, e, cell_blk_lt (h0 0 _ rfl), fun i p hp => ?_⟩
    unfold zq at hp
    rw [List.getElem?_map, Option.map_eq_some_iff] at hp
    obtain ⟨y, hy, rfl⟩ := hp
    obtain ⟨g', e', h1⟩ := pairs_range h hy
    rw [e] at e'
    cases e'
    rw [Nat.zero_add]
    exact h1
theorem Tryz.infoChg17 : (Tryz.prog.info? 49).map (fun i => (i.zero, i.size, i.bytes)) = some (some (.agg #[.int .i64 0, .string noB]), 2, 24) := by kernel_rfl
theorem push_chg {B : Nat} {w0 w : World} {R : Asn} {v : Value} {m : Nat} {q : List Wr} (hR : Firm R) (h : Hold B w0 w (star (rowK 49 2 v m (pairs q)) R)) (hm : m ≤ 1000) (p : Wr) :
    ∃ a c w', (Builtin.append_ #[36, 36] 36 #[v, .slice (some ⟨w.heap.size, 0, none⟩) 1 1]).run Tryz.prog (w.alloc (.cells #[.int .i64 (p.1 : Int), .string p.2] 49)) = .ok (.slice a (m + 1) c) w' ∧ Hold B w0 w' (star (rowK 49 2 (.slice a (m + 1) c) (m + 1) (pairs (q ++ [p]))) R) := by
  obtain ⟨a, c, w', h1, h2⟩ := push_one hR 36 49 36 _ 2 24 Tryz.underlying36 Tryz.infoChg17 rfl (by decide) (by decide) h hm [.int .i64 (p.1 : Int), .string p.2] rfl (fun u hu => by
    simp only [List.mem_cons, List.not_mem_nil, or_false] at hu
    rcases hu with rfl | rfl <;> rfl)
  refine ⟨a, c, w', h1, ?_⟩
  rw [pairs_append]; exact h2
/-- None is bad. -/
theorem bdN_none {E : Nat → Int} : ∀ n, (∀ s, s < n → E s = 0) → bdN E n = []
  | 0, _ => rfl
  | n + 1, h => by
    have h1 := bdN_none n (fun s hs => h s (by omega))
    unfold bdN at h1 ⊢
    rw [List.range_succ, List.filter_append, h1]
    simp [h n (by omega)]
end Go.Proofs.YtnhkkhiajiiahaaGreatDoor
