/- Rows of one's own: new ones, one more value, what lies there. -/
import Derived.Test.YtbekmjljcjgopabDoorBaseM
import Derived.Lib.AppendZeros
namespace Go.Proofs.YtbekmjljcjgopabDoor
open Go.RowKit Go.PlainAid
set_option linter.unusedVariables false
set_option maxRecDepth 20000

theorem owns_low {w : World} {b b' : Nat} {e : TypeId} {size : Nat} {v : Value} {n : Nat} {xs : List Value} (h : w.ownsRow b e size v n xs) (hb : b' ≤ b) : w.ownsRow b' e size v n xs := by
  refine ⟨h.1, ?_⟩
  rcases h.2 with hn | ⟨g, cap, cur, h1, h2, h3⟩
  · exact .inl hn
  · exact .inr ⟨g, cap, cur, h1, Nat.le_trans hb h2, h3⟩
theorem owns_above {w : World} {b : Nat} {e : TypeId} {size : Nat} {v : Value} {n : Nat} {xs : List Value} (h : w.ownsRow b e size v n xs) (k : Nat) (hk : v.ownBlock = some k) : b ≤ k := by
  rcases h.2 with ⟨hn, _⟩ | ⟨g, cap, cur, h1, h2, h3⟩
  · rw [hn] at hk; cases hk
  · rw [h1] at hk; cases hk; exact h2
theorem owns_form {w : World} {b : Nat} {e : TypeId} {size : Nat} {v : Value} {n : Nat} {xs : List Value} (h : w.ownsRow b e size v n xs) : ∃ a c, v = .slice a n c := by
  rcases h.2 with ⟨hn, h0⟩ | ⟨g, cap, cur, h1, h2, h3⟩
  · rw [hn, h0]; exact ⟨none, 0, rfl⟩
  · exact ⟨_, _, h1⟩
theorem owns_cell {w : World} {b : Nat} {e : TypeId} {size : Nat} {a : Option Addr} {n c : Nat} {xs : List Value} (h : w.ownsRow b e size (.slice a n c) n xs) {i : Nat} {u : Value} (hu : xs[i]? = some u) : ∃ g, a = some ⟨g, 0, none⟩ ∧ w.cell? ⟨g, i, none⟩ = some u := by
  have hl := h.1
  have hi : i < n * size := by
    rcases Nat.lt_or_ge i (n * size) with h' | h'
    · exact h'
    · rw [List.getElem?_eq_none (by omega)] at hu; cases hu
  rcases h.2 with ⟨h1, h2⟩ | ⟨g', cap, cur, h1, _⟩
  · subst h2; omega
  · cases h1
    exact ⟨g', rfl, by rw [h.cellAt i hi]; exact hu⟩
section
variable {B : Nat} {w0 w w' : World} {R : Asn} {T : TypeId} {K : Nat} {v : Value} {m : Nat} {xs : List Value}
/-- A row that a call has made. -/
theorem Hold.newRow (hR : Firm R) (h : Hold B w0 w R) (hb : Below w.heap.size w w') (hr : w'.ownsRow w.heap.size T K v m xs) : Hold B w0 w' (star (Go.Proofs.YtbekmjljcjgopabDoor.rowK T K v m xs) R) :=
  Hold.new hR h hb (G := fun k => v.ownBlock = some k) ⟨owns_low hr (Nat.zero_le _), fun _ => Iff.rfl⟩ (fun k hk => owns_above hr k hk)
theorem star_nil17 {P : Asn} {F : Nat → Prop} (h : P w F) : star (rowK T K (.slice none 0 0) 0 []) P w F :=
  ⟨fun _ => False, F, ⟨⟨by simp, .inl ⟨rfl, rfl⟩⟩, fun k => ⟨fun h => h.elim, fun h => by cases h⟩⟩, h, fun _ h => h.elim, fun k => by simp⟩
/-- It is handed back: a row from there on. -/
theorem Hold.rowBack (h : Hold B w0 w (star (Go.Proofs.YtbekmjljcjgopabDoor.rowK T K v m xs) R)) : w.ownsRow B T K v m xs := by
  obtain ⟨h1, h2, F, ⟨G, H, ⟨h3, h4⟩, h5, h6, h7⟩, h8⟩ := h
  refine ⟨h3.1, ?_⟩
  rcases h3.2 with hn | ⟨g, cap, cur, a1, a2, a3⟩
  · exact .inl hn
  · exact .inr ⟨g, cap, cur, a1, h8 g ((h7 g).2 (.inl ((h4 g).2 (by rw [a1]; rfl)))), a3⟩
/-- One value more. -/
theorem push_one (hR : Firm R) (sl T ty : TypeId) (z : Value) (K by_ : Nat) (hu : Tryd.prog.underlying sl = some (.slice T)) (hT : (Tryd.prog.info? T).map (fun i => (i.zero, i.size, i.bytes)) = some (some z, K, by_)) (hz : z.cells.size = K) (hK : 0 < K) (hby : by_ ≤ 40)
    (h : Hold B w0 w (star (rowK T K v m xs) R)) (hm : m ≤ 1000) (row : List Value) (hl : row.length = K) (h1 : ∀ u ∈ row, u.oneCell' = true) :
    ∃ a c w', (Builtin.append_ #[sl, sl] ty #[v, .slice (some ⟨w.heap.size, 0, none⟩) 1 1]).run Tryd.prog (w.alloc (.cells row.toArray T)) = .ok (.slice a (m + 1) c) w' ∧ Hold B w0 w' (star (rowK T K (.slice a (m + 1) c) (m + 1) (xs ++ row)) R) := by
  have h2 := h.below ((firm_rowK _ _ _ _ _).star hR) ((Below.refl w.heap.size w).alloc (Nat.le_refl _) (.cells row.toArray T))
  obtain ⟨v', w', hrun, h3⟩ := rowK_app hR sl T ty z K by_ hu hT hz hK hby h2 ⟨w.heap.size, 0, none⟩ 1 1 row (by omega) (fun j u hu => by
    rw [Go.WideShapes.add_plain, Nat.zero_add]
    exact (Blk.new w T row.toArray).cell (by simpa using hu)) h1 (by omega)
  obtain ⟨a, c, rfl⟩ := own_form h3.rowK
  exact ⟨a, c, w', hrun, h3⟩
end
end Go.Proofs.YtbekmjljcjgopabDoor
