/- A round of SlabQuiet: five answers, and nothing is written. -/
import Derived.Test.YtnhkkhiajiiahaaGreatDoorSlFiveQ
import Derived.Test.YtnhkkhiajiiahaaGreatDoorSlArgQ
namespace Go.Proofs.YtnhkkhiajiiahaaGreatDoor
open Go.RowKit Go.PlainAid
set_option linter.unusedVariables false
set_option maxRecDepth 20000
theorem rem_of (n k : Int) (hk : 0 < k) : ∃ X M : Nat, (if (0 : Int) < n then n else 0) = (X : Int) ∧ Int.tmod (X : Int) k = (M : Int) ∧ (X : Int) % k = (M : Int) ∧ (M : Int) < k := by
  have h0 : (0 : Int) ≤ (if (0 : Int) < n then n else 0) := by split <;> omega
  generalize (if (0 : Int) < n then n else 0) = m at *
  obtain ⟨X, rfl⟩ : ∃ X : Nat, m = (X : Int) := ⟨m.toNat, by omega⟩
  have h1 := Int.emod_nonneg (X : Int) (show k ≠ 0 by omega)
  have h2 := Int.emod_lt_of_pos (X : Int) hk
  refine ⟨X, ((X : Int) % k).toNat, rfl, ?_, ?_, ?_⟩
  · rw [Int.tmod_eq_emod_of_nonneg h0, Int.toNat_of_nonneg h1]
  · rw [Int.toNat_of_nonneg h1]
  · rw [Int.toNat_of_nonneg h1]; exact h2
theorem zeroAct (w : World) : (zeroValue 32).run Tryz.prog w = .ok (.agg #[.int .i64 0, .int .i64 0, .int .i64 0, .int .u8 0, .slice none 0 0, .string noB]) w := by
  obtain ⟨i0, hi, hz⟩ := Option.map_eq_some_iff.1 (show (Tryz.prog.info? 32).map (fun i => i.zero) = some (some (.agg #[.int .i64 0, .int .i64 0, .int .i64 0, .int .u8 0, .slice none 0 0, .string noB])) by kernel_rfl)
  simp [zeroValue, typeInfo, hi, hz]
/-- 2 << (max(0, n) % 4), of a law's own slab. -/
theorem beg_any {W w : World} {R : Asn} (hR : Firm R) (h : Hold W.heap.size W w R) (ht : Tabs W) (hr : RTabs W) {i d n : Nat} (hi : i < 2) (hn : 2 ^ d = n) (hd : 1 ≤ d ∧ d ≤ 4) (f : Nat → Nat) :
    Calls Tryz.prog 8 #[.int .i64 (n : Int), .int .i64 (i : Int), .agg (nr .u8 32 f).toArray] w fun e w' => ∃ gx g gr b b' l top, e = .returned (.tuple #[.pointer (some ⟨gx, 0, none⟩), .bool true]) ∧ Bth W.heap.size W w' gx g gr 2 b b' (i : Int) (n : Int) (tx 32 f) top R ∧ Liv 2 i b l ∧ InT l d (sl0 top) (fun _ => noB) ∧ Few17 2 b 100 :=
  (begin_any hR h (fun z hz => ⟨ht.below hz ht.lt, hr.below hz hr.lt⟩) hi hn hd f).mono fun e w' ⟨gx, g, gr, b, b', l, h1, h2, h3, h4, h5, _⟩ => ⟨gx, g, gr, b, b', l, _, h1, h2, h3, h4, h5⟩
end Go.Proofs.YtnhkkhiajiiahaaGreatDoor
