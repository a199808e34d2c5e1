/- A round of SlabQuiet: five answers, and nothing is written. -/
import Derived.Test.YtnhkkhiajiiahaaGreatDoorSlFiveQ
import Derived.Test.YtnhkkhiajiiahaaGreatDoorSlArgQ
namespace Go.Proofs.YtnhkkhiajiiahaaGreatDoor
open Go.RowKit Go.PlainAid
set_option linter.unusedVariables false
set_option maxRecDepth 20000
structure Qt (W : World) (gx g gr ga : Nat) (n : Int) (key top : ByteArray) (kk : Int) (ap : ByteArray) (b b' : Bs) (BT : World → Prop) : Prop where
  c : ∀ z, BT z → (fun z : World => z.cell? ⟨gx, 0, none⟩ = some (.pointer (some ⟨g, 0, none⟩)) ∧ z.cell? ⟨gx, 1, none⟩ = some (.int .i64 0) ∧ z.cell? ⟨gx, 2, none⟩ = some (.int .i64 n) ∧ z.cell? ⟨gx, 3, none⟩ = some (.string key) ∧ z.cell? ⟨gx, 8, none⟩ = some (.string top) ∧ z.cell? ⟨ga, 1, none⟩ = some (.int .i64 kk) ∧ z.cell? ⟨ga, 5, none⟩ = some (.string ap)) z
  below : ∀ z z', BT z → Below z.heap.size z z' → BT z'
  out : ∀ z, BT z → Bth W.heap.size W z gx g gr 2 b b' 0 n key top nought
  sea : ∀ z, BT z → Calls Tryz.prog 12 #[slV (.pointer (some ⟨g, 0, none⟩)) 0 n key, .int .i64 kk, .string ⟨#[49, 50, 51, 52, 53, 54, 55, 56, 57, 48, 49, 50]⟩, .string (zB 32)] z fun e w' => ∃ v, e = .returned v ∧ BT w'
  get : ∀ z, BT z → Calls Tryz.prog 15 #[slV (.pointer (some ⟨g, 0, none⟩)) 0 n key, .string ap, .int .i64 kk] z fun e w' => ∃ v, e = .returned v ∧ BT w'
  prep : ∀ z x, BT z → Calls Tryz.prog 13 #[slV (.pointer (some ⟨g, 0, none⟩)) 0 n key, .string top, .slice (some ⟨z.heap.size, 0, none⟩) 1 1] (z.alloc (.cells #[.int .i64 kk, .string x] 49)) fun e w' => ∃ v, e = .returned v ∧ BT w'
  blank : ∀ z, BT z → Calls Tryz.prog 22 #[slV (.pointer (some ⟨g, 0, none⟩)) 0 n key] z fun e w' => ∃ v, e = .returned v ∧ BT w'
  bad : ∀ z, BT z → Calls Tryz.prog 16 #[slV (.pointer (some ⟨g, 0, none⟩)) 0 n key, .string top] z fun e w' => ∃ v, e = .returned v ∧ BT w'
theorem qt_any {W : World} {gx g gr ga : Nat} {d n : Nat} {key top : ByteArray} {A : Ac} {b b' : Bs} {l : Nat → ByteArray} (ht : ∀ z, Below W.heap.size W z → Tabs z) (hL : Liv 2 0 b l) (hn : 2 ^ d = n) (hd : 1 ≤ d ∧ d ≤ 4) (hk : key.size = 32) :
    Qt W gx g gr ga (n : Int) key top A.s A.p b b' (fun z => Bth W.heap.size W z gx g gr 2 b b' 0 (n : Int) key top (star (blkA ga 32 A.row) nought)) where
  c z h := by
    have hB : Blk z ga 32 A.row := Hold.blk (Hold.right (Hold.right (Hold.right h)))
    exact ⟨h.cells.1, h.cells.2.1, h.cells.2.2.1, h.cells.2.2.2.1, h.blk.cell (i := 8) rfl, hB.cell (i := 1) rfl, hB.cell (i := 5) rfl⟩
  below z z' h hb := h.below ((firm_blk _ _ _).star firm_nought) hb
  out z h := h.dropR
  sea z h := (q_seal (i := 0) h.bk (by decide) hn hd hk A.s rfl (zB_size 32)).mono fun e w' ⟨v, a, c⟩ => ⟨v, a, h.below ((firm_blk _ _ _).star firm_nought) c⟩
  get z h := (q_get (i := 0) h.bk (ht z h.low) hL (by decide) hn hd hk A.p A.s).mono fun e w' ⟨v, a, c⟩ => ⟨v, a, h.below ((firm_blk _ _ _).star firm_nought) c⟩
  prep z x h := by
    have hB : Below z.heap.size z (z.alloc (.cells #[.int .i64 A.s, .string x] 49)) := (Below.refl _ _).alloc (Nat.le_refl _) _
    exact (q_prep (i := 0) (h.below ((firm_blk _ _ _).star firm_nought) hB).bk (ht _ (h.below ((firm_blk _ _ _).star firm_nought) hB).low) hL (by decide) hn hd hk top (c := 1) (Cg.one z A.s x) (by show 1 ≤ 100; decide)).mono fun e w' ⟨v, a, c⟩ => ⟨v, a, (h.below ((firm_blk _ _ _).star firm_nought) hB).below ((firm_blk _ _ _).star firm_nought) c⟩
  blank z h := (q_blank (i := 0) h.bk (ht z h.low) (by decide) hn hd hk).mono fun e w' ⟨v, a, c⟩ => ⟨v, a, h.below ((firm_blk _ _ _).star firm_nought) c⟩
  bad z h := (q_bad (i := 0) h.bk (ht z h.low) hL (by decide) hn hd hk top).mono fun e w' ⟨v, a, c⟩ => ⟨v, a, h.below ((firm_blk _ _ _).star firm_nought) c⟩
theorem rem_of (n k : Int) (hk : 0 < k) : ∃ X M : Nat, (if (0 : Int) < n then n else 0) = (X : Int) ∧ Int.tmod (X : Int) k = (M : Int) ∧ (X : Int) % k = (M : Int) ∧ (M : Int) < k := by
  have h0 : (0 : Int) ≤ (if (0 : Int) < n then n else 0) := by split <;> omega
  generalize (if (0 : Int) < n then n else 0) = m at *
  obtain ⟨X, rfl⟩ : ∃ X : Nat, m = (X : Int) := ⟨m.toNat, by omega⟩
  have h1 := Int.emod_nonneg (X : Int) (show k ≠ 0 by omega)
  have h2 := Int.emod_lt_of_pos (X : Int) hk
  refine ⟨X, ((X : Int) % k).toNat, rfl, ?_, ?_, ?_⟩
  · rw [Int.tmod_eq_emod_of_nonneg h0, Int.toNat_of_nonneg h1]
  · rw [Int.toNat_of_nonneg h1]
  · rw [Int.toNat_of_nonneg h1]; exact h2
theorem zeroAct (w : World) : (zeroValue 32).run Tryz.prog w = .ok (.agg #[.int .i64 0, .int .i64 0, .int .i64 0, .int .u8 0, .slice none 0 0, .string noB]) w := by
  obtain ⟨i0, hi, hz⟩ := Option.map_eq_some_iff.1 (show (Tryz.prog.info? 32).map (fun i => i.zero) = some (some (.agg #[.int .i64 0, .int .i64 0, .int .i64 0, .int .u8 0, .slice none 0 0, .string noB])) by kernel_rfl)
  simp [zeroValue, typeInfo, hi, hz]
/-- 2 << (max(0, n) % 4), of a law's own slab. -/
theorem beg_any {W w : World} {R : Asn} (hR : Firm R) (h : Hold W.heap.size W w R) (ht : Tabs W) (hr : RTabs W) {i d n : Nat} (hi : i < 2) (hn : 2 ^ d = n) (hd : 1 ≤ d ∧ d ≤ 4) (f : Nat → Nat) :
    Calls Tryz.prog 8 #[.int .i64 (n : Int), .int .i64 (i : Int), .agg (nr .u8 32 f).toArray] w fun e w' => ∃ gx g gr b b' l top, e = .returned (.tuple #[.pointer (some ⟨gx, 0, none⟩), .bool true]) ∧ Bth W.heap.size W w' gx g gr 2 b b' (i : Int) (n : Int) (tx 32 f) top R ∧ Liv 2 i b l ∧ InT l d (sl0 top) (fun _ => noB) ∧ Few17 2 b 100 :=
  (begin_any hR h (fun z hz => ⟨ht.below hz ht.lt, hr.below hz hr.lt⟩) hi hn hd f).mono fun e w' ⟨gx, g, gr, b, b', l, h1, h2, h3, h4, h5, _⟩ => ⟨gx, g, gr, b, b', l, _, h1, h2, h3, h4, h5⟩
end Go.Proofs.YtnhkkhiajiiahaaGreatDoor
