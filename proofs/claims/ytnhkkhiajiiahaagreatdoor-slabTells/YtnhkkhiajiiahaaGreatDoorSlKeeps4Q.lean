/- SlabKeeps: texts of bytes that were just made; Seal, with what lies below kept. -/
import Derived.Test.YtnhkkhiajiiahaaGreatDoorSlKeeps3Q
namespace Go.Proofs.YtnhkkhiajiiahaaGreatDoor
open Go.RowKit Go.PlainAid
set_option linter.unusedVariables false
set_option maxRecDepth 20000
theorem zcells {n : Nat} {Z : Array Value} (hZ : ∀ x : World, PZ x.heap.size n (x.alloc (.cells Z 5 (0, 0)))) {z : World} {G : Nat} (h : Blk z G 5 Z.toList) : PZ G n z := fun i hi => by
  have h1 := hZ z i hi
  have h2 := Blk.new z 5 Z
  generalize z.alloc (.cells Z 5 (0, 0)) = y at h1 h2
  generalize z.heap.size = q at h1 h2
  unfold Blk at h h2
  have e1 : y.cell? ⟨q, i, none⟩ = Z.toList[i]? := by simp [World.cell?, h2]
  have e2 : z.cell? ⟨G, i, none⟩ = Z.toList[i]? := by simp [World.cell?, h]
  rw [e2, ← e1]; exact h1
theorem pz30 {z : World} {G : Nat} (h : PZ G 30 z) : (convert 35 9 (.slice (some ⟨G, 0, none⟩) 30 30)).run Tryz.prog z = .ok (.string (zB 30)) z := pz_conv _ _ 30 h
theorem acs_all {W : World} {a : Option Addr} {len cap : Nat} (h : Acs W a len cap) (j : Nat) (hj : j < len) : ∃ sb so, ∃ A : Ac, a = some ⟨sb, so, none⟩ ∧ A.Ok ∧ ∀ z, Below W.heap.size W z → z.rangeAt sb (so + j * 6) A.row := by
  obtain ⟨_, _, A, hA, h0 | ⟨b, o, e, hl, hr⟩⟩ := h
  · omega
  · exact ⟨b, o, A j, e, hA j hj, fun z hb k v hv => (hb.cell (p := ⟨b, o + j * 6 + k, none⟩) hl).trans (hr j hj k v hv)⟩
section
variable {W z z' : World} {gx g gr gw d n k m s : Nat} {key top t : ByteArray} {b b' : Bs} {l C : Nat → ByteArray} {v : Value}
theorem Km.seal2 (h : Km W gx g gr gw n key b b' top C s t v k z) (hn : 2 ^ d = n) (hd : 1 ≤ d ∧ d ≤ 4) (hk : key.size = 32) (hs : s < n) (ht : t.size = 32) {nonce : ByteArray} (hno : nonce.size = 12) :
    Calls Tryz.prog 12 #[slV (.pointer (some ⟨g, 0, none⟩)) 1 (n : Int) key, .int .i64 (s : Int), .string nonce, .string t] z fun e w' => e = .returned (.tuple #[.string (clB17 key nonce (plc 1 s) t), .int .i64 0]) ∧ Below z.heap.size z w' := by
  have h16 : n ≤ 16 := by rw [← hn]; exact pow_le16 d hd.2
  have hb : Bk z g 2 b.D b.s b.p := by obtain ⟨w, q, h1, h2, h3⟩ := h; exact h2.bk
  exact sseal_ok (i := 1) (k := s) (by decide) (by omega) hk (fault_in (good_yes (i := 1) hb (by decide) hn hd hk) (by omega) (by omega)) hno ht
/-- The slab, its top and what is wanted of a slot, as they lie. -/
def Sw (gx g gw n s : Nat) (key top t : ByteArray) (z : World) : Prop := z.cell? ⟨gx, 0, none⟩ = some (.pointer (some ⟨g, 0, none⟩)) ∧ z.cell? ⟨gx, 1, none⟩ = some (.int .i64 1) ∧ z.cell? ⟨gx, 2, none⟩ = some (.int .i64 (n : Int)) ∧ z.cell? ⟨gx, 3, none⟩ = some (.string key) ∧ z.cell? ⟨gw, s, none⟩ = some (.string t)
theorem Km.sw (h : Km W gx g gr gw n key b b' top C s t v k z) (hs : s < n) : Sw gx g gw n s key top t z := ⟨h.sc.1, h.sc.2.1, h.sc.2.2.1, h.sc.2.2.2.1, h.want hs⟩
end
end Go.Proofs.YtnhkkhiajiiahaaGreatDoor
