import Derived.Test.YtokknmkleceooaaGreatDoorBaseM
namespace Go.Proofs.YtokknmkleceooaaGreatDoor
set_option maxRecDepth 20000
open Go.RowKit Go.PlainAid
set_option linter.unusedVariables false
def hiW (n : Int) (i : Nat) : Int := if i = 0 then n / 4294967296 else n % 4294967296
def numB (n : Int) : ByteArray := strOfNums (joinF fourB (hiW n) 2)
theorem numB_size (n : Int) : (numB n).size = 8 := by unfold numB; rw [strOfNums_size, joinF_length fourB (fun _ => rfl)]
theorem cnumF_any (n : Int) (h0 : 0 ≤ n) (h1 : n ≤ 18446744073709551615) (w : World) : Calls Tryz.prog 120 #[.int .u64 n] w fun e w' => e = .returned (.string (numB n)) ∧ Below w.heap.size w w' := by
  have e1 : n / 4294967296 % 4294967296 = n / 4294967296 := by omega
  have hB : Hid (Below w.heap.size w (w.alloc (.cells #[.int .u32 (n / 4294967296), .int .u32 (n % 4294967296)] 195))) := (Below.refl _ _).alloc (Nat.le_refl _) _
  have hA : Hid (At (w.alloc (.cells #[.int .u32 (n / 4294967296), .int .u32 (n % 4294967296)] 195)) (some ⟨w.heap.size, 0, none⟩) 2 (hiW n)) := .inr ⟨_, _, rfl, fun i hi => by
    rcases (by omega : i = 0 ∨ i = 1) with rfl | rfl
    · exact (Blk.new w 195 #[.int .u32 (n / 4294967296), .int .u32 (n % 4294967296)]).cell rfl
    · exact (Blk.new w 195 #[.int .u32 (n / 4294967296), .int .u32 (n % 4294967296)]).cell rfl⟩
  have hf : Hid (∀ i, i < 2 → 0 ≤ hiW n i ∧ hiW n i < 4294967296) := fun i hi => by
    unfold hiW; split <;> omega
  go_enter Tryz.func120, Tryz.ntmps120
  go_wp2_with (go_at_call 173; refine (fromBig_any _ _ 2 (hiW n) _ (by decide) hA.out hf.out).mono ?_; rintro e w1 ⟨rfl, hb⟩)
  go_ret
  exact ⟨rfl, hB.out.trans (hb.mono hB.out.size)⟩
end Go.Proofs.YtokknmkleceooaaGreatDoor
