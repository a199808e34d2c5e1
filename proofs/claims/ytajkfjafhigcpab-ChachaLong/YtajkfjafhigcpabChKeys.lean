/- A key and a nonce that came in as plain data, and the texts that are made of them. -/
import Derived.Test.YtajkfjafhigcpabChWakes
namespace Go.Proofs.Ytajkfjafhigcpab
open Go.RowKit Go.PlainAid
set_option linter.unusedVariables false

/-- The cells of a key, a nonce and a number. -/
def KeysL (L : List Value) (c : Int) : Prop := L.length = 45 ∧ (∀ j, j < 44 → ∃ n : Int, L[j]? = some (.int .u8 n)) ∧ L[44]? = some (.int .i64 c) ∧ -9223372036854775808 ≤ c ∧ c ≤ 9223372036854775807
def vInt : Value → Int
  | .int _ n => n
  | _ => 0
theorem KeysL.at {L : List Value} {c : Int} (h : KeysL L c) (j : Nat) (hj : j < 44) : L[j]? = some (.int .u8 (vInt (L.getD j undef))) := by
  obtain ⟨n, hn⟩ := h.2.1 j hj
  rw [hn, List.getD_eq_getElem?_getD, hn]; rfl
theorem KeysL.one {L : List Value} {c : Int} (h : KeysL L c) : ∀ v ∈ L, v.oneCell' = true := by
  intro v hv
  obtain ⟨j, hj, rfl⟩ := List.mem_iff_getElem.1 hv
  rw [h.1] at hj
  by_cases h44 : j < 44
  · obtain ⟨n, hn⟩ := h.2.1 j h44
    rw [List.getElem?_eq_getElem (by rw [h.1]; exact hj)] at hn
    rw [Option.some.inj hn]; rfl
  · obtain rfl : j = 44 := by omega
    have hn := h.2.2.1
    rw [List.getElem?_eq_getElem (by rw [h.1]; exact hj)] at hn
    rw [Option.some.inj hn]; rfl
theorem KeysL.set0 {L : List Value} {c : Int} (h : KeysL L c) : KeysL (L.set 44 (.int .i64 0)) 0 := by
  refine ⟨by rw [List.length_set]; exact h.1, fun j hj => ?_, ?_, by decide, by decide⟩
  · obtain ⟨n, hn⟩ := h.2.1 j hj
    exact ⟨n, by rw [List.getElem?_set_ne (by omega)]; exact hn⟩
  · rw [List.getElem?_set_self (by rw [h.1]; decide)]
theorem Try.size25 : (Try.prog.info? 25).map (·.size) = some 45 := by kernel_rfl

/-- Some bytes of a block, as a text. -/
theorem conv_cells (w : World) (g o n : Nat) (L : List Value) (c : Int) (h : KeysL L c) (hg : Blk w g 25 L) (ho : o + n ≤ 44) :
    ∃ s : ByteArray, s.size = n ∧ ∀ m, (convert 28 9 (.slice (some ⟨g, o, none⟩) n n)).run Try.prog (w.drewN m) = .ok (.string s) (w.drewN m) := by
  refine ⟨strOfNums ((List.range n).map fun i => vInt (L.getD (o + i) undef)), by rw [strOfNums_size]; simp, fun m => ?_⟩
  refine run_convert_bytes_arg (P := Try.prog) (w.drewN m) 28 5 Try.underlying28 Try.underlying5 g o n n _ (by simp) (fun i hi => ?_) 9 Try.underlying9
  rw [(hg.drewN m).cell (h.at (o + i) (by omega))]
  simp [hi]

set_option maxHeartbeats 1000000 in
theorem texts_any (L : List Value) (c : Int) (h : KeysL L c) (w : World) :
    Calls Try.prog 4 #[.agg L.toArray] w fun e w' => ∃ k n : ByteArray, e = .returned (.tuple #[.string k, .string n]) ∧ k.size ≤ 32 ∧ n.size = 12 ∧ (0 ≤ c → k.size = 32) ∧ Below w.heap.size w w' := by
  have hB : Blk (w.alloc (.cells L.toArray 25)) w.heap.size 25 L := by
    have := Blk.new w 25 L.toArray
    simpa using this
  have hl : Below w.heap.size w (w.alloc (.cells L.toArray 25)) := (Below.refl _ _).alloc (Nat.le_refl _) _
  obtain ⟨k, hk, hck⟩ := conv_cells _ _ 0 32 L c h hB (by decide)
  obtain ⟨n, hn, hcn⟩ := conv_cells _ _ 32 12 L c h hB (by decide)
  have c44 := hB.cell h.2.2.1
  obtain ⟨-, -, -, h0, h1⟩ := h
  have hks : k.size ≤ 32 := by omega
  have HK : Hid (k.size = 32 ∧ n.size = 12) := ⟨hk, hn⟩
  have hkI : (k.size : Int) ≤ 32 := by omega
  clear hk hn hB
  go_enter Try.func4, Try.ntmps4
  go_wp2_with fail
  generalize w.alloc (.cells L.toArray 25) = w1 at hck hcn c44 hl ⊢
  obtain ⟨g, hgd⟩ : ∃ g, w.heap.size = g := ⟨_, rfl⟩
  rw [hgd] at hck hcn c44 hl ⊢
  have HG : Hid (w.heap.size = g) := hgd
  clear hgd
  go_quiet (fail)
  have hl2 : Below g w (w1.drewN nq) := ⟨hl.os, hl.tape, hl.output, hl.size, hl.block⟩
  have d44 : (w1.drewN nq).cell? ⟨g, 44, none⟩ = some (.int .i64 c) := c44
  clear hck hcn c44 hl
  generalize w1.drewN nq = w2 at hl2 d44 ⊢
  by_cases hc0 : c < 0
  · by_cases hc31 : c < -31
    · have hm : ¬ (-31 < c) := by omega
      have hk31 : (31 : Int) ≤ (k.size : Int) := by have := HK.out.1; omega
      go_wp2_with fail
      go_ret2
      refine ⟨_, _, rfl, ?_, HK.out.2, fun h => absurd hc0 (by omega), by rw [HG.out]; exact hl2⟩
      rw [ByteArray.size_extract]; omega
    · have hm : -31 ≤ c := by omega
      have hk31 : -c ≤ (k.size : Int) := by have := HK.out.1; omega
      have hnc : (0 : Int) ≤ -c := by omega
      go_wp2_with fail
      go_ret2
      refine ⟨_, _, rfl, ?_, HK.out.2, fun h => absurd hc0 (by omega), by rw [HG.out]; exact hl2⟩
      rw [ByteArray.size_extract]; omega
  · go_wp2_with fail
    go_ret2
    exact ⟨_, _, rfl, hks, HK.out.2, HK.out.1, by rw [HG.out]; exact hl2⟩
end Go.Proofs.Ytajkfjafhigcpab
