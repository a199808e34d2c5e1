/- What the program's Block answers, for every key, nonce and counter. -/
import Derived.Test.YtnpebabffnjmmaaChBegin
namespace Go.Proofs.Ytnpebabffnjmmaa
open Go.RowKit Go.PlainAid
set_option linter.unusedVariables false

set_option maxHeartbeats 1000000 in
set_option maxRecDepth 20000 in
theorem block_bad (key nonce : ByteArray) (c : Int) (hk' : key.size ≤ maxLen) (hn' : nonce.size ≤ maxLen) (h : key.size ≠ 32 ∨ nonce.size ≠ 12) (w : World) :
    Calls Try.prog 28 #[.string key, .string nonce, .int .u32 c] w fun e w' => e = .returned (.tuple #[.string ⟨#[]⟩, .int .i64 7]) ∧ Below w.heap.size w w' := by
  have hcall := begin_bad key nonce c hk' hn' h w
  have hzr := zero45_run
  obtain ⟨Z, hZ⟩ : ∃ Z, ws 16 (fun _ => 0) = Z := ⟨_, rfl⟩
  rw [hZ] at hzr hcall
  have hZs : Z.length = 16 := by rw [← hZ, ws_length]
  have hZo : ∀ v ∈ Z, v.oneCell' = true := by rw [← hZ]; exact ws_one _ _
  clear hZ hk' hn' h
  go_enter Try.func28, Try.ntmps28
  go_wp2_with fail
  refine hcall.mono ?_
  rintro e w1 ⟨rfl, hb1⟩
  have hB : Blk (w1.alloc (.cells Z.toArray 45)) w1.heap.size 45 Z := by
    have := Blk.new w1 45 Z.toArray
    simpa using this
  have hl : Below w.heap.size w ((w1.alloc (.cells Z.toArray 45)).setRow w1.heap.size Z.toArray) := below_setRow (hb1.alloc hb1.size _) hb1.size _
  clear hcall
  go_wp2_with (refine wpList_store_blk rfl 45 _ _ rfl w1.heap.size Z Z rfl rfl 45 hB (by rw [Try.size45, hZs]) rfl hZo ?_)
  go_ret2
  exact ⟨rfl, hl⟩

set_option maxHeartbeats 1000000 in
set_option maxRecDepth 20000 in
theorem block_ok (key nonce : ByteArray) (c : Int) (hk : key.size = 32) (hn : nonce.size = 12) (hc : W32 c) (w : World) :
    Calls Try.prog 28 #[.string key, .string nonce, .int .u32 c] w fun e w' => e = .returned (.tuple #[.string (blkB (stI key nonce c)), .int .i64 0]) ∧ Below w.heap.size w w' := by
  have hcall := begin_ok key nonce c hk hn hc w
  have hblk := fun w => bloc_any (stI key nonce c) w
  have hzr := zero45_run
  obtain ⟨Z, hZ⟩ : ∃ Z, ws 16 (fun _ => 0) = Z := ⟨_, rfl⟩
  obtain ⟨L, hL⟩ : ∃ L, ws 16 (stI key nonce c) = L := ⟨_, rfl⟩
  rw [hZ] at hzr
  rw [hL] at hcall hblk
  have hZs : Z.length = 16 := by rw [← hZ, ws_length]
  have hLs : L.length = 16 := by rw [← hL, ws_length]
  have hLo : ∀ v ∈ L, v.oneCell' = true := by rw [← hL]; exact ws_one _ _
  clear hZ hL hk hn
  generalize blkB (stI key nonce c) = X at hblk ⊢
  go_enter Try.func28, Try.ntmps28
  go_wp2_with fail
  refine hcall.mono ?_
  rintro e w1 ⟨rfl, hb1⟩
  have hB : Blk (w1.alloc (.cells Z.toArray 45)) w1.heap.size 45 Z := by
    have := Blk.new w1 45 Z.toArray
    simpa using this
  have hB2 : Blk ((w1.alloc (.cells Z.toArray 45)).setRow w1.heap.size L.toArray) w1.heap.size 45 L := hB.setRow
  have hl : Below w.heap.size w ((w1.alloc (.cells Z.toArray 45)).setRow w1.heap.size L.toArray) := below_setRow (hb1.alloc hb1.size _) hb1.size _
  clear hcall
  go_wp2_with (first | (refine wpList_store_blk rfl 45 _ _ rfl w1.heap.size Z L rfl rfl 45 hB (by rw [Try.size45, hLs]) (by rw [hZs, hLs]) hLo ?_) | (refine wpList_load_blk rfl 45 _ rfl w1.heap.size rfl 45 L _ hB2 Try.underlying45 rfl (by rw [Try.size45, hLs]) ?_) | (go_at_call 26; refine (hblk _).mono ?_; rintro e w2 ⟨rfl, hb2⟩))
  go_ret2
  exact ⟨rfl, hl.trans (hb2.mono hl.size)⟩
end Go.Proofs.Ytnpebabffnjmmaa
