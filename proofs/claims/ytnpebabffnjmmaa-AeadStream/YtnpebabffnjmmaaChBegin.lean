/- The state that the program makes a block of, for every key, nonce and counter; and the block itself. -/
import Derived.Test.YtnpebabffnjmmaaChBloc
import Derived.Test.YtnpebabffnjmmaaChState
namespace Go.Proofs.Ytnpebabffnjmmaa
open Go.RowKit Go.PlainAid
set_option linter.unusedVariables false

set_option maxHeartbeats 1000000 in
set_option maxRecDepth 20000 in
theorem begin_bad (key nonce : ByteArray) (c : Int) (hk' : key.size ≤ maxLen) (hn' : nonce.size ≤ maxLen) (h : key.size ≠ 32 ∨ nonce.size ≠ 12) (w : World) :
    Calls Try.prog 24 #[.string key, .string nonce, .int .u32 c] w fun e w' => e = .returned (.tuple #[.agg (ws 16 (fun _ => 0)).toArray, .int .i64 7]) ∧ Below w.heap.size w w' := by
  unfold maxLen at hk' hn'
  have hzr := zero45_run
  obtain ⟨Z, hZ⟩ : ∃ Z, ws 16 (fun _ => 0) = Z := ⟨_, rfl⟩
  rw [hZ] at hzr ⊢
  have hZs : Z.length = 16 := by rw [← hZ, ws_length]
  have hZo : ∀ v ∈ Z, v.oneCell' = true := by rw [← hZ]; exact ws_one _ _
  have hA0 : Blk ((w.alloc (.cells Z.toArray 45)).alloc (.cells Z.toArray 45)) w.heap.size 45 Z := by
    have := (Blk.new w 45 Z.toArray).alloc (.cells Z.toArray 45)
    simpa using this
  have hB0 : Blk ((w.alloc (.cells Z.toArray 45)).alloc (.cells Z.toArray 45)) (w.heap.size + 1) 45 Z := by
    have := Blk.new (w.alloc (.cells Z.toArray 45)) 45 Z.toArray
    simpa using this
  have hl0 : Below w.heap.size w ((w.alloc (.cells Z.toArray 45)).alloc (.cells Z.toArray 45)) := ((Below.refl _ w).alloc (Nat.le_refl _) _).alloc (by simp) _
  have hR : (loadVar 45 ⟨w.heap.size, 0, none⟩).run Try.prog (((w.alloc (.cells Z.toArray 45)).alloc (.cells Z.toArray 45)).setRow w.heap.size Z.toArray) = .ok (.agg Z.toArray) (((w.alloc (.cells Z.toArray 45)).alloc (.cells Z.toArray 45)).setRow w.heap.size Z.toArray) := by
    have h1 : Blk (((w.alloc (.cells Z.toArray 45)).alloc (.cells Z.toArray 45)).setRow w.heap.size Z.toArray) w.heap.size 45 (ws 16 (fun _ => 0)) := by rw [hZ]; exact hA0.setRow
    have h2 := load45 h1
    rw [hZ] at h2
    exact h2
  have hl1 := below_setRow hl0 (Nat.le_refl w.heap.size) Z.toArray
  clear hZ hl0
  by_cases hk : key.size = 32
  · have hn : nonce.size ≠ 12 := by
      rcases h with h | h
      · exact absurd hk h
      · exact h
    have hkI : (((key.size : Nat) : Int) != 32) = false := by simp; omega
    have hnI : (((nonce.size : Nat) : Int) != 12) = true := by simp; omega
    clear hk hn h
    go_enter Try.func24, Try.ntmps24
    go_wp2_with (first | (refine wpList_load_blk rfl 45 _ rfl (w.heap.size + 1) rfl 45 Z _ hB0 Try.underlying45 rfl (by rw [Try.size45, hZs]) ?_) | (refine wpList_store_blk rfl 45 _ _ rfl w.heap.size Z Z rfl rfl 45 hA0 (by rw [Try.size45, hZs]) rfl hZo ?_))
    exact bodyPost_ret_by (v := .tuple #[.agg Z.toArray, .int .i64 7]) (results_cell_tmp 6 7 45 ⟨w.heap.size, 0, none⟩ Try.results24 rfl hR rfl) rfl ⟨rfl, hl1⟩
  · have hkI : (((key.size : Nat) : Int) != 32) = true := by simp; omega
    clear hk h
    go_enter Try.func24, Try.ntmps24
    go_wp2_with (first | (refine wpList_load_blk rfl 45 _ rfl (w.heap.size + 1) rfl 45 Z _ hB0 Try.underlying45 rfl (by rw [Try.size45, hZs]) ?_) | (refine wpList_store_blk rfl 45 _ _ rfl w.heap.size Z Z rfl rfl 45 hA0 (by rw [Try.size45, hZs]) rfl hZo ?_))
    exact bodyPost_ret_by (v := .tuple #[.agg Z.toArray, .int .i64 7]) (results_cell_tmp 6 7 45 ⟨w.heap.size, 0, none⟩ Try.results24 rfl hR rfl) rfl ⟨rfl, hl1⟩

set_option maxHeartbeats 1000000 in
set_option maxRecDepth 20000 in
theorem begin_ok (key nonce : ByteArray) (c : Int) (hk : key.size = 32) (hn : nonce.size = 12) (hc : W32 c) (w : World) :
    Calls Try.prog 24 #[.string key, .string nonce, .int .u32 c] w fun e w' => e = .returned (.tuple #[.agg (ws 16 (stI key nonce c)).toArray, .int .i64 0]) ∧ Below w.heap.size w w' := by
  have hzr := zero45_run
  obtain ⟨Z, hZ⟩ : ∃ Z, ws 16 (fun _ => 0) = Z := ⟨_, rfl⟩
  rw [hZ] at hzr
  have hZs : Z.length = 16 := by rw [← hZ, ws_length]
  clear hZ
  have hA0 : Blk ((w.alloc (.cells Z.toArray 45)).alloc (.cells Z.toArray 45)) w.heap.size 45 Z := by
    have := (Blk.new w 45 Z.toArray).alloc (.cells Z.toArray 45)
    simpa using this
  have hB0 : Blk ((w.alloc (.cells Z.toArray 45)).alloc (.cells Z.toArray 45)) (w.heap.size + 1) 45 Z := by
    have := Blk.new (w.alloc (.cells Z.toArray 45)) 45 Z.toArray
    simpa using this
  have hl0 : Below w.heap.size w ((w.alloc (.cells Z.toArray 45)).alloc (.cells Z.toArray 45)) := ((Below.refl _ w).alloc (Nat.le_refl _) _).alloc (by simp) _
  have hkI : (((key.size : Nat) : Int) != 32) = false := by simp; omega
  have hnI : (((nonce.size : Nat) : Int) != 12) = false := by simp; omega
  have HT : Hid ((tB key nonce c).size = 64) := tB_size key nonce c hk hn
  have HW : Hid (∀ i, i < 16 → wordsL le4 (tB key nonce c) i = stI key nonce c i) := tB_words key nonce c hk hc
  have hks : key.size ≤ 32 := by omega
  have hns : nonce.size ≤ 12 := by omega
  have HK : Hid (key.size = 32) := hk
  clear hk hn
  go_enter Try.func24, Try.ntmps24
  go_wp2_with fail
  have hat : At (((w.alloc (.cells Z.toArray 45)).alloc (.cells Z.toArray 45)).alloc (.cells #[.int .u32 c] 42)) (some ⟨w.heap.size + 1 + 1, 0, none⟩) 1 (fun _ => c) := by
    refine .inr ⟨w.heap.size + 1 + 1, 0, rfl, fun i hi => ?_⟩
    obtain rfl : i = 0 := by omega
    have hb : Blk (((w.alloc (.cells Z.toArray 45)).alloc (.cells Z.toArray 45)).alloc (.cells #[.int .u32 c] 42)) (w.heap.size + 1 + 1) 42 [.int .u32 c] := by
      have := Blk.new ((w.alloc (.cells Z.toArray 45)).alloc (.cells Z.toArray 45)) 42 #[.int .u32 c]
      simpa using this
    exact hb.cell rfl
  have hA1 := hA0.alloc (.cells #[.int .u32 c] 42)
  have hB1 := hB0.alloc (.cells #[.int .u32 c] 42)
  have hl1 := hl0.alloc (o := .cells #[.int .u32 c] 42) (by simp; omega)
  refine (fromLittle_any _ 1 1 (fun _ => c) _ (by omega) hat (fun i _ => hc)).mono ?_
  rintro e w1 ⟨rfl, hb1⟩
  have hA2 := hA1.below hb1 hA1.lt
  have hB2 := hB1.below hb1 hB1.lt
  have hl2 : Below w.heap.size w w1 := hl1.trans (hb1.mono (by simp; omega))
  clear hat hA0 hB0 hl0 hA1 hB1 hl1 hb1 hzr
  rw [show strOfNums (joinF four (fun _ => c) 1) = wB c from rfl]
  obtain ⟨F, hF⟩ : ∃ F, wB c = F := ⟨_, rfl⟩
  have hFs : F.size ≤ 4 := by rw [← hF, wB_size]; omega
  obtain ⟨T, hTe⟩ : ∃ T, (⟨#[101, 120, 112, 97, 110, 100, 32, 51, 50, 45, 98, 121, 116, 101, 32, 107]⟩ : ByteArray) ++ key ++ F ++ nonce = T := ⟨_, rfl⟩
  have hTT : tB key nonce c = T := by rw [← hTe, ← hF]; rfl
  rw [hF]
  have hT64 : T.size = 64 := by rw [← hTT]; exact HT.out
  have HW' : Hid (∀ i, i < 16 → wordsL le4 T i = stI key nonce c i) := by rw [← hTT]; exact HW.out
  clear HT HW hF hTT
  go_wp2_with fail
  obtain ⟨g, hgd⟩ : ∃ g, w.heap.size = g := ⟨_, rfl⟩
  rw [hgd] at hA2 hB2 hl2 ⊢
  have HG : Hid (w.heap.size = g) := hgd
  clear hgd hTe
  have hLit := little_even T w1 (by omega) (by omega)
  rw [hT64] at hLit
  refine hLit.mono ?_
  rintro e w2 ⟨rfl, hrow, hbel⟩
  clear hLit
  have hA3 := hA2.below hbel hA2.lt
  have hB3 := hB2.below hbel hB2.lt
  have hl3 : Below g w w2 := hl2.trans (hbel.mono (Nat.le_of_lt hA2.lt))
  obtain ⟨L, hL⟩ : ∃ L, ws 16 (stI key nonce c) = L := ⟨_, rfl⟩
  have hLl : L.length = 16 := by rw [← hL, ws_length]
  have hLo : ∀ v ∈ L, v.oneCell' = true := by rw [← hL]; exact ws_one _ _
  have hsrc : ∀ (j : Nat) v, L[j]? = some v → w2.cell? ((⟨w1.heap.size, 0, none⟩ : Addr).add j) = some v := by
    intro j v hj
    rw [Addr.add_mid, Nat.zero_add]
    have hj16 : j < 16 := by
      rcases Nat.lt_or_ge j 16 with h | h
      · exact h
      · rw [List.getElem?_eq_none (by rw [hLl]; exact h)] at hj; cases hj
    rw [World.ownsRow.cellAt hrow j (by omega), ← hj, ← hL, ws_at 16 _ j hj16, ← HW'.out j hj16]
    simp [hj16]
  have HL : Hid (ws 16 (stI key nonce c) = L) := hL
  clear hL hrow hbel hA2 hB2 hl2 HW'
  have hrun := run_copy_row Try.prog w2 65 65 3 42 (g + 1) 0 16 16 ⟨w1.heap.size, 0, none⟩ 16 16 Z.toArray 45 L Try.underlying65 Try.size42 hB3 (by rw [hLl]; rfl) hsrc (by rw [hLl]; simp [hZs]) hLo
  have e16 : List.take 0 Z.toArray.toList ++ L ++ List.drop (0 + 16) Z.toArray.toList = L := by
    rw [List.toList_toArray, List.take_zero, List.nil_append, Nat.zero_add, List.drop_eq_nil_of_le (by rw [hZs]; exact Nat.le_refl _), List.append_nil]
  rw [hLl, e16] at hrun
  clear hsrc e16
  have hB4 : Blk (w2.setRow (g + 1) L.toArray) (g + 1) 45 L := hB3.setRow
  have hA4 : Blk (w2.setRow (g + 1) L.toArray) g 45 Z := hA3.setRowOther (by omega) _
  have hl4 : Below g w (w2.setRow (g + 1) L.toArray) := below_setRow hl3 (by omega) _
  have hR : (loadVar 45 ⟨g, 0, none⟩).run Try.prog ((w2.setRow (g + 1) L.toArray).setRow g L.toArray) = .ok (.agg L.toArray) ((w2.setRow (g + 1) L.toArray).setRow g L.toArray) := by
    have h1 : Blk ((w2.setRow (g + 1) L.toArray).setRow g L.toArray) g 45 (ws 16 (stI key nonce c)) := by rw [HL.out]; exact hA4.setRow
    have h2 := load45 h1
    rw [HL.out] at h2
    exact h2
  have hl5 := below_setRow hl4 (Nat.le_refl g) L.toArray
  go_wp2_with (first | (refine wpList_load_blk rfl 45 _ rfl (g + 1) rfl 45 L _ hB4 Try.underlying45 rfl (by rw [Try.size45, hLl]) ?_) | (refine wpList_store_blk rfl 45 _ _ rfl g Z L rfl rfl 45 hA4 (by rw [Try.size45, hLl]) (by rw [hZs, hLl]) hLo ?_))
  refine bodyPost_ret_by (v := .tuple #[.agg L.toArray, .int .i64 0]) (results_cell_tmp 6 7 45 ⟨g, 0, none⟩ Try.results24 rfl hR rfl) rfl ⟨by rw [HL.out], ?_⟩
  rw [HG.out]; exact hl5
end Go.Proofs.Ytnpebabffnjmmaa
