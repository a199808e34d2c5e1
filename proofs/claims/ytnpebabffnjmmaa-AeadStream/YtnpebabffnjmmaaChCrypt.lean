/- What the program's Crypt answers, for every key, nonce, counter and text. -/
import Derived.Test.YtnpebabffnjmmaaChBlock
import Derived.Test.YtnpebabffnjmmaaBuild
namespace Go.Proofs.Ytnpebabffnjmmaa
open Go.RowKit Go.PlainAid
set_option linter.unusedVariables false

/-- One more block of a text combined. -/
theorem cry_step (key nonce s : ByteArray) (c : Int) (k : Nat) (h : 64 * k < s.size) :
    (cryB (ks key nonce c) s).extract 0 (64 * k) ++ xorB (s.extract (64 * k) s.size) (blkB (stI key nonce ((c + (k : Int)) % 4294967296))) = (cryB (ks key nonce c) s).extract 0 (64 * (k + 1)) := by
  apply bt_ext
  · rw [ByteArray.size_append, xorB_size, blkB_size]
    simp only [ByteArray.size_extract, cryB_size]
    omega
  · intro i hi
    rw [ByteArray.size_append, xorB_size, blkB_size] at hi
    simp only [ByteArray.size_extract, cryB_size] at hi
    rw [bt_take _ (64 * (k + 1)) i (by omega) (by rw [cryB_size]; omega), bt_cryB _ (ks_range key nonce c) s i (by omega)]
    by_cases hlt : i < 64 * k
    · rw [bt_left _ _ _ (by simp only [ByteArray.size_extract, cryB_size]; omega), bt_take _ (64 * k) i hlt (by rw [cryB_size]; omega), bt_cryB _ (ks_range key nonce c) s i (by omega)]
    · have es : ((cryB (ks key nonce c) s).extract 0 (64 * k)).size = 64 * k := by simp only [ByteArray.size_extract, cryB_size]; omega
      rw [bt_right _ _ _ (by rw [es]; omega), es, bt_xorB _ _ _ (by rw [blkB_size]; simp only [ByteArray.size_extract]; omega), bt_cut s (64 * k) s.size _ (Nat.le_refl _) (by omega), show 64 * k + (i - 64 * k) = i by omega]
      unfold ks
      rw [show i / 64 = k by omega, show i % 64 = i - 64 * k by omega]
/-- The state with the next counter. -/
theorem stI_next (key nonce : ByteArray) (x y : Int) : (ws 16 (stI key nonce x)).set 12 (.int .u32 y) = ws 16 (stI key nonce y) := by
  rw [ws_set]
  apply ws_congr
  intro i hi
  unfold stI
  by_cases h : i = 12
  · subst h; rfl
  · rw [if_neg h]
    by_cases h1 : i < 4
    · rw [if_pos h1, if_pos h1]
    · rw [if_neg h1, if_neg h1]
      by_cases h2 : i < 12
      · rw [if_pos h2, if_pos h2]
      · rw [if_neg h2, if_neg h2, if_neg (by omega), if_neg (by omega)]

set_option maxHeartbeats 1000000 in
set_option maxRecDepth 20000 in
theorem crypt_bad (key nonce s : ByteArray) (c : Int) (hk' : key.size ≤ maxLen) (hn' : nonce.size ≤ maxLen) (h : key.size ≠ 32 ∨ nonce.size ≠ 12) (w : World) :
    Calls Try.prog 19 #[.string key, .string nonce, .int .u32 c, .string s] w fun e w' => e = .returned (.tuple #[.string ⟨#[]⟩, .int .i64 7]) ∧ Below w.heap.size w w' := by
  have hcall := begin_bad key nonce c hk' hn' h w
  have hzr := zero45_run
  obtain ⟨Z, hZ⟩ : ∃ Z, ws 16 (fun _ => 0) = Z := ⟨_, rfl⟩
  rw [hZ] at hzr hcall
  have hZs : Z.length = 16 := by rw [← hZ, ws_length]
  have hZo : ∀ v ∈ Z, v.oneCell' = true := by rw [← hZ]; exact ws_one _ _
  clear hZ hk' hn' h
  go_enter Try.func19, Try.ntmps19
  go_wp2_with fail
  refine hcall.mono ?_
  rintro e w1 ⟨rfl, hb1⟩
  have hB : Blk (w1.alloc (.cells Z.toArray 45)) w1.heap.size 45 Z := by
    have := Blk.new w1 45 Z.toArray
    simpa using this
  have hl : Below w.heap.size w ((w1.alloc (.cells Z.toArray 45)).setRow w1.heap.size Z.toArray) := below_setRow (hb1.alloc hb1.size _) hb1.size _
  clear hcall
  go_wp2_with (refine wpList_store_blk rfl 45 _ _ rfl w1.heap.size Z Z rfl rfl 45 hB (by rw [Try.size45, hZs]) rfl hZo ?_)
  go_ret2
  exact ⟨rfl, hl⟩

set_option maxHeartbeats 1000000 in
set_option maxRecDepth 20000 in
theorem crypt_long (key nonce s : ByteArray) (c : Int) (hk : key.size = 32) (hn : nonce.size = 12) (hc : W32 c) (hs : 65536 < s.size) (hs' : s.size ≤ maxLen) (w : World) :
    Calls Try.prog 19 #[.string key, .string nonce, .int .u32 c, .string s] w fun e w' => e = .returned (.tuple #[.string ⟨#[]⟩, .int .i64 5]) ∧ Below w.heap.size w w' := by
  unfold maxLen at hs'
  have hcall := begin_ok key nonce c hk hn hc w
  have hzr := zero45_run
  obtain ⟨Z, hZ⟩ : ∃ Z, ws 16 (fun _ => 0) = Z := ⟨_, rfl⟩
  obtain ⟨L, hL⟩ : ∃ L, ws 16 (stI key nonce c) = L := ⟨_, rfl⟩
  rw [hZ] at hzr
  rw [hL] at hcall
  have hZs : Z.length = 16 := by rw [← hZ, ws_length]
  have hLs : L.length = 16 := by rw [← hL, ws_length]
  have hLo : ∀ v ∈ L, v.oneCell' = true := by rw [← hL]; exact ws_one _ _
  have hsI : (65536 : Int) < (s.size : Int) := by omega
  clear hZ hL hk hn hs
  go_enter Try.func19, Try.ntmps19
  go_wp2_with fail
  refine hcall.mono ?_
  rintro e w1 ⟨rfl, hb1⟩
  have hB : Blk (w1.alloc (.cells Z.toArray 45)) w1.heap.size 45 Z := by
    have := Blk.new w1 45 Z.toArray
    simpa using this
  have hl : Below w.heap.size w ((w1.alloc (.cells Z.toArray 45)).setRow w1.heap.size L.toArray) := below_setRow (hb1.alloc hb1.size _) hb1.size _
  clear hcall
  go_wp2_with (refine wpList_store_blk rfl 45 _ _ rfl w1.heap.size Z L rfl rfl 45 hB (by rw [Try.size45, hLs]) (by rw [hZs, hLs]) hLo ?_)
  go_ret2
  exact ⟨rfl, hl⟩

set_option maxHeartbeats 1000000 in
set_option maxRecDepth 20000 in
theorem crypt_ok (key nonce s : ByteArray) (c : Int) (hk : key.size = 32) (hn : nonce.size = 12) (hc : W32 c) (hs : s.size ≤ 65536) (w : World) :
    Calls Try.prog 19 #[.string key, .string nonce, .int .u32 c, .string s] w fun e w' => e = .returned (.tuple #[.string (cryB (ks key nonce c) s), .int .i64 0]) ∧ Below w.heap.size w w' := by
  have hcall := begin_ok key nonce c hk hn hc w
  have hzr := zero45_run
  obtain ⟨Z, hZ⟩ : ∃ Z, ws 16 (fun _ => 0) = Z := ⟨_, rfl⟩
  obtain ⟨L, hL⟩ : ∃ L, ws 16 (stI key nonce c) = L := ⟨_, rfl⟩
  rw [hZ] at hzr
  rw [hL] at hcall
  have hZs : Z.length = 16 := by rw [← hZ, ws_length]
  have hLs : L.length = 16 := by rw [← hL, ws_length]
  have hLo : ∀ v ∈ L, v.oneCell' = true := by rw [← hL]; exact ws_one _ _
  have hsI : ¬ ((65536 : Int) < (s.size : Int)) := by omega
  have HL : Hid (ws 16 (stI key nonce c) = L) := hL
  clear hZ hL hk hn
  go_enter Try.func19, Try.ntmps19
  go_wp2_with fail
  refine hcall.mono ?_
  rintro e w1 ⟨rfl, hb1⟩
  have hB : Blk (w1.alloc (.cells Z.toArray 45)) w1.heap.size 45 Z := by
    have := Blk.new w1 45 Z.toArray
    simpa using this
  have hB1 : Blk ((w1.alloc (.cells Z.toArray 45)).setRow w1.heap.size L.toArray) w1.heap.size 45 L := hB.setRow
  have hsz : ((w1.alloc (.cells Z.toArray 45)).setRow w1.heap.size L.toArray).heap.size = w1.heap.size + 1 := by simp [World.setRow]
  have hl : Below w.heap.size w ((w1.alloc (.cells Z.toArray 45)).setRow w1.heap.size L.toArray) := below_setRow (hb1.alloc hb1.size _) hb1.size _
  clear hcall
  go_wp2_with (refine wpList_store_blk rfl 45 _ _ rfl w1.heap.size Z L rfl rfl 45 hB (by rw [Try.size45, hLs]) (by rw [hZs, hLs]) hLo ?_)
  have hgw := hb1.size
  clear hB hzr hZs hLs hLo hb1
  generalize (w1.alloc (.cells Z.toArray 45)).setRow w1.heap.size L.toArray = w2 at hB1 hsz hl ⊢
  obtain ⟨g, hgd⟩ : ∃ g, w1.heap.size = g := ⟨_, rfl⟩
  rw [hgd] at hB1 hsz hgw ⊢
  clear hgd
  have hF0 : BufAt (w2.alloc (.cells #[.pointer none, .slice none 0 0] 50)) (g + 1) ⟨#[]⟩ := by
    have := BufAt.new w2
    rw [hsz] at this
    exact this
  have hB2 : Blk (w2.alloc (.cells #[.pointer none, .slice none 0 0] 50)) g 45 (ws 16 (stI key nonce ((c + ((0 : Nat) : Int)) % 4294967296))) := by
    rw [show (c + ((0 : Nat) : Int)) % 4294967296 = c by have h1 := hc.1; have h2 := hc.2; omega, HL.out]
    exact hB1.alloc _
  have hl2 : Below w.heap.size w (w2.alloc (.cells #[.pointer none, .slice none 0 0] 50)) := hl.alloc (by rw [hsz]; omega) _
  clear hB1 hsz hl HL
  generalize w2.alloc (.cells #[.pointer none, .slice none 0 0] 50) = w3 at hF0 hB2 hl2 ⊢
  obtain ⟨M, hM1, hM2⟩ : ∃ M, s.size ≤ 64 * M ∧ 64 * M < s.size + 64 := ⟨(s.size + 63) / 64, by omega, by omega⟩
  have hMs : (64 * M : Nat) ≤ 65600 := by omega
  go_loopw [13] (fun i wr => ∃ k : Nat, k ≤ M ∧ i = .int .i64 (64 * (k : Int)) ∧ Blk wr g 45 (ws 16 (stI key nonce ((c + (k : Int)) % 4294967296))) ∧ BufAt wr (g + 1) ((cryB (ks key nonce c) s).extract 0 (64 * k)) ∧ Below w.heap.size w wr) (fun i _ => (64 * (M : Int) - intOf i).toNat)
  case atStart =>
    refine ⟨0, by omega, rfl, hB2, ?_, hl2⟩
    rw [show (cryB (ks key nonce c) s).extract 0 (64 * 0) = ⟨#[]⟩ by
      apply bt_ext
      · rw [ByteArray.size_extract]; simp; rfl
      · intro i hi
        rw [ByteArray.size_extract] at hi
        omega]
    exact hF0
  case round =>
    clear hB2 hF0 hl2
    obtain ⟨k, hk, rfl, hB, hF, hl⟩ := hrel
    by_cases hlt : k < M
    · have hsk : 64 * k < s.size := by omega
      have hltI : 64 * (k : Int) < (s.size : Int) := by omega
      have hleI : 64 * (k : Int) ≤ (s.size : Int) := by omega
      have h0I : (0 : Int) ≤ 64 * (k : Int) := by omega
      have t0 : (64 * (k : Int)).toNat = 64 * k := by omega
      have hstep := cry_step key nonce s c k hsk
      have hPs : ((cryB (ks key nonce c) s).extract 0 (64 * k)).size ≤ 65536 := by rw [ByteArray.size_extract, cryB_size]; omega
      have hXs : (xorB (s.extract (64 * k) s.size) (blkB (stI key nonce ((c + (k : Int)) % 4294967296)))).size ≤ 64 := by rw [xorB_size, blkB_size]; omega
      obtain ⟨x, hx⟩ : ∃ x, (c + (k : Int)) % 4294967296 = x := ⟨_, rfl⟩
      have HX : Hid ((x + 1) % 4294967296 = (c + ((k + 1 : Nat) : Int)) % 4294967296) := by rw [← hx]; unfold Hid; omega
      rw [hx] at hB hstep hXs
      clear hx
      have hbl := fun w => bloc_any (stI key nonce x) w
      have hxr := fun w => xor_any (s.extract (64 * k) s.size) (blkB (stI key nonce x)) w (by unfold maxLen; rw [ByteArray.size_extract]; omega) (by unfold maxLen; rw [blkB_size]; omega) (by rw [ByteArray.size_extract]; omega)
      have hc12 : (ws 16 (stI key nonce x))[12]? = some (.int .u32 x) := ws_at 16 _ 12 (by decide)
      have hnx := stI_next key nonce x ((x + 1) % 4294967296)
      obtain ⟨U, hU⟩ : ∃ U, ws 16 (stI key nonce x) = U := ⟨_, rfl⟩
      have hUl : U.length = 16 := by rw [← hU, ws_length]
      rw [hU] at hB hbl hnx hc12
      generalize blkB (stI key nonce x) = X at hbl hxr hstep hXs
      generalize (cryB (ks key nonce c) s).extract 0 (64 * k) = P at hF hPs hstep
      obtain ⟨q, hq⟩ : ∃ q, s.extract (64 * k) s.size = q := ⟨_, rfl⟩
      rw [hq] at hxr hstep hXs
      generalize xorB q X = Y at hxr hstep hXs
      clear hU
      go_wp2_with fail
      refine wp_region_noPanic ?_
      refine wp_region_held_drew (S := fun _ => True) (by kernel_rfl) trivial (fun hHeld => ?_)
      refine wpAnyH_take (i := 0) (v := ?_) rfl (by kernel_rfl) (by kernel_rfl) (by kernel_rfl) (fun _ _ _ h => h) (Or.inl ⟨by rfl, ?_⟩) (by assumption) ?_
      rotate_left
      · intro w hSw; go_simp; try with_reducible rfl
      go_simp
      refine wpAnyH_take (i := 1) (v := ?_) rfl (by kernel_rfl) (by kernel_rfl) (by kernel_rfl) (fun _ _ _ h => h) (Or.inl ⟨by rfl, ?_⟩) (by assumption) ?_
      rotate_left
      · intro w hSw; go_simp; try with_reducible rfl
      go_simp
      refine wpAnyH_take (i := 2) (v := ?_) rfl (by kernel_rfl) (by kernel_rfl) (by kernel_rfl) (fun _ _ _ h => h) (Or.inl ⟨by rfl, ?_⟩) (by assumption) ?_
      rotate_left
      · intro w hSw; go_simp; try with_reducible rfl
      go_simp
      refine wpAnyH_ready (rs := [3]) (by kernel_rfl) (by simp) (AllReadyH.cons rfl (fun K hK => ?_) AllReadyH.nil)
      refine step_load_blk rfl 45 _ rfl g rfl 45 U _ hB.drew Try.underlying45 rfl (by rw [Try.size45, hUl]) ?_
      refine hK.out _ _ trivial (fun hHeld => ?_)
      clear hK K
      go_simp
      refine wpAnyH_ready (rs := [4]) (by kernel_rfl) (by simp) (AllReadyH.cons rfl (fun K hK => ?_) AllReadyH.nil)
      go_simp
      go_at_call 26
      refine (hbl _).mono ?_
      rintro e wa ⟨rfl, ba⟩
      refine hK.out _ _ trivial (fun hHeld => ?_)
      clear hK K
      refine wpAnyH_ready (rs := [5]) (by kernel_rfl) (by simp) (AllReadyH.cons rfl (fun K hK => ?_) AllReadyH.nil)
      go_simp
      go_at_call 16
      refine (hxr _).mono ?_
      rintro e wb ⟨rfl, bb⟩
      refine hK.out _ _ trivial (fun hHeld => ?_)
      clear hK K
      refine wpAnyH_ready (rs := [6]) (by kernel_rfl) (by simp) (AllReadyH.cons rfl (fun K hK => ?_) AllReadyH.nil)
      go_simp
      go_at_call 25
      have hFb : BufAt wb (g + 1) P := (hF.drew.below ba).below bb
      have hBb : Blk wb g 45 U := (hB.drew.below ba hB.drew.lt).below bb (Nat.lt_of_lt_of_le hB.drew.lt ba.size)
      have hlb : Below w.heap.size w wb := (hl.drew.trans (ba.mono hl.drew.size)).trans (bb.mono (Nat.le_trans hl.drew.size ba.size))
      refine (buf_write (g + 1) P Y wb hFb (by omega)).mono ?_
      rintro e wc ⟨rfl, hFc, bc⟩
      refine hK.out _ _ trivial (fun hHeld => ?_)
      clear hK K
      refine wpAnyH_done (by kernel_rfl) ?_ _
      refine NoPanic.normal ?_
      have hBc : Blk wc g 45 U := hBb.below bc (by omega)
      have hlc : Below w.heap.size w wc := hlb.trans (bc.mono (by omega))
      rw [hstep] at hFc
      clear ba bb bc hFb hBb hlb hbl hxr hB hF hl
      have c12 := hBc.cell hc12
      have f12 := hBc.frozen 12
      obtain ⟨y, hy⟩ : ∃ y, (x + 1) % 4294967296 = y := ⟨_, rfl⟩
      have hBd := hBc.setCell 12 (.int .u32 y)
      have hFd := hFc.set (k := g) (by omega) 12 (.int .u32 y)
      have hld : Below w.heap.size w (wc.setCell ⟨g, 12, none⟩ (.int .u32 y)) := hlc.setCell hgw _
      rw [hy] at hnx
      rw [hnx] at hBd
      have HY : Hid (y = (c + ((k + 1 : Nat) : Int)) % 4294967296) := by rw [← hy]; exact HX.out
      clear hnx hstep hBc hFc hlc HX
      go_wp2_with fail
      clear c12 f12 hc12
      generalize wc.setCell ⟨g, 12, none⟩ (.int .u32 y) = wd at hBd hFd hld ⊢
      refine ⟨⟨k + 1, by omega, by go_num, by rw [← HY.out]; exact hBd, hFd, hld⟩, ?_⟩
      simp [intOf]; omega
    · have hkM : k = M := by omega
      subst hkM
      have hgeI : ¬ (64 * (k : Int) < (s.size : Int)) := by omega
      rw [take_all _ _ (by rw [cryB_size]; exact hM1)] at hF
      have hst := buf_string (g + 1) (cryB (ks key nonce c) s) wr hF
      obtain ⟨R, hR⟩ : ∃ R, cryB (ks key nonce c) s = R := ⟨_, rfl⟩
      rw [hR] at hst
      have HR : Hid (cryB (ks key nonce c) s = R) := hR
      clear hB hF hM1 hM2 hR
      go_wp2_with (go_at_call 27; refine hst.mono ?_; rintro e w9 ⟨rfl, hb9⟩)
      go_ret2
      refine ⟨?_, hl.trans (hb9.mono (by omega))⟩
      rw [HR.out]
      rfl
end Go.Proofs.Ytnpebabffnjmmaa
