/- What the number of a text of at most 17 bytes is, in parts. -/
import Derived.Test.YtnpebabffnjmmaaPoLow
import Derived.Test.YtnpebabffnjmmaaRep
namespace Go.Proofs.Ytnpebabffnjmmaa
open Go.RowKit Go.PlainAid
set_option linter.unusedVariables false

set_option maxRecDepth 20000 in
/-- A text with noughts behind it has the same bytes. -/
theorem bt_pad (s : ByteArray) (c i : Nat) : bt (s ++ strOfNums (List.replicate c 0)) i = bt s i := by
  by_cases h : i < s.size
  · exact bt_left _ _ _ h
  · rw [bt_right _ _ _ (by omega), bt_out s i (by omega)]
    by_cases h2 : i - s.size < c
    · rw [bt_str _ (by intro x hx; rw [List.eq_of_mem_replicate hx]; decide) _ (by simpa using h2)]
      simp
    · rw [bt_out _ _ (by rw [strOfNums_size]; simp; omega)]
set_option maxRecDepth 20000 in
theorem words_pad (s : ByteArray) (c j : Nat) : wordsL le4 (s ++ strOfNums (List.replicate c 0)) j = ((dg 32 (nt s) j : Nat) : Int) := by
  unfold wordsL
  rw [bt_pad, bt_pad, bt_pad, bt_pad, ← word_dg, dg_nt, dg_nt, dg_nt, dg_nt, bn_int, bn_int, bn_int, bn_int]

set_option maxRecDepth 20000 in
set_option maxHeartbeats 1000000 in
theorem numberOf_any (s : ByteArray) (hs : s.size ≤ 17) (w : World) :
    Calls Try.prog 42 #[.string s] w fun e w' => e = .returned (.agg (nr .u64 5 (dg 26 (nt s))).toArray) ∧ Below w.heap.size w w' := by
  have hzr := zero74_run
  obtain ⟨c, hc⟩ : ∃ c, 20 - s.size = c := ⟨_, rfl⟩
  have hcI : (20 : Int) - (s.size : Int) = (c : Int) := by omega
  have hrep := fun w => repeat_zero c w (by omega)
  obtain ⟨P, hP⟩ : ∃ P, s ++ strOfNums (List.replicate c 0) = P := ⟨_, rfl⟩
  have hPs : P.size = 20 := by rw [← hP, ByteArray.size_append, strOfNums_size, List.length_replicate]; omega
  have hlit := fun w => little_even P w (by omega) (by omega)
  rw [hPs, show 20 / 4 = 5 from rfl] at hlit
  have HW : Hid (∀ j, wordsL le4 P j = ((dg 32 (nt s) j : Nat) : Int)) := fun j => by rw [← hP]; exact words_pad s c j
  have hCs : (strOfNums (List.replicate c 0)).size ≤ 20 := by rw [strOfNums_size, List.length_replicate]; omega
  generalize strOfNums (List.replicate c 0) = C at *
  obtain ⟨N, hN⟩ : ∃ N, nt s = N := ⟨_, rfl⟩
  rw [hN] at HW ⊢
  clear hN hc
  obtain ⟨Z, hZ⟩ : ∃ Z, nr .u64 5 (fun _ => 0) = Z := ⟨_, rfl⟩
  rw [hZ] at hzr
  have lZ : Z.length = 5 := by rw [← hZ, nr_length]
  have PZ : Hid (nr .u64 5 (fun _ => 0) = Z) := hZ
  clear hZ
  have hA0 : Blk (w.alloc (.cells Z.toArray 74)) w.heap.size 74 Z := Blk.box w 74 Z
  have hl0 : Below w.heap.size w (w.alloc (.cells Z.toArray 74)) := (Below.refl _ w).alloc (Nat.le_refl _) _
  go_enter Try.func42, Try.ntmps42
  go_wp2_with fail
  generalize (w.alloc (.cells Z.toArray 74)) = w0 at hA0 hl0 ⊢
  refine (hrep w0).mono ?_
  rintro e w1 ⟨rfl, hb1⟩
  have hA1 := hA0.below hb1 hA0.lt
  have hl1 := hl0.trans (hb1.mono (Nat.le_of_lt hA0.lt))
  clear hA0 hl0 hb1 hrep
  go_wp2_with fail
  refine (hlit w1).mono ?_
  rintro e w2 ⟨rfl, ho2, hb2⟩
  have hA2 := hA1.below hb2 hA1.lt
  have hl2 := hl1.trans (hb2.mono (Nat.le_of_lt hA1.lt))
  have hgl : w1.heap.size < w2.heap.size := cell_lt (ho2.cellAt 0 (by decide) |>.trans (by rfl))
  have hcl : Hid (∀ i, i < 5 → w2.cell? ⟨w1.heap.size, i, none⟩ = some (.int .u32 ((dg 32 N i : Nat) : Int))) := by
    intro i hi
    rw [ho2.cellAt i (by omega)]
    simp [hi, HW.out]
  clear hA1 hl1 hb2 hlit ho2 HW hP hPs hCs
  obtain ⟨g, hgd⟩ : ∃ g, w.heap.size = g := ⟨_, rfl⟩
  rw [hgd] at hA2 hl2 ⊢
  have HG : Hid (w.heap.size = g) := hgd
  clear hgd
  generalize w1.heap.size = gl at *
  have hA3 : Blk (w2.alloc (.cells Z.toArray 74)) g 74 Z := hA2.alloc _
  have hB3 : Blk (w2.alloc (.cells Z.toArray 74)) w2.heap.size 74 Z := Blk.box w2 74 Z
  have hl3 : Below g w (w2.alloc (.cells Z.toArray 74)) := hl2.alloc (Nat.le_of_lt hA2.lt) _
  have hgw : g < w2.heap.size := hA2.lt
  have hcl3 : Hid (∀ i, i < 5 → (w2.alloc (.cells Z.toArray 74)).cell? ⟨gl, i, none⟩ = some (.int .u32 ((dg 32 N i : Nat) : Int))) := by
    intro i hi
    rw [World.cell?_alloc_some _ _ _ (by rw [hcl.out i hi]; rfl)]; exact hcl.out i hi
  clear hA2 hl2 hcl
  go_wp2_with fail
  generalize w2.heap.size = h at *
  generalize w2.alloc (.cells Z.toArray 74) = w3 at *
  rw [← PZ.out] at hB3
  go_loopw [19] (fun v wr => ∃ k : Nat, k ≤ 5 ∧ v = .int .i64 k ∧ Blk wr h 74 (nr .u64 5 (fun i => if i < k then dg 26 N i else 0)) ∧ Below h w3 wr) (fun v _ => (5 - intOf v).toNat)
  case atStart => exact ⟨0, by omega, rfl, hB3, Below.refl _ _⟩
  case round =>
    clear hB3
    obtain ⟨k, hk, rfl, hB, hl⟩ := hrel
    by_cases hlt : k < 5
    · have hlt' : (k : Int) < 5 := by omega
      obtain ⟨q, hq⟩ : ∃ q : Nat, 26 * k / 32 = q := ⟨_, rfl⟩
      obtain ⟨sh, hs'⟩ : ∃ sh : Nat, 26 * k % 32 = sh := ⟨_, rfl⟩
      have eq1 : (k : Int) * 26 / 32 = (q : Int) := by omega
      have es1 : (k : Int) * 26 % 32 = (sh : Int) := by omega
      have hq4 : q < 4 := by omega
      have hq4' : (q : Int) < 4 := by omega
      have hs32 : sh < 32 := by omega
      have cl : wr.cell? ⟨gl, q, none⟩ = some (.int .u32 ((dg 32 N q : Nat) : Int)) := (hl.cell (p := ⟨gl, q, none⟩) hgl).trans (hcl3.out q (by omega))
      have ch : wr.cell? ⟨gl, q + 1, none⟩ = some (.int .u32 ((dg 32 N (q + 1) : Nat) : Int)) := (hl.cell (p := ⟨gl, q + 1, none⟩) hgl).trans (hcl3.out (q + 1) (by omega))
      have b0 := dg_lt 32 N q
      have b1 := dg_lt 32 N (q + 1)
      rw [show (2 : Nat) ^ 32 = 4294967296 from rfl] at b0 b1
      have hpt := part_dg N k q sh hq hs'
      obtain ⟨R, hR⟩ : ∃ R, dg 32 N q ||| dg 32 N (q + 1) * 2 ^ 32 = R := ⟨_, rfl⟩
      have hRb : R < 18446744073709551616 := by
        rw [← hR]
        exact Nat.or_lt_two_pow (n := 64) (by rw [show (2 : Nat) ^ 64 = 18446744073709551616 from rfl]; omega) (by rw [show (2 : Nat) ^ 64 = 18446744073709551616 from rfl, show (2 : Nat) ^ 32 = 4294967296 from rfl]; omega)
      have eor : bits .or .u64 ((dg 32 N q : Nat) : Int) (((dg 32 N (q + 1) : Nat) : Int) * 4294967296) = (R : Int) := by
        rw [← hR, ← u64_or_nat _ _ (by omega) (by rw [show (2 : Nat) ^ 32 = 4294967296 from rfl]; omega)]
        congr 1
      rw [hR] at hpt
      have hdv : R / 2 ^ sh < 18446744073709551616 := Nat.lt_of_le_of_lt (Nat.div_le_self _ _) hRb
      have eand : bits .and .u64 ((R : Int) / 2 ^ sh) 67108863 = ((dg 26 N k : Nat) : Int) := by
        rw [← hpt, ← mask26 _ hdv]
        congr 1
      have fr := hB.frozen k
      have cn : wr.cell? ⟨h, k, none⟩ = some (.int .u64 ((0 : Nat) : Int)) := by
        have := hB.cell (nr_at .u64 5 _ k hlt)
        rw [if_neg (by omega)] at this; exact this
      have hB2 : Hid (∀ n, Blk ((wr.drewN n).setCell ⟨h, k, none⟩ (.int .u64 ((dg 26 N k : Nat) : Int))) h 74 (nr .u64 5 (fun i => if i < k + 1 then dg 26 N i else 0))) := by
        intro n
        have hh := (hB.drewN n).setCell k (.int .u64 ((dg 26 N k : Nat) : Int))
        rw [nr_set] at hh
        rw [nr_congr .u64 5 (fun i => if i < k + 1 then dg 26 N i else 0) (fun i => if i = k then dg 26 N k else if i < k then dg 26 N i else 0) ?_]
        · exact hh
        · intro i _
          show (if i < k + 1 then dg 26 N i else 0) = if i = k then dg 26 N k else if i < k then dg 26 N i else 0
          by_cases h1 : i = k
          · subst h1; rw [if_pos (by omega), if_pos rfl]
          · rw [if_neg h1]
            by_cases h2 : i < k
            · rw [if_pos h2, if_pos (by omega)]
            · rw [if_neg h2, if_neg (by omega)]
      have hl2 : Hid (∀ n, Below h w3 ((wr.drewN n).setCell ⟨h, k, none⟩ (.int .u64 ((dg 26 N k : Nat) : Int)))) := fun n => (below_drewN hl n).setCell (Nat.le_refl _) _
      clear hB hl hR hpt hq hs' hdv
      generalize dg 32 N q = y0 at *
      generalize dg 32 N (q + 1) = y1 at *
      generalize dg 26 N k = z at *
      go_wp2_with fail
      go_quiet (fail)
      go_wp2_with fail
      exact ⟨⟨k + 1, by omega, by go_num, hB2.out nq, hl2.out nq⟩, by simp [intOf]; omega⟩
    · have hk5 : k = 5 := by omega
      subst hk5
      rw [show ((5 : Nat) : Int) = (5 : Int) from rfl]
      have hB' : Blk wr h 74 (nr .u64 5 (dg 26 N)) := by
        rw [nr_congr .u64 5 (dg 26 N) (fun i => if i < 5 then dg 26 N i else 0) (fun i hi => by rw [if_pos hi])]; exact hB
      have hA4 : Blk wr g 74 Z := hA3.below hl hgw
      have hl4 : Below g w wr := hl3.trans (hl.mono (Nat.le_of_lt hgw))
      obtain ⟨U, hU⟩ : ∃ U, nr .u64 5 (dg 26 N) = U := ⟨_, rfl⟩
      have hUl : U.length = 5 := by rw [← hU, nr_length]
      have hUo : ∀ v ∈ U, v.oneCell' = true := by rw [← hU]; exact nr_one _ _ _
      rw [hU] at hB'
      have HU : Hid (nr .u64 5 (dg 26 N) = U) := hU
      have hR := load74 (hA4.setRow (M := U)) hUl
      have hl' : Below g w (wr.setRow g U.toArray) := below_setRow hl4 (Nat.le_refl _) _
      clear hB hl hU hcl3 hA3 hl3 PZ
      go_wp2_with (first | (refine wpList_load_blk rfl 74 _ rfl h rfl 74 U _ hB' Try.underlying74 rfl (by rw [Try.size74, hUl]) ?_) | (refine wpList_store_blk rfl 74 _ _ rfl g Z U rfl rfl 74 hA4 (by rw [Try.size74, hUl]) (by rw [lZ, hUl]) hUo ?_))
      refine bodyPost_ret_by (v := .agg U.toArray) (results_cell 2 74 ⟨g, 0, none⟩ Try.results42 rfl hR) rfl ⟨by rw [HU.out], ?_⟩
      rw [HG.out]; exact hl'
end Go.Proofs.Ytnpebabffnjmmaa
