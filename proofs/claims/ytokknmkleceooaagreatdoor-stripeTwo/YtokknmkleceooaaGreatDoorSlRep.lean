import Derived.Test.YtokknmkleceooaaGreatDoorSlPrep
import Derived.Shelf.Bits.Mul64
namespace Go.Proofs.YtokknmkleceooaaGreatDoor
open Go.RowKit Go.PlainAid
set_option linter.unusedVariables false
set_option maxRecDepth 20000
def flN (x : ByteArray) (j i : Nat) : ByteArray := if i < j then x else noB
theorem strs_get (n : Nat) (f : Nat → ByteArray) (i : Nat) : (strs n f)[i]? = if i < n then some (.string (f i)) else none := by
  by_cases h : i < n
  · rw [if_pos h]; exact strs_at n f i h
  · rw [if_neg h]; exact List.getElem?_eq_none (by rw [strs_length]; omega)
theorem fl_copy (x : ByteArray) (n j k : Nat) (h : j + k ≤ n) : (strs n (flN x j)).take j ++ strs k (fun _ => x) ++ (strs n (flN x j)).drop (j + k) = strs n (flN x (j + k)) := by
  apply List.ext_getElem?
  intro i
  rw [strs_get, List.append_assoc]
  by_cases h1 : i < j
  · rw [List.getElem?_append_left (by rw [List.length_take, strs_length]; omega), List.getElem?_take_of_lt h1, strs_get, if_pos (by omega), if_pos (by omega)]
    unfold flN; rw [if_pos h1, if_pos (by omega)]
  · rw [List.getElem?_append_right (by rw [List.length_take, strs_length]; omega), List.length_take, strs_length, Nat.min_eq_left (by omega)]
    by_cases h2 : i < j + k
    · rw [List.getElem?_append_left (by rw [strs_length]; omega), strs_get, if_pos (by omega), if_pos (by omega)]
      unfold flN; rw [if_pos h2]
    · rw [List.getElem?_append_right (by rw [strs_length]; omega), List.getElem?_drop, strs_length, strs_get, show j + k + (i - j - k) = i by omega]
      unfold flN
      rw [if_neg h1, if_neg h2]
theorem copy_fl (w : World) (g n j k : Nat) (x : ByteArray) (a : Addr) (sc dc : Nat) (hg : Blk w g 9 (strs n (flN x j))) (hk : j + k ≤ n) (ha : ∀ i, i < k → w.cell? (a.add i) = some (.string x)) :
    (Builtin.copy_ #[23, 23] 3 #[.slice (some ⟨g, j, none⟩) (n - j) dc, .slice (some a) k sc]).run Tryz.prog w = .ok (.int .i64 (k : Int)) (w.setRow g (strs n (flN x (j + k))).toArray) := by
  have hr := run_copy_row (P := Tryz.prog) w 23 23 3 9 g j (n - j) dc a k sc (strs n (flN x j)).toArray 9 (strs k fun _ => x) Tryz.underlying23 (by kernel_rfl) hg (by rw [strs_length]; exact (Nat.min_eq_left (by omega)).symm) (fun i v hv => by
    rw [strs_get] at hv
    by_cases hi : i < k
    · rw [if_pos hi] at hv; cases hv; exact ha i hi
    · rw [if_neg hi] at hv; cases hv) (by simp [strs_length]; omega) (strs_one k _)
  rw [hr]
  rw [strs_length, List.toList_toArray, fl_copy x n j k hk]
  rfl
theorem fl_none (x : ByteArray) (n : Nat) : strs n (flN x 0) = strs n fun _ => noB := by
  unfold strs flN
  exact List.map_congr_left fun i _ => by rw [if_neg (by omega)]
theorem fl_all (x : ByteArray) (n : Nat) : strs n (flN x n) = strs n fun _ => x := by
  unfold strs flN
  exact List.map_congr_left fun i hi => by rw [if_pos (List.mem_range.1 hi)]
set_option maxHeartbeats 1000000 in
theorem srepeat_any {w : World} {gx cx d n : Nat} {x : ByteArray} (hx : w.cell? ⟨gx, 0, none⟩ = some (.string x)) (hn : 2 ^ d = n) (hd : 1 ≤ d ∧ d ≤ 4) : Calls Tryz.prog 72 #[.slice (some ⟨gx, 0, none⟩) 1 cx, .int .i64 (n : Int)] w fun e w' => ∃ g, e = .returned (.slice (some ⟨g, 0, none⟩) n n) ∧ Blk w' g 9 (strs n fun _ => x) ∧ Below w.heap.size w w' := by
  have h16 : n ≤ 16 := by rw [← hn]; exact pow_le16 d hd.2
  have h2 : 2 ≤ n := by rw [← hn]; exact (pow_mono hd.1)
  have hmul : Hid (∀ z, Calls Tryz.prog 115 #[.int .u64 1, .int .u64 (n : Int)] z fun e w' => e = .returned (.tuple #[.int .u64 0, .int .u64 (n : Int)]) ∧ w' = z) := fun z => by
    have h := Any.bits_Mul (P := Tryz.prog) (ρ := repRen) { repLays with } 1 n (by decide) (by omega) z
    rw [Nat.one_mul, Nat.div_eq_of_lt (by omega), Nat.mod_eq_of_lt (by omega)] at h
    exact h
  have hmk := mk_strs n (by omega) w
  rw [← fl_none x n] at hmk
  have hB0 := Blk.box w 9 (strs n (flN x 0))
  have hbw : Hid (Below w.heap.size w (w.alloc (.cells (strs n (flN x 0)).toArray 9))) := (Below.refl _ _).alloc (Nat.le_refl _) _
  have hxl := cell_blk_lt hx
  have hc0 := copy_fl (w.alloc (.cells (strs n (flN x 0)).toArray 9)) w.heap.size n 0 1 x ⟨gx, 0, none⟩ cx n hB0 (by omega) (fun i hi => by
    obtain rfl : i = 0 := by omega
    rw [Go.WideShapes.add_plain]
    exact (hbw.out.cell (p := ⟨gx, 0, none⟩) hxl).trans hx)
  rw [Nat.sub_zero, Nat.zero_add] at hc0
  have HP : Hid (∀ e, e < d → 2 ^ e + 2 ^ e ≤ n ∧ 2 ^ e < n ∧ 2 ^ (e + 1) = 2 ^ e + 2 ^ e) := fun e he => by
    have h1 : 2 ^ (e + 1) = 2 ^ e + 2 ^ e := by rw [Nat.pow_succ]; omega
    have h3 : 2 ^ (e + 1) ≤ 2 ^ d := pow_mono he
    have h4 := pow_pos' e
    exact ⟨by omega, by omega, h1⟩
  have HD : Hid (2 ^ d = n) := hn
  have n0 : ¬ (n : Int) < 0 := by omega
  have n1 : (n : Int) % 18446744073709551616 = (n : Int) := by omega
  have n2 : ¬ (9223372036854775807 : Int) < (n : Int) := by omega
  have H1 : Hid (Below w.heap.size w ((w.alloc (.cells (strs n (flN x 0)).toArray 9)).setRow w.heap.size (strs n (flN x 1)).toArray) ∧ Blk ((w.alloc (.cells (strs n (flN x 0)).toArray 9)).setRow w.heap.size (strs n (flN x 1)).toArray) w.heap.size 9 (strs n (flN x 1))) := ⟨Below.boxed w 9 _ _, hB0.setRow⟩
  clear hn hx hB0
  generalize hw1 : w.alloc (.cells (strs n (flN x 0)).toArray 9) = w1 at *
  generalize hw2 : w1.setRow w.heap.size (strs n (flN x 1)).toArray = w2 at *
  clear hw1 hw2
  go_enter Tryz.func72, Tryz.ntmps72
  go_wp2_with (go_at_call 115; refine (hmul.out _).mono ?_; rintro e w3 ⟨rfl, hw⟩; rw [hw]; clear hw w3)
  clear hmk hc0
  go_loopw [8] (fun j wr => ∃ (e k : Nat), e ≤ d ∧ j = .int .i64 (k : Int) ∧ Hid (k = 2 ^ e) ∧ Hid (Below w.heap.size w wr ∧ Blk wr w.heap.size 9 (strs n (flN x k)))) (fun j _ => n - (intOf j).toNat)
  case atStart => exact ⟨0, 1, Nat.zero_le _, rfl, rfl, H1.out⟩
  case round =>
    clear H1
    obtain ⟨e, k, he, rfl, hk, hh⟩ := hrel
    by_cases hlt : e < d
    · obtain ⟨p1, p2, p3⟩ := HP.out e hlt
      rw [← hk.out] at p1 p2 p3
      have hpos : 1 ≤ k := by rw [hk.out]; exact pow_pos' e
      have hk' : (k : Int) < (n : Int) := by omega
      have hk2 : (k : Int) ≤ (n : Int) := by omega
      have hk3 : (0 : Int) ≤ (k : Int) := by omega
      have hcp := copy_fl wr.drew w.heap.size n k k x ⟨w.heap.size, 0, none⟩ n (n - k) hh.out.2 p1 (fun i hi => by
        rw [Go.WideShapes.add_plain, Nat.zero_add]
        have hc := hh.out.2.cell (strs_at n (flN x k) i (by omega))
        unfold flN at hc
        rw [if_pos hi] at hc
        exact hc)
      have H2 : Hid (Below w.heap.size w (wr.drew.setRow w.heap.size (strs n (flN x (k + k))).toArray) ∧ Blk (wr.drew.setRow w.heap.size (strs n (flN x (k + k))).toArray) w.heap.size 9 (strs n (flN x (k + k)))) := ⟨below_setRow hh.out.1.drew (Nat.le_refl _) _, hh.out.2.drew.setRow⟩
      have HK : Hid (k + k = 2 ^ (e + 1)) := p3.symm
      generalize hw5 : wr.drew.setRow w.heap.size (strs n (flN x (k + k))).toArray = w5 at *
      clear hw5 p1 p3 hh hk
      have hkn : ((k : Int)).toNat = k := by omega
      have hnk : ((n : Int) - (k : Int)).toNat = n - k := by omega
      have hke : ¬ n = k := by omega
      have hke2 : ¬ (n : Int) = (k : Int) := by omega
      have hwk : IntKind.i64.wrap ((k : Int) + (k : Int)) = (k : Int) + (k : Int) := IntWalk.i64_in _ ⟨by omega, by omega⟩
      go_wp2
      refine wp_region_noPanic ?_
      refine wp_region_held_drew (S := fun _ => True) (by kernel_rfl) trivial (fun hHeld => ?_)
      refine tkH 0 ?_; go_simp
      refine tkH 1 ?_; go_simp
      refine tkH 2 ?_; go_simp
      refine tkH 3 ?_; go_simp
      refine tkH 4 ?_; go_simp
      refine tkH 5 ?_; go_simp
      refine tkH 6 ?_; go_simp
      refine rdH 7 fun K hK => ?_
      refine step_copy_run rfl _ _ 23 23 rfl _ _ rfl rfl _ _ hcp ?_
      refine hK.out _ _ trivial (fun hHeld => ?_)
      clear hK K
      refine tkH 8 ?_; go_simp
      refine tkH 9 ?_; go_simp
      refine wpAnyH_done (by kernel_rfl) ?_ _
      refine NoPanic.normal ?_
      go_wp2
      go_roundw
      case rel => exact ⟨e + 1, k + k, by omega, by go_num, HK.out, H2.out⟩
      case measure => simp [intOf]; omega
    · obtain rfl : e = d := by omega
      have hkn : k = n := by rw [hk.out, HD.out]
      subst hkn
      have hk' : ¬ (k : Int) < (k : Int) := by omega
      have HF : Hid (Blk wr w.heap.size 9 (strs k fun _ => x)) := by
        have := hh.out.2
        rw [fl_all] at this
        exact this
      go_wp2
      go_ret
      exact ⟨w.heap.size, rfl, HF.out, hh.out.1⟩
end Go.Proofs.YtokknmkleceooaaGreatDoor
